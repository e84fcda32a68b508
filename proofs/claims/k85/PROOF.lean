import PyProof.Rows.All
import Wide.All
import Wide.FinOn
import Lean
import PyProof.EqAt
import PyProof.EqKinds
import PyProof.TupleCall
import PyProof.AttrMissHeap
import KE.KDictOf
import PyProof.SetRoads
import PyProof.CollectWalk
import PyProof.ZipIter
import PyProof.TupleIter
import PyProof.NeKinds
import PyProof.DictStraight
import PyProof.WalksMore
import KE.KDictList
import KE.KSortTup
import KE.KItemsList
import PyProof.EnumMake
import PyProof.EnumStmt
import PyProof.EnumFor
import PyProof.Rows.EnumRows
import KE.KIntText
import PyProof.FitsInt
import KE.IntText
import KE.IntTextLaws
import KE.KFromBytes
import KE.KIsAll
import KE.KItem
import KE.KSortAsk
import KE.KTab
import KE.KxBytes
import Open.Claim
import Open.Fast
import Open.FastLooks
import Open.FastTabs
import Open.Head
import Open.Line
import Open.Recs
import Open.Row
import Open.Strs
import OpenK.KCall
import OpenK.KCls
import OpenK.KDescr
import OpenK.KFacts
import OpenK.KGet
import OpenK.KLine
import OpenK.KMake
import OpenK.KMore
import OpenK.KOwn
import OpenK.KRaise
import OpenK.KWalk
import OpenK.Peek
import Open.Tree
import PySem.Challenge.RW_castwright_k85_terms_written
set_option Elab.async false
set_option linter.all false
set_option maxRecDepth 100000
set_option maxHeartbeats 4000000
set_option compiler.extract_closed false
theorem Qzz(n:Nat)(h:n<=9:=by decide):n<=PySem.sizeLine:=Nat.le_trans h (by decide)
noncomputable section
abbrev Yb:=@List.getElem?_cons_zero
abbrev Yc:=@List.getElem?_cons_succ
abbrev Yd:=@List.mem_cons_of_mem
abbrev Ye:=@List.mem_cons_self
abbrev Yg:=@List.length_cons
abbrev Yh:=@List.length_map
abbrev Yi:=@List.length_nil
abbrev Yj:=@List.length_append
abbrev Yk:=@List.set_cons_zero
abbrev Yl:=@List.set_cons_succ
abbrev Ym:=@List.map_cons
abbrev Yn:=@List.size_toArray
abbrev Yo:=@List.mem_cons
abbrev Yp:=@List.getElem?_eq_getElem
abbrev Yq:=@Bool.false_eq_true
abbrev Yr:=@Nat.le_refl
abbrev Ys:=@Nat.ne_of_lt
abbrev Yt:=@Nat.le_trans
abbrev Yu:=@Nat.lt_of_lt_of_le
abbrev Yv:=@List.append_assoc
abbrev Yw:=@List.nil_append
abbrev Yx:=@List.append_nil
abbrev Yy:=@List.map_append
abbrev Yz:=@List.mem_append
abbrev YA:=@List.mem_singleton
abbrev YB:=@List.map_map
abbrev YC:=@List.mem_map
abbrev YD:=@Option.map_some
abbrev YE:=@Option.some.inj
abbrev YF:=@Bool.not_true
abbrev YG:=@Bool.and_eq_true
abbrev YH:=@decide_eq_true
abbrev YI:=@List.map_nil
abbrev YJ:=@List.getElem?_append_left
abbrev YK:=@Nat.lt_irrefl
abbrev YL:=@List.mem_append_right
abbrev YM:=@Bool.not_false
abbrev YN:=@List.getElem?_map
abbrev YO:=@decide_eq_true_eq
abbrev YQ:=@Option.map_eq_some_iff
abbrev YR:=@List.nodup_cons
abbrev YS:=@Array.length_toList
abbrev YT:=@Bool.false_ne_true
abbrev YU:=@Nat.zero_le
abbrev YV:=@Ne.symm
abbrev YW:=@List.getElem?_eq_some_iff
abbrev YX:=@Nat.le_add_right
abbrev YY:=@List.not_mem_nil
abbrev YZ:=@List.getD_eq_getElem?_getD
abbrev Qa:=@List.flatMap_cons
abbrev Qb:=@Option.bind_eq_some_iff
abbrev Qc:=@PyProof.Rows.callWith_type1
abbrev Qd:=@List.getElem_mem
abbrev Qe:=@False.elim
abbrev Qf:=@Bool.and_eq_true_iff
abbrev Qg:=@List.cons.inj
abbrev Qh:=@congrArg
abbrev Qi:=@of_decide_eq_true
abbrev Qj:=@decide_eq_false
abbrev Qk:=@absurd
open PySem in
abbrev Ql:=@wpAny_bind
open PySem in
abbrev Qm:=@wpAny_pure
open PySem in
abbrev Qn:=@Heap.get?_push_of_some
open PySem in
abbrev Qo:=@Heap.lt_size
open PySem in
abbrev Qp:=@Heap.get?_push_size
open PySem in
abbrev Qq:=@Heap.size_push
open PySem in
abbrev Qr:=@Heap.SameBut.update
set_option hygiene false in
local macro_rules | `(tactic| walk_at "pa")=>`(tactic| (simp only [Yk,Yl]))
set_option hygiene false in
local macro_rules | `(tactic| walk_at "pb")=>`(tactic| (exact Ed (b1:=false) (b2:=false) (b3:=true) rfl (by decide +kernel) (by decide +kernel) (by decide +kernel) rfl fun G1 c=>by simp only [Yq,if_false,if_true];exact lst (xs:=[t.enc]) c (show 1≤3 by decide) rfl fun Z z=>m rfl d z))
set_option hygiene false in
local macro_rules | `(tactic| walk_at "pc")=>`(tactic| (simp only [YG] at h'))
set_option hygiene false in
local macro_rules | `(tactic| walk_at "pd")=>`(tactic| (simp only [beq_self_eq_true,n1,n2,n3,b1,b2,YD,An,if_true,Yq,if_false]))
set_option hygiene false in
local macro_rules | `(tactic| walk_at "pe")=>`(tactic| (simp only [beq_self_eq_true,YD,An,bne,YF,YM,if_true,Bool.true_beq,Bool.false_beq,Yq,if_false]))
set_option hygiene false in
local macro_rules | `(tactic| walk_at "pf")=>`(tactic| (rcases Yo.mp a with rfl | a))
set_option hygiene false in
local macro_rules | `(tactic| walk_at "pg")=>`(tactic| (simp only [Ah,Aa,Ac,Ab,gC,Yk,Yl,Yb,Yc]))
set_option hygiene false in
local macro_rules | `(tactic| walk_at "ph")=>`(tactic| (simp only [Ci,B,Yw,Yx,Yv]))
set_option hygiene false in
local macro_rules | `(tactic| walk_at "pi")=>`(tactic| (refine ⟨a,by simp only [Yg] at hl;lia,?_⟩))
set_option hygiene false in
local macro_rules | `(tactic| walk_at "pj")=>`(tactic| (simp only [Aq,Av,gB,rF,Ad,Ae,Ab,gC,Aa,Ac,Yb,Yc,As.enc]))
set_option hygiene false in
local macro_rules | `(tactic| walk_at "pk")=>`(tactic| (rcases Yo.mp h with rfl | h))
set_option hygiene false in
local macro_rules | `(tactic| walk_at "pl")=>`(tactic| (exact d.fpOk (Yr _) (d.hok.fresh (Yr _))))
set_option hygiene false in
local macro_rules | `(tactic| walk_at "pm")=>`(tactic| (exact L0 r _ _ _ (fun z=>a (Yd _ z)) (by lia) h))
set_option hygiene false in
local macro_rules | `(tactic| walk_at "pn")=>`(tactic| (refine ⟨r,_,_,rfl,c,FM,r,_,_,rfl,c,Dh,?_⟩))
set_option hygiene false in
local macro_rules | `(tactic| walk_at "po")=>`(tactic| (obtain ⟨⟨x,b⟩,⟨rfl,h⟩,q⟩:=q))
namespace L2
open PySem PySem.Spec PyProof.Rows
def Br(s:Stmt)(j:Nat):Stmt:=match s with
 | .ClassDef _ _ _ body _ _ _ _ _ _ _=>body.getD j (.Pass ⟨0,0,0,0⟩)
 | _=>.Pass ⟨0,0,0,0⟩
def BS(s:Stmt):Arguments:=match s with
 | .FunctionDef _ a _ _ _ _ _ _ _ _=>a
 | _=>{posonlyargs:=[],args:=[],vararg:=none,kwonlyargs:=[],kw_defaults:=[],kwarg:=none,defaults:=[]}
def AO(s:Stmt):List Stmt:=match s with
 | .FunctionDef _ _ b _ _ _ _ _ _ _=>b
 | _=>[]
def Ak(s:Stmt):Scope:=match s with
 | .FunctionDef _ _ _ _ _ _ sc _ _ _=>sc
 | _=>{kind:=.function,names:=[],isGenerator:=false,isCoroutine:=false}
end L2
namespace KY
open PySem PySem.Spec PyProof.Rows L2
 def top (i:Nat):Stmt:=PySem.Challenge.pw_castwright_k85_terms_written.main.body.getD i (.Pass ⟨0,0,0,0⟩)
abbrev pwS:Program:=PySem.Challenge.pw_castwright_k85_terms_written
abbrev rwS:PySem.W.OpenLaw:=PySem.Challenge.rw_castwright_k85_terms_written
noncomputable def vwS:Program:=PySem.W.view pwS [1,2,3,5,6,7,8,9,10,11,12,13,14,15,16,17,18,19,21,23,24,25,26,27,28,29,30,32,33,34,35,36,37,38,39,40,41,42,43,44,45,47,48,49,50,51,52,53,54,55,56,57,59,60,61,62,63,64,65,66,67,68,69,70,71,72,73,74,75,76,77,78]
abbrev en(P:Params)(k:Str)(t:Tok)(v:Value):DictEntry:=⟨PyData.keyHash P k,.str k t,v⟩
abbrev co(n:Str)(a l g r f e:Nat)(x y:Value)(z t u:Nat):Obj:=.mk (.type "code") Option.none (.fields #[.str n a,.str n (a+1),.str "/claim/cut.py" (a+2),.int l 0,.int g 0,.int 0 0,.int 0 0,.int 3 0,.ref r,.bool Bool.true,.int f 0,.ref e,.none,x,y,.ref z,.int t 0,.int l 0,.str "/claim/cut.py" u]) #[]
abbrev fo(n:Str)(s:Stmt)(q:Str)(t c:Nat):Obj:=.mk (.type "function") Option.none (.func (PySem.W.fnOf n n (BS s) (AO s) (Ak s) .none .none .none (.str q t) Option.none (.ref c) .none)) #[]
noncomputable def KF:Params->PySem.W.Frag:=λP=>
 (nat_lit 2,.mk .none Option.none (.dict #[]) #[])::
 (nat_lit 3,.mk (.type "dict") Option.none (.dict #[en P "__name__" 165 (.str "law_castwright_k85_terms_written" 714),en P "__doc__" 166 .none,en P "__package__" 167 .none,en P "__loader__" 168 (.builtin "__main__.__loader__#opaque"),en P "__spec__" 169 .none,en P "__annotations__" 170 (.ref 6),en P "__builtins__" 171 (.ref 4),en P "__file__" 173 (.str "/claim/cut.py" 172),en P "__cached__" 174 .none,en P "CastError" 206 (.ref 24),en P "NoTerm" 222 (.ref 37),en P "BadNote" 238 (.ref 49),en P "MOST_KINDS" 242 (.int 40 241),en P "MOST_DEPTH" 244 (.int 8 243),en P "MOST_LETTERS" 246 (.int 8 245),en P "MARKS" 249 (.ref 52),en P "LENGTHS" 268 (.ref 53),en P "is_kind" 275 (.ref 60),en P "is_made_of" 281 (.ref 65),en P "layer_within" 291 (.ref 72),en P "kinds_within" 297 (.ref 77),en P "has_form" 304 (.ref 84),en P "are_fields" 310 (.ref 89),en P "is_field" 317 (.ref 96),en P "is_name" 323 (.ref 101),en P "is_small_letter" 330 (.ref 108),en P "names_rise" 336 (.ref 113),en P "Reader" 415 (.ref 172),en P "written" 424 (.ref 183),en P "row_written" 430 (.ref 188),en P "field_written" 438 (.ref 195),en P "kind_from" 447 (.ref 202),en P "function_from" 457 (.ref 209),en P "box_from" 466 (.ref 216),en P "row_from" 475 (.ref 223),en P "field_from" 485 (.ref 230),en P "MOST_TERMS" 489 (.int 40 488),en P "MOST_TERM_DEPTH" 491 (.int 10 490),en P "MOST_FIGURES" 493 (.int 20 492),en P "MOST_NUMBER" 495 (.int 99999999999999999999 494),en P "FORMS" 553 (.ref 231),en P "check_term" 560 (.ref 253),en P "is_term" 567 (.ref 260),en P "form_of" 574 (.ref 267),en P "parts_of" 580 (.ref 272),en P "has_term_form" 586 (.ref 277),en P "is_of_sort" 594 (.ref 284),en P "is_number" 601 (.ref 291),en P "are_term_fields" 607 (.ref 296),en P "is_term_field" 614 (.ref 303),en P "term_shown" 623 (.ref 310),en P "term_read" 632 (.ref 317),en P "gap_ahead_of" 640 (.ref 324),en P "term_written" 650 (.ref 331),en P "thing_written" 656 (.ref 336),en P "term_from" 669 (.ref 343),en P "thing_from" 678 (.ref 350),en P "number_from" 687 (.ref 357),en P "truth_from" 695 (.ref 364),en P "fields_from" 704 (.ref 371),en P "term_field_from" 713 (.ref 378),en P "_law_cell_at" 723 (.ref 385),en P "_law_whole" 730 (.ref 392),en P "_law_state" 739 (.ref 399),en P "_law_choice" 749 (.ref 406),en P "_law_told_kind" 759 (.ref 413),en P "_law_function" 771 (.ref 420),en P "_law_record" 783 (.ref 427),en P "_law_made" 793 (.ref 434),en P "_law_leaf" 803 (.ref 441),en P "_law_first" 809 (.ref 446),en P "_law_term" 815 (.ref 451),en P "_law_count" 821 (.ref 456),en P "_law_deep" 827 (.ref 461),en P "_law_parts" 833 (.ref 466),en P "_law_drawn_term" 844 (.ref 473),en P "_law_kind_text" 855 (.ref 480),en P "_law_text" 861 (.ref 485),en P "_law_is_term" 867 (.ref 490),en P "_law_same" 873 (.ref 495),en P "law" 883 (.ref 502)] 81) #[])::
 (nat_lit 15,.mk (.type "tuple") Option.none (.seq #[.type "ValueError"]) #[])::
 (nat_lit 22,.mk (.type "tuple") Option.none (.seq #[]) #[])::
 (nat_lit 23,.mk (.type "dict") Option.none (.dict #[en P "__module__" 196 (.str "castwright.errors" 187),en P "__firstlineno__" 200 (.int 2 199),en P "__static_attributes__" 201 (.ref 22),en P "__weakref__" 203 (.ref 25),en P "__doc__" 204 .none] 3) #[])::
 (nat_lit 24,.mk (.type "type") Option.none (.cls (.mk "CastError" [.type "ValueError"] [.ref 24,.type "ValueError",.type "Exception",.type "BaseException",.type "object"] 23 "CastError" Bool.true [] [.ref 37,.ref 49] Bool.false Option.none Bool.false)) #[Option.some (.ref 15),Option.none,Option.some (.str "CastError" 189),Option.some (.str "CastError" 197),Option.some (.builtin "ValueError.__new__"),Option.some (.bool Bool.true)])::
 (nat_lit 25,.mk (.type "getset_descriptor") Option.none (.fields #[.str "__weakref__" 202,.ref 24,.builtin "ExceptionGroup.__weakref__",.none]) #[])::
 (nat_lit 28,.mk (.type "tuple") Option.none (.seq #[.ref 24]) #[])::
 (nat_lit 35,.mk (.type "tuple") Option.none (.seq #[]) #[])::
 (nat_lit 36,.mk (.type "dict") Option.none (.dict #[en P "__module__" 214 (.str "castwright.errors" 187),en P "__firstlineno__" 218 (.int 4 217),en P "__static_attributes__" 219 (.ref 35),en P "__doc__" 220 .none] 2) #[])::
 (nat_lit 37,.mk (.type "type") Option.none (.cls (.mk "NoTerm" [.ref 24] [.ref 37,.ref 24,.type "ValueError",.type "Exception",.type "BaseException",.type "object"] 36 "NoTerm" Bool.true [] [] Bool.false Option.none Bool.false)) #[Option.some (.ref 28),Option.none,Option.some (.str "NoTerm" 207),Option.some (.str "NoTerm" 215),Option.some (.builtin "ValueError.__new__"),Option.some (.bool Bool.true)])::
 (nat_lit 40,.mk (.type "tuple") Option.none (.seq #[.ref 24]) #[])::
 (nat_lit 47,.mk (.type "tuple") Option.none (.seq #[]) #[])::
 (nat_lit 48,.mk (.type "dict") Option.none (.dict #[en P "__module__" 230 (.str "castwright.errors" 187),en P "__firstlineno__" 234 (.int 6 233),en P "__static_attributes__" 235 (.ref 47),en P "__doc__" 236 .none] 2) #[])::
 (nat_lit 49,.mk (.type "type") Option.none (.cls (.mk "BadNote" [.ref 24] [.ref 49,.ref 24,.type "ValueError",.type "Exception",.type "BaseException",.type "object"] 48 "BadNote" Bool.true [] [] Bool.false Option.none Bool.false)) #[Option.some (.ref 40),Option.none,Option.some (.str "BadNote" 223),Option.some (.str "BadNote" 231),Option.some (.builtin "ValueError.__new__"),Option.some (.bool Bool.true)])::
 (nat_lit 52,.mk (.type "tuple") Option.none (.seq #[.str "must" 247,.str "may" 248]) #[])::
 (nat_lit 53,.mk (.type "dict") Option.none (.dict #[en P "any" 250 (.int 1 251),en P "num" 252 (.int 1 253),en P "truth" 254 (.int 1 255),en P "to" 256 (.int 3 257),en P "box" 258 (.int 2 259),en P "row" 260 (.int 3 261)] 6) #[])::
 (nat_lit 59,co "is_kind" 269 14 1 54 181 55 (.ref 56) (.ref 57) 58 273 274)::
 (nat_lit 60,fo "is_kind" (top 10) "castwright.kinds" 239 59)::
 (nat_lit 64,co "is_made_of" 276 16 5 61 181 62 .none .none 63 279 280)::
 (nat_lit 65,fo "is_made_of" (top 11) "castwright.kinds" 239 64)::
 (nat_lit 71,co "layer_within" 282 29 2 66 181 67 (.ref 68) (.ref 69) 70 289 290)::
 (nat_lit 72,fo "layer_within" (top 12) "castwright.kinds" 239 71)::
 (nat_lit 76,co "kinds_within" 292 34 1 73 181 74 .none .none 75 295 296)::
 (nat_lit 77,fo "kinds_within" (top 13) "castwright.kinds" 239 76)::
 (nat_lit 83,co "has_form" 298 38 1 78 181 79 (.ref 80) (.ref 81) 82 302 303)::
 (nat_lit 84,fo "has_form" (top 14) "castwright.kinds" 239 83)::
 (nat_lit 88,co "are_fields" 305 44 1 85 181 86 .none .none 87 308 309)::
 (nat_lit 89,fo "are_fields" (top 15) "castwright.kinds" 239 88)::
 (nat_lit 95,co "is_field" 311 48 1 90 181 91 (.ref 92) (.ref 93) 94 315 316)::
 (nat_lit 96,fo "is_field" (top 16) "castwright.kinds" 239 95)::
 (nat_lit 100,co "is_name" 318 52 1 97 181 98 .none .none 99 321 322)::
 (nat_lit 101,fo "is_name" (top 17) "castwright.kinds" 239 100)::
 (nat_lit 107,co "is_small_letter" 324 56 1 102 181 103 (.ref 104) (.ref 105) 106 328 329)::
 (nat_lit 108,fo "is_small_letter" (top 18) "castwright.kinds" 239 107)::
 (nat_lit 112,co "names_rise" 331 58 1 109 181 110 .none .none 111 334 335)::
 (nat_lit 113,fo "names_rise" (top 19) "castwright.kinds" 239 112)::
 (nat_lit 126,.mk (.type "code") Option.none (.fields #[.str "__init__" 351,.str "Reader.__init__" 352,.str "/claim/cut.py" 353,.int 63 0,.int 2 0,.int 0 0,.int 0 0,.int 3 0,.ref 121,.bool Bool.true,.int 181 0,.ref 122,.none,.ref 123,.ref 124,.ref 125,.int 356 0,.int 63 0,.str "/claim/cut.py" 357]) #[])::
 (nat_lit 127,.mk (.type "function") Option.none (.func (PySem.W.fnOf "__init__" "Reader.__init__" (BS (Br (top 21) 0)) (AO (Br (top 21) 0)) (Ak (Br (top 21) 0)) .none .none .none (.str "castwright.reader" 337) Option.none (.ref 126) .none)) #[])::
 (nat_lit 133,.mk (.type "code") Option.none (.fields #[.str "sees" 359,.str "Reader.sees" 360,.str "/claim/cut.py" 361,.int 67 0,.int 2 0,.int 0 0,.int 0 0,.int 3 0,.ref 128,.bool Bool.true,.int 181 0,.ref 129,.none,.ref 130,.ref 131,.ref 132,.int 364 0,.int 67 0,.str "/claim/cut.py" 365]) #[])::
 (nat_lit 134,.mk (.type "function") Option.none (.func (PySem.W.fnOf "sees" "Reader.sees" (BS (Br (top 21) 1)) (AO (Br (top 21) 1)) (Ak (Br (top 21) 1)) .none .none .none (.str "castwright.reader" 337) Option.none (.ref 133) .none)) #[])::
 (nat_lit 140,.mk (.type "code") Option.none (.fields #[.str "takes" 367,.str "Reader.takes" 368,.str "/claim/cut.py" 369,.int 70 0,.int 2 0,.int 0 0,.int 0 0,.int 3 0,.ref 135,.bool Bool.true,.int 181 0,.ref 136,.none,.ref 137,.ref 138,.ref 139,.int 372 0,.int 70 0,.str "/claim/cut.py" 373]) #[])::
 (nat_lit 141,.mk (.type "function") Option.none (.func (PySem.W.fnOf "takes" "Reader.takes" (BS (Br (top 21) 2)) (AO (Br (top 21) 2)) (Ak (Br (top 21) 2)) .none .none .none (.str "castwright.reader" 337) Option.none (.ref 140) .none)) #[])::
 (nat_lit 147,.mk (.type "code") Option.none (.fields #[.str "wants" 375,.str "Reader.wants" 376,.str "/claim/cut.py" 377,.int 76 0,.int 2 0,.int 0 0,.int 0 0,.int 3 0,.ref 142,.bool Bool.true,.int 181 0,.ref 143,.none,.ref 144,.ref 145,.ref 146,.int 380 0,.int 76 0,.str "/claim/cut.py" 381]) #[])::
 (nat_lit 148,.mk (.type "function") Option.none (.func (PySem.W.fnOf "wants" "Reader.wants" (BS (Br (top 21) 3)) (AO (Br (top 21) 3)) (Ak (Br (top 21) 3)) .none .none .none (.str "castwright.reader" 337) Option.none (.ref 147) .none)) #[])::
 (nat_lit 154,.mk (.type "code") Option.none (.fields #[.str "wants_end" 383,.str "Reader.wants_end" 384,.str "/claim/cut.py" 385,.int 80 0,.int 1 0,.int 0 0,.int 0 0,.int 3 0,.ref 149,.bool Bool.true,.int 181 0,.ref 150,.none,.ref 151,.ref 152,.ref 153,.int 387 0,.int 80 0,.str "/claim/cut.py" 388]) #[])::
 (nat_lit 155,.mk (.type "function") Option.none (.func (PySem.W.fnOf "wants_end" "Reader.wants_end" (BS (Br (top 21) 4)) (AO (Br (top 21) 4)) (Ak (Br (top 21) 4)) .none .none .none (.str "castwright.reader" 337) Option.none (.ref 154) .none)) #[])::
 (nat_lit 161,.mk (.type "code") Option.none (.fields #[.str "word" 390,.str "Reader.word" 391,.str "/claim/cut.py" 392,.int 84 0,.int 1 0,.int 0 0,.int 0 0,.int 3 0,.ref 156,.bool Bool.true,.int 181 0,.ref 157,.none,.ref 158,.ref 159,.ref 160,.int 395 0,.int 84 0,.str "/claim/cut.py" 396]) #[])::
 (nat_lit 162,.mk (.type "function") Option.none (.func (PySem.W.fnOf "word" "Reader.word" (BS (Br (top 21) 5)) (AO (Br (top 21) 5)) (Ak (Br (top 21) 5)) .none .none .none (.str "castwright.reader" 337) Option.none (.ref 161) .none)) #[])::
 (nat_lit 168,.mk (.type "code") Option.none (.fields #[.str "figures" 398,.str "Reader.figures" 399,.str "/claim/cut.py" 400,.int 90 0,.int 1 0,.int 0 0,.int 0 0,.int 3 0,.ref 163,.bool Bool.true,.int 181 0,.ref 164,.none,.ref 165,.ref 166,.ref 167,.int 403 0,.int 90 0,.str "/claim/cut.py" 404]) #[])::
 (nat_lit 169,.mk (.type "function") Option.none (.func (PySem.W.fnOf "figures" "Reader.figures" (BS (Br (top 21) 6)) (AO (Br (top 21) 6)) (Ak (Br (top 21) 6)) .none .none .none (.str "castwright.reader" 337) Option.none (.ref 168) .none)) #[])::
 (nat_lit 170,.mk (.type "tuple") Option.none (.seq #[.str "place" 406,.str "text" 407]) #[])::
 (nat_lit 171,.mk (.type "dict") Option.none (.dict #[en P "__module__" 346 (.str "castwright.reader" 337),en P "__firstlineno__" 350 (.int 61 349),en P "__init__" 358 (.ref 127),en P "sees" 366 (.ref 134),en P "takes" 374 (.ref 141),en P "wants" 382 (.ref 148),en P "wants_end" 389 (.ref 155),en P "word" 397 (.ref 162),en P "figures" 405 (.ref 169),en P "__static_attributes__" 408 (.ref 170),en P "__dict__" 410 (.ref 173),en P "__weakref__" 412 (.ref 174),en P "__doc__" 413 .none] 4) #[])::
 (nat_lit 172,.mk (.type "type") Option.none (.cls (.mk "Reader" [.type "object"] [.ref 172,.type "object"] 171 "Reader" Bool.true [] [] Bool.false Option.none Bool.false)) #[Option.none,Option.none,Option.some (.str "Reader" 339),Option.some (.str "Reader" 347),Option.some (.builtin "object.__new__"),Option.some (.bool Bool.true)])::
 (nat_lit 173,.mk (.type "getset_descriptor") Option.none (.fields #[.str "__dict__" 409,.ref 172,.builtin "function.__dict__",.builtin "function.__dict__#set"]) #[])::
 (nat_lit 174,.mk (.type "getset_descriptor") Option.none (.fields #[.str "__weakref__" 411,.ref 172,.builtin "ExceptionGroup.__weakref__",.none]) #[])::
 (nat_lit 182,co "written" 418 96 1 177 181 178 (.ref 179) (.ref 180) 181 422 423)::
 (nat_lit 183,fo "written" (top 23) "castwright.kindnotes" 416 182)::
 (nat_lit 187,co "row_written" 425 104 1 184 181 185 .none .none 186 428 429)::
 (nat_lit 188,fo "row_written" (top 24) "castwright.kindnotes" 416 187)::
 (nat_lit 194,co "field_written" 431 109 1 189 181 190 (.ref 191) (.ref 192) 193 436 437)::
 (nat_lit 195,fo "field_written" (top 25) "castwright.kindnotes" 416 194)::
 (nat_lit 201,co "kind_from" 439 112 2 196 181 197 (.ref 198) (.ref 199) 200 445 446)::
 (nat_lit 202,fo "kind_from" (top 26) "castwright.kindnotes" 416 201)::
 (nat_lit 208,co "function_from" 448 125 2 203 181 204 (.ref 205) (.ref 206) 207 455 456)::
 (nat_lit 209,fo "function_from" (top 27) "castwright.kindnotes" 416 208)::
 (nat_lit 215,co "box_from" 458 131 2 210 181 211 (.ref 212) (.ref 213) 214 464 465)::
 (nat_lit 216,fo "box_from" (top 28) "castwright.kindnotes" 416 215)::
 (nat_lit 222,co "row_from" 467 135 2 217 181 218 (.ref 219) (.ref 220) 221 473 474)::
 (nat_lit 223,fo "row_from" (top 29) "castwright.kindnotes" 416 222)::
 (nat_lit 229,co "field_from" 476 146 2 224 181 225 (.ref 226) (.ref 227) 228 483 484)::
 (nat_lit 230,fo "field_from" (top 30) "castwright.kindnotes" 416 229)::
 (nat_lit 231,.mk (.type "dict") Option.none (.dict #[en P "num" 496 (.ref 232),en P "truth" 498 (.ref 233),en P "name" 500 (.ref 234),en P "fun" 502 (.ref 235),en P "call" 506 (.ref 236),en P "rec" 509 (.ref 237),en P "get" 511 (.ref 238),en P "or" 514 (.ref 239),en P "if" 518 (.ref 240),en P "plus" 522 (.ref 241),en P "less" 525 (.ref 242),en P "new" 528 (.ref 243),en P "read" 530 (.ref 244),en P "write" 532 (.ref 245),en P "as" 535 (.ref 246)] 15) #[])::
 (nat_lit 232,.mk (.type "tuple") Option.none (.seq #[.str "number" 497]) #[])::
 (nat_lit 233,.mk (.type "tuple") Option.none (.seq #[.str "truth" 499]) #[])::
 (nat_lit 234,.mk (.type "tuple") Option.none (.seq #[.str "name" 501]) #[])::
 (nat_lit 235,.mk (.type "tuple") Option.none (.seq #[.str "name" 503,.str "kind" 504,.str "term" 505]) #[])::
 (nat_lit 236,.mk (.type "tuple") Option.none (.seq #[.str "term" 507,.str "term" 508]) #[])::
 (nat_lit 237,.mk (.type "tuple") Option.none (.seq #[.str "fields" 510]) #[])::
 (nat_lit 238,.mk (.type "tuple") Option.none (.seq #[.str "term" 512,.str "name" 513]) #[])::
 (nat_lit 239,.mk (.type "tuple") Option.none (.seq #[.str "term" 515,.str "name" 516,.str "term" 517]) #[])::
 (nat_lit 240,.mk (.type "tuple") Option.none (.seq #[.str "term" 519,.str "term" 520,.str "term" 521]) #[])::
 (nat_lit 241,.mk (.type "tuple") Option.none (.seq #[.str "term" 523,.str "term" 524]) #[])::
 (nat_lit 242,.mk (.type "tuple") Option.none (.seq #[.str "term" 526,.str "term" 527]) #[])::
 (nat_lit 243,.mk (.type "tuple") Option.none (.seq #[.str "term" 529]) #[])::
 (nat_lit 244,.mk (.type "tuple") Option.none (.seq #[.str "term" 531]) #[])::
 (nat_lit 245,.mk (.type "tuple") Option.none (.seq #[.str "term" 533,.str "term" 534]) #[])::
 (nat_lit 246,.mk (.type "tuple") Option.none (.seq #[.str "term" 536,.str "kind" 537]) #[])::
 (nat_lit 252,co "check_term" 554 157 1 247 181 248 (.ref 249) (.ref 250) 251 558 559)::
 (nat_lit 253,fo "check_term" (top 37) "castwright.terms" 486 252)::
 (nat_lit 259,co "is_term" 561 160 1 254 181 255 (.ref 256) (.ref 257) 258 565 566)::
 (nat_lit 260,fo "is_term" (top 38) "castwright.terms" 486 259)::
 (nat_lit 266,co "form_of" 568 162 1 261 181 262 (.ref 263) (.ref 264) 265 572 573)::
 (nat_lit 267,fo "form_of" (top 39) "castwright.terms" 486 266)::
 (nat_lit 271,co "parts_of" 575 164 1 268 181 269 .none .none 270 578 579)::
 (nat_lit 272,fo "parts_of" (top 40) "castwright.terms" 486 271)::
 (nat_lit 276,co "has_term_form" 581 168 1 273 181 274 .none .none 275 584 585)::
 (nat_lit 277,fo "has_term_form" (top 41) "castwright.terms" 486 276)::
 (nat_lit 283,co "is_of_sort" 587 175 2 278 181 279 (.ref 280) (.ref 281) 282 592 593)::
 (nat_lit 284,fo "is_of_sort" (top 42) "castwright.terms" 486 283)::
 (nat_lit 290,co "is_number" 595 187 1 285 181 286 (.ref 287) (.ref 288) 289 599 600)::
 (nat_lit 291,fo "is_number" (top 43) "castwright.terms" 486 290)::
 (nat_lit 295,co "are_term_fields" 602 191 1 292 181 293 .none .none 294 605 606)::
 (nat_lit 296,fo "are_term_fields" (top 44) "castwright.terms" 486 295)::
 (nat_lit 302,co "is_term_field" 608 195 1 297 181 298 (.ref 299) (.ref 300) 301 612 613)::
 (nat_lit 303,fo "is_term_field" (top 45) "castwright.terms" 486 302)::
 (nat_lit 309,co "term_shown" 617 198 1 304 181 305 (.ref 306) (.ref 307) 308 621 622)::
 (nat_lit 310,fo "term_shown" (top 47) "castwright.termnotes" 615 309)::
 (nat_lit 316,co "term_read" 624 201 1 311 181 312 (.ref 313) (.ref 314) 315 630 631)::
 (nat_lit 317,fo "term_read" (top 48) "castwright.termnotes" 615 316)::
 (nat_lit 323,co "gap_ahead_of" 633 208 2 318 181 319 (.ref 320) (.ref 321) 322 638 639)::
 (nat_lit 324,fo "gap_ahead_of" (top 49) "castwright.termnotes" 615 323)::
 (nat_lit 330,co "term_written" 641 212 1 325 181 326 (.ref 327) (.ref 328) 329 648 649)::
 (nat_lit 331,fo "term_written" (top 50) "castwright.termnotes" 615 330)::
 (nat_lit 335,co "thing_written" 651 219 2 332 181 333 .none .none 334 654 655)::
 (nat_lit 336,fo "thing_written" (top 51) "castwright.termnotes" 615 335)::
 (nat_lit 342,co "term_from" 657 231 2 337 181 338 (.ref 339) (.ref 340) 341 667 668)::
 (nat_lit 343,fo "term_from" (top 52) "castwright.termnotes" 615 342)::
 (nat_lit 349,co "thing_from" 670 245 3 344 181 345 (.ref 346) (.ref 347) 348 676 677)::
 (nat_lit 350,fo "thing_from" (top 53) "castwright.termnotes" 615 349)::
 (nat_lit 356,co "number_from" 679 257 1 351 181 352 (.ref 353) (.ref 354) 355 685 686)::
 (nat_lit 357,fo "number_from" (top 54) "castwright.termnotes" 615 356)::
 (nat_lit 363,co "truth_from" 688 265 1 358 181 359 (.ref 360) (.ref 361) 362 693 694)::
 (nat_lit 364,fo "truth_from" (top 55) "castwright.termnotes" 615 363)::
 (nat_lit 370,co "fields_from" 696 270 2 365 181 366 (.ref 367) (.ref 368) 369 702 703)::
 (nat_lit 371,fo "fields_from" (top 56) "castwright.termnotes" 615 370)::
 (nat_lit 377,co "term_field_from" 705 277 2 372 181 373 (.ref 374) (.ref 375) 376 711 712)::
 (nat_lit 378,fo "term_field_from" (top 57) "castwright.termnotes" 615 377)::
 (nat_lit 384,co "_law_cell_at" 716 282 2 379 181 380 (.ref 381) (.ref 382) 383 721 722)::
 (nat_lit 385,fo "_law_cell_at" (top 59) "law_castwright_k85_terms_written" 714 384)::
 (nat_lit 391,co "_law_whole" 724 286 1 386 181 387 (.ref 388) (.ref 389) 390 728 729)::
 (nat_lit 392,fo "_law_whole" (top 60) "law_castwright_k85_terms_written" 714 391)::
 (nat_lit 398,co "_law_state" 731 288 2 393 181 394 (.ref 395) (.ref 396) 397 737 738)::
 (nat_lit 399,fo "_law_state" (top 61) "law_castwright_k85_terms_written" 714 398)::
 (nat_lit 405,co "_law_choice" 740 293 2 400 181 401 (.ref 402) (.ref 403) 404 747 748)::
 (nat_lit 406,fo "_law_choice" (top 62) "law_castwright_k85_terms_written" 714 405)::
 (nat_lit 412,co "_law_told_kind" 750 302 1 407 181 408 (.ref 409) (.ref 410) 411 757 758)::
 (nat_lit 413,fo "_law_told_kind" (top 63) "law_castwright_k85_terms_written" 714 412)::
 (nat_lit 419,co "_law_function" 760 311 4 414 181 415 (.ref 416) (.ref 417) 418 769 770)::
 (nat_lit 420,fo "_law_function" (top 64) "law_castwright_k85_terms_written" 714 419)::
 (nat_lit 426,co "_law_record" 772 315 4 421 181 422 (.ref 423) (.ref 424) 425 781 782)::
 (nat_lit 427,fo "_law_record" (top 65) "law_castwright_k85_terms_written" 714 426)::
 (nat_lit 433,co "_law_made" 784 321 4 428 181 429 (.ref 430) (.ref 431) 432 791 792)::
 (nat_lit 434,fo "_law_made" (top 66) "law_castwright_k85_terms_written" 714 433)::
 (nat_lit 440,co "_law_leaf" 794 331 2 435 181 436 (.ref 437) (.ref 438) 439 801 802)::
 (nat_lit 441,fo "_law_leaf" (top 67) "law_castwright_k85_terms_written" 714 440)::
 (nat_lit 445,co "_law_first" 804 336 5 442 181 443 .none .none 444 807 808)::
 (nat_lit 446,fo "_law_first" (top 68) "law_castwright_k85_terms_written" 714 445)::
 (nat_lit 450,co "_law_term" 810 353 4 447 181 448 .none .none 449 813 814)::
 (nat_lit 451,fo "_law_term" (top 69) "law_castwright_k85_terms_written" 714 450)::
 (nat_lit 455,co "_law_count" 816 383 1 452 181 453 .none .none 454 819 820)::
 (nat_lit 456,fo "_law_count" (top 70) "law_castwright_k85_terms_written" 714 455)::
 (nat_lit 460,co "_law_deep" 822 385 1 457 181 458 .none .none 459 825 826)::
 (nat_lit 461,fo "_law_deep" (top 71) "law_castwright_k85_terms_written" 714 460)::
 (nat_lit 465,co "_law_parts" 828 387 1 462 181 463 .none .none 464 831 832)::
 (nat_lit 466,fo "_law_parts" (top 72) "law_castwright_k85_terms_written" 714 465)::
 (nat_lit 472,co "_law_drawn_term" 834 399 2 467 181 468 (.ref 469) (.ref 470) 471 842 843)::
 (nat_lit 473,fo "_law_drawn_term" (top 73) "law_castwright_k85_terms_written" 714 472)::
 (nat_lit 479,co "_law_kind_text" 845 409 1 474 181 475 (.ref 476) (.ref 477) 478 853 854)::
 (nat_lit 480,fo "_law_kind_text" (top 74) "law_castwright_k85_terms_written" 714 479)::
 (nat_lit 484,co "_law_text" 856 420 1 481 181 482 .none .none 483 859 860)::
 (nat_lit 485,fo "_law_text" (top 75) "law_castwright_k85_terms_written" 714 484)::
 (nat_lit 489,co "_law_is_term" 862 438 1 486 181 487 .none .none 488 865 866)::
 (nat_lit 490,fo "_law_is_term" (top 76) "law_castwright_k85_terms_written" 714 489)::
 (nat_lit 494,co "_law_same" 868 442 2 491 181 492 .none .none 493 871 872)::
 (nat_lit 495,fo "_law_same" (top 77) "law_castwright_k85_terms_written" 714 494)::
 (nat_lit 501,co "law" 874 448 1 496 181 497 (.ref 498) (.ref 499) 500 881 882)::
 (nat_lit 502,fo "law" (top 78) "law_castwright_k85_terms_written" 714 501)::
 []
noncomputable def KL:List Addr:=2::3::15::22::23::24::25::28::35::36::37::40::47::48::49::52::53::59::60::64::65::71::72::76::77::83::84::88::89::95::96::100::101::107::108::112::113::126::127::133::134::140::141::147::148::154::155::161::162::168::169::170::171::172::173::174::182::183::187::188::194::195::201::202::208::209::215::216::222::223::229::230::231::232::233::234::235::236::237::238::239::240::241::242::243::244::245::246::252::253::259::260::266::267::271::272::276::277::283::284::290::291::295::296::302::303::309::310::316::317::323::324::330::331::335::336::342::343::349::350::356::357::363::364::370::371::377::378::384::385::391::392::398::399::405::406::412::413::419::420::426::427::433::434::440::441::445::446::450::451::455::456::460::461::465::466::472::473::479::480::484::485::489::490::494::495::501::502::[]
theorem kfe(P:Params):KL=(KF P).map (·.1):=by kernel_rfl
section
open PySem.W
abbrev OE(w:World):=openEnds treeTable pwS w 6612
abbrev FS(s:Shared):=openSeen vwS ["LENGTHS","FORMS"] (importedModules pwS.main.body) (λs=>xlAt vwS [] s&&recOk (RowW.records rwS.row.toRowW) s) true s
abbrev OB(s:Shared):=(kHook KF KL kfe).obs s
abbrev VA(w:World):=(kHook KF KL kfe).val w
abbrev GD:=openGood vwS ["LENGTHS","FORMS"]
abbrev LB(w:World):Prop:=(OE w).map (λs=>(FS s,OB s))=some (GD,VA w)
theorem mpp{α β γ:Type}{o:Option α}{f:α->β}{g:α->γ}{a:β}{b:γ}(h1:o.map f=some a)(h2:o.map g=some b):o.map (λs=>(f s,g s))=some (a,b):=by
 cases o with
 | none=>cases h1
 | some s=>exact Qh some (Prod.ext (YE h1) (YE h2))
theorem mpl{α β γ:Type}{o:Option α}{f:α->β}{g:α->γ}{a:β}{b:γ}(h:o.map (λs=>(f s,g s))=some (a,b)):o.map f=some a:=by
 cases o with
 | none=>cases h
 | some s=>exact Qh some (Prod.ext_iff.mp (YE h)).1
theorem mpr{α β γ:Type}{o:Option α}{f:α->β}{g:α->γ}{a:β}{b:γ}(h:o.map (λs=>(f s,g s))=some (a,b)):o.map g=some b:=by
 cases o with
 | none=>cases h
 | some s=>exact Qh some (Prod.ext_iff.mp (YE h)).2
theorem mpb{α:Type}{o:Option α}{k a b c d e f:α->Bool}(h1:o.map k=some true)(h2:o.map (λs=>a s&&b s&&c s&&d s&&e s&&f s)=some true):o.map (λs=>k s&&a s&&b s&&c s&&d s&&e s&&f s)=some true:=by
 cases o with
 | none=>cases h1
 | some s =>
  have x:k s=true:=YE h1;have y:(a s&&b s&&c s&&d s&&e s&&f s)=true:=YE h2;refine Qh some ?_;show(k s&&a s&&b s&&c s&&d s&&e s&&f s)=true;rw[x];exact y
def topRunT(tb:String->Option Builtin)(p:Program)(w:World)(n0:Nat)(ann:Option Value):Nat->SharedT->Thread->Option SharedT
 | 0,_,_=>none
 | n+1,s,t=>match through t with
  | true=>some s
  | false=>match stepOk n0 ann t with
   | false=>none
   | true=>match stepT (denote tb) p w s t with
    | some (s',t')=>topRunT tb p w n0 ann n s' t'
    | none=>none
theorem topRun_of{tb:String->Option Builtin}{p:Program}{w:World}{n0:Nat}{ann:Option Value}:∀{n:Nat}{s s':SharedT}{t:Thread},topRunT tb p w n0 ann n s t=some s'->topRun tb p w n0 ann n s.abs t=some s'.abs
 | 0,_,_,_,h=>by cases h
 | n+1,s,s',t,h=>by
  unfold topRunT at h
  unfold topRun
  cases he:through t with
  | true=>rw[he] at h;cases h;rfl
  | false=>
   rw[he] at h
   cases hk:stepOk n0 ann t with
   | false=>rw[hk] at h;cases h
   | true=>
    rw[hk] at h
    cases hs:stepT (denote tb) p w s t with
    | none=>rw[hs] at h;cases h
    | some r=>obtain ⟨s2,t2⟩:=r;rw[hs] at h;rw[stepT_spec hs];exact topRun_of h
def insAll:List Obj->BT->Nat->Option BT
 | [],t,_=>some t
 | o::l,t,n=>match ((t.ins n o).get n).isSome with
  | true=>insAll l (t.ins n o) (n+1)
  | false=>none
theorem insAll_of{life:Life}:∀(l:List Obj)(t:BT)(n:Nat)(t':BT),insAll l t n=some t'->absHeap t' (n+l.length) life=⟨(absHeap t n life).objs++l.toArray,life⟩
 | [],t,n,t',h=>by
  have h:some t=some t':=h
  cases h
  show absHeap t n life=_
  rw[Array.append_empty];rfl
 | o::l,t,n,t',h=>by
  unfold insAll at h
  cases hs:((t.ins n o).get n).isSome with
  | false=>rw[hs] at h;cases h
  | true=>
   rw[hs] at h
   have e:=insAll_of (life:=life) l _ _ _ h
   rw[List.length_cons,show n+(l.length+1)=n+1+l.length by omega,e,absHeap_ins hs]
   show Heap.mk ((absHeap t n life).objs.push o++l.toArray) life=_
   congr 1
   apply Array.ext'
   simp
def topFromT(tb:String->Option Builtin)(p:Program)(w:World)(N:Nat)(s:Shared):Option SharedT:=match s.heap.isNs mainGlobals&&s.gens.size==0 with
 | true=>(insAll s.heap.objs.toList .nil 0).bind λt=>(topRunT tb p w s.heap.objs.size (s.heap.nsMap mainGlobals "__annotations__") N ⟨t,s.heap.objs.size,s.heap.life,s.gens,s.drawn,s.toks,s.os⟩ (topStub p)).bind λs1=>match staticsOk (importedModules p.main.body) s.heap s1.abs.heap&&namesBound p s1.abs.heap&&gensDone s1.abs&&laidKept s.heap s1.abs.heap with
  | true=>some s1
  | false=>none
 | false=>none
theorem topFrom_of{tb:String->Option Builtin}{p:Program}{w:World}{N:Nat}{s:Shared}{s1:SharedT}(h:topFromT tb p w N s=some s1):topFrom tb p w N s=some s1.abs:=by
 unfold topFromT at h
 unfold topFrom
 cases h0:(s.heap.isNs mainGlobals&&s.gens.size==0) with
 | false=>rw[h0] at h;cases h
 | true=>
  rw[h0] at h
  obtain ⟨t,h1,h2⟩:=Option.bind_eq_some_iff.mp h
  obtain ⟨s2,h3,h4⟩:=Option.bind_eq_some_iff.mp h2
  have e:=insAll_of (life:=s.heap.life) _ _ _ _ h1
  have e2:(SharedT.mk t s.heap.objs.size s.heap.life s.gens s.drawn s.toks s.os).abs=s:=by
   rw[Nat.zero_add,Array.length_toList] at e
   show Shared.mk (absHeap t s.heap.objs.size s.heap.life) _ _ _ _=_
   rw[e]
   obtain ⟨⟨objs,life⟩,g,d,k,os⟩:=s
   show Shared.mk ⟨#[]++objs.toList.toArray,life⟩ g d k os=_
   simp
  have r:=topRun_of h3
  rw[e2] at r
  show (topRun tb p w _ _ N s (topStub p)).bind _=_
  rw[r]
  show (match staticsOk (importedModules p.main.body) s.heap s2.abs.heap&&namesBound p s2.abs.heap&&gensDone s2.abs&&laidKept s.heap s2.abs.heap with
   | true=>some s2.abs
   | false=>none)=_
  cases h5:(staticsOk (importedModules p.main.body) s.heap s2.abs.heap&&namesBound p s2.abs.heap&&gensDone s2.abs&&laidKept s.heap s2.abs.heap) with
  | false=>rw[h5] at h4;cases h4
  | true=>rw[h5] at h4;cases h4;rfl
def openEndsT(tb:String->Option Builtin)(p:Program)(w:World)(N:Nat):Option SharedT:=(fencedOpening tb p w N).bind (topFromT tb p w N)
theorem openT_of{tb:String->Option Builtin}{p:Program}{w:World}{N:Nat}{α:Type}{f:Shared->α}{v:α}(h:(openEndsT tb p w N).map (λs=>f s.abs)=some v):(openEnds tb p w N).map f=some v:=by
 obtain ⟨s,h1,h2⟩:=Option.map_eq_some_iff.mp h
 obtain ⟨s0,h3,h4⟩:=Option.bind_eq_some_iff.mp h1
 unfold openEnds
 rw[h3]
 show (topFrom tb p w N s0).map f=_
 rw[topFrom_of h4]
 exact congrArg some h2
theorem ZR9T(w:World):(openEndsT treeTable pwS (w.withFollow "special-get-raises" false) 6612).map (λs=>(λs:Shared=>OB s) s.abs)=some (VA (w.withFollow "special-get-raises" false)):=by kernel_rfl
theorem ZR(w:World):(OE (w.withFollow "special-get-raises" false)).map (λs=>OB s)=some (VA (w.withFollow "special-get-raises" false)):=openT_of (ZR9T w)
theorem ZS9T(w:World):(openEndsT treeTable pwS (w.withFollow "special-get-raises" false) 6612).map (λs=>(λs:Shared=>seen ((recsOf vwS).map (·.name)) (ownsOf vwS) [] {s with gens:=#[]}) s.abs)=some (expectedOf vwS):=by kernel_rfl
theorem ZS(w:World):(OE (w.withFollow "special-get-raises" false)).map (λs=>seen ((recsOf vwS).map (·.name)) (ownsOf vwS) [] {s with gens:=#[]})=some (expectedOf vwS):=openT_of (ZS9T w)
theorem PX9T(w:World):(openEndsT treeTable pwS (w.withFollow "special-get-raises" false) 6612).map (λs=>(λs:Shared=>(s.heap.bltView,tabsOk vwS s)) s.abs)=some ((bltViewBooted,true)):=by kernel_rfl
theorem PX(w:World):(OE (w.withFollow "special-get-raises" false)).map (λs=>(s.heap.bltView,tabsOk vwS s))=some ((bltViewBooted,true)):=openT_of (PX9T w)
theorem ZT9T(w:World):(openEndsT treeTable pwS (w.withFollow "special-get-raises" false) 6612).map (λs=>(λs:Shared=>s.heap.keysOk (looseW vwS ["LENGTHS","FORMS"]) ((recsOf vwS).map (·.name)) ((litsOf vwS).map (·.1)) ((clssOf vwS (looseW vwS ["LENGTHS","FORMS"])).map (·.name))) s.abs)=some (true):=by kernel_rfl
theorem ZT(w:World):(OE (w.withFollow "special-get-raises" false)).map (λs=>s.heap.keysOk (looseW vwS ["LENGTHS","FORMS"]) ((recsOf vwS).map (·.name)) ((litsOf vwS).map (·.1)) ((clssOf vwS (looseW vwS ["LENGTHS","FORMS"])).map (·.name)))=some (true):=openT_of (ZT9T w)
theorem ZU9T(w:World):(openEndsT treeTable pwS (w.withFollow "special-get-raises" false) 6612).map (λs=>(λs:Shared=>s.heap.accountedOkI (importedModules pwS.main.body)&&s.heap.isNs mainGlobals&&s.heap.isNs builtinsNs&&tablesOk vwS s.heap&&(xlAt vwS [] s&&recOk (RowW.records rwS.row.toRowW) s)&&(s.gens.size==0)) s.abs)=some (true):=by kernel_rfl
theorem ZU(w:World):(OE (w.withFollow "special-get-raises" false)).map (λs=>s.heap.accountedOkI (importedModules pwS.main.body)&&s.heap.isNs mainGlobals&&s.heap.isNs builtinsNs&&tablesOk vwS s.heap&&(xlAt vwS [] s&&recOk (RowW.records rwS.row.toRowW) s)&&(s.gens.size==0))=some (true):=openT_of (ZU9T w)
theorem ZV9T(w:World):(openEndsT treeTable pwS (w.withFollow "special-get-raises" false) 6612).map (λs=>(λs:Shared=>(pinSeenD vwS (drecsOf vwS) s,plainSeenE vwS (looseW vwS ["LENGTHS","FORMS"]) s,plainSeenD vwS ["LENGTHS","FORMS"] s,wideSeen vwS s,clsSeenW vwS ["LENGTHS","FORMS"] s)) s.abs)=some ((pinGoodD (drecsOf vwS),plainGoodE vwS (looseW vwS ["LENGTHS","FORMS"]),plainGoodD vwS ["LENGTHS","FORMS"],wideGood vwS,clsGoodW vwS ["LENGTHS","FORMS"])):=by kernel_rfl
theorem ZV(w:World):(OE (w.withFollow "special-get-raises" false)).map (λs=>(pinSeenD vwS (drecsOf vwS) s,plainSeenE vwS (looseW vwS ["LENGTHS","FORMS"]) s,plainSeenD vwS ["LENGTHS","FORMS"] s,wideSeen vwS s,clsSeenW vwS ["LENGTHS","FORMS"] s))=some ((pinGoodD (drecsOf vwS),plainGoodE vwS (looseW vwS ["LENGTHS","FORMS"]),plainGoodD vwS ["LENGTHS","FORMS"],wideGood vwS,clsGoodW vwS ["LENGTHS","FORMS"])):=openT_of (ZV9T w)
theorem lbf(w:World):LB (w.withFollow "special-get-raises" false):=mpp (mpp (ZS w) (mpp (mpl (PX w)) (mpp (mpb (ZT w) (ZU w)) (mpp (mpr (PX w)) (ZV w))))) (ZR w)
theorem ZW9T(w:World):(openEndsT treeTable pwS (w.withFollow "special-get-raises" true) 6612).map (λs=>(λs:Shared=>OB s) s.abs)=some (VA (w.withFollow "special-get-raises" true)):=by kernel_rfl
theorem ZW(w:World):(OE (w.withFollow "special-get-raises" true)).map (λs=>OB s)=some (VA (w.withFollow "special-get-raises" true)):=openT_of (ZW9T w)
theorem ZX9T(w:World):(openEndsT treeTable pwS (w.withFollow "special-get-raises" true) 6612).map (λs=>(λs:Shared=>seen ((recsOf vwS).map (·.name)) (ownsOf vwS) [] {s with gens:=#[]}) s.abs)=some (expectedOf vwS):=by kernel_rfl
theorem ZX(w:World):(OE (w.withFollow "special-get-raises" true)).map (λs=>seen ((recsOf vwS).map (·.name)) (ownsOf vwS) [] {s with gens:=#[]})=some (expectedOf vwS):=openT_of (ZX9T w)
theorem PY9T(w:World):(openEndsT treeTable pwS (w.withFollow "special-get-raises" true) 6612).map (λs=>(λs:Shared=>(s.heap.bltView,tabsOk vwS s)) s.abs)=some ((bltViewBooted,true)):=by kernel_rfl
theorem PY(w:World):(OE (w.withFollow "special-get-raises" true)).map (λs=>(s.heap.bltView,tabsOk vwS s))=some ((bltViewBooted,true)):=openT_of (PY9T w)
theorem ZY9T(w:World):(openEndsT treeTable pwS (w.withFollow "special-get-raises" true) 6612).map (λs=>(λs:Shared=>s.heap.keysOk (looseW vwS ["LENGTHS","FORMS"]) ((recsOf vwS).map (·.name)) ((litsOf vwS).map (·.1)) ((clssOf vwS (looseW vwS ["LENGTHS","FORMS"])).map (·.name))) s.abs)=some (true):=by kernel_rfl
theorem ZY(w:World):(OE (w.withFollow "special-get-raises" true)).map (λs=>s.heap.keysOk (looseW vwS ["LENGTHS","FORMS"]) ((recsOf vwS).map (·.name)) ((litsOf vwS).map (·.1)) ((clssOf vwS (looseW vwS ["LENGTHS","FORMS"])).map (·.name)))=some (true):=openT_of (ZY9T w)
theorem ZZ9T(w:World):(openEndsT treeTable pwS (w.withFollow "special-get-raises" true) 6612).map (λs=>(λs:Shared=>s.heap.accountedOkI (importedModules pwS.main.body)&&s.heap.isNs mainGlobals&&s.heap.isNs builtinsNs&&tablesOk vwS s.heap&&(xlAt vwS [] s&&recOk (RowW.records rwS.row.toRowW) s)&&(s.gens.size==0)) s.abs)=some (true):=by kernel_rfl
theorem ZZ(w:World):(OE (w.withFollow "special-get-raises" true)).map (λs=>s.heap.accountedOkI (importedModules pwS.main.body)&&s.heap.isNs mainGlobals&&s.heap.isNs builtinsNs&&tablesOk vwS s.heap&&(xlAt vwS [] s&&recOk (RowW.records rwS.row.toRowW) s)&&(s.gens.size==0))=some (true):=openT_of (ZZ9T w)
theorem Z09T(w:World):(openEndsT treeTable pwS (w.withFollow "special-get-raises" true) 6612).map (λs=>(λs:Shared=>(pinSeenD vwS (drecsOf vwS) s,plainSeenE vwS (looseW vwS ["LENGTHS","FORMS"]) s,plainSeenD vwS ["LENGTHS","FORMS"] s,wideSeen vwS s,clsSeenW vwS ["LENGTHS","FORMS"] s)) s.abs)=some ((pinGoodD (drecsOf vwS),plainGoodE vwS (looseW vwS ["LENGTHS","FORMS"]),plainGoodD vwS ["LENGTHS","FORMS"],wideGood vwS,clsGoodW vwS ["LENGTHS","FORMS"])):=by kernel_rfl
theorem Z0(w:World):(OE (w.withFollow "special-get-raises" true)).map (λs=>(pinSeenD vwS (drecsOf vwS) s,plainSeenE vwS (looseW vwS ["LENGTHS","FORMS"]) s,plainSeenD vwS ["LENGTHS","FORMS"] s,wideSeen vwS s,clsSeenW vwS ["LENGTHS","FORMS"] s))=some ((pinGoodD (drecsOf vwS),plainGoodE vwS (looseW vwS ["LENGTHS","FORMS"]),plainGoodD vwS ["LENGTHS","FORMS"],wideGood vwS,clsGoodW vwS ["LENGTHS","FORMS"])):=openT_of (Z09T w)
theorem lbt(w:World):LB (w.withFollow "special-get-raises" true):=mpp (mpp (ZX w) (mpp (mpl (PY w)) (mpp (mpb (ZY w) (ZZ w)) (mpp (mpr (PY w)) (Z0 w))))) (ZW w)
end
end KY
namespace L2
open PySem PySem.Spec PyProof.Rows
abbrev Key:=Sum Int Str
def GF:Key->Value->Bool
 | .inl k,v=>Value.isInt k v
 | .inr x,v=>Value.isStrOf x v
def Z1(w:World):Key->Int
 | .inl k=>hashInt k
 | .inr x=>hashStr w x
theorem Ee:∀{k:Key}{v:Value},GF k v=true->(∃ i t,k=Sum.inl i/\v=Value.int i t)\/(∃ x t,k=Sum.inr x/\v=Value.str x t)
 | .inl i,v,h=>by
  obtain⟨t,e⟩:=Value.isInt_shape (k:=i) (v:=v) h;exact .inl ⟨i,t,rfl,e⟩
 | .inr x,v,h=>by
  obtain⟨t,e⟩:=Value.isStrOf_shape (x:=x) (v:=v) h;exact .inr ⟨x,t,rfl,e⟩
theorem Z2(x:Str)(t:Tok):GF (.inr x) (.str x t)=true:=by simp[GF,Value.isStrOf]
theorem Z3(a b:Int):decide ((Sum.inl a:Key)=Sum.inl b)=(a==b):=by
 by_cases e:a=b
 ·subst e;simp
 ·have h:¬ (Sum.inl a:Key)=Sum.inl b:=λq=>e (Sum.inl.inj q);rw[Qj h];exact(beq_eq_false_iff_ne.mpr e).symm
theorem Z4(a b:Str):decide ((Sum.inr a:Key)=Sum.inr b)=decide (a=b):=by
 by_cases e:a=b
 ·subst e;simp
 ·have h:¬ (Sum.inr a:Key)=Sum.inr b:=λq=>e (Sum.inr.inj q);rw[Qj h,Qj e]
theorem Z5(a:Int)(b:Str):decide ((Sum.inl a:Key)=Sum.inr b)=false:=Qj (λq=>nomatch q)
theorem Z6(a:Str)(b:Int):decide ((Sum.inr a:Key)=Sum.inl b)=false:=Qj (λq=>nomatch q)
def CA(prog:Program)(w:World):PySem.KeyKind prog w Key where
 is:=GF
 hash:=Z1 w
 inj:=λv a b ha hb=>by
  rcases Ee ha with⟨i,t,rfl,rfl⟩|⟨x,t,rfl,rfl⟩
  ·rcases Ee hb with⟨j,u,rfl,e⟩|⟨y,u,rfl,e⟩
   ·injection e with e1 _;rw[e1]
   ·exact nomatch e
  ·rcases Ee hb with⟨j,u,rfl,e⟩|⟨y,u,rfl,e⟩
   ·exact nomatch e
   ·injection e with e1 _;rw[e1]
 byValue:=λk v h=>by
  rcases Ee h with⟨i,t,rfl,rfl⟩|⟨x,t,rfl,rfl⟩ <;> rfl
 pyHash:=λhv h=>by
  rcases Ee hv with⟨i,t,rfl,rfl⟩|⟨x,t,rfl,rfl⟩
  ·exact wpAny_pyHash_int h
  ·exact wpAny_pyHash_str h
 eqBool:=λhu hv h=>by
  rcases Ee hu with⟨i,t,rfl,rfl⟩|⟨x,t,rfl,rfl⟩
  ·rcases Ee hv with⟨j,u,rfl,rfl⟩|⟨y,u,rfl,rfl⟩
   ·rw[Z3]at h;exact wpAny_eqBool_int h
   ·rw[Z5]at h;exact SeqAt.EqAt.int_str i t y u _ _ _ _ h
  ·rcases Ee hv with⟨j,u,rfl,rfl⟩|⟨y,u,rfl,rfl⟩
   ·rw[Z6]at h;exact SeqAt.EqAt.str_int x t j u _ _ _ _ h
   ·rw[Z4]at h;exact wpAny_eqBool_str h
 «strs»:=λk x t v h=>by
  rcases Ee h with⟨i,u,rfl,e⟩|⟨y,u,rfl,e⟩
  ·exact nomatch e
  ·injection e with e1 _
   subst e1
   cases v <;> rfl
theorem Z7(prog:Program)(w:World)(x:Str)(t:Tok):(CA prog w).is (.inr x) (.str x t)=true:=Z2 x t
inductive V where
 | non | bl (b:Bool)| int (i:Int)| str (x:Str)| byt (b:Array UInt8)| flt (b:UInt64)| ref (a:Addr)| ty (n:String)
 deriving DecidableEq
def RelV:V->Value->Prop
 | .non,u=>u=Value.none
 | .bl b,u=>u=Value.bool b
 | .int i,u=>∃ t,u=Value.int i t
 | .str x,u=>∃ t,u=Value.str x t
 | .byt b,u=>∃ t,u=Value.bytes b t
 | .flt b,u=>∃ t,u=Value.float b t
 | .ref a,u=>u=Value.ref a
 | .ty n,u=>u=Value.type n
abbrev Vals:List V->List Value->Prop:=Paired RelV
theorem Vals.length(r:Vals xs us):xs.length=us.length:=Paired.length r
theorem Vals.get:∀{xs:List V}{us:List Value}{i:Nat}{x:V},Vals xs us->xs[i]?=some x->∃ u,us[i]?=some u/\RelV x u
 | _,_,_,_,.nil,e=>by simp at e
 | _,_,0,_,.cons r _,e=>by simp at e;subst e;exact⟨_,rfl,r⟩
 | _,_,i+1,x,.cons _ t,e=>by
  obtain⟨u,h1,h2⟩:=Vals.get (i:=i) (x:=x) t (by simpa using e);exact⟨u,by simpa using h1,h2⟩
theorem Vals.set(r:RelV x u):∀{xs:List V}{us:List Value}(i:Nat),Vals xs us->Vals (xs.set i x) (us.set i u)
 | _,_,_,.nil=>.nil
 | _,_,0,.cons _ t=>.cons r t
 | _,_,i+1,.cons q t=>.cons q (Vals.set r i t)
theorem Vals.append:∀{xs ys:List V}{us a:List Value},Vals xs us->Vals ys a->Vals (xs++ys) (us++a)
 | _,_,_,_,.nil,s=>s
 | _,_,_,_,.cons r t,s=>.cons r (Vals.append t s)
theorem Vals.take:∀{xs:List V}{us:List Value}(n:Nat),Vals xs us->Vals (xs.take n) (us.take n)
 | _,_,0,_=>.nil
 | _,_,_+1,.nil=>.nil
 | _,_,n+1,.cons r t=>.cons r (Vals.take n t)
theorem Vals.drop:∀{xs:List V}{us:List Value}(n:Nat),Vals xs us->Vals (xs.drop n) (us.drop n)
 | _,_,0,r=>r
 | _,_,_+1,.nil=>.nil
 | _,_,n+1,.cons _ t=>Vals.drop n t
theorem Vals.none_of:∀{xs:List V}{us:List Value}{i:Nat},Vals xs us->xs[i]?=none->us[i]?=none:=λ{xs us i}r e=>by
 have h1:=r.length;have h2:xs.length<=i:=List.getElem?_eq_none_iff.mp e;exact List.getElem?_eq_none_iff.mpr (by lia)
def RelO:Option V->Option Value->Prop
 | some v,some u=>RelV v u
 | none,none=>True
 | _,_=>False
def KV{κ:Type}:List (κ×V)->List (κ×Value)->Prop:=Paired λ(p:κ×V)(q:κ×Value)=>p.1=q.1/\RelV p.2 q.2
def kV:Key->V
 | .inl i=>.int i
 | .inr x=>.str x
inductive HO where
 | lst (xs:List V)
 | tup (xs:List V)
 | dK (kvs:List (Key×V))| dT (kvs:List (List Key×V))
 | set (S:Int->Bool) (n:Nat)
 | ins (C dx:Addr) (fs:List (Str×V))
 | own (x:Addr)
 | xd (fs:List (Str×V))
 | met (f x:Addr)
 | rng (lo hi:Int)
 | frz (o:Obj) (u:HO)
 | tbl (ps:Array Value)
 | ext (φ:Heap->Prop)
abbrev Hp:=Addr->Option HO
def upd(H:Hp)(a:Addr)(o:HO):Hp:=λb=>if b=a then some o else H b
theorem Ca:upd H a o a=some o:=by unfold upd;rw[if_pos rfl]
theorem A9(h:b≠a):upd H a o b=H b:=by unfold upd;rw[if_neg h]
theorem FN{H:Hp}(h:H a=some o)(h':H b=none):a≠b:=by
 intro e;subst e;rw[h]at h';cases h'
def TupP(h:Heap)(a:Addr)(items:Array Value):Prop:=∃ o,h.get? a=some o/\o.cls=.type "tuple"/\o.dict=none/\∃ n,o.data=.seq items n
theorem TupP.new(h:Heap)(items:Array Value):TupP (h.push {cls:=.type "tuple",data:=.seq items}) h.objs.size items:=⟨_,Qp _ rfl,rfl,rfl,_,rfl⟩
theorem TupP.up(x:TupP h a items):IsTup h a items:=let⟨o,e,c,_,d⟩:=x;⟨o,e,c,d⟩
section
variable (P:Program)(w:World)
def ObjOk(H:Hp)(h:Heap)(a:Addr):HO->Prop
 | .lst xs=>xs.length<=sizeLine/\∃(its:List Value)(n:Nat),Vals xs its/\h.get? a=some {cls:=.type "list",data:=.seq its.toArray n}
 | .tup xs=>xs.length<=sizeLine/\∃ its:List Value,Vals xs its/\TupP h a its.toArray
 | .dK kvs=>kvs.length<=sizeLine/\(a==sysModules)=false/\∃ vs,KV kvs vs/\h.DictOf (CA P w) a vs
 | .dT kvs=>kvs.length<=sizeLine/\(a==sysModules)=false/\∃ xs:List (List Key×Addr×Value),
   Paired (λ(p:List Key×V)(q:List Key×Addr×Value)=>p.1=q.1/\H q.2.1=some (.tup (p.1.map kV))/\RelV p.2 q.2.2) kvs xs/\
   ∃ o es ep,h.get? a=some o/\o.ExactDict/\o.data=.dict es ep/\es.toList=xs.map (entryOfKey (tupleKind (CA P w)))/\(xs.map (·.1)).Nodup
 | .set S n=>h.SetOf (intKind P w) a S n
 | .ins C dx fs=>H dx=some (.own a)/\fs.length<=1000/\dx≠a/\h.get? a=some (PySem.W.instObj C dx)/\
   ∃ mA,h.Ns1 dx mA/\(∀ f,RelO (fs.lookup f) (mA f))/\PySem.Within mA (fs.map (·.1))
 | .own _=>∃ o,h.get? a=some o
 | .xd fs=>∃ mA,h.Ns1 a mA/\∀ f,RelO (fs.lookup f) (mA f)
 | .rng lo hi=>∃ t u v,h.get? a=some {cls:=.type "range",data:=.fields #[.int lo t,.int hi u,.int 1 v]}
 | .frz o u=>h.get? a=some o/\ObjOk H h a u
 | .tbl ps=>h.get? a=some {cls:=.none,data:=.fields ps}
 | .met f x=>h.get? a=some (PySem.W.methodObj (.ref f) (.ref x))
 | .ext φ=>φ h/\(∃ o,h.get? a=some o)/\∀ h1 h2:Heap,φ h1->(∀ o,h1.get? a=some o->h2.get? a=some o)->φ h2
def HOk(H:Hp)(h:Heap):Prop:=∀ a o,H a=some o->ObjOk P w H h a o
end
section
theorem ObjOk.lt(x:ObjOk P w H h a o):a < h.objs.size:=by
 cases o with
 | lst xs=>obtain⟨_,_,_,_,e⟩:=x;exact Qo e
 | tup xs=>obtain⟨_,_,_,p⟩:=x;exact p.up.lt
 | dK b=>obtain⟨_,_,_,_,o,_,_,e,_⟩:=x;exact Qo e
 | dT b=>obtain⟨_,_,_,_,o,_,_,e,_⟩:=x;exact Qo e
 | set S n=>obtain⟨o,_,_,_,e,_⟩:=x;exact Qo e
 | ins C dx fs=>obtain⟨_,_,_,e,_⟩:=x;exact Qo e
 | own y=>obtain⟨_,e⟩:=x;exact Qo e
 | xd fs=>obtain⟨_,⟨_,_,_,e,_⟩,_⟩:=x;exact Qo e
 | rng lo hi=>obtain⟨_,_,_,e⟩:=x;exact Qo e
 | frz c u=>obtain⟨e,_⟩:=x;exact Qo e
 | tbl ps=>exact Qo (show h.get? a=some _ from x)
 | met f y=>exact Qo (show h.get? a=some _ from x)
 | ext φ=>obtain⟨_,⟨_,e⟩,_⟩:=x;exact Qo e
variable {a:Addr} in
theorem Paired.mapP{α β:Type}{F G:α->β->Prop}:∀{d:List α}{c:List β},Paired F d c->(∀ a b,F a b->G a b)->Paired G d c
 | _,_,.nil,_=>.nil
 | _,_,.cons r t,f=>.cons (f _ _ r) (Paired.mapP t f)
theorem ObjOk.stay(x:ObjOk P w H h a o)(k:∀ b u,(b=a\/H b=some (.own a))->h.get? b=some u->h'.get? b=some u)(D:∀ b,H b=some (.own a)->H' b=some (.own a))(A:∀ b xs,H b=some (.tup xs)->H' b=some (.tup xs)):ObjOk P w H' h' a o:=by
 induction o with
 | lst xs=>obtain⟨z,j,n,r,e⟩:=x;exact⟨z,j,n,r,k _ _ (.inl rfl) e⟩
 | tup xs=>obtain⟨z,j,r,g,e,c⟩:=x;exact⟨z,j,r,g,k _ _ (.inl rfl) e,c⟩
 | dK l=>obtain⟨z,y,s,r,g,es,i,e,c⟩:=x;exact⟨z,y,s,r,g,es,i,k _ _ (.inl rfl) e,c⟩
 | dT l =>
  obtain⟨z,y,xs,r,g,es,i,e,c⟩:=x;exact⟨z,y,xs,Paired.mapP r λp q z=>⟨z.1,A _ _ z.2.1,z.2.2⟩,g,es,i,k _ _ (.inl rfl) e,c⟩
 | set S n=>obtain⟨g,es,i,t,e,c⟩:=x;exact⟨g,es,i,t,k _ _ (.inl rfl) e,c⟩
 | ins C dx fs =>
  obtain⟨d,z,ne,e,mA,⟨m,es,i,E,c⟩,r⟩:=x;exact⟨D _ d,z,ne,k _ _ (.inl rfl) e,mA,⟨m,es,i,k _ _ (.inr d) E,c⟩,r⟩
 | own y=>obtain⟨g,e⟩:=x;exact⟨g,k _ _ (.inl rfl) e⟩
 | xd fs=>obtain⟨mA,⟨m,es,i,e,c⟩,r⟩:=x;exact⟨mA,⟨m,es,i,k _ _ (.inl rfl) e,c⟩,r⟩
 | rng lo hi=>obtain⟨t,u,v,e⟩:=x;exact⟨t,u,v,k _ _ (.inl rfl) e⟩
 | frz g u B=>obtain⟨e,q⟩:=x;exact⟨k _ _ (.inl rfl) e,B q⟩
 | tbl ps =>
  have e:h.get? a=some {cls:=.none,data:=.fields ps}:=x;show h'.get? a=some {cls:=.none,data:=.fields ps};exact k a _ (.inl rfl) e
 | met f y =>
  have e:h.get? a=some (PySem.W.methodObj (.ref f) (.ref y)):=x;show h'.get? a=some (PySem.W.methodObj (.ref f) (.ref y));exact k a _ (.inl rfl) e
 | ext φ=>obtain⟨p,⟨o,e⟩,st⟩:=x;exact⟨st _ _ p λo q=>k _ _ (.inl rfl) q,⟨o,k _ _ (.inl rfl) e⟩,st⟩
theorem HOk.lt(x:HOk P w H h)(e:H a=some o):a < h.objs.size:=(x a o e).lt
theorem HOk.fresh{a:Addr}(x:HOk P w H h)(e:h.objs.size<=a):H a=none:=by
 cases q:H a with
 | none=>rfl
 | some u=>exact Qk (Yu (x.lt q) e) (YK _)
theorem HOk.kept(x:HOk P w H h)(k:∀ b u,h.get? b=some u->h'.get? b=some u):HOk P w H h':=λa o e=>
 (x a o e).stay (λb u _ q=>k b u q) (λ_ q=>q) λ_ _ q=>q
theorem HOk.laid{a:Addr}(x:HOk P w H h)(k:∀ b u,h.get? b=some u->h'.get? b=some u)(g:h.objs.size<=a)(new:ObjOk P w (upd H a o) h' a o):HOk P w (upd H a o) h':=λb u e=>by
 have f:=x.fresh g;by_cases d:b=a
 ·subst d;rw[Ca]at e;cases e;exact new
 ·rw[A9 d]at e;exact(x b u e).stay (λc v _ q=>k c v q) (λc q=>by rw[A9 (FN q f)];exact q) λc xs q=>by rw[A9 (FN q f)];exact q
end
def Rd(H:Hp)(a:Addr)(u:HO):Prop:=H a=some u\/∃ o,H a=some (.frz o u)
theorem Rd.of(h:H a=some u):Rd H a u:=.inl h
theorem Rd.ok(r:Rd H a u)(x:HOk P w H h):ObjOk P w H h a u:=by
 rcases r with r |⟨o,r⟩
 ·exact x a u r
 ·obtain⟨_,q⟩:=x a _ r;exact q
def Mut:Option HO->Prop
 | some (.lst _)=>True
 | some (.dK _)=>True
 | some (.dT _)=>True
 | some (.set _ _)=>True
 | some (.ins _ _ _)=>True
 | some (.ext _)=>True
 | _=>False
section
theorem HOk.write(ok:HOk P w H h)(g:Mut (H x))(l:e=x\/H e=some (.own x))(k:∀ b u,b≠e->h.get? b=some u->h'.get? b=some u)(j:∃ u,h'.get? e=some u)(new:ObjOk P w (upd H x o') h' x o'):HOk P w (upd H x o') h':=λb u q=>by
 have d:∀ c y,H c=some (.own y)->c≠x:=λc y r z=>by subst z;rw[r]at g;exact g
 have f:∀ c xs,H c=some (.tup xs)->c≠x:=λc xs r z=>by subst z;rw[r]at g;exact g
 by_cases i:b=x
 ·subst i;rw[Ca]at q;cases q;exact new
 ·rw[A9 i]at q;by_cases a:b=e
  ·have m:H b=some (.own x):=by
    rcases l with z | z
    ·exact Qk (a.trans z) i
    ·rw[a];exact z
   rw[q]at m;cases m;obtain⟨v,n⟩:=j;exact⟨v,by rw[a];exact n⟩
  ·refine(ok b u q).stay (λc v hc r=>k c v ?_ r) (λc r=>by rw[A9 (d c b r)];exact r) λc xs r=>by rw[A9 (f c xs r)];exact r
   rcases hc with rfl | hc
   ·exact a
   ·rintro rfl;rcases l with z | z
    ·exact d c b hc z
    ·rw[hc]at z;cases z;exact i rfl
end
structure Un(fs ex:List Addr)(H H':Hp)(h h':Heap):Prop where
 keep:∀ b o,h.get? b=some o->H b=none->b∉fs->b∉ex->h'.get? b=some o
 slot:∀ b o,h.get? b=some o->H b=none->b∈fs->b∉ex->∃ sl,h'.get? b=some {o with slots:=sl}
 free:∀ b o,h.get? b=some o->H b=none->b∉ex->H' b=none
 there:∀ b o,h.get? b=some o->b∉ex->∃ o',h'.get? b=some o'
 tups:∀ b xs,H b=some (.tup xs)->H' b=some (.tup xs)
 frzs:∀ b o u,H b=some (.frz o u)->H' b=some (.frz o u)
 tbls:∀ b ps,H b=some (.tbl ps)->∃ more,H' b=some (.tbl (ps++more))
section
theorem Un.any(u:Un fs ex H H1 h h1)(q:h.get? b=some a)(n:H b=none)(c:b∉ex):∃ e,h1.get? b=some {a with slots:=e}:=by
 by_cases d:b∈fs
 ·exact u.slot b a q n d c
 ·exact⟨a.slots,u.keep b a q n d c⟩
theorem Un.trans(a:Un fs ex H H1 h h1)(b:Un fs ex H1 H2 h1 h2):Un fs ex H H2 h h2 where
 keep:=λc e q n hc d=>b.keep c e (a.keep c e q n hc d) (a.free c e q n d) hc d
 slot:=λc e q n hc d=>by
  obtain⟨l,f⟩:=a.slot c e q n hc d;obtain⟨g,i⟩:=b.slot c _ f (a.free c e q n d) hc d;exact⟨g,i⟩
 free:=λc e q n d=>by
  obtain⟨o',f⟩:=a.there c e q d;exact b.free c o' f (a.free c e q n d) d
 there:=λc e q d=>by
  obtain⟨o',f⟩:=a.there c e q d;exact b.there c o' f d
 tups:=λc xs q=>b.tups c xs (a.tups c xs q)
 frzs:=λc e xs q=>b.frzs c e xs (a.frzs c e xs q)
 tbls:=λc ps q=>by
  obtain⟨k,f⟩:=a.tbls c ps q;obtain⟨j,i⟩:=b.tbls c _ f;exact⟨k++j,by rw[i,Array.append_assoc]⟩
theorem Un.kept(k:∀ b u,h.get? b=some u->h'.get? b=some u):Un fs ex H H h h' :=
 ⟨λb a q _ _ _=>k b a q,λb a q _ _ _=>⟨a.slots,k b a q⟩,λ_ _ _ n _=>n,λb a q _=>⟨a,k b a q⟩,λ_ _ q=>q,λ_ _ _ q=>q,λ_ ps q=>⟨#[],by rw[q];simp⟩⟩
theorem Un.refl:Un fs ex H H h h:=Un.kept λ_ _ q=>q
theorem Un.laid{h:Heap}{a:Addr}(k:∀ b u,h.get? b=some u->h'.get? b=some u)(d:h.objs.size<=a)(c:H a=none):Un fs ex H (upd H a o) h h' where
 keep:=λb u q _ _ _=>k b u q
 slot:=λb u q _ _ _=>⟨u.slots,k b u q⟩
 free:=λb u q n _=>by rw[A9 (Ys (Yu (Qo q) d))];exact n
 there:=λb u q _=>⟨u,k b u q⟩
 tups:=λb xs q=>by rw[A9 (FN q c)];exact q
 frzs:=λb u xs q=>by rw[A9 (FN q c)];exact q
 tbls:=λb ps q=>⟨#[],by rw[A9 (FN q c),q];simp⟩
theorem Un.write(c:Mut (H x))(j:e=x\/H e=some (.own x))(k:∀ b u,b≠e->h.get? b=some u->h'.get? b=some u)(f:∃ u,h'.get? e=some u):Un fs ex H (upd H x o) h h':=by
 have i:∀ b,H b=none->b≠x:=λb n z=>by subst z;rw[n]at c;exact c
 have g:∀ b,H b=none->b≠e:=λb n z=>by
  subst z;rcases j with r | r
  ·exact i b n r
  ·rw[n]at r;cases r
 have d:∀ b u,H b=some u->¬ Mut (some u)->b≠x:=λb u q nm z=>by subst z;rw[q]at c;exact nm c
 refine⟨λb u q n _ _=>k b u (g b n) q,λb u q n _ _=>⟨u.slots,k b u (g b n) q⟩,λb u q n _=>by rw[A9 (i b n)];exact n,λb u q _=>?_,
  λb xs q=>by rw[A9 (d b _ q λz=>z)];exact q,λb u xs q=>by rw[A9 (d b _ q λz=>z)];exact q,λb ps q=>⟨#[],by rw[A9 (d b _ q λz=>z),q];simp⟩⟩
 by_cases a:b=e
 ·subst a;exact f
 ·exact⟨u,k b u a q⟩
theorem Un.mono(u:Un fs ex H H1 h h1)(f:∀ b∈fs,b∈fs')(d:∀ b∈ex,b∈ex'):Un fs' ex' H H1 h h1 :=
 ⟨λb c q n e a=>u.keep b c q n (λz=>e (f b z)) λz=>a (d b z),λ_ _ q n _ a=>u.any q n λz=>a (d _ z),λb c q n a=>u.free b c q n λz=>a (d b z),λb c q a=>u.there b c q λz=>a (d b z),u.tups,u.frzs,u.tbls⟩
end
def trk(h:Heap)(H:Hp):List Addr:=(List.range h.objs.size).filter λa=>(H a).isSome
def Ef(h:Heap)(H:Hp):Heap:=PySem.W.hideAll h (trk h H)
theorem Z8(h:Heap)(H:Hp):(Ef h H).objs.size=h.objs.size:=PySem.W.hideAll_size _ _
theorem Z9(e:h.get? b=some o)(n:H b=none):(Ef h H).get? b=some o :=
 PySem.W.hideAll_get _ e λa=>by
  have q:(H b).isSome=true:=(List.mem_filter.mp a).2;rw[n]at q;simp at q
theorem aa(e:(Ef h H).get? b=some o):h.get? b=some o/\H b=none:=by
 have a:h.get? b=some o:=PySem.W.of_hideAll (trk h H) e;refine⟨a,?_⟩;cases q:H b with
 | none=>rfl
 | some x =>
  have c:b∈trk h H:=List.mem_filter.mpr ⟨List.mem_range.mpr (Qo a),by simp[q]⟩;have z:(Ef h H).get? b=none:=PySem.W.hideAll_none (trk h H) c;rw[z]at e;cases e
def ac(g h:Heap)(L:Addr):List (Addr×Obj):=(List.range h.objs.size).filterMap λa=>if a=L\/(g.get? a).isSome=true then none else(h.get? a).map λo=>(a,o)
def Au(g h:Heap)(L d:Addr):List (Addr×Obj):=(ac g h L).filter λp=>decide (p.1≠d)
structure Mod(K:PySem.W.Frag)(mg:Str->Option Value)(base:Heap):Prop where
 kin:K.In base
 glob:base.Ns mainGlobals mg
 blt:∃ mb,base.Ns builtinsNs mb/\∀ x:Str,x≠"__name__"->mb x=bootBuiltins x
 nolimit:base.NoLimit
structure Cx where
 prog:Program
 w:World
 K:PySem.W.Frag
 mg:Str->Option Value
 base:Heap
 A:Around
 N:List Str
 s₀:Shared
 H₀:Hp
 env:Env
 outer:List Env
 stack:List Env
 ex:List Addr
 fn:Str->Bool
 calm:Bool
 pn:List (Addr×Obj)
 xe:Value->Shared->Prop
def frs(l:List Env):List Addr:=l.filterMap (·.frame)
abbrev Cx.fs(X:Cx):List Addr:=frs X.outer
def Vis(sc:Scope)(x:Str):Prop:=sc.names.lookup x=some .local\/sc.names.lookup x=some .cell\/sc.names.lookup x=some .free
def Loc(sc:Scope)(x:Str):Prop:=sc.names.lookup x=some .local\/sc.names.lookup x=some .cell
def ae(env:Env)(h:Heap)(m:Str->Option Value)(x:Str)(u:Value):Prop :=
 (env.kindOf x=some .local/\m x=some u)\/((env.kindOf x=some .cell\/env.kindOf x=some .free)/\∃ c,env.cells.lookup x=some c/\h.IsCell c (some u))
structure Cx.Ok(X:Cx):Prop where
 mod:Mod X.K X.mg X.base
 kind:X.env.scope.kind=.function
 glob:X.env.globals=mainGlobals
 blt:X.env.builtins=builtinsNs
 above:X.s₀.heap.objs.size<=X.env.locals
 inj:∀ x y c,X.env.cells.lookup x=some c->X.env.cells.lookup y=some c->x=y
 has:∀ x,(X.env.kindOf x=some .cell\/X.env.kindOf x=some .free)->∃ c,X.env.cells.lookup x=some c
 cab:∀ x c,X.fn x=true->X.env.cells.lookup x=some c->X.s₀.heap.objs.size<=c
 hd:X.calm=true->X.A.handled=none
 frames:X.A.frames=some X.stack
 stk:X.stack=X.outer\/(X.stack=X.env::X.outer/\X.env.frame=some X.env.locals)
 exf:∀ b∈X.ex,b≠X.env.locals/\∀ x c,X.env.cells.lookup x=some c->c≠b
 bs:∀ b o,X.base.get? b=some o->X.s₀.heap.get? b=some o/\X.H₀ b=none
 bsz:X.base.objs.size<=X.s₀.heap.objs.size
 noex:∀ b o,X.base.get? b=some o->b∉X.ex
 exfs:∀ b∈X.ex,b∉X.fs
 funs:X.s₀.heap.FunFrames X.base X.outer
 frf:∀ b∈X.fs,X.H₀ b=none
structure Inv(X:Cx)(pins:List (Addr×Obj))(σ:List (Option V))(H:Hp)(s:Shared):Prop where
 ok:X.Ok
 os:s.os=X.s₀.os
 bare:AllBare s.gens
 base:Un X.fs X.ex X.H₀ H X.s₀.heap s.heap
 loc:∃ m,s.heap.Ns X.env.locals m/\∀(i:Nat)(x:Str)(v:V),X.N[i]?=some x->σ[i]?=some (some v)->Vis X.env.scope x->∃ u,RelV v u/\ae X.env s.heap m x u
 cell:∀ x c,X.env.cells.lookup x=some c->∃ v,s.heap.IsCell c v
 free:H X.env.locals=none
 freeC:∀ x c,X.env.cells.lookup x=some c->H c=none
 pin:∀ p∈X.pn++pins,s.heap.get? p.1=some p.2/\H p.1=none/\p.1≠X.env.locals/\p.1∉X.fs/\∀ v,p.2.data≠.cell v
 hok:HOk X.prog X.w H s.heap
 len:σ.length=X.N.length
section
theorem Cx.Ok.nofr{X:Cx}(ok:X.Ok)(e:X.base.get? b=some o):b∉X.fs:=λa=>by
 have:=(ok.funs.mem a).1;rw[e]at this;cases this
theorem Inv.bs(I:Inv X pins σ H s):∀ b o,X.base.get? b=some o->s.heap.get? b=some o/\H b=none:=λb o e=>
 ⟨I.base.keep b o (I.ok.bs b o e).1 (I.ok.bs b o e).2 (I.ok.nofr e) (I.ok.noex b o e),I.base.free b o (I.ok.bs b o e).1 (I.ok.bs b o e).2 (I.ok.noex b o e)⟩
theorem Inv.bk(I:Inv X pins σ H s):∀ b o,X.base.get? b=some o->s.heap.get? b=some o:=λb o e=>(I.bs b o e).1
theorem Inv.mod(I:Inv X pins σ H s):Mod X.K X.mg X.base:=I.ok.mod
theorem Inv.kIn(I:Inv X pins σ H s):X.K.In s.heap:=I.ok.mod.kin.keeps I.bk
theorem Inv.nolimit(I:Inv X pins σ H s):s.heap.NoLimit:=I.ok.mod.nolimit.keeps I.bk
theorem Inv.fr(I:Inv X pins σ H s):∃ m,Fr X.base X.env.locals s.heap m :=
 let⟨m,hn,_⟩:=I.loc
 ⟨m,hn,I.bk,Yt I.ok.bsz I.ok.above⟩
theorem Inv.lt(I:Inv X pins σ H s):X.env.locals < s.heap.objs.size:=let⟨_,hn,_⟩:=I.loc;hn.lt
theorem Inv.sz(I:Inv X pins σ H s):X.s₀.heap.objs.size<=s.heap.objs.size:=Yt I.ok.above (Nat.le_of_lt I.lt)
theorem Inv.nofs(I:Inv X pins σ H s){a:Addr}(h:s.heap.objs.size<=a):a∉X.fs:=λc=>by
 obtain⟨_,o,b,_⟩:=I.ok.funs.mem c;exact Qk (Yu (Qo b) (Yt I.sz h)) (YK _)
theorem Inv.cne(I:Inv X pins σ H s):∀ x c,X.env.cells.lookup x=some c->c≠X.env.locals:=λx c e z=>by
 obtain⟨v,o,d,hd⟩:=I.cell x c e;obtain⟨m,⟨o',es,f,a,b,_⟩,_⟩:=I.loc;rw[z,a]at d;cases d;rw[b]at hd;cases hd
theorem Inv.funs(I:Inv X pins σ H s):s.heap.FunFrames X.base X.outer:=by
 have all:∀(l:List Env),(∀ b∈frs l,b∈X.fs)->X.s₀.heap.FunFrames X.base l->s.heap.FunFrames X.base l:=by
  intro l;induction l with
  | nil=>intro _ _;trivial
  | cons env r i =>
   intro f hl;obtain⟨h,⟨L,o,a,k,j,hd⟩,g⟩:=hl;have d:L∈X.fs:=f L (by unfold frs;rw[List.filterMap_cons,a];exact Ye);obtain⟨m,e⟩:=I.base.slot L o j (I.ok.frf L d) d λz=>I.ok.exfs L z d;exact⟨h,⟨L,_,a,k,e,hd⟩,i (λb c=>f b (by unfold frs;rw[List.filterMap_cons,a];exact Yd _ c)) g⟩
 exact all X.outer (λ_ c=>c) I.ok.funs
theorem Inv.stack(I:Inv X pins σ H s):s.heap.FunFrames X.base X.stack:=by
 rcases I.ok.stk with e |⟨e,a⟩
 ·rw[e];exact I.funs
 ·rw[e];obtain⟨m,b,_⟩:=I.loc;refine .cons (by rw[I.ok.kind];decide) a b ?_ I.funs;exact Heap.get?_none_of_le (Yt I.ok.bsz I.ok.above)
theorem Inv.stkSub(I:Inv X pins σ H s):∀ b∈frs X.stack,b∈X.env.locals::X.fs:=λb a=>by
 rcases I.ok.stk with e |⟨e,c⟩
 ·rw[e]at a;exact Yd _ a
 ·rw[e]at a;unfold frs at a;rw[List.filterMap_cons,c]at a;exact a
theorem Inv.stkFree(I:Inv X pins σ H s):∀ b∈frs X.stack,H b=none:=λb a=>by
 rcases Yo.mp (I.stkSub b a)with e | a
 ·rw[e];exact I.free
 ·obtain⟨_,o,c,_⟩:=I.ok.funs.mem a;exact I.base.free b o c (I.ok.frf b a) λz=>I.ok.exfs b z a
theorem Inv.step{ch:List Addr}(I:Inv X pins σ H s)(g:∀ b∈ch,(b∈X.ex\/X.s₀.heap.objs.size<=b)/\b≠X.env.locals/\(∀ x c,X.env.cells.lookup x=some c->c≠b)/\∀ p∈X.pn++pins,p.1≠b)(keep:∀ b o,b≠X.env.locals->b∉X.fs->b∉ch->s.heap.get? b=some o->H b=none->h'.get? b=some o)(slot:∀ b o,b≠X.env.locals->b∈X.fs->b∉ch->s.heap.get? b=some o->H b=none->∃ G,h'.get? b=some {o with slots:=G})(free:∀ b o,b∉ch->s.heap.get? b=some o->H b=none->H' b=none)(there:∀ b o,b∉ch->s.heap.get? b=some o->∃ o',h'.get? b=some o')(tups:∀ b xs,H b=some (.tup xs)->H' b=some (.tup xs))(frzs:∀ b o u,H b=some (.frz o u)->H' b=some (.frz o u))(tbls:∀ b ps,H b=some (.tbl ps)->∃ D,H' b=some (.tbl (ps++D)))(ns:∀ m,s.heap.Ns X.env.locals m->h'.Ns X.env.locals m)(hok:HOk X.prog X.w H' h')(Q:AllBare g'):
  Inv X pins σ H' {s with heap:=h',gens:=g',drawn:=d',toks:=t'}:=by
 have E:∀ b o,X.s₀.heap.get? b=some o->b≠X.env.locals:=λb o e=>Ys (Yu (Qo e) I.ok.above)
 have t:∀ b o,X.s₀.heap.get? b=some o->b∉X.ex->b∉ch:=λb o e a y=>by
  rcases(g b y).1 with z | z
  ·exact a z
  ·exact Qk (Yu (Qo e) z) (YK _)
 have f:∀ x c,X.env.cells.lookup x=some c->∀ v,s.heap.IsCell c v->h'.IsCell c v:=by
  rintro x c e v ⟨o,A,hd⟩;have h:c∉ch:=λz=>(g c z).2.2.1 x c e rfl;by_cases hc:c∈X.fs
  ·obtain⟨G,q⟩:=slot c o (I.cne x c e) hc h A (I.freeC x c e);exact⟨_,q,hd⟩
  ·exact⟨o,keep c o (I.cne x c e) hc h A (I.freeC x c e),hd⟩
 refine⟨I.ok,I.os,Q,⟨λb o e n y a=>?_,λb o e n y a=>?_,λb o e n a=>?_,λb o e a=>?_,λb xs e=>tups b xs (I.base.tups b xs e),λb o xs e=>frzs b o xs (I.base.frzs b o xs e),λb ps e=>?_⟩,?_,λx c e=>?_,?_,λx c e=>?_,λp K=>?_,hok,I.len⟩
 ·exact keep b o (E b o e) y (t b o e a) (I.base.keep b o e n y a) (I.base.free b o e n a)
 ·obtain⟨G,j⟩:=I.base.slot b o e n y a;obtain⟨F,B⟩:=slot b _ (E b o e) y (t b o e a) j (I.base.free b o e n a);exact⟨F,B⟩
 ·obtain⟨o',j⟩:=I.base.there b o e a;exact free b o' (t b o e a) j (I.base.free b o e n a)
 ·obtain⟨o',j⟩:=I.base.there b o e a;exact there b o' (t b o e a) j
 ·obtain⟨L,j⟩:=I.base.tbls b ps e;obtain⟨P,B⟩:=tbls b _ j;exact⟨L++P,by rw[B,Array.append_assoc]⟩
 ·obtain⟨m,N,hl⟩:=I.loc;refine⟨m,ns m N,λi x v j B O=>?_⟩;obtain⟨u,r,l⟩:=hl i x v j B O;refine⟨u,r,?_⟩;rcases l with l |⟨k,c,e,z⟩
  ·exact .inl l
  ·exact .inr ⟨k,c,e,f x c e _ z⟩
 ·obtain⟨v,z⟩:=I.cell x c e;exact⟨v,f x c e v z⟩
 ·obtain⟨m,⟨o,_,_,A,_⟩,_⟩:=I.loc;exact free _ o (λz=>(g _ z).2.1 rfl) A I.free
 ·obtain⟨v,o,A,hd⟩:=I.cell x c e;exact free c o (λz=>(g c z).2.2.1 x c e rfl) A (I.freeC x c e)
 ·obtain⟨e,n,ne,J,d⟩:=I.pin p K;have h:p.1∉ch:=λz=>(g p.1 z).2.2.2 p K rfl;exact⟨keep p.1 p.2 ne J h e n,free p.1 p.2 h e n,ne,J,d⟩
theorem Inv.un(I:Inv X pins σ H s)(u:Un X.fs [] H H' s.heap h')(hok:HOk X.prog X.w H' h'):Inv X pins σ H' {s with heap:=h',toks:=t'}:=by
 obtain⟨m,⟨o,es,k,f,r⟩,_⟩:=id I.loc;obtain⟨j,h⟩:=u.any f I.free (by simp)
 exact I.step (g':=s.gens) (d':=s.drawn) (ch:=[]) (λ_ z=>nomatch z) (λb o _ c _ e n=>u.keep b o e n c (by simp)) (λb o _ c _ e n=>u.slot b o e n c (by simp)) (λb o _ e n=>u.free b o e n (by simp)) (λb o _ e=>u.there b o e (by simp)) u.tups u.frzs u.tbls (λi g=>by
  obtain⟨o',es',d,a,r'⟩:=g;rw[f]at a;cases a;exact⟨_,es',d,h,r'⟩) hok I.bare
theorem Inv.call(I:Inv X pins σ H s)(u:Un (frs X.stack) ch H H' s.heap h')(hok:HOk X.prog X.w H' h')(j:AllBare g')(d:∀ b∈ch,(b∈X.ex\/X.s₀.heap.objs.size<=b)/\b≠X.env.locals/\(∀ x c,X.env.cells.lookup x=some c->c≠b)/\∀ p∈X.pn++pins,p.1≠b):
  Inv X pins σ H' {s with heap:=h',gens:=g',drawn:=d',toks:=t'}:=by
 obtain⟨m,⟨o,es,t,h,r⟩,_⟩:=id I.loc;obtain⟨q,g⟩:=u.any h I.free λz=>(d _ z).2.1 rfl
 exact I.step (ch:=ch) d (λb o g i hc e n=>u.keep b o e n (λz=>(Yo.mp (I.stkSub b z)).elim g i) hc) (λb o _ _ hc e n=>u.any e n hc) (λb o hc e n=>u.free b o e n hc) (λb o hc e=>u.there b o e hc) u.tups u.frzs u.tbls (λl k=>by
  obtain⟨o',es',f,a,r'⟩:=k;rw[h]at a;cases a;exact⟨_,es',f,g,r'⟩) hok j
theorem Inv.turned(I:Inv X pins σ H s)(k:∀ b o,b≠a->s.heap.get? b=some o->h'.get? b=some o)(t:H a=none)(f:a≠X.env.locals)(h1:a∈X.ex\/X.s₀.heap.objs.size<=a)(h2:∀ x c,X.env.cells.lookup x=some c->c≠a)(h:∀ p∈X.pn++pins,p.1≠a):Inv X pins σ H {s with heap:=h',toks:=t'}:=by
 have d:∀ b u,H b=some u->b≠a:=λb u e z=>by rw[z,t]at e;cases e
 refine I.step (g':=s.gens) (d':=s.drawn) (ch:=[a]) (λb g=>?_) (λb o _ _ hc e _=>k b o (λz=>hc (by simp[z])) e) (λb o _ _ hc e _=>⟨o.slots,k b o (λz=>hc (by simp[z])) e⟩) (λ_ _ _ _ n=>n)
  (λb o hc e=>⟨o,k b o (λz=>hc (by simp[z])) e⟩) (λ_ _ e=>e) (λ_ _ _ e=>e) (λb ps e=>⟨#[],by rw[e];simp⟩) (λm j=>?_) (λb u e=>?_) I.bare
 ·have e:b=a:=by simpa using g
  subst e;exact⟨h1,f,h2,h⟩
 ·obtain⟨o,es,i,l,r⟩:=j;exact⟨o,es,i,k _ o (YV f) l,r⟩
 ·refine(I.hok b u e).stay (λc v hc q=>k c v ?_ q) (λ_ q=>q) λ_ _ q=>q;rcases hc with z | z
  ·rw[z];exact d b u e
  ·exact d c _ z
theorem Inv.tok(I:Inv X pins σ H s)(t:Nat):Inv X pins σ H {s with toks:=t}:=I.un (h':=s.heap) (t':=t) Un.refl I.hok
theorem Inv.kept(I:Inv X pins σ H s)(k:∀ b u,s.heap.get? b=some u->h'.get? b=some u):Inv X pins σ H {s with heap:=h',toks:=t'}:=I.un (Un.kept k) (I.hok.kept k)
theorem Inv.laid{a:Addr}(I:Inv X pins σ H s)(k:∀ b u,s.heap.get? b=some u->h'.get? b=some u)(c:s.heap.objs.size<=a)(new:ObjOk X.prog X.w (upd H a o) h' a o):
  Inv X pins σ (upd H a o) {s with heap:=h',toks:=t'}:=I.un (Un.laid k c (I.hok.fresh c)) (I.hok.laid k c new)
theorem Inv.write(I:Inv X pins σ H s)(d:Mut (H x))(c:e=x\/H e=some (.own x))(k:∀ b u,b≠e->s.heap.get? b=some u->h'.get? b=some u)(a:∃ u,h'.get? e=some u)(new:ObjOk X.prog X.w (upd H x o) h' x o):Inv X pins σ (upd H x o) {s with heap:=h',toks:=t'}:=I.un (Un.write d c k a) (I.hok.write d c k a new)
theorem Inv.pins_of(I:Inv X pins σ H s)(h:∀ p∈a,s.heap.get? p.1=some p.2/\H p.1=none/\p.1≠X.env.locals/\p.1∉X.fs/\∀ v,p.2.data≠.cell v):Inv X a σ H s :=
 ⟨I.ok,I.os,I.bare,I.base,I.loc,I.cell,I.free,I.freeC,λp b=>(Yz.mp b).elim (λz=>I.pin p (List.mem_append_left _ z)) (h p),I.hok,I.len⟩
theorem PZ{N:List Str}(e:N.Nodup){j:Nat}{x:Str}(a:N[i]?=some x)(b:N[j]?=some x):i=j:=by
 obtain⟨h1,c⟩:=YW.mp a;obtain⟨h2,d⟩:=YW.mp b;exact(List.getElem_inj e).mp (c.trans d.symm)
theorem af(I:Inv X pins σ H s)(hN:X.N.Nodup)(hi:X.N[i]?=some x)(l:Loc X.env.scope x)(r:RelV v u)(h:∀ s',Inv X pins (σ.set i (some v)) H s'->(∃ a,Heap.SameBut a s.heap s'.heap/\(a=X.env.locals\/X.env.cells.lookup x=some a))->Q () s')(hf:X.fn x=true\/X.env.scope.names.lookup x=some .local:=by first | exact .inl rfl | exact .inr rfl | assumption):wpAny M A (storeName X.env x u) Q E s:=by
 obtain⟨m,hn,hl⟩:=id I.loc;have P:(X.env.scope.kind==.class||(X.env.scope.kind==.module&&X.env.locals != X.env.globals))=false:=by rw[I.ok.kind];rfl
 have hiσ:i < σ.length:=by rw[I.len];exact(YW.mp hi).1
 have cne:=I.cne
 have tracked:∀{a:Addr}{h':Heap},(∃ o,s.heap.get? a=some o/\H a=none)->Heap.SameBut a s.heap h'->HOk X.prog X.w H h':=λ{a h'}ha f b ob e=>by
  obtain⟨_,_,t⟩:=ha;refine(I.hok b ob e).stay (λc S hc q=>(f.2 c ?_).trans q) (λ_ q=>q) λ_ _ q=>q;rintro rfl;rcases hc with rfl | hc
  ·rw[t]at e;cases e
  ·rw[t]at hc;cases hc
 rcases l with D | D
 ·refine wpAny_storeName_local D hn (λh' U f=>?_) P;obtain⟨oL,_,_,hoL,_⟩:=id hn;refine h _ ⟨I.ok,I.os,I.bare,⟨λb o e n F l=>?_,λb o e n F l=>?_,I.base.free,λb o e l=>?_,I.base.tups,I.base.frzs,I.base.tbls⟩,⟨_,U,λj y v' g B e3=>?_⟩,λy c e=>?_,I.free,I.freeC,λp hp=>?_,tracked ⟨oL,hoL,I.free⟩ f,by simpa using I.len⟩ ⟨_,f,.inl rfl⟩
  ·exact(f.2 b (Ys (Yu (Qo e) I.ok.above))).trans (I.base.keep b o e n F l)
  ·obtain⟨sl,g⟩:=I.base.slot b o e n F l;exact⟨sl,(f.2 b (Ys (Yu (Qo e) I.ok.above))).trans g⟩
  ·obtain⟨o',g⟩:=I.base.there b o e l;exact⟨o',(f.2 b (Ys (Yu (Qo e) I.ok.above))).trans g⟩
  ·by_cases J:j=i
   ·subst J;rw[hi]at g;cases g;rw[List.getElem?_set_self hiσ]at B;cases B;exact⟨u,r,.inl ⟨D,by simp⟩⟩
   ·rw[List.getElem?_set_ne (YV J)]at B;obtain⟨Z,r',q⟩:=hl j y v' g B e3;refine⟨Z,r',?_⟩;rcases q with⟨k,e⟩|⟨k,c,e,z⟩
    ·refine .inl ⟨k,?_⟩;have:y≠x:=λe=>J (PZ hN g (e▸hi));simp[this,e]
    ·exact .inr ⟨k,c,e,z.sameBut f (cne y c e)⟩
  ·obtain⟨S,z⟩:=I.cell y c e;exact⟨S,z.sameBut f (cne y c e)⟩
  ·obtain⟨e,n,ne,Y,d⟩:=I.pin p hp;exact⟨(f.2 p.1 ne).trans e,n,ne,Y,d⟩
 ·have G:X.fn x=true:=by
   rcases hf with z | z
   ·exact z
   ·rw[z]at D;cases D
  obtain⟨c,hc⟩:=I.ok.has x (.inl D);obtain⟨S,z⟩:=I.cell x c hc;refine wpAny_storeName_cell I.ok.kind D hc z (λh' O f=>?_);obtain⟨oc,R,K⟩:=id z;refine h {s with heap:=h'} ⟨I.ok,I.os,I.bare,⟨λb o e n F l=>?_,λb o e n F l=>?_,I.base.free,λb o e l=>?_,I.base.tups,I.base.frzs,I.base.tbls⟩,⟨m,hn.sameBut f (YV (cne x c hc)),λj y v' g B e3=>?_⟩,λy T e=>?_,I.free,I.freeC,λp hp=>?_,tracked ⟨oc,R,I.freeC x c hc⟩ f,by simpa using I.len⟩ ⟨c,f,.inr hc⟩
  ·exact(f.2 b (Ys (Yu (Qo e) (I.ok.cab x c G hc)))).trans (I.base.keep b o e n F l)
  ·obtain⟨sl,g⟩:=I.base.slot b o e n F l;exact⟨sl,(f.2 b (Ys (Yu (Qo e) (I.ok.cab x c G hc)))).trans g⟩
  ·obtain⟨o',g⟩:=I.base.there b o e l;exact⟨o',(f.2 b (Ys (Yu (Qo e) (I.ok.cab x c G hc)))).trans g⟩
  ·by_cases J:j=i
   ·subst J;rw[hi]at g;cases g;rw[List.getElem?_set_self hiσ]at B;cases B;exact⟨u,r,.inr ⟨.inl D,c,hc,O⟩⟩
   ·rw[List.getElem?_set_ne (YV J)]at B;obtain⟨Z,r',q⟩:=hl j y v' g B e3;refine⟨Z,r',?_⟩;rcases q with q |⟨k,T,e,z'⟩
    ·exact .inl q
    ·refine .inr ⟨k,T,e,z'.sameBut f ?_⟩;rintro rfl;exact J (PZ hN g (I.ok.inj _ _ _ e hc▸hi))
  ·by_cases L:T=c
   ·subst L;exact⟨_,O⟩
   ·obtain⟨w2,z2⟩:=I.cell y T e;exact⟨w2,z2.sameBut f L⟩
  ·obtain⟨e,n,ne,Y,d⟩:=I.pin p hp;refine⟨(f.2 p.1 ?_).trans e,n,ne,Y,d⟩;intro q;rw[q,R]at e;have q':oc=p.2:=YE e;exact d S (by rw[<- q'];exact K)
theorem Jm(I:Inv X pins σ H s)(d:X.N.Nodup)(hi:X.N[i]?=some x)(a:Loc X.env.scope x)(r:RelV v u)(h:∀ s',Inv X pins (σ.set i (some v)) H s'->Q () s')(b:X.fn x=true\/X.env.scope.names.lookup x=some .local:=by first | exact .inl rfl | exact .inr rfl | assumption):wpAny M A (storeName X.env x u) Q E s :=
 af I d hi a r (λs' c _=>h s' c) b
theorem Inv.call'(I:Inv X pins σ H s)(d:s'.os=s.os)(u:Un (frs X.stack) ch H H' s.heap s'.heap)(hok:HOk X.prog X.w H' s'.heap)(f:AllBare s'.gens)(a:∀ b∈ch,(b∈X.ex\/X.s₀.heap.objs.size<=b)/\b≠X.env.locals/\(∀ x c,X.env.cells.lookup x=some c->c≠b)/\∀ p∈X.pn++pins,p.1≠b):Inv X pins σ H' s':=by
 obtain⟨h',g',d',t',o'⟩:=s';have e:o'=s.os:=d;subst e;exact I.call (g':=g') (t':=t') (d':=d') u hok f a
end
abbrev XK:=Value->Option Addr->Hp->Prop
abbrev St:=List (Option V)
abbrev VK:=V->Hp->Prop
abbrev TE:=St->Hp->VK->Prop
abbrev TT:=St->Hp->(Bool->Hp->Prop)->Prop
abbrev TA:=St->Hp->(List V->Hp->Prop)->Prop
structure GH where
 nx:St->Hp->Prop
 rt:VK
 bk:St->Hp->Prop:=λ_ _=>False
 ct:St->Hp->Prop:=λ_ _=>False
abbrev TS:=GH->St->Hp->Prop
def EP(X:Cx)(pins:List (Addr×Obj))(σ:St)(Q:VK)(u:Value)(s':Shared):Prop:=∃ v H',Inv X pins σ H' s'/\RelV v u/\Q v H'
def TP(X:Cx)(pins:List (Addr×Obj))(σ:St)(Q:Bool->Hp->Prop)(b:Bool)(s':Shared):Prop:=∃ H',Inv X pins σ H' s'/\Q b H'
def AP(X:Cx)(pins:List (Addr×Obj))(σ:St)(Q:List V->Hp->Prop)(us:List Value)(s':Shared):Prop:=∃ vs H',Inv X pins σ H' s'/\Vals vs us/\Q vs H'
def SP(X:Cx)(pins:List (Addr×Obj))(D:GH)(f:Flow)(s':Shared):Prop :=
 match f with
 | .next=>∃ σ' H',Inv X pins σ' H' s'/\D.nx σ' H'
 | .brk=>∃ σ' H',Inv X pins σ' H' s'/\D.bk σ' H'
 | .cont=>∃ σ' H',Inv X pins σ' H' s'/\D.ct σ' H'
 | .ret u=>∃ v σ' H',Inv X pins σ' H' s'/\RelV v u/\D.rt v H'
def PE(X:Cx)(e:Expr)(t:TE):Prop :=
 ∀(pins:List (Addr×Obj))(s:Shared)(σ:St)(H:Hp)(Q:VK),Inv X pins σ H s->t σ H Q->wpAny (model X.prog X.w) X.A (eval e X.env) (EP X pins σ Q) X.xe s
def PT(X:Cx)(e:Expr)(t:TT):Prop :=
 ∀(pins:List (Addr×Obj))(s:Shared)(σ:St)(H:Hp)(Q:Bool->Hp->Prop),Inv X pins σ H s->t σ H Q->wpAny (model X.prog X.w) X.A (isTrue e X.env (eval e X.env)) (TP X pins σ Q) X.xe s
def PW(X:Cx)(e:Expr)(t:TT):Prop :=
 ∀(whole:Sem Value)(pins:List (Addr×Obj))(s:Shared)(σ:St)(H:Hp)(Q:Bool->Hp->Prop),Inv X pins σ H s->t σ H Q->wpAny (model X.prog X.w) X.A (isTrue e X.env whole) (TP X pins σ Q) X.xe s
theorem PW.pt(h:PW X e t):PT X e t:=h _
def PA(X:Cx)(es:List Expr)(t:TA):Prop :=
 ∀(pos:Pos)(pins:List (Addr×Obj))(s:Shared)(σ:St)(H:Hp)(Q:List V->Hp->Prop),Inv X pins σ H s->t σ H Q->wpAny (model X.prog X.w) X.A (spliced (backTo pos (starEach es X.env))) (AP X pins σ Q) X.xe s
def PS(X:Cx)(st:Stmt)(t:TS):Prop :=
 ∀(pins:List (Addr×Obj))(s:Shared)(σ:St)(H:Hp)(D:GH),Inv X pins σ H s->t D σ H->wpAny (model X.prog X.w) X.A (exec st X.env) (SP X pins D) X.xe s
def PSs(X:Cx)(st:List Stmt)(t:TS):Prop :=
 ∀(pins:List (Addr×Obj))(s:Shared)(σ:St)(H:Hp)(D:GH),Inv X pins σ H s->t D σ H->wpAny (model X.prog X.w) X.A (execs st X.env) (SP X pins D) X.xe s
theorem thn{α:Type}{t:Sem α}{Q b:α->Shared->Prop}(h:wpAny M A t Q E s)(c:∀ a s,Q a s->b a s):wpAny M A t b E s:=wpAny_mono h c λ_ _ x=>x
section
variable {X:Cx}
theorem bin(p:PE X a ta)(l:PE X b tb){σ:St}{R:V->V->Hp->Prop}(I:Inv X pins σ H s)(h:ta σ H λx H1=>tb σ H1 λy H2=>R x y H2){α:Type}{Q:α->Shared->Prop}{f:Value->Value->Sem α}(k:∀ v u e x y H2,Inv X pins σ H2 e->RelV x v->RelV y u->R x y H2->wpAny (model X.prog X.w) X.A (f v u) Q X.xe e):
  wpAny (model X.prog X.w) X.A (eval a X.env) (λv d=>wpAny (model X.prog X.w) X.A (eval b X.env) (λu c=>wpAny (model X.prog X.w) X.A (f v u) Q X.xe c) X.xe d) X.xe s:=by
 refine thn (p pins s σ H _ I h) λv m g=>?_;obtain⟨x,H1,o,r1,q1⟩:=g;refine thn (l pins m σ H1 _ o q1) λu e i=>?_;obtain⟨y,H2,n,j,q2⟩:=i;exact k v u e x y H2 n r1 j q2
def P0(i:Nat):TE:=λσ H Q=>∃ v,σ[i]?=some (some v)/\Q v H
def tC(v:V):TE:=λ_ H Q=>Q v H
theorem P1{pos:Pos}(g:X.N[i]?=some x)(k:Vis X.env.scope x)(hd:(x==("__debug__":Str))=false:=by decide)(f:(x==("__classdict__":Str))=false:=by decide):PE X (.Name x pos) (P0 i):=by
 intro pins s σ H Q I h;obtain⟨v,e,h⟩:=h;obtain⟨m,n,hl⟩:=I.loc;obtain⟨u,r,l⟩:=hl i x v g e k;have b:EP X pins σ Q u s:=⟨v,H,I,r,h⟩;rcases l with⟨d,j⟩|⟨d,c,hc,a⟩
 ·exact wpAny_Name (wpAny_loadName_local I.ok.kind d n j b) hd
 ·rcases d with d | d
  ·exact wpAny_Name (wpAny_loadName_cell I.ok.kind d hc a b) hd
  ·exact wpAny_Name (wpAny_loadName_free I.ok.kind d hc a b f) hd
theorem ag{i j pos}:PE X (.Constant (.int i) j pos) (tC (.int i)):=λ_ _ _ H _ I h=>wpAny_Constant_int ⟨.int i,H,I.tok _,⟨_,rfl⟩,h⟩
theorem ah{b j pos}:PE X (.Constant (.bool b) j pos) (tC (.bl b)):=λ_ _ _ H _ I h=>Constant_bool ⟨.bl b,H,I,rfl,h⟩
theorem ai{j pos}:PE X (.Constant .none j pos) (tC .non):=λ_ _ _ H _ I h=>Constant_none ⟨.non,H,I,rfl,h⟩
theorem P3{x j pos}:PE X (.Constant (.str x) j pos) (tC (.str x)):=λ_ _ _ H _ I h=>Calls.Constant_str ⟨.str x,H,I.tok _,⟨_,rfl⟩,h⟩
def Gl(X:Cx)(x:Str):Prop:=X.env.kindOf x=some .globalImplicit
theorem GJ{σ:St}(I:Inv X pins σ H s)(a:Gl X x)(b:X.mg x=some u)(h:Q u s)(hd:(x==("__debug__":Str))=false:=by decide):wpAny (model X.prog X.w) X.A (eval (.Name x pos) X.env) Q E s :=
 Calls.Name_function_global I.ok.kind a (Calls.loadGlobal_global (by rw[I.ok.glob];exact I.mod.glob.keeps I.bk) b h) hd
theorem EZ{E:Value->Shared->Prop}{σ:St}{pos:Pos}(I:Inv X pins σ H s)(a:Gl X x)(b:X.mg x=none)(c:bootBuiltins x=some u)(h:Q u s)(d:x≠"__name__":=by decide)(hd:(x==("__debug__":Str))=false:=by decide):wpAny (model X.prog X.w) X.A (eval (.Name x pos) X.env) Q E s:=by
 obtain⟨e,h1,h2⟩:=I.mod.blt;exact Calls.Name_function_global I.ok.kind a (Calls.loadGlobal_builtin (by rw[I.ok.glob];exact I.mod.glob.keeps I.bk) b (by rw[I.ok.blt];exact h1.keeps I.bk) ((h2 x d).trans c) h) hd
theorem aj(a:Gl X x)(b:X.mg x=some u)(r:RelV v u)(hd:(x==("__debug__":Str))=false:=by decide):PE X (.Name x pos) (tC v):=
 λ_ _ _ H _ I h=>GJ I a b ⟨v,H,I,r,h⟩ hd
theorem Jn{pos:Pos}(b:Gl X x)(d:X.mg x=none)(a:bootBuiltins x=some u)(r:RelV v u)(c:x≠"__name__":=by decide)(hd:(x==("__debug__":Str))=false:=by decide):PE X (.Name x pos) (tC v):=
 λ_ _ _ H _ I h=>EZ I b d a ⟨v,H,I,r,h⟩ c hd
def t2I(ta tb:TE)(k:Int->Int->Hp->Prop):St->Hp->Prop:=λσ H=>ta σ H λx H1=>tb σ H1 λy H2=>∃ i j,x=.int i/\y=.int j/\k i j H2
def ak(ta tb:TE):TE:=λσ H Q=>t2I ta tb (λi j H2=>Q (.int (i - j)) H2) σ H
variable {ta tb:TE}
theorem Bm(f:PE X a ta)(c:PE X b tb):PE X (.BinOp a .Sub b pos) (ak ta tb):=by
 intro pins s σ H Q I h;refine wpAny_BinOp (bin f c I h λv u k x y H2 e d g q=>?_);obtain⟨i,j,rfl,rfl,q⟩:=q;obtain⟨t,rfl⟩:=d;obtain⟨t',rfl⟩:=g;exact sub_int ⟨.int _,H2,e.tok _,⟨_,rfl⟩,q⟩
def al(t u:TT):TT:=λσ H Q=>t σ H λc H1=>if c=true then u σ H1 Q else Q false H1
def tOr(t u:TT):TT:=λσ H Q=>t σ H λc H1=>if c=true then Q true H1 else u σ H1 Q
def am(t:TT):TT:=λσ H Q=>t σ H λc H1=>Q (!c) H1
theorem ao(b:PT X a tA):PW X (.BoolOp .And [a] pos) tA:=by
 intro f pins s σ H Q I h;refine isTrue_and (thn (b pins s σ H Q I h) λc d e=>?_);cases c with
 | true=>exact isTrue_and_nil e
 | false=>exact e
theorem ap(b:PT X a tA):PW X (.BoolOp .Or [a] pos) tA:=by
 intro f pins s σ H Q I h;refine isTrue_or (thn (b pins s σ H Q I h) λc d e=>?_);cases c with
 | false=>exact isTrue_or_nil e
 | true=>exact e
theorem aq{Au:List Expr}(j:PT X a tA)(f:PW X (.BoolOp .And (b::Au) pos) tB'):PW X (.BoolOp .And (a::b::Au) pos) (al tA tB'):=by
 intro i pins s σ H Q I h;refine isTrue_and (thn (j pins s σ H _ I h) λc g d=>?_);obtain⟨H1,e,q1⟩:=d;cases c with
 | true=>exact f i pins g σ H1 Q e q1
 | false=>exact⟨H1,e,q1⟩
theorem ar{Au:List Expr}(j:PT X a tA)(f:PW X (.BoolOp .Or (b::Au) pos) tB'):PW X (.BoolOp .Or (a::b::Au) pos) (tOr tA tB'):=by
 intro i pins s σ H Q I h;refine isTrue_or (thn (j pins s σ H _ I h) λc g d=>?_);obtain⟨H1,e,q1⟩:=d;cases c with
 | true=>exact⟨H1,e,q1⟩
 | false=>exact f i pins g σ H1 Q e q1
theorem au(b:PT X a tA):PT X (.UnaryOp .Not a pos) (am tA):=by
 intro pins s σ H Q I h;exact isTrue_not (b pins s σ H (λc H1=>Q (!c) H1) I h)
def av(ta tb:TE):TE:=λσ H Q=>ta σ H λx H1=>∃ c,x=.bl c/\if c=true then tb σ H1 Q else Q (.bl false) H1
def aw(ta tb:TE):TE:=λσ H Q=>ta σ H λx H1=>∃ c,x=.bl c/\if c=true then Q (.bl true) H1 else tb σ H1 Q
def ax(ta:TE):TE:=λσ H Q=>ta σ H λx H1=>∃ c,x=.bl c/\Q (.bl (!c)) H1
theorem ay{op}(h:PE X a t):PE X (.BoolOp op [a] pos) t:=λpins s σ H Q I hw=>BoolOp_one (h pins s σ H Q I hw)
theorem az{Au:List Expr}(i:PE X a ta)(f:PE X (.BoolOp .And (b::Au) pos) tb):PE X (.BoolOp .And (a::b::Au) pos) (av ta tb):=by
 intro pins s σ H Q I h;refine BoolOp_and (thn (i pins s σ H _ I h) λv g d=>?_);obtain⟨x,H1,e,r1,q1⟩:=d;obtain⟨c,rfl,q1⟩:=q1;cases r1;refine wpAny_truthy_bool ?_;cases c with
 | true=>exact f pins g σ H1 Q e q1
 | false=>exact⟨.bl false,H1,e,rfl,q1⟩
theorem aA{Au:List Expr}(i:PE X a ta)(f:PE X (.BoolOp .Or (b::Au) pos) tb):PE X (.BoolOp .Or (a::b::Au) pos) (aw ta tb):=by
 intro pins s σ H Q I h;refine BoolOp_or (thn (i pins s σ H _ I h) λv g d=>?_);obtain⟨x,H1,e,r1,q1⟩:=d;obtain⟨c,rfl,q1⟩:=q1;cases r1;refine wpAny_truthy_bool ?_;cases c with
 | false=>exact f pins g σ H1 Q e q1
 | true=>exact⟨.bl true,H1,e,rfl,q1⟩
theorem aB(e:PE X a ta):PE X (.UnaryOp .Not a pos) (ax ta):=by
 intro pins s σ H Q I h;refine UnaryOp_ (thn (e pins s σ H _ I h) λv f b=>?_);obtain⟨x,H1,d,r1,q1⟩:=b;obtain⟨c,rfl,q1⟩:=q1;cases r1;exact not_of (wpAny_truthy_bool ⟨.bl (!c),H1,d,rfl,q1⟩)
def tIf(t:TT)(ta tb:TE):TE:=λσ H Q=>t σ H λc H1=>if c=true then ta σ H1 Q else tb σ H1 Q
theorem aC(hc:PT X c tA)(j:PE X a ta)(i:PE X b tb):PE X (.IfExp c a b pos) (tIf tA ta tb):=by
 intro pins s σ H Q I h;refine wpAny_IfExp (thn (hc pins s σ H _ I h) λd f e=>?_);obtain⟨H1,g,q1⟩:=e;cases d with
 | true=>exact j pins f σ H1 Q g q1
 | false=>exact i pins f σ H1 Q g q1
end
def SqL(K:PySem.W.Frag)(H:Hp)(a:Addr)(xs:List V):Prop :=
 Rd H a (.lst xs)\/
  ∃(o:Obj)(its:Array Value)(n:Nat),K.lookup a=some o/\o.cls=.type "list"/\o.dict=none/\o.data=.seq its n/\its.size<=sizeLine/\Vals xs its.toList
def SqT(K:PySem.W.Frag)(H:Hp)(a:Addr)(xs:List V):Prop :=
 Rd H a (.tup xs)\/
  ∃(o:Obj)(its:Array Value)(n:Nat),K.lookup a=some o/\o.cls=.type "tuple"/\o.dict=none/\o.data=.seq its n/\its.size<=sizeLine/\Vals xs its.toList
def aD:Value->Option V
 | .none=>some .non
 | .bool b=>some (.bl b)
 | .int i _=>some (.int i)
 | .str x _=>some (.str x)
 | .bytes b _=>some (.byt b)
 | .float b _=>some (.flt b)
 | .ref a=>some (.ref a)
 | .type n=>some (.ty n)
 | _=>none
theorem RelV.abs(r:RelV x u):aD u=some x:=by
 cases x with
 | non=>cases r;rfl
 | bl _=>cases r;rfl
 | int _=>obtain⟨t,rfl⟩:=r;rfl
 | str _=>obtain⟨t,rfl⟩:=r;rfl
 | byt _=>obtain⟨t,rfl⟩:=r;rfl
 | flt _=>obtain⟨t,rfl⟩:=r;rfl
 | ref _=>cases r;rfl
 | ty _=>cases r;rfl
theorem RelV.inj(r:RelV x u)(q:RelV y u):x=y:=YE (r.abs.symm.trans q.abs)
theorem Vals.inj:∀{xs ys:List V}{us:List Value},Vals xs us->Vals ys us->xs=ys
 | _,_,_,.nil,.nil=>rfl
 | _,_,_,.cons r t,.cons r' t'=>by rw[r.inj r',Vals.inj t t']
section
theorem SqL.of{K:PySem.W.Frag}(h:H a=some (.lst xs)):SqL K H a xs:=.inl (.inl h)
theorem SqT.of{K:PySem.W.Frag}(h:H a=some (.tup xs)):SqT K H a xs:=.inl (.inl h)
theorem Inv.list{σ:St}(I:Inv X pins σ H s)(h:SqL X.K H a xs):∃ b:List Value,Vals xs b/\PlainL s.heap a b.toArray/\xs.length<=sizeLine:=by
 rcases h with h |⟨o,b,n,d,hc,hd,c,f,r⟩
 ·obtain⟨z,b,n,r,e⟩:=h.ok I.hok;exact⟨b,r,⟨_,n,e,rfl,rfl,rfl⟩,z⟩
 ·refine⟨b.toList,r,⟨o,n,I.kIn a o d,hc,hd,by simpa using c⟩,?_⟩;have e:=r.length;simp only[YS]at e;lia
theorem Inv.tupP{σ:St}(I:Inv X pins σ H s)(h:SqT X.K H a xs):∃ b:List Value,Vals xs b/\TupP s.heap a b.toArray/\xs.length<=sizeLine:=by
 rcases h with h |⟨o,b,n,d,hc,hd,c,f,r⟩
 ·obtain⟨z,b,r,p⟩:=h.ok I.hok;exact⟨b,r,p,z⟩
 ·refine⟨b.toList,r,⟨o,I.kIn a o d,hc,hd,n,by simpa using c⟩,?_⟩;have e:=r.length;simp only[YS]at e;lia
theorem Inv.tuple{σ:St}(I:Inv X pins σ H s)(h:SqT X.K H a xs):∃ b:List Value,Vals xs b/\IsTup s.heap a b.toArray/\xs.length<=sizeLine :=
 let⟨b,r,p,z⟩:=I.tupP h
 ⟨b,r,p.up,z⟩
theorem Inv.list_inj{σ:St}(I:Inv X pins σ H s)(h:SqL X.K H a xs)(h':SqL X.K H a ys):xs=ys:=by
 obtain⟨c,r,⟨o,n,e,_,_,d⟩,_⟩:=I.list h;obtain⟨b,r',⟨o',i,g,_,_,f⟩,_⟩:=I.list h';rw[e]at g;cases g;rw[d]at f;injection f with d1 _;have:c=b:=by simpa using Qh Array.toList d1
 subst this;exact r.inj r'
theorem Inv.tuple_inj{σ:St}(I:Inv X pins σ H s)(h:SqT X.K H a xs)(h':SqT X.K H a ys):xs=ys:=by
 obtain⟨c,r,⟨o,e,_,n,d⟩,_⟩:=I.tuple h;obtain⟨b,r',⟨o',g,_,i,f⟩,_⟩:=I.tuple h';rw[e]at g;cases g;rw[d]at f;injection f with d1 _;have:c=b:=by simpa using Qh Array.toList d1
 subst this;exact r.inj r'
end
abbrev Cx.wish(X:Cx)(E:Value->Shared->Prop):Cx:={X with xe:=E}
abbrev Cx.nox(X:Cx):Cx:=X.wish λ_ _=>False
theorem Cx.Ok.wish{X:Cx}(ok:X.Ok)(E:Value->Shared->Prop):(X.wish E).Ok :=
 ⟨ok.mod,ok.kind,ok.glob,ok.blt,ok.above,ok.inj,ok.has,ok.cab,ok.hd,ok.frames,ok.stk,ok.exf,ok.bs,ok.bsz,ok.noex,ok.exfs,ok.funs,ok.frf⟩
theorem Cx.Ok.unwish{X:Cx}(ok:(X.wish E).Ok):X.Ok :=
 ⟨ok.mod,ok.kind,ok.glob,ok.blt,ok.above,ok.inj,ok.has,ok.cab,ok.hd,ok.frames,ok.stk,ok.exf,ok.bs,ok.bsz,ok.noex,ok.exfs,ok.funs,ok.frf⟩
section
variable {X:Cx}{pins:List (Addr×Obj)}{σ:St}{H:Hp}{s:Shared}{E:Value->Shared->Prop} in
theorem Inv.wish(I:Inv X pins σ H s)(E:Value->Shared->Prop):Inv (X.wish E) pins σ H s:=⟨I.ok.wish E,I.os,I.bare,I.base,I.loc,I.cell,I.free,I.freeC,I.pin,I.hok,I.len⟩
theorem Inv.unwish{σ:St}(I:Inv (X.wish E) pins σ H s):Inv X pins σ H s:=⟨I.ok.unwish,I.os,I.bare,I.base,I.loc,I.cell,I.free,I.freeC,I.pin,I.hok,I.len⟩
theorem SP.unwish(h:SP (X.wish E) pins D f s'):SP X pins D f s':=by
 cases f with
 | next=>obtain⟨σ',H',I,q⟩:=h;exact⟨σ',H',I.unwish,q⟩
 | brk=>obtain⟨σ',H',I,q⟩:=h;exact⟨σ',H',I.unwish,q⟩
 | cont=>obtain⟨σ',H',I,q⟩:=h;exact⟨σ',H',I.unwish,q⟩
 | ret u=>obtain⟨v,σ',H',I,r,q⟩:=h;exact⟨v,σ',H',I.unwish,r,q⟩
theorem PE.nox(h:PE X.nox e t):PE X e t:=λpins s σ H Q I hw=>
 wpAny_mono (h pins s σ H Q (I.wish _) hw) ((by rintro _ _ ⟨v,H',a,r,q⟩;exact⟨v,H',a.unwish,r,q⟩)) λ_ _ z=>Qe z
theorem PT.nox(h:PT X.nox e t):PT X e t:=λpins s σ H Q I hw=>
 wpAny_mono (h pins s σ H Q (I.wish _) hw) ((by rintro _ _ ⟨H',a,q⟩;exact⟨H',a.unwish,q⟩)) λ_ _ z=>Qe z
theorem PSs.nox{st:List Stmt}(h:PSs X.nox st t):PSs X st t:=λpins s σ H D I hw=>
 wpAny_mono (h pins s σ H D (I.wish _) hw) (λ_ _ q=>q.unwish) λ_ _ z=>Qe z
end
section
variable {t u:TS}{te:TE}
def aE:TS:=λD σ H=>D.nx σ H
def aF(t u:TS):TS:=λD σ H=>t {D with nx:=u D} σ H
theorem aG:PSs X [] aE:=λ_ _ σ H _ I h=>wpAny_execs_nil ⟨σ,H,I,h⟩
theorem aH{st:Stmt}{Au:List Stmt}(h1:PS X st t)(h2:PSs X Au u):PSs X (st::Au) (aF t u):=by
 intro pins s σ H D I h;refine wpAny_execs_cons (thn (h1 pins s σ H {D with nx:=u D} I h) λf a q=>?_);cases f with
 | next =>
  obtain⟨σ',H',b,q⟩:=q;exact h2 pins a σ' H' D b q
 | ret v=>exact q
 | brk=>exact q
 | cont=>exact q
theorem aI{st:Stmt}(h1:PS X st t):PSs X [st] t:=by
 intro pins s σ H D I h;refine wpAny_execs_cons (thn (h1 pins s σ H D I h) λf a q=>?_);cases f with
 | next=>exact wpAny_execs_nil q
 | ret v=>exact q
 | brk=>exact q
 | cont=>exact q
theorem Inv.quiet{σ:St}(I:Inv X pins σ H s):interactive X.env=false:=by simp[interactive,I.ok.kind]
def aJ(te:TE):TS:=λD σ H=>te σ H λ_ H1=>D.nx σ H1
theorem aK(b:PE X e te)(a:swapsWith e none pos.line X.env=pure false:=by rfl):PS X (.Expr e pos) (aJ te):=by
 intro pins s σ H D I h;exact wpAny_Expr_any (thn (b pins s σ H _ I h) (by rintro v d ⟨x,H1,c,r1,q1⟩;exact⟨σ,H1,c,q1⟩)) I.quiet a
def aL(te:TE):TS:=λD σ H=>te σ H D.rt
theorem aM(b:PE X e te):PS X (.Return (some e) pos) (aL te):=by
 intro pins s σ H D I h;exact wpAny_Return_some (thn (b pins s σ H _ I h) (by rintro v c ⟨x,H1,a,r1,q1⟩;exact⟨x,σ,H1,a,r1,q1⟩))
def aN(c:TT)(t u:TS):TS:=λD σ H=>c σ H λb H1=>if b=true then t D σ H1 else u D σ H1
theorem aO(hc:PT X c tc)(j:PSs X a t)(i:PSs X b u):PS X (.If c a b pos) (aN tc t u):=by
 intro pins s σ H D I h;refine wpAny_If (thn (hc pins s σ H _ I h) λd f e=>?_);obtain⟨H1,g,q1⟩:=e;cases d with
 | true=>exact j pins f σ H1 D g q1
 | false=>exact i pins f σ H1 D g q1
end
abbrev TG:=V->St->Hp->(St->Hp->Prop)->Prop
abbrev TGs:=List V->St->Hp->(St->Hp->Prop)->Prop
def PG(X:Cx)(target:Expr)(t:TG):Prop :=
 ∀(pins:List (Addr×Obj))(s:Shared)(σ:St)(H:Hp)(v:V)(u:Value)(Q:St->Hp->Prop),Inv X pins σ H s->RelV v u->t v σ H Q->
  wpAny (model X.prog X.w) X.A (assign target X.env u) (λ_ s'=>∃ σ' H',Inv X pins σ' H' s'/\Q σ' H') X.xe s
def PGs(X:Cx)(ts:List Expr)(t:TGs):Prop :=
 ∀(pins:List (Addr×Obj))(s:Shared)(σ:St)(H:Hp)(vs:List V)(us:List Value)(Q:St->Hp->Prop),Inv X pins σ H s->Vals vs us->t vs σ H Q->
  wpAny (model X.prog X.w) X.A (assignInOrder ((assignEach ts X.env).map (·.2)) us) (λ_ s'=>∃ σ' H',Inv X pins σ' H' s'/\Q σ' H') X.xe s
abbrev L1:=V->V->V->Hp->(Hp->Prop)->Prop
def P4(X:Cx)(t:L1):Prop :=
 ∀(pins:List (Addr×Obj))(s:Shared)(σ:St)(H:Hp)(o i v:V)(ov iv u:Value)(Q:Hp->Prop),Inv X pins σ H s->RelV o ov->RelV i iv->RelV v u->t o i v H Q->
  wpAny (model X.prog X.w) X.A (setItem ov iv u) (λ_ s'=>∃ H',Inv X pins σ H' s'/\Q H') X.xe s
abbrev TIp:=V->V->Hp->VK->Prop
def PIp(X:Cx)(op:Operator)(t:TIp):Prop :=
 ∀(pins:List (Addr×Obj))(s:Shared)(σ:St)(H:Hp)(x y:V)(v u:Value)(Q:VK),Inv X pins σ H s->RelV x v->RelV y u->t x y H Q->
  wpAny (model X.prog X.w) X.A (inplaceOp op v u) (EP X pins σ Q) X.xe s
section
def Di(i:Nat):TG:=λv σ H Q=>Q (σ.set i (some v)) H
theorem Dj(d:X.N.Nodup)(hi:X.N[i]?=some x)(a:Loc X.env.scope x)(b:X.fn x=true\/X.env.scope.names.lookup x=some .local:=by first | exact .inl rfl | exact .inr rfl | assumption):PG X (.Name x pos) (Di i):=by
 intro pins s σ H v u Q I r h;exact wpAny_assign_Name (Jm I d hi a r (λs' c=>⟨_,H,c,h⟩) b)
def Ch:TGs:=λvs σ H Q=>vs=[]/\Q σ H
def BT(t:TG)(u:TGs):TGs:=λvs σ H Q=>∃ v r,vs=v::r/\t v σ H λσ' H'=>u r σ' H' Q
theorem Jo:PGs X [] Ch:=by
 intro pins s σ H b a Q I r h;obtain⟨e,h⟩:=h;subst e;cases r;exact assignInOrder_nil ⟨σ,H,I,h⟩
theorem Eg(h1:PG X e t)(h2:PGs X es u)(c:(assignEach (e::es) X.env).map (·.2)=assign e X.env::(assignEach es X.env).map (·.2):=by rfl):PGs X (e::es) (BT t u):=by
 intro pins s σ H j i Q I r h;obtain⟨v,k,b,h⟩:=h;subst b;cases r with
 | cons r g =>
  rw[c];refine assignInOrder_cons (thn (h1 pins s σ H _ _ _ I r h) λ_ d a=>?_);obtain⟨σ1,H1,f,q1⟩:=a;exact h2 pins d σ1 H1 _ _ Q f g q1
def Cl(K:PySem.W.Frag)(n:Nat)(t:TGs):TG:=λv σ H Q=>∃ a xs,v=.ref a/\SqT K H a xs/\xs.length=n/\t xs σ H Q
theorem Jp{pos:Pos}{k:Nat}(hc:X.calm=true)(h:PGs X es t)(p:(assignEach es X.env).length=n:=by rfl)(c:(assignEach es X.env).findIdx? (·.1)=none:=by rfl):PG X (.Tuple es k pos) (Cl X.K n t):=by
 intro pins s σ H v u Q I r hw;obtain⟨a,xs,f,m,hl,hw⟩:=hw;subst f;cases r;obtain⟨g,d,i,q⟩:=I.tuple m;refine assign_Tuple_tuple (I.ok.hd hc) i (by simp[p,<- hl,d.length]) c λh' j=>?_;have l:Inv X pins σ H {s with heap:=h'}:=I.kept (t':=s.toks) λb o e=>j b o (Ys (Qo e)) e;exact h pins _ σ H xs _ Q l (by simpa using d) hw
def aP(to ti:TE)(t:L1):TG:=λv σ H Q=>to σ H λo H1=>ti σ H1 λi H2=>t o i v H2 λH3=>Q σ H3
theorem aQ(z:PE X o to)(hi:PE X i f)(k:P4 X t)(w:∀ v,assign (.Subscript o i pos) X.env v=(do
   let a <- holding [v] (eval o X.env)
   let d <- holding [v,a] (eval i X.env)
   standAt pos
   holding [v,a,d] (setItem a d v)
   release [v,a,d] []):=by intro _;rfl):PG X (.Subscript o i pos) (aP to f t):=by
 intro pins s σ H v u Q I r h;rw[w];refine Ql (wpAny_holding (thn (z pins s σ H _ I h) λa m c=>?_));obtain⟨x,H1,p,r1,q1⟩:=c;refine Ql (wpAny_holding (thn (hi pins m σ H1 _ p q1) λd j b=>?_));obtain⟨y,H2,n,g,q2⟩:=b;refine Ql (wpAny_standAt (Ql (wpAny_holding (thn (k pins j σ H2 x y v a d u _ n r1 g r q2) λ_ A e=>?_))));obtain⟨q,l,q3⟩:=e;exact wpAny_release ⟨σ,q,l,q3⟩
def L4(te:TE)(g:TG):TS:=λD σ H=>te σ H λx H1=>g x σ H1 D.nx
theorem aR{pos:Pos}(b:PE X e te)(f:PG X tg g)(c:swapsWithSole [tg] e pos.line X.env=pure false:=by rfl)(hw:swappedStores [tg] e X.env=pure none:=by rfl)(h1:(assignEach [tg] X.env).map (·.2)=[assign tg X.env]:=by rfl):PS X (.Assign [tg] e pos) (L4 te g):=by
 intro pins s σ H D I h;refine wpAny_Assign_stores (thn (b pins s σ H _ I h) λv d a=>?_) c hw;obtain⟨x,H1,i,r1,q1⟩:=a;rw[h1];exact thn (f pins d σ H1 x v _ i r1 q1) λ_ j q=>q
theorem aS{pos:Pos}(g:X.N.Nodup)(hi:X.N[i]?=some x)(j:Loc X.env.scope x)(c:PE X e te)(d:swapsWith e (some (.Name x pos')) pos.line X.env=pure false:=by rfl)(b:X.fn x=true\/X.env.scope.names.lookup x=some .local:=by first | exact .inl rfl | exact .inr rfl | assumption):
  PS X (.Assign [.Name x pos'] e pos) (L4 te (Di i)):=by
 intro pins s σ H D I h;refine wpAny_Assign_Name (thn (c pins s σ H _ I h) λv m a=>?_) d;obtain⟨y,H1,k,r1,q1⟩:=a;exact Jm k g hi j r1 (λl f=>⟨_,H1,f,q1⟩) b
def aT(i:Nat)(te:TE)(ti:TIp):TS:=λD σ H=>∃ x,σ[i]?=some (some x)/\te σ H λy H1=>ti x y H1 λz H2=>D.nx (σ.set i (some z)) H2
theorem aU(F:X.N.Nodup)(hi:X.N[i]?=some x)(n:Loc X.env.scope x)(L:PE X e te)(K:PIp X op p)(q:X.fn x=true\/X.env.scope.names.lookup x=some .local:=by first | exact .inl rfl | exact .inr rfl | assumption):
  PS X (.AugAssign (.Name x pos') op e pos) (aT i te p):=by
 intro pins s σ H D I h;obtain⟨v,B,h⟩:=h;obtain⟨m,G,hl⟩:=I.loc;have o:Vis X.env.scope x:=by rcases n with k | k;exact .inl k;exact .inr (.inl k)
 obtain⟨u,r,l⟩:=hl i x v hi B o;refine wpAny_AugAssign_Name ?_
 have go:wpAny (model X.prog X.w) X.A (eval e X.env) (λw f=>wpAny (model X.prog X.w) X.A (inplaceOp op u w) (λr j=>wpAny (model X.prog X.w) X.A (storeName X.env x r) (λ_=>SP X pins D .next) X.xe j) X.xe f) X.xe s:=by
  refine thn (L pins s σ H _ I h) λw E d=>?_;obtain⟨y,H1,J,r1,q1⟩:=d;refine thn (K pins E σ H1 v y u w _ J r r1 q1) λz R g=>?_;obtain⟨S,H2,P,t,q2⟩:=g;exact Jm P F hi n t (λT O=>⟨_,H2,O,q2⟩) q
 rcases l with⟨a,Q⟩|⟨a,c,hc,b⟩
 ·exact wpAny_loadName_local I.ok.kind a G Q go
 ·rcases a with a | a
  ·exact wpAny_loadName_cell I.ok.kind a hc b go
  ·rcases n with k | k
   ·have:X.env.scope.names.lookup x=some .free:=a;rw[k]at this;cases this
   ·have:X.env.scope.names.lookup x=some .free:=a;rw[k]at this;cases this
end
section
def aV(c:TT)(tb:TS):TS:=λD σ H=>∃ W:Nat->St->Hp->Prop,(∃ m,W m σ H)/\∀ m σ H,W m σ H->
 c σ H λb H1=>if b=true then ∃ N:St->Hp->Prop,(∀ σ' H',N σ' H'->∃ m',m' < m/\W m' σ' H')/\tb {D with nx:=N,ct:=N,bk:=D.nx} σ H1 else D.nx σ H1
theorem aW(l:PassesOwn (model X.prog X.w) X.A X.env X.xe)(hc:PT X c tc)(r:PSs X body tb):PS X (.While c body [] pos) (aV tc tb):=by
 intro pins s σ H D I h;obtain⟨W,⟨p,y⟩,e⟩:=h;refine wpAny_While (codeAny_whileLoop (λn s'=>∃ σ' H',Inv X pins σ' H' s'/\W n σ' H') ?_ p ⟨σ,H,I,y⟩);rintro n t ⟨σ1,H1,u,x⟩;refine wpAny_passesOwn l (thn (hc pins t σ1 H1 _ u (e n σ1 H1 x)) λb q d=>?_);obtain⟨H2,o,q2⟩:=d;cases b with
 | true =>
  obtain⟨N,m,q2⟩:=q2;rw[if_pos rfl];refine wpAny_passesOwn l (thn (r pins q σ1 H2 _ o q2) λf z q3=>?_);cases f with
  | next =>
   obtain⟨σ3,a,j,n3⟩:=q3;obtain⟨g,k,i⟩:=m σ3 a n3;exact⟨g,k,σ3,a,j,i⟩
  | cont =>
   obtain⟨σ3,a,j,n3⟩:=q3;obtain⟨g,k,i⟩:=m σ3 a n3;exact⟨g,k,σ3,a,j,i⟩
  | brk=>exact q3
  | ret v=>exact q3
 | false =>
  rw[if_neg YT];exact wpAny_execs_nil ⟨σ1,H2,o,q2⟩
end
structure It where
 go:Nat->Hp->Prop
 yld:Nat->Hp->V->Hp->Prop
 stop:Nat->Hp->Prop
def Du(X:Cx)(pins:List (Addr×Obj))(H:Hp)(b:Addr):Prop :=
 H b=none/\b≠X.env.locals/\b∉X.fs/\(b∈X.ex\/X.s₀.heap.objs.size<=b)/\(∀ x c,X.env.cells.lookup x=some c->c≠b)/\∀ p∈X.pn++pins,p.1≠b
theorem Inv.fpOk{σ:St}{b:Addr}(I:Inv X pins σ H s)(a:s.heap.objs.size<=b)(f:H' b=none):Du X pins H' b:=by
 refine⟨f,Nat.ne_of_gt (Yu I.lt a),I.nofs a,.inr (Yt I.sz a),λx c e z=>?_,λp d z=>?_⟩
 ·obtain⟨v,q⟩:=I.cell x c e;exact Qk (Yu q.lt (by rw[z];exact a)) (YK _)
 ·exact Qk (Yu (Qo (I.pin p d).1) (by rw[z];exact a)) (YK _)
structure Eh(P:Program)(w:World)(K:PySem.W.Frag)(tg:Expr)(J:It)(fp:List Addr)(it:Addr)(tn:Nat->Heap->Prop):Prop where
 mem:it∈fp
 obj:∀ i h,tn i h->∀ b∈fp,∃ o,h.get? b=some o/\∀ v,o.data≠.cell v
 keep:∀ i h h',tn i h->(∀ b∈fp,∀ o,h.get? b=some o->h'.get? b=some o)->tn i h'
 item:∀(X:Cx),X.prog=P->X.w=w->X.K=K->X.calm=true->∀(i:Nat)(pins:List (Addr×Obj))(s:Shared)(σ:St)(H:Hp)(E:Value->Shared->Prop),Inv X pins σ H s->(∀ b∈fp,Du X pins H b)->tn i s.heap->J.go i H->
  wpAny (model P w) X.A (pyNext (.ref it)) (λr s1=>∃ u,r=some u/\
   wpAny (model P w) X.A (letOwnedTupleGo tg (.ref it) u) (λ_ s2=>∃ x H',Inv X pins σ H' s2/\RelV x u/\J.yld i H x H'/\tn (i+1) s2.heap/\∀ b∈fp,H' b=none) E s1) E s
 done:∀(X:Cx),X.prog=P->X.w=w->X.K=K->X.calm=true->∀(i:Nat)(pins:List (Addr×Obj))(s:Shared)(σ:St)(H:Hp)(E:Value->Shared->Prop),Inv X pins σ H s->(∀ b∈fp,Du X pins H b)->tn i s.heap->J.stop i H->
  wpAny (model P w) X.A (pyNext (.ref it)) (λr s1=>r=none/\Inv X pins σ H s1) E s
 self:∀(A:Around)(i:Nat)(s:Shared)(Q:Value->Shared->Prop)(E:Value->Shared->Prop),tn i s.heap->Q (.ref it) s->wpAny (model P w) A (pyIter (.ref it)) Q E s
abbrev TI:=St->Hp->(It->Hp->Prop)->Prop
def PIE(X:Cx)(pins:List (Addr×Obj))(σ:St)(tg:Expr)(R:It->Hp->Prop)(itv:Value)(s2:Shared):Prop :=
 ∃(it:Addr)(fp:List Addr)(tn:Nat->Heap->Prop)(J:It)(H':Hp),itv=.ref it/\Inv X pins σ H' s2/\Eh X.prog X.w X.K tg J fp it tn/\tn 0 s2.heap/\(∀ b∈fp,Du X pins H' b)/\R J H'
def PI(X:Cx)(tg iter:Expr)(wi:TI):Prop :=
 ∀(pins:List (Addr×Obj))(s:Shared)(σ:St)(H:Hp)(R:It->Hp->Prop),Inv X pins σ H s->wi σ H R->
  wpAny (model X.prog X.w) X.A (eval iter X.env) (λv s1=>wpAny (model X.prog X.w) X.A (pyIter v) (PIE X pins σ tg R) X.xe s1) X.xe s
theorem L5(c:s.heap.get? b=some o)(hc:o.cls=.type n)(hd:o.data=.fields vs)(d:["enumerate","zip","dict_itemiterator","dict_reverseitemiterator","odict_iterator","itertools.zip_longest","itertools.pairwise"].contains n=false)(a:Q () s):wpAny M A (letOwnedTupleGo tg (.ref b) u) Q E s:=by
 unfold letOwnedTupleGo
 cases tg <;> first
  | exact Qm a
  |(cases u <;> first
    | exact Qm a
    |(refine Ql (wpAny_load c ?_)
      rw[hc,hd]
      show wpAny M A (if(["enumerate","zip","dict_itemiterator","dict_reverseitemiterator","odict_iterator","itertools.zip_longest","itertools.pairwise"].contains n&&vs[0]?==some (rawInt _))=true then _ else _) Q E s
      rw[if_neg (by intro h;rw[d,Bool.false_and]at h;cases h)]
      exact Qm a))
def Itl(K:PySem.W.Frag)(a:Addr):It :=
 ⟨λi H=>∃ xs x,SqL K H a xs/\xs[i]?=some x,λi H x H'=>H'=H/\∀ xs,SqL K H a xs->xs[i]?=some x,λi H=>∃ xs,SqL K H a xs/\xs.length<=i⟩
def Itt(K:PySem.W.Frag)(a:Addr):It :=
 ⟨λi H=>∃ xs x,SqT K H a xs/\xs[i]?=some x,λi H x H'=>H'=H/\∀ xs,SqT K H a xs->xs[i]?=some x,λi H=>∃ xs,SqT K H a xs/\xs.length<=i⟩
def Itr(lo:Int)(n:Nat):It:=⟨λi _=>i < n,λi H x H'=>H'=H/\x=.int (lo+i),λi _=>n<=i⟩
theorem P5{K:PySem.W.Frag}(a g:Addr):Eh P w K tg (Itl K a) [g] g (λi h=>h.IsListIter g a i) where
 mem:=by simp
 obj:=λi h st b f=>by
  have e:b=g:=by simpa using f
  subst e;obtain⟨o,e,c,d⟩:=st;exact⟨o,e,λv z=>by rw[d]at z;cases z⟩
 keep:=λi h h' st k=>st.at λo e=>k g (by simp) o e
 item:=by
  intro X n hw y hc i pins s σ H E I l st D;subst n hw y;obtain⟨xs,x,m,G⟩:=D;obtain⟨t,B,p,S⟩:=I.list m;obtain⟨u,O,L⟩:=B.get G;obtain⟨F,A,Q,J,r,q⟩:=l g (by simp);refine wpAny_pyNext_list_item st p.isList (x:=u) (by simpa using O) λh' j T=>?_;have R:Inv X pins σ H {s with heap:=h'}:=I.turned (t':=s.toks) (λb o f e=>(T.2 b f).trans e) F A J r q;obtain⟨o,e,c,d⟩:=id j;exact⟨u,rfl,L5 (s:={s with heap:=h'}) e c d (by decide) ⟨x,H,R,L,⟨rfl,λys N=>by rw[I.list_inj N m];exact G⟩,j,λb f=>(l b f).1⟩⟩
 done:=by
  intro X n hw y hc i pins s σ H E I l st D;subst n hw y;obtain⟨xs,m,G⟩:=D;obtain⟨t,B,p,S⟩:=I.list m;obtain⟨F,A,Q,J,r,q⟩:=l g (by simp);have hl:=B.length;exact wpAny_pyNext_list_end (I.ok.hd hc) st p.isList (by simp;lia) λh' eb=>⟨rfl,I.turned (t':=s.toks) (λb o f e=>eb b o f e) F A J r q⟩
 self:=λ_ _ _ _ _ st h=>wpAny_pyIter_listiter st h
theorem P6{K:PySem.W.Frag}(a j:Addr):Eh P w K tg (Itt K a) [j] j (λi h=>h.IsTupleIter j a i) where
 mem:=by simp
 obj:=λi h st b f=>by
  have e:b=j:=by simpa using f
  subst e;obtain⟨o,e,c,d⟩:=st;exact⟨o,e,λv z=>by rw[d]at z;cases z⟩
 keep:=λi h h' st k=>st.at λo e=>k j (by simp) o e
 item:=by
  intro X q hw y hc i pins s σ H E I m st D;subst q hw y;obtain⟨xs,x,n,G⟩:=D;obtain⟨g,B,p,S⟩:=I.tuple n;obtain⟨u,O,L⟩:=B.get G;obtain⟨F,A,Q,J,t,r⟩:=m j (by simp);refine wpAny_pyNext_tuple_item st (show s.heap.IsTuple a g.toArray from p) (x:=u) (by simpa using O) λh' l T=>?_;have R:Inv X pins σ H {s with heap:=h'}:=I.turned (t':=s.toks) (λb o f e=>(T.2 b f).trans e) F A J t r;obtain⟨o,e,c,d⟩:=id l;exact⟨u,rfl,L5 (s:={s with heap:=h'}) e c d (by decide) ⟨x,H,R,L,⟨rfl,λys N=>by rw[I.tuple_inj N n];exact G⟩,l,λb f=>(m b f).1⟩⟩
 done:=by
  intro X q hw y hc i pins s σ H E I m st D;subst q hw y;obtain⟨xs,n,G⟩:=D;obtain⟨g,B,p,S⟩:=I.tuple n;obtain⟨F,A,Q,J,t,r⟩:=m j (by simp);have hl:=B.length;exact wpAny_pyNext_tuple_end (I.ok.hd hc) st (show s.heap.IsTuple a g.toArray from p) (by simp;lia) λh' eb=>⟨rfl,I.turned (t':=s.toks) (λb o f e=>eb b o f e) F A J t r⟩
 self:=λ_ _ _ _ _ st h=>wpAny_pyIter_tupleiter st h
theorem aX{K:PySem.W.Frag}(a:Addr)(lo:Int)(n:Nat):Eh P w K tg (Itr lo n) [a] a (λi h=>IsRangeIter h a (lo+(i:Nat)*1) ((n:Int) -(i:Nat)) 1) where
 mem:=by simp
 obj:=λi h st b c=>by
  have e:b=a:=by simpa using c
  subst e
  exact⟨_,st,λv z=>by
   have x:Data.fields _=Data.cell v:=z;cases x⟩
 keep:=λi h h' st k=>k a (by simp) _ st
 item:=by
  intro X j hw m hc i pins s σ H E I f st p;subst j hw m;obtain⟨q,u,A,r,g,l⟩:=f a (by simp);have W:=Walks.range (prog:=X.prog) (w:=X.w) (I.ok.hd hc) a lo 1 n;refine W.item i s _ _ p st λv h' tk D d y=>?_;obtain⟨t,rfl⟩:=D;have B:Inv X pins σ H {s with heap:=h',toks:=tk}:=I.turned (λb o c e=>y b o (by simpa using c) e) q u r g l;refine⟨_,rfl,L5 (s:={s with heap:=h',toks:=tk}) (n:="range_iterator") d rfl rfl (by decide) ⟨.int (lo+i),H,B,⟨t,?_⟩,⟨rfl,rfl⟩,d,λb c=>(f b c).1⟩⟩;rw[Int.mul_one]
 done:=by
  intro X j hw m hc i pins s σ H E I f st p;subst j hw m;obtain⟨q,u,A,r,g,l⟩:=f a (by simp);exact wpAny_pyNext_range_end (I.ok.hd hc) st (by have:n<=i:=p;lia) λh' eb=>⟨rfl,I.turned (t':=s.toks) (λb o c e=>eb b o c e) q u r g l⟩
 self:=λ_ _ _ _ _ st h=>wpAny_pyIter_rangeiter st h
section
theorem aY{σ:St}{lo:Int}(I:Inv X pins σ H s)(h1:-(2 ^ 62)<=lo)(h2:lo < 2 ^ 62)(f:-(2 ^ 62)<=hi)(g:hi < 2 ^ 62)(q:R (Itr lo (hi - lo).toNat) H):wpAny (model X.prog X.w) X.A (pyIter (.ref s.heap.objs.size)) (PIE X pins σ tg R) E {s with heap:=s.heap.push {cls:=.type "range",data:=.fields #[.int lo t,.int hi u,.int 1 v]},toks:=tk}:=by
 refine wpAny_pyIter_range (IsRange.new ..) (small_one h1 h2 f g) ?_;have a:Inv X pins σ H {s with heap:=s.heap.push {cls:=.type "range",data:=.fields #[.int lo t,.int hi u,.int 1 v]},toks:=tk}:=I.kept λb o e=>Qn _ e
 refine⟨(s.heap.push {cls:=.type "range",data:=.fields #[.int lo t,.int hi u,.int 1 v]}).objs.size,[(s.heap.push {cls:=.type "range",data:=.fields #[.int lo t,.int hi u,.int 1 v]}).objs.size],_,_,H,rfl,
  a.kept (t':=tk) λb o e=>Qn _ e,aX _ lo (hi - lo).toNat,?_,λb c=>?_,q⟩
 ·have d:lo+((0:Nat):Int)*1=lo:=by simp
  have h:(((hi - lo).toNat:Nat):Int) -((0:Nat):Int)=Builtin.Range.rangeSize lo hi 1:=by rw[rangeSize_one];split <;> lia
  show IsRangeIter _ _ (lo+((0:Nat):Int)*1) ((((hi - lo).toNat:Nat):Int) -((0:Nat):Int)) 1;rw[d,h];exact Qp _ rfl
 ·have e:b=(s.heap.push {cls:=.type "range",data:=.fields #[.int lo t,.int hi u,.int 1 v]}).objs.size:=by simpa using c
  subst e;exact a.fpOk (Yr _) (a.hok.fresh (Yr _))
def aZ(ta:TA):TI:=λσ H R=>ta σ H λvs H1=>∃ j:Int,vs=[.int j]/\-(2 ^ 62)<=j/\j < 2 ^ 62/\R (Itr 0 j.toNat) H1
theorem a6(d:Gl X "range")(f:X.mg "range"=none)(k:PA X [a] ta)(c:starEach [a] X.env=[(false,eval a X.env)]:=by rfl):PI X tg (.Call (.Name "range" p) [a] [] pos) (aZ ta):=by
 intro pins s σ H R I h;refine Call_ (EZ I d f boot_range (Qc (thn (k pos pins s σ H _ I h) λl n b=>?_) c rfl));obtain⟨m,H1,g,r1,q1⟩:=b;obtain⟨j,e,q1,q2,q⟩:=q1;subst e;cases r1 with
 | cons r i =>
  cases i;obtain⟨t,rfl⟩:=r;exact call_range_1 (aY g (by lia) (by lia) q1 q2 (by simpa using q))
def a7(wi:TI)(g:TG)(tb:TS):TS:=λD σ H=>wi σ H λJ H1=>∃ W:Nat->Nat->St->Hp->Prop,(∃ m,W 0 m σ H1)/\∀ i m σ H,W i m σ H->
 (J.stop i H/\D.nx σ H)\/(J.go i H/\∃ N:St->Hp->Prop,(∀ σ' H',N σ' H'->∃ m',m' < m/\W (i+1) m' σ' H')/\∀ x H',J.yld i H x H'->g x σ H' λσ2 H2=>tb {D with nx:=N,ct:=N,bk:=D.nx} σ2 H2)
def GK(fp:List Addr)(h:Heap):List (Addr×Obj):=fp.filterMap λb=>(h.get? b).map λo=>(b,o)
theorem Hy(a:b∈fp)(e:h.get? b=some o):(b,o)∈GK fp h:=List.mem_filterMap.mpr ⟨b,a,by rw[e];rfl⟩
theorem a8(c:p∈GK fp h):p.1∈fp/\h.get? p.1=some p.2:=by
 obtain⟨b,d,e⟩:=List.mem_filterMap.mp c;cases q:h.get? b with
 | none=>rw[q]at e;cases e
 | some o =>
  rw[q]at e;have a:(b,o)=p:=YE e;subst a;exact⟨d,q⟩
theorem Inv.pinned{σ:St}(I:Inv X pins σ H s)(f:∀ b∈fp,Du X pins H b)(j:∀ b∈fp,∃ o,s.heap.get? b=some o/\∀ v,o.data≠.cell v):Inv X (pins++GK fp s.heap) σ H s :=
 I.pins_of λp h=>(Yz.mp h).elim (λz=>I.pin p (YL _ z)) λz=>by
  obtain⟨a,e⟩:=a8 z;obtain⟨i,k,g,_⟩:=f p.1 a;obtain⟨o,c,d⟩:=j p.1 a;rw[e]at c;cases c;exact⟨e,i,k,g,d⟩
theorem Inv.unpinned{σ:St}(I:Inv X (pins++pl) σ H s):Inv X pins σ H s:=I.pins_of λp a=>I.pin p (YL _ (List.mem_append_left _ a))
theorem a9(z:PassesOwn (model X.prog X.w) X.A X.env X.xe)(hc:X.calm=true)(hi:PI X tg iter wi)(hg:PG X tg g)(a:PSs X body tb)(hs:∀ x,foldedSetIterable iter X.env x=pure x:=by intro _;rfl):PS X (.For tg iter body [] pos) (a7 wi g tb):=by
 intro pins s σ H D I h;refine wpAny_For (thn (hi pins s σ H _ I h) λv s1 h1=>thn h1 λitv s2 h2=>?_) hs;obtain⟨it,B,Y,J,H2,e,I2,T,S,f2,W,⟨m0,w0⟩,L⟩:=h2;subst e;have l:∀{H':Hp},(∀ b∈B,H' b=none)->∀ b∈B,Du X pins H' b:=λhn b a=>⟨hn b a,(f2 b a).2⟩;refine codeAny_forLoop_any (λn s'=>∃ i σ' H',Inv X pins σ' H' s'/\Y i s'.heap/\(∀ b∈B,H' b=none)/\W i n σ' H') ?_ m0 ⟨0,σ,H2,I2,S,λb a=>(f2 b a).1,w0⟩;rintro n s3 ⟨i,σ3,O,I3,y,E,w3⟩;rcases L i n σ3 O w3 with⟨stop,qn⟩|⟨go,N,hN,step⟩
 ·refine wpAny_passesOwn z (thn (T.done X rfl rfl rfl hc i pins s3 σ3 O X.xe I3 (l E) y stop) λr s4 F=>?_);obtain⟨P,I4⟩:=F;subst P;exact wpAny_execs_nil ⟨σ3,O,I4,qn⟩
 ·refine wpAny_passesOwn z (thn (T.item X rfl rfl rfl hc i pins s3 σ3 O X.xe I3 (l E) y go) λr s4 G=>?_);obtain⟨u,P,h4⟩:=G;subst P;refine wpAny_passesOwn z (thn h4 λ_ s5 t=>?_);obtain⟨x,Z,I5,r5,y5,p,R⟩:=t;have U:=I5.pinned (l R) (T.obj _ _ p);refine wpAny_passesOwn z (thn (hg _ s5 σ3 Z x u _ U r5 (step x Z y5)) λ_ s6 q=>?_);obtain⟨σ6,H6,I6,q6⟩:=q;refine wpAny_passesOwn z (thn (a _ s6 σ6 H6 _ I6 q6) λf Q q7=>?_)
  have k:∀{σ7:St}{c:Hp},Inv X (pins++GK B s5.heap) σ7 c Q->N σ7 c->∃ m,m < n/\∃ i σ' H',Inv X pins σ' H' Q/\Y i Q.heap/\(∀ b∈B,H' b=none)/\W i m σ' H':=λ{σ7 c}j K=>by
   obtain⟨m',hm,w7⟩:=hN σ7 c K;refine⟨m',hm,i+1,σ7,c,j.unpinned,T.keep _ _ _ p λb a o e=>(j.pin (b,o) (YL _ (YL _ (Hy a e)))).1,λb a=>?_,w7⟩;obtain⟨o,e,d⟩:=T.obj _ _ p b a;exact(j.pin (b,o) (YL _ (YL _ (Hy a e)))).2.1
  cases f with
  | next=>obtain⟨σ7,c,j,K⟩:=q7;exact k j K
  | cont=>obtain⟨σ7,c,j,K⟩:=q7;exact k j K
  | brk=>obtain⟨σ7,c,j,q7⟩:=q7;exact⟨σ7,c,j.unpinned,q7⟩
  | ret v=>obtain⟨x7,σ7,c,j,r7,q7⟩:=q7;exact⟨x7,σ7,c,j.unpinned,r7,q7⟩
end
abbrev R2:=V->V->Hp->VK->Prop
def OpR(X:Cx)(f:Value->Value->Sem Value)(r:R2):Prop :=
 ∀(pins:List (Addr×Obj))(s:Shared)(σ:St)(H:Hp)(x y:V)(v u:Value)(Q:VK),Inv X pins σ H s->RelV x v->RelV y u->r x y H Q->
  wpAny (model X.prog X.w) X.A (f v u) (EP X pins σ Q) X.xe s
def UnR(X:Cx)(f:Value->Sem Value)(r:V->Hp->VK->Prop):Prop :=
 ∀(pins:List (Addr×Obj))(s:Shared)(σ:St)(H:Hp)(x:V)(v:Value)(Q:VK),Inv X pins σ H s->RelV x v->r x H Q->
  wpAny (model X.prog X.w) X.A (f v) (EP X pins σ Q) X.xe s
def CallR(X:Cx)(f:Value)(r:List V->Hp->VK->Prop):Prop :=
 ∀(pins:List (Addr×Obj))(s:Shared)(σ:St)(H:Hp)(xs:List V)(us:List Value)(Q:VK),Inv X pins σ H s->Vals xs us->r xs H Q->
  wpAny (model X.prog X.w) X.A (call f us) (EP X pins σ Q) X.xe s
def ba(X:Cx)(r:V->Hp->(Bool->Hp->Prop)->Prop):Prop :=
 ∀(pins:List (Addr×Obj))(s:Shared)(σ:St)(H:Hp)(x:V)(v:Value)(Q:Bool->Hp->Prop),Inv X pins σ H s->RelV x v->r x H Q->
  wpAny (model X.prog X.w) X.A (truthy v) (TP X pins σ Q) X.xe s
def tOp(r:R2)(ta tb:TE):TE:=λσ H Q=>ta σ H λx H1=>tb σ H1 λy H2=>r x y H2 Q
def tUn(r:V->Hp->VK->Prop)(ta:TE):TE:=λσ H Q=>ta σ H λx H1=>r x H1 Q
def rI(C:Int->Int->Prop)(g:Int->Int->V):R2:=λx y H Q=>∃ i j,x=.int i/\y=.int j/\C i j/\Q (g i j) H
def rI0(g:Int->Int->V):R2:=λx y H Q=>∃ i j,x=.int i/\y=.int j/\Q (g i j) H
def rU(g:Int->V):V->Hp->VK->Prop:=λx H Q=>∃ i,x=.int i/\Q (g i) H
section
variable {X:Cx}{a b c:Expr}{ta tb:TE} in
theorem L6(p:PE X a ta)(l:PE X b tb){pins:List (Addr×Obj)}{s:Shared}{σ:St}{H:Hp}{R:V->V->Hp->Prop}(I:Inv X pins σ H s)
  (h:ta σ H λx H1=>tb σ H1 λy H2=>R x y H2) {Q:Value->Shared->Prop} {f:Value->Value->Sem Value}
  (k:∀ v u i x y H2,Inv X pins σ H2 i->RelV x v->RelV y u->R x y H2->wpAny (model X.prog X.w) X.A (f v u) Q X.xe i):
  wpAny (model X.prog X.w) X.A (eval a X.env) (λv g=>wpAny (model X.prog X.w) X.A (eval b X.env) (λu c=>wpAny (model X.prog X.w) X.A (f v u) Q X.xe c) X.xe g) X.xe s:=by
 refine thn (p pins s σ H _ I h) λv m e=>?_;obtain⟨x,H1,o,r1,q1⟩:=e;refine thn (l pins m σ H1 _ o q1) λu i d=>?_;obtain⟨y,H2,n,j,q2⟩:=d;exact k v u i x y H2 n r1 j q2
theorem bd(i:OpR X (binaryOp op) r)(g:PE X a ta)(d:PE X b tb):PE X (.BinOp a op b pos) (tOp r ta tb):=by
 intro pins s σ H Q I h;exact wpAny_BinOp (L6 g d I h λv u c x y H2 f e j q=>i pins c σ H2 x y v u Q f e j q)
theorem be(b:UnR X (unaryOp op) r)(e:PE X a ta):PE X (.UnaryOp op a pos) (tUn r ta):=by
 intro pins s σ H Q I h;exact UnaryOp_ (thn (e pins s σ H _ I h) (by rintro v c ⟨x,H1,d,r1,q1⟩;exact b pins c σ H1 x v Q d r1 q1))
theorem opI{g:Int->Int->Int}(a:∀(i j:Int)(t u:Tok)(s:Shared)(Q:Value->Shared->Prop)(E:Value->Shared->Prop),C i j->Q (.int (g i j) s.toks) {s with toks:=s.toks+1}->wpAny (model X.prog X.w) X.A (f (.int i t) (.int j u)) Q E s):
  OpR X f (rI C λi j=>.int (g i j)):=by
 intro pins s σ H x y v u Q I b c h;obtain⟨i,j,rfl,rfl,hc,q⟩:=h;obtain⟨t,rfl⟩:=b;obtain⟨t',rfl⟩:=c;exact a i j t t' s _ _ hc ⟨.int (g i j),H,I.tok _,⟨_,rfl⟩,q⟩
theorem P7{g:Int->Int->Int}(a:∀(i j:Int)(t u:Tok)(s:Shared)(Q:Value->Shared->Prop)(E:Value->Shared->Prop),Q (.int (g i j) s.toks) {s with toks:=s.toks+1}->wpAny (model X.prog X.w) X.A (f (.int i t) (.int j u)) Q E s):
  OpR X f (rI0 λi j=>.int (g i j)):=by
 intro pins s σ H x y v u Q I b c h;obtain⟨i,j,rfl,rfl,q⟩:=h;obtain⟨t,rfl⟩:=b;obtain⟨t',rfl⟩:=c;exact a i j t t' s _ _ ⟨.int (g i j),H,I.tok _,⟨_,rfl⟩,q⟩
theorem Jq{g:Int->Int->Bool}(a:∀(i j:Int)(t u:Tok)(s:Shared)(Q:Value->Shared->Prop)(E:Value->Shared->Prop),Q (.bool (g i j)) s->wpAny (model X.prog X.w) X.A (f (.int i t) (.int j u)) Q E s):
  OpR X f (rI0 λi j=>.bl (g i j)):=by
 intro pins s σ H x y v u Q I b c h;obtain⟨i,j,rfl,rfl,q⟩:=h;obtain⟨t,rfl⟩:=b;obtain⟨t',rfl⟩:=c;exact a i j t t' s _ _ ⟨.bl (g i j),H,I,rfl,q⟩
theorem bf(a:0 < y)(h:y < 1267650600228229401496703205376):Builtin.divisionGoesByPylong x y=false:=by
 refine PyProof.noPylong_of_log2 ?_;have h1:y.natAbs≠0:=by lia
 have h2:y.natAbs.log2 < 100:=(Nat.log2_lt h1).mpr (by lia);lia
def FO(i j:Int):Prop:=0 < j/\j < 1267650600228229401496703205376
def GL(i j:Int):Prop:=0<=j/\j<=1000000/\i.natAbs < 2 ^ 64
def CMul(i j:Int):Prop:=(-(2 ^ 64) < i/\i < 2 ^ 64)\/(-(2 ^ 64) < j/\j < 2 ^ 64)
theorem CMul.ok(h:CMul i j):IntMulOk i j:=by
 rcases h with⟨h1,h2⟩|⟨h1,h2⟩
 ·exact .of_left (intBits_le_64 h1 h2)
 ·exact .of_right (intBits_le_64 h1 h2)
theorem bg:OpR X (binaryOp .Add) (rI0 λi j=>.int (i+j)):=P7 λ_ _ _ _ _ _ _ q=>add_int q
theorem bh:OpR X (binaryOp .Mult) (rI CMul λi j=>.int (i*j)):=opI λ_ _ _ _ _ _ _ hc q=>mul_int q hc.ok
theorem bi:OpR X (binaryOp .FloorDiv) (rI FO λi j=>.int (i / j)):=opI λi j _ _ _ _ _ hc q=>by
 have h1:(0:Int) < j:=hc.1;have h2:j < 1267650600228229401496703205376:=hc.2;exact floordiv_int (by lia) (by rw[Int.fdiv_eq_ediv_of_nonneg i (by lia)];exact q) (.inl (bf h1 h2))
theorem bj:OpR X (binaryOp .Mod) (rI (λ_ j=>0 < j) λi j=>.int (i % j)):=opI λi j _ _ _ _ _ hc q=>by
 have h1:(0:Int) < j:=hc;exact mod_int' (by lia) (by rw[Int.fmod_eq_emod_of_nonneg i (by lia)];exact q)
theorem bn:OpR X (binaryOp .Pow) (rI GL λi j=>.int (i ^ j.toNat)):=opI λ_ _ _ _ _ _ _ hc q=>pow_int_small hc.1 hc.2.1 hc.2.2 q
theorem bo:OpR X (inplaceOp .Add) (rI0 λi j=>.int (i+j)):=P7 λ_ _ _ _ _ _ _ q=>iadd_int q
theorem unI{g:Int->Int}(a:∀(i:Int)(t:Tok)(s:Shared)(Q:Value->Shared->Prop)(E:Value->Shared->Prop),Q (.int (g i) s.toks) {s with toks:=s.toks+1}->wpAny (model X.prog X.w) X.A (f (.int i t)) Q E s):
  UnR X f (rU λi=>.int (g i)):=by
 intro pins s σ H x v Q I b h;obtain⟨i,rfl,q⟩:=h;obtain⟨t,rfl⟩:=b;exact a i t s _ _ ⟨.int (g i),H,I.tok _,⟨_,rfl⟩,q⟩
theorem bp:UnR X (unaryOp .USub) (rU λi=>.int (-i)):=unI λ_ _ _ _ _ q=>neg_int q
end
def FP:V->V->Bool
 | .non,.non=>true | .non,.int _=>true | .int _,.non=>true | .non,.bl _=>true | .bl _,.non=>true | .non,.str _=>true | .str _,.non=>true
 | .int _,.int _=>true | .bl _,.bl _=>true | .str _,.str _=>true | .byt _,.byt _=>true
 | .int _,.str _=>true | .str _,.int _=>true | .bl _,.str _=>true | .str _,.bl _=>true
 | _,_=>false
def rEq:R2:=λx y H Q=>FP x y=true/\Q (.bl (decide (x=y))) H
def rNe:R2:=λx y H Q=>FP x y=true/\Q (.bl (!decide (x=y))) H
theorem L7:decide (V.int i=V.int j)=(i==j):=by
 rw[Bool.eq_iff_iff];simp
theorem L8:decide (V.bl i=V.bl j)=(i==j):=by
 rw[Bool.eq_iff_iff];simp
theorem L9:decide (V.str i=V.str j)=(i==j):=by
 rw[Bool.eq_iff_iff];simp
theorem P8:decide (V.byt i=V.byt j)=(i.toList==j.toList):=by
 rw[Bool.eq_iff_iff];cases i;cases j;simp
section
variable {b:Expr}{ta tb tc:TE}
theorem Be{σ:St}(I:Inv X pins σ H s)(q:Q (.bl k) H)(e:k=a):EP X pins σ Q (.bool a) s:=by
 subst e;exact⟨.bl k,H,I,rfl,q⟩
theorem bq:OpR X (compareOp .Eq) rEq:=by
 intro pins s σ H x y v u Q I c a h;obtain⟨b,q⟩:=h;cases x with
 | non =>
  cases c;cases y with
  | non=>cases a;exact PySem.EqNone.eq_none_none (Be I q (by simp))
  | bl j=>cases a;exact PySem.EqNone.eq_none_bool (Be I q (by simp))
  | int j=>obtain⟨t',rfl⟩:=a;exact PySem.EqNone.eq_none_int (Be I q (by simp))
  | str j=>obtain⟨t',rfl⟩:=a;exact PySem.EqNone.eq_none_str (Be I q (by simp))
  | _=>exact Qk (show false=true from b) YT
 | bl i =>
  cases c;cases y with
  | non=>cases a;exact PySem.EqNone.eq_bool_none (Be I q (by simp))
  | bl j=>cases a;exact eq_bool (Be I q L8)
  | str j=>obtain⟨t',rfl⟩:=a;exact PySem.EqMixed.eq_bool_str (Be I q (by simp))
  | _=>exact Qk (show false=true from b) YT
 | int i =>
  obtain⟨t,rfl⟩:=c;cases y with
  | non=>cases a;exact PySem.EqNone.eq_int_none (Be I q (by simp))
  | int j=>obtain⟨t',rfl⟩:=a;exact eq_int (Be I q L7)
  | str j=>obtain⟨t',rfl⟩:=a;exact PySem.EqMixed.eq_int_str (Be I q (by simp))
  | _=>exact Qk (show false=true from b) YT
 | str i =>
  obtain⟨t,rfl⟩:=c;cases y with
  | non=>cases a;exact PySem.EqNone.eq_str_none (Be I q (by simp))
  | bl j=>cases a;exact PySem.EqMixed.eq_str_bool (Be I q (by simp))
  | int j=>obtain⟨t',rfl⟩:=a;exact PySem.EqMixed.eq_str_int (Be I q (by simp))
  | str j=>obtain⟨t',rfl⟩:=a;exact eq_str (Be I q L9)
  | _=>exact Qk (show false=true from b) YT
 | byt i =>
  obtain⟨t,rfl⟩:=c;cases y with
  | byt j=>obtain⟨t',rfl⟩:=a;exact PySem.W.eq_bytes (Be I q P8)
  | _=>exact Qk (show false=true from b) YT
 | _=>cases y <;> exact Qk (show false=true from b) YT
theorem br:OpR X (compareOp .NotEq) rNe:=by
 intro pins s σ H x y v u Q I c a h;obtain⟨b,q⟩:=h;cases x with
 | non =>
  cases c;cases y with
  | non=>cases a;exact PySem.EqNone.ne_none_none (Be I q (by simp))
  | bl j=>cases a;exact PySem.EqNone.ne_none_bool (Be I q (by simp))
  | int j=>obtain⟨t',rfl⟩:=a;exact PySem.EqNone.ne_none_int (Be I q (by simp))
  | str j=>obtain⟨t',rfl⟩:=a;exact PySem.EqNone.ne_none_str (Be I q (by simp))
  | _=>exact Qk (show false=true from b) YT
 | bl i =>
  cases c;cases y with
  | non=>cases a;exact PySem.EqNone.ne_bool_none (Be I q (by simp))
  | bl j=>cases a;exact ne_bool (Be I q (Qh not L8))
  | str j=>obtain⟨t',rfl⟩:=a;exact PySem.EqMixed.ne_bool_str (Be I q (by simp))
  | _=>exact Qk (show false=true from b) YT
 | int i =>
  obtain⟨t,rfl⟩:=c;cases y with
  | non=>cases a;exact PySem.EqNone.ne_int_none (Be I q (by simp))
  | int j=>obtain⟨t',rfl⟩:=a;exact ne_int (Be I q (Qh not L7))
  | str j=>obtain⟨t',rfl⟩:=a;exact PySem.EqMixed.ne_int_str (Be I q (by simp))
  | _=>exact Qk (show false=true from b) YT
 | str i =>
  obtain⟨t,rfl⟩:=c;cases y with
  | non=>cases a;exact PySem.EqNone.ne_str_none (Be I q (by simp))
  | bl j=>cases a;exact PySem.EqMixed.ne_str_bool (Be I q (by simp))
  | int j=>obtain⟨t',rfl⟩:=a;exact PySem.EqMixed.ne_str_int (Be I q (by simp))
  | str j=>obtain⟨t',rfl⟩:=a;exact ne_str (Be I q (Qh not L9))
  | _=>exact Qk (show false=true from b) YT
 | byt i =>
  obtain⟨t,rfl⟩:=c;cases y with
  | byt j=>obtain⟨t',rfl⟩:=a;exact PySem.W.ne_bytes (Be I q (Qh not P8))
  | _=>exact Qk (show false=true from b) YT
 | _=>cases y <;> exact Qk (show false=true from b) YT
theorem bu:OpR X (compareOp .Lt) (rI0 λi j=>.bl (decide (i < j))):=Jq λ_ _ _ _ _ _ _ q=>lt_int q
theorem bv:OpR X (compareOp .LtE) (rI0 λi j=>.bl (decide (i<=j))):=Jq λ_ _ _ _ _ _ _ q=>le_int q
theorem bw:OpR X (compareOp .Gt) (rI0 λi j=>.bl (decide (j < i))):=Jq λ_ _ _ _ _ _ _ q=>gt_int q
theorem bx:OpR X (compareOp .GtE) (rI0 λi j=>.bl (decide (j<=i))):=Jq λ_ _ _ _ _ _ _ q=>ge_int q
theorem bz:OpR X (compareOp .Lt) (λx y H Q=>∃ i j,x=.str i/\y=.str j/\Q (.bl (decide (i.cps.toList < j.cps.toList))) H):=by
 intro pins s σ H x y v u Q I a b h;obtain⟨i,j,rfl,rfl,q⟩:=h;obtain⟨t,rfl⟩:=a;obtain⟨t',rfl⟩:=b;exact lt_str (Be I q rfl)
theorem bA:OpR X (compareOp .Is) (λx y H Q=>y=.non/\Q (.bl (decide (x=.non))) H):=by
 intro pins s σ H x y v u Q I a b h;obtain⟨rfl,q⟩:=h;cases b;refine is_none_gen (Be I q ?_)
 cases x <;> first
  |(cases a;rfl)
  |(obtain⟨t,rfl⟩:=a;rfl)
theorem OpR.or(h:OpR X f r)(h':OpR X f r'):OpR X f (λx y H Q=>r x y H Q\/r' x y H Q):=by
 intro pins s σ H x y v u Q I a b q;rcases q with q | q
 ·exact h pins s σ H x y v u Q I a b q
 ·exact h' pins s σ H x y v u Q I a b q
theorem sP(b:Expr)(h:op≠.In:=by decide)(h2:op≠.NotIn:=by decide):behindInMarks op b=false:=by
 have c:(op==CmpOp.In)=false:=by cases op <;> first | rfl | exact Qk rfl h
 have a:(op==CmpOp.NotIn)=false:=by cases op <;> first | rfl | exact Qk rfl h2
 cases b <;> simp[behindInMarks,c,a]
theorem bB(j:OpR X (compareOp op) r)(i:PE X a ta)(d:PE X b tb)(g:behindInMarks op b=false):PE X (.Compare a [op] [b] pos) (tOp r ta tb):=by
 intro pins s σ H Q I h;exact wpAny_Compare1 (L6 i d I h λv u c x y H2 f e k q=>j pins c σ H2 x y v u Q f e k q) g
def P9(t:TE):TT:=λσ H Q=>t σ H λx H'=>∃ k,x=.bl k/\Q k H'
theorem bC(t:OpR X (compareOp op) r)(q:PE X a ta)(g:PE X b tb)(n:behindInMarks op b=false):PT X (.Compare a [op] [b] pos) (P9 (tOp r ta tb)):=by
 intro pins s σ H Q I h
 refine wpAny_isTrue_Compare1 (thn (q pins s σ H _ I h) λv j⟨x,H1,o,r1,q1⟩=>thn (g pins j σ H1 _ o q1) λu f⟨y,H2,m,d,q2⟩=>
  thn (t pins f σ H2 x y v u _ m r1 d q2) λc w⟨z,p,i,l,k,e,q3⟩=>?_) n
 subst e;cases l;exact wpAny_truthy_bool ⟨p,i,q3⟩
def Ma(r r':R2)(ta tb tc:TE):TE:=λσ H Q=>ta σ H λx H1=>tb σ H1 λy H2=>r x y H2 λz H3=>∃ k,z=.bl k/\
 (if k=true then tc σ H3 λw' H4=>r' y w' H4 Q else Q (.bl false) H3)
theorem bD(F:OpR X (compareOp op) r)(f:OpR X (compareOp op') r')(p:PE X a ta)(m:PE X b tb)(hc:PE X c tc)(K:lastMarks [op,op'] [b,c]=false:=by with_unfolding_all rfl):PE X (.Compare a [op,op'] [b,c] pos) (Ma r r' ta tb tc):=by
 intro pins s σ H Q I h
 refine Compare_chain (thn (p pins s σ H _ I h) λv A⟨x,H1,E,r1,q1⟩=>chain_link (thn (m pins A σ H1 _ E q1) λu l⟨y,H2,J,i,q2⟩=>
  thn (F pins l σ H2 x y v u _ J r1 i q2) λd G⟨z,g,j,D,k,e,q3⟩=>?_)) K
 subst e;cases D;refine wpAny_truthy_bool ?_;cases k with
 | false=>exact ite_ff ⟨.bl false,g,j,rfl,q3⟩
 | true=>exact ite_tt (chain_last (thn (hc pins G σ g _ j q3) (by rintro B w ⟨t,q,o,n,q4⟩;exact f pins w σ q y t u B Q o i n q4)))
theorem bE(K:OpR X (compareOp op) r)(f:OpR X (compareOp op') r')(p:PE X a ta)(m:PE X b tb)(hc:PE X c tc)(S:lastMarks [op,op'] [b,c]=false:=by with_unfolding_all rfl):PT X (.Compare a [op,op'] [b,c] pos) (P9 (Ma r r' ta tb tc)):=by
 intro pins s σ H Q I h
 refine isTrue_chain (thn (p pins s σ H _ I h) λv D⟨x,H1,J,r1,q1⟩=>test_link (thn (m pins D σ H1 _ J q1) λu l⟨y,H2,R,i,q2⟩=>
  thn (K pins l σ H2 x y v u _ R r1 i q2) λd O⟨z,g,j,G,k,e,q3⟩=>?_)) S
 subst e;cases G;refine wpAny_truthy_bool ?_;cases k with
 | false =>
  obtain⟨Z,B,F⟩:=q3;cases B;exact ite_ff ⟨g,j,F⟩
 | true =>
  refine ite_tt (test_last (thn (hc pins O σ g _ j q3) λE w⟨t,q,o,n,q4⟩=>thn (f pins w σ q y t u E _ o i n q4) λT s5⟨U,A,P,N,Y,L,q5⟩=>?_));subst L;cases N;exact wpAny_truthy_bool ⟨A,P,q5⟩
def Mb(K:PySem.W.Frag)(x:V)(H:Hp)(k:Bool):Prop :=
 match x with
 | .non=>k=false
 | .bl b=>k=b
 | .int i=>k=(i != 0)
 | .str y=>y.length<=sizeLine/\k=((y.length:Int) != 0)
 | .byt y=>y.size<=sizeLine/\k=((y.size:Int) != 0)
 | .ref p=>(∃ xs,SqL K H p xs/\k=!xs.isEmpty)\/(∃ xs,SqT K H p xs/\k=!xs.isEmpty)\/∃ kvs,H p=some (.dK kvs)/\k=!kvs.isEmpty
 | _=>False
theorem bF{κ:Type}{a:List (κ×V)}{vs:List (κ×Value)}(r:KV a vs):(!vs.isEmpty)=!a.isEmpty:=by
 cases r <;> rfl
theorem Qs(r:Vals xs a):(!a.toArray.isEmpty)=!xs.isEmpty:=by
 cases r <;> simp
theorem GM:(sizeLine:Nat) < 2 ^ 63:=by rw[sizeLine_eq];decide
theorem bG:ba X (λx H Q=>∃ k,Mb X.K x H k/\Q k H):=by
 intro pins s σ H x v Q I f h;obtain⟨k,e,q⟩:=h;have hl:=GM;have z:sizeLine=16777216:=sizeLine_eq;cases x with
 | non =>
  cases f;have a:k=false:=e;subst a;exact truthy_none ⟨H,I,q⟩
 | bl b =>
  cases f;have a:k=b:=e;subst a;exact wpAny_truthy_bool ⟨H,I,q⟩
 | int i =>
  obtain⟨t,rfl⟩:=f;have a:k=(i != 0):=e;subst a;exact PySem.P.truthy_int ⟨H,I,q⟩
 | str y =>
  obtain⟨t,rfl⟩:=f;obtain⟨o,a⟩:y.length<=sizeLine/\k=((y.length:Int) != 0):=e;subst a;exact PySem.P.truthy_str (by lia) ⟨H,I.tok _,q⟩
 | byt y =>
  obtain⟨t,rfl⟩:=f;obtain⟨o,a⟩:y.size<=sizeLine/\k=((y.size:Int) != 0):=e;subst a;exact PySem.W.truthy_bytes (by lia) ⟨H,I.tok _,q⟩
 | ref p =>
  cases f;have a:(∃ xs,SqL X.K H p xs/\k=!xs.isEmpty)\/(∃ xs,SqT X.K H p xs/\k=!xs.isEmpty)\/∃ c,H p=some (.dK c)/\k=!c.isEmpty:=e;rcases a with⟨xs,g,a⟩|⟨xs,g,a⟩|⟨c,g,a⟩
  ·subst a;obtain⟨l,r,pl,n⟩:=I.list g;have d:=r.length;exact wpAny_truthy_list pl.isList (by simp only[Yn];lia) ⟨H,I.tok _,by rw[Qs r];exact q⟩
  ·subst a;obtain⟨l,r,pl,n⟩:=I.tuple g;have d:=r.length;exact truthy_tuple pl (by simp only[Yn];lia) ⟨H,I.tok _,by rw[Qs r];exact q⟩
  ·subst a;obtain⟨n,u,j,r,m⟩:c.length<=sizeLine/\(p==sysModules)=false/\∃ j,KV c j/\s.heap.DictOf (CA X.prog X.w) p j:=I.hok p _ g;have d:c.length=j.length:=Paired.length r;exact wpAny_truthy_dict u m (by lia) ⟨H,I.tok _,by rw[bF r];exact q⟩
 | _=>exact(show False from e).elim
theorem bH(f:PE X a ta)(c:∀ b,isTrue a X.env b=(do let v <- b;standAt a.pos;holding [v] (truthy v))):
  PT X a (λσ H Q=>ta σ H λx H'=>∃ k,Mb X.K x H' k/\Q k H'):=by
 intro pins s σ H Q I h;exact isTrue_plain (thn (f pins s σ H _ I h) (by rintro v d ⟨x,H1,e,r1,q1⟩;exact bG pins d σ H1 x v Q e r1 q1)) (c _)
theorem bI:OpR X (binaryOp .Add) (λx y H Q=>∃ i j,x=.str i/\y=.str j/\i.length+j.length<=sizeLine/\Q (.str (i++j)) H):=by
 intro pins s σ H x y v u Q I a b h;obtain⟨i,j,rfl,rfl,c,q⟩:=h;obtain⟨t,rfl⟩:=a;obtain⟨t',rfl⟩:=b;exact add_str (λt' tk=>⟨.str (i++j),H,I.tok _,⟨_,rfl⟩,q⟩) c
theorem bJ:OpR X (inplaceOp .Add) (λx y H Q=>∃ i j,x=.str i/\y=.str j/\i.length+j.length<=sizeLine/\Q (.str (i++j)) H):=by
 intro pins s σ H x y v u Q I a b h;obtain⟨i,j,rfl,rfl,c,q⟩:=h;obtain⟨t,rfl⟩:=a;obtain⟨t',rfl⟩:=b;exact iadd_str (λt' tk=>⟨.str (i++j),H,I.tok _,⟨_,rfl⟩,q⟩) c
theorem C1(r:Vals [x] us):∃ u,us=[u]/\RelV x u:=by
 cases r with
 | cons r1 a=>cases a;exact⟨_,rfl,r1⟩
theorem Jr(r:Vals [x,y] us):∃ u a,us=[u,a]/\RelV x u/\RelV y a:=by
 cases r with
 | cons r1 b =>
  cases b with
  | cons c d=>cases d;exact⟨_,_,rfl,r1,c⟩
theorem bK:CallR X (.type "int") (λxs H Q=>(∃ i,xs=[.int i]/\Q (.int i) H)\/∃ k,xs=[.bl k]/\Q (.int (if k then 1 else 0)) H):=by
 intro pins s σ H xs a Q I r h;rcases h with⟨i,rfl,q⟩|⟨k,rfl,q⟩
 ·obtain⟨u,rfl,t,rfl⟩:=C1 r;exact call_int_int ⟨.int i,H,I,⟨_,rfl⟩,q⟩
 ·obtain⟨u,rfl,r1⟩:=C1 r;cases r1;exact call_int_bool ⟨.int (if k then 1 else 0),H,I.tok _,⟨_,rfl⟩,q⟩
def Qt(K:PySem.W.Frag)(x:V)(H:Hp)(n:Nat):Prop :=
 match x with
 | .str y=>y.length<=sizeLine/\n=y.length
 | .byt y=>y.size<=sizeLine/\n=y.size
 | .ref p=>(∃ xs,SqL K H p xs/\n=xs.length)\/∃ xs,SqT K H p xs/\n=xs.length
 | _=>False
theorem bL:CallR X (.builtin "len") (λxs H Q=>∃ x n,xs=[x]/\Qt X.K x H n/\Q (.int n) H):=by
 intro pins s σ H xs j Q I r h;obtain⟨x,n,rfl,e,q⟩:=h;obtain⟨u,rfl,c⟩:=C1 r;have hl:=GM;have k:sizeLine=16777216:=sizeLine_eq;cases x with
 | str y =>
  obtain⟨t,rfl⟩:=c;obtain⟨g,b⟩:y.length<=sizeLine/\n=y.length:=e;subst b;exact len_str (by lia) ⟨.int _,H,I.tok _,⟨_,rfl⟩,q⟩
 | byt y =>
  obtain⟨t,rfl⟩:=c;obtain⟨g,b⟩:y.size<=sizeLine/\n=y.size:=e;subst b;exact PySem.W.len_bytes (by lia) ⟨.int _,H,I.tok _,⟨_,rfl⟩,q⟩
 | ref p =>
  cases c;have b:(∃ xs,SqL X.K H p xs/\n=xs.length)\/∃ xs,SqT X.K H p xs/\n=xs.length:=e;rcases b with⟨xs,f,b⟩|⟨xs,f,b⟩
  ·subst b;obtain⟨d,r',pl,i⟩:=I.list f;have a:=r'.length;exact Calls.call_len_list pl.isList (by simp only[Yn];lia) ⟨.int xs.length,H,I.tok _,⟨_,by simp only[Yn];rw[a]⟩,q⟩
  ·subst b;obtain⟨d,r',pl,i⟩:=I.tuple f;have a:=r'.length;exact len_tuple pl (by simp only[Yn];lia) ⟨.int xs.length,H,I.tok _,⟨_,by simp only[Yn];rw[a]⟩,q⟩
 | _=>exact(show False from e).elim
end
structure ObjM(h:Heap)(x dx C:Addr)(mA:Str->Option Value):Prop where
 obj:h.get? x=some (PySem.W.instObj C dx)
 ns:h.Ns1 dx mA
 ne:dx≠x
theorem bM{h:Heap}(n:h.Ns1 dx mA):∃ c,h.get? dx=some c/\∀ name,PySem.W.lookIn name c=some (mA name):=by
 obtain⟨o,es,k,j,hd,i,_,g⟩:=n;refine⟨o,j,λname=>?_⟩;have e:=g name;unfold nsFind findBy at e;rw[<- Array.find?_toList]at e;unfold PySem.W.lookIn;rw[hd];dsimp only;split
 ·rename_i y q;rw[q]at e;exact Qh some e
 ·rename_i q;rw[q]at e
  have a:es.toList.any (·.refKey)=false:=by
   rw[List.any_eq_false];intro y f;obtain⟨z,t,b⟩:=i y (Array.mem_toList_iff.mp f);simp[DictEntry.refKey,b]
  have d:¬ es.toList.any (·.refKey)=true:=by rw[a];exact YT
  rw[if_neg d];exact Qh some e
theorem ObjM.look(I:ObjM h x dx C mA):∃ a,PySem.W.InstAt h x (PySem.W.instObj C dx) C (some a)/\∀ name,PySem.W.lookIn name a=some (mA name):=
 let⟨a,ho,hl⟩:=bM I.ns
 ⟨a,⟨I.obj,rfl,rfl,ho⟩,hl⟩
section
theorem bN{K:PySem.W.Frag}(X:K.In s.heap)(I:ObjM s.heap x dx C mA)(d:PySem.W.plainGet K C name=true)(c:PySem.W.hasDictIn K C=true)(f:PySem.W.findIn K (.ref C) name=some none)(e:mA name=some v)(b:PySem.W.handedIn v=true)(h:Q v {s with toks:=s.toks+1}):
  wpAny (model prog w) A (getAttr (.ref x) name a) Q E s:=by
 obtain⟨g,J,hl⟩:=I.look;exact PySem.W.get_value X J (PySem.W.plainGet_of d).1 (PySem.W.findObj_own c f rfl (by rw[hl,e])) b h
theorem bO{K:PySem.W.Frag}(X:K.In s.heap)(I:ObjM s.heap x dx C mA)(a:PySem.W.plainGet K C name=true)(b:PySem.W.findIn K (.ref C) name=some (some (.ref f)))(c:PySem.W.isFn K (.ref f)=true)(d:mA name=none)(h:Q (.ref f,[.ref x]) s):
  wpAny (model prog w) A (getMethod (.ref x) name pl) Q E s:=by
 obtain⟨e,J,hl⟩:=I.look;exact PySem.W.method_fn X J (PySem.W.plainGet_of a).1 (PySem.W.plainGet_of a).2 b (beq_iff_eq.mp c) (by show(PySem.W.lookIn name e).map (·.isSome)=some false;rw[hl,d];rfl) h
theorem bP{K:PySem.W.Frag}(X:K.In s.heap)(I:ObjM s.heap x dx C mA)(k:PySem.W.findIn K (.ref C) "__setattr__"=some (some (.builtin "object.__setattr__")))(l:PySem.W.plainOver K C=true)(n:PySem.W.takerIn K C name=some none)(j:PySem.W.hasDictIn K C=true)(hw:PySem.Within mA ns)(m:ns.length<=sizeLine)(h:∀ h',ObjM h' x dx C (λy=>if y=name then some v else mA y)->Heap.SameBut dx s.heap h'->Q () {s with heap:=h',toks:=s.toks+2}):
  wpAny (model prog w) A (setAttr (.ref x) name v) Q E s:=by
 obtain⟨u,J,hl⟩:=I.look;refine PySem.W.set_plain X J k (PySem.W.osa_open (s:={s with toks:=s.toks+1}) (r:=none) X J l n λb=>?_);obtain⟨cd,hc,f⟩:=PySem.W.any_some j;have o:s.heap.get? x=some ⟨.ref C,some dx,.plain,#[]⟩:=I.obj;refine Ql (Qm (Ql (Ql (wpAny_loadPart o (Ql (PySem.W.Looks.here (s:={s with toks:=s.toks+1}) (PySem.W.looks_clsIn X hc) ?_))))));rw[f];refine Qm (a:=some dx) (Ql (Qm (Ql ?_)));refine wpAny_nsSet1 (s:={s with toks:=s.toks+1}) I.ns λh' d c=>?_;obtain⟨t,p,q,g,e,i⟩:=d.count (PySem.Within.cons name v hw);refine Ql (wpAny_lookBehind g (by rw[e];exact pastItsLine_dict (Yt i (by rw[Yg];lia))) ?_);exact Qm (h _ ⟨(c.2 _ (YV I.ne)).trans I.obj,d,I.ne⟩ c)
theorem bQ{s:Shared}{K:PySem.W.Frag}(X:K.In s.heap)(c:PySem.W.makesIn K C=true)(hi:PySem.W.findIn K (.ref C) "__init__"=some (some (.ref f)))(b:PySem.W.typeIn K (.ref f)=some (.type "function"))(h:codeAny (model prog w) (A.under (.builtin "type.__call__" ⟨.ref C::vs,a⟩)) (.call (.ref f) ⟨.ref (s.heap.objs.size+1)::vs,a⟩) (PySem.W.InitBack (s.heap.objs.size+1) R)
   {s with heap:=(s.heap.push PySem.W.emptyDict).push (PySem.W.instObj C s.heap.objs.size)}):
  codeAny (model prog w) A (.call (.ref C) ⟨vs,a⟩) R s:=by
 obtain⟨e,g,d,t,os⟩:=s;exact PySem.W.make_core (PySem.W.makes_of X c) (PySem.W.looks_findIn X hi) (λself=>PySem.W.bind_fn X self b) (.inl rfl) h
end
def putF(f:Str)(v:V):List (Str×V)->List (Str×V)
 | []=>[(f,v)]
 |(g,x)::r=>if g=f then(g,v)::r else(g,x)::putF f v r
theorem Qu(f g:Str)(v:V):∀ fs:List (Str×V),(putF f v fs).lookup g=if g=f then some v else fs.lookup g
 | []=>by
  show List.lookup g [(f,v)]=_;by_cases h:g=f
  ·have a:(g==f)=true:=beq_iff_eq.mpr h;simp only[List.lookup,a,if_pos h]
  ·have a:(g==f)=false:=beq_eq_false_iff_ne.mpr h;simp only[List.lookup,a,if_neg h]
 |(k,x)::r=>by
  have c:=Qu f g v r;rw[show putF f v ((k,x)::r)=(if k=f then(k,v)::r else(k,x)::putF f v r)from rfl];by_cases b:k=f
  ·rw[if_pos b];by_cases h:g=k
   ·have a:(g==k)=true:=beq_iff_eq.mpr h;simp only[List.lookup,a,if_pos (h.trans b)]
   ·have a:(g==k)=false:=beq_eq_false_iff_ne.mpr h;simp only[List.lookup,a,if_neg (λe:g=f=>h (e.trans b.symm))]
  ·rw[if_neg b];by_cases h:g=k
   ·have a:(g==k)=true:=beq_iff_eq.mpr h;simp only[List.lookup,a,if_neg (λe:g=f=>b (h.symm.trans e))]
   ·have a:(g==k)=false:=beq_eq_false_iff_ne.mpr h;simp only[List.lookup,a];exact c
theorem Mc(f:Str)(v:V):∀ fs:List (Str×V),f∈(putF f v fs).map (·.1)/\∀ g,g∈fs.map (·.1)->g∈(putF f v fs).map (·.1)
 | []=>⟨by simp[putF],λg h=>by simp at h⟩
 |(k,x)::r=>by
  obtain⟨i1,i2⟩:=Mc f v r;rw[show putF f v ((k,x)::r)=(if k=f then(k,v)::r else(k,x)::putF f v r)from rfl];by_cases a:k=f
  ·rw[if_pos a];subst a;exact⟨by simp,λg h=>by simpa using h⟩
  ·rw[if_neg a];refine⟨?_,λg h=>?_⟩
   ·rw[Ym];exact Yd _ i1
   ·rw[Ym]at h ⊢;rcases Yo.mp h with e | e
    ·exact Yo.mpr (.inl e)
    ·exact Yd _ (i2 g e)
theorem Qv(f:Str)(v:V):∀ fs:List (Str×V),(putF f v fs).length<=fs.length+1
 | []=>by simp[putF]
 |(k,x)::r=>by
  have b:=Qv f v r;rw[show putF f v ((k,x)::r)=(if k=f then(k,v)::r else(k,x)::putF f v r)from rfl];by_cases a:k=f
  ·rw[if_pos a,Yg,Yg];lia
  ·rw[if_neg a,Yg,Yg];lia
theorem RelO.some_of(r:RelO (some v) o):∃ u,o=some u/\RelV v u:=by
 cases o with
 | none=>exact(show False from r).elim
 | some u=>exact⟨u,rfl,r⟩
theorem RelO.none_of(r:RelO none o):o=none:=by
 cases o with
 | none=>rfl
 | some u=>exact(show False from r).elim
theorem bR(r:RelV v u):PySem.W.handedIn u=true:=by
 cases v with
 | non=>cases(show u=Value.none from r);rfl
 | bl b=>cases(show u=Value.bool b from r);rfl
 | int i=>obtain⟨t,e⟩:=(show ∃ t,u=Value.int i t from r);cases e;rfl
 | str x=>obtain⟨t,e⟩:=(show ∃ t,u=Value.str x t from r);cases e;rfl
 | byt b=>obtain⟨t,e⟩:=(show ∃ t,u=Value.bytes b t from r);cases e;rfl
 | flt b=>obtain⟨t,e⟩:=(show ∃ t,u=Value.float b t from r);cases e;rfl
 | ref a=>cases(show u=Value.ref a from r);rfl
 | ty n=>cases(show u=Value.type n from r);rfl
section
theorem Me(hok:HOk P w H h)(e:H a=some (.ins C dx fs)):∃ mA,ObjM h a dx C mA/\(∀ f,RelO (fs.lookup f) (mA f))/\PySem.Within mA (fs.map (·.1))/\fs.length<=1000/\H dx=some (.own a):=by
 obtain⟨d,z,ne,b,mA,n,r,q⟩:=(show ObjOk P w H h a (.ins C dx fs)from hok a _ e);exact⟨mA,⟨b,n,ne⟩,r,q,z,d⟩
end
structure Cls(K:PySem.W.Frag)(C:Addr):Prop where
 pg:PySem.W.plainGet K C Str.empty=true
 hd:PySem.W.hasDictIn K C=true
 po:PySem.W.plainOver K C=true
 sa:PySem.W.findIn K (.ref C) "__setattr__"=some (some (.builtin "object.__setattr__"))
theorem Cls.get{K:PySem.W.Frag}(c:Cls K C)(f:Str):PySem.W.plainGet K C f=true:=c.pg
def NoAttr(K:PySem.W.Frag)(C:Addr)(f:Str):Prop:=PySem.W.findIn K (.ref C) f=some none
theorem NoAttr.taker{K:PySem.W.Frag}(n:NoAttr K C f):PySem.W.takerIn K C f=some none:=by
 unfold PySem.W.takerIn;rw[show PySem.W.findIn K (.ref C) f=some none from n];rfl
structure Mf(K:PySem.W.Frag)(C:Addr)(m:Str)(f:Addr):Prop where
 at_:PySem.W.findIn K (.ref C) m=some (some (.ref f))
 fn:PySem.W.isFn K (.ref f)=true
 kp:PySem.W.keepIn K (.ref f)=true
section
theorem Qw{σ:St}(I:Inv X pins σ H s)(e:H a=some (.ins C dx fs))(c:Cls X.K C)(n:NoAttr X.K C f)(l:fs.lookup f=some v)(h:∀ u s',Inv X pins σ H s'->RelV v u->Q u s'):wpAny (model X.prog X.w) A (getAttr (.ref a) f b) Q E s:=by
 obtain⟨mA,O,r,_,_,_⟩:=Me I.hok e;obtain⟨u,g,d⟩:=RelO.some_of (v:=v) (o:=mA f) (by rw[<- l];exact r f);exact bN I.kIn O (c.get f) c.hd n g (bR d) (h u _ (I.tok _) d)
theorem Qx{σ:St}(I:Inv X pins σ H s)(e:H a=some (.ins C dx fs))(c:Cls X.K C)(k:Mf X.K C m g)(l:fs.lookup m=none)(h:Q (.ref g,[.ref a]) s):wpAny (model X.prog X.w) A (getMethod (.ref a) m pl) Q E s:=by
 obtain⟨mA,O,r,_,_,_⟩:=Me I.hok e;have b:mA m=none:=RelO.none_of (by rw[<- l];exact r m);exact bO I.kIn O (c.get m) k.at_ k.fn b h
theorem Qy{σ:St}(I:Inv X pins σ H s)(e:H a=some (.ins C dx fs))(c:Cls X.K C)(n:NoAttr X.K C f)(hl:fs.length < 1000)(p:RelV y u)(h:∀ s',Inv X pins σ (upd H a (.ins C dx (putF f y fs))) s'->Q () s'):wpAny (model X.prog X.w) A (setAttr (.ref a) f u) Q E s:=by
 obtain⟨mA,O,r,i,_,j⟩:=Me I.hok e;have m:(fs.map (·.1)).length<=sizeLine:=by rw[Yh,sizeLine_eq];lia
 refine bP I.kIn O c.sa c.po n.taker c.hd i m λh' d t=>h _ ?_;have hd:∃ o,h'.get? dx=some o:=let⟨o,_,_,e',_⟩:=d.ns;⟨o,e'⟩;refine I.write (x:=a) (e:=dx) (by rw[e];exact True.intro) (.inr j) (λb q k z=>(t.2 b k).trans z) hd ?_;refine⟨by rw[A9 O.ne];exact j,?_,O.ne,d.obj,_,d.ns,λg=>?_,λg l=>?_⟩
 ·have:=Qv f y fs;lia
 ·show RelO ((putF f y fs).lookup g) (if g=f then some u else mA g);rw[Qu];by_cases q:g=f
  ·rw[if_pos q,if_pos q];exact p
  ·rw[if_neg q,if_neg q];exact r g
 ·by_cases q:g=f
  ·rw[q];exact(Mc f y fs).1
  ·refine(Mc f y fs).2 g (i g λz=>l ?_);show(if g=f then some u else mA g)=none;rw[if_neg q];exact z
theorem Inv.made{σ:St}(I:Inv X pins σ H s):Inv X pins σ (upd (upd H s.heap.objs.size (.own (s.heap.objs.size+1))) (s.heap.objs.size+1) (.ins C s.heap.objs.size []))
  {s with heap:=(s.heap.push PySem.W.emptyDict).push (PySem.W.instObj C s.heap.objs.size)}:=by
 have c:(s.heap.push PySem.W.emptyDict).get? s.heap.objs.size=some PySem.W.emptyDict:=Qp s.heap rfl
 have i:((s.heap.push PySem.W.emptyDict).push (PySem.W.instObj C s.heap.objs.size)).get? (s.heap.objs.size+1)=some (PySem.W.instObj C s.heap.objs.size):=by
  have:=Qp (s.heap.push PySem.W.emptyDict) (o:=PySem.W.instObj C s.heap.objs.size) rfl;rwa [Qq]at this
 have d:(s.heap.push PySem.W.emptyDict).Ns s.heap.objs.size (λ_=>none):=⟨PySem.W.emptyDict,#[],_,c,rfl,(λe f=>Qk f (by simp)),λ_=>rfl⟩;have h:=I.laid (a:=s.heap.objs.size) (o:=.own (s.heap.objs.size+1)) (h':=s.heap.push PySem.W.emptyDict) (t':=s.toks) (λb u q=>Qn _ q) (Yr _) ⟨_,c⟩;refine h.laid (a:=s.heap.objs.size+1) (o:=.ins C s.heap.objs.size []) (t':=s.toks) (λb u q=>Qn _ q) (Nat.le_of_eq (Qq _ _)) ?_;have ne:s.heap.objs.size≠s.heap.objs.size+1:=Ys (Nat.lt_succ_self _);refine⟨by rw[A9 ne,Ca],YU _,ne,i,λ_=>none,(Heap.Ns1.of_empty d).at λo q=>Qn _ q,λ_=>True.intro,λy g=>Qk rfl g⟩
theorem bS(b:attributeBase e f env (eval e env)=eval e env)(h:wpAny (model prog w) A (eval e env) (λo a=>wpAny (model prog w) A (getAttr o f true) Q E a) E s):wpAny (model prog w) A (eval (.Attribute e f pos) env) Q E s :=
 Attribute_any_ h (by rw[arm_eval_Attribute,b])
end
def bT(K:PySem.W.Frag)(ta:TE)(f:Str):TE:=λσ H Q=>ta σ H λx H1=>∃ a C dx fs v,x=.ref a/\H1 a=some (.ins C dx fs)/\Cls K C/\NoAttr K C f/\fs.lookup f=some v/\Q v H1
def bU(K:PySem.W.Frag)(ta tv:TE)(f:Str):TS:=λD σ H=>tv σ H λy H1=>ta σ H1 λx H2=>∃ a C dx fs,x=.ref a/\H2 a=some (.ins C dx fs)/\Cls K C/\NoAttr K C f/\fs.length < 1000/\
 D.nx σ (upd H2 a (.ins C dx (putF f y fs)))
def Qz(X:Cx)(op:Operator)(rd:V->V->Hp->VK->Prop):Prop :=
 ∀(pins:List (Addr×Obj))(s:Shared)(σ:St)(H:Hp)(x y:V)(u v:Value)(Q:VK),Inv X pins σ H s->RelV x u->RelV y v->rd x y H Q->wpAny (model X.prog X.w) X.A (inplaceOp op u v) (EP X pins σ Q) X.xe s
def bV(K:PySem.W.Frag)(ta tv:TE)(rd:V->V->Hp->VK->Prop)(f:Str):TS:=λD σ H=>ta σ H λx H1=>∃ a C dx fs v,x=.ref a/\H1 a=some (.ins C dx fs)/\Cls K C/\NoAttr K C f/\fs.lookup f=some v/\
 tv σ H1 λy H2=>rd v y H2 λz H3=>∃ dx' fs',H3 a=some (.ins C dx' fs')/\fs'.length < 1000/\D.nx σ (upd H3 a (.ins C dx' (putF f z fs')))
section
theorem bW(d:PE X e ta)(g:attributeBase e f X.env (eval e X.env)=eval e X.env):PE X (.Attribute e f pos) (bT X.K ta f):=by
 intro pins s σ H Q I h;refine bS g (thn (d pins s σ H _ I h) λu r b=>?_);obtain⟨x,H1,m,i,a,C,dx,fs,v,ex,o,c,n,l,q⟩:=b;subst ex;obtain rfl:u=Value.ref a:=i;exact Qw m o c n l λt p k j=>⟨v,H1,k,j,q⟩
theorem bX(p:PE X o ta)(m:PE X value tv)(b:swapsWith value (some (.Attribute o f pos')) pos.line X.env=pure false):PS X (.Assign [.Attribute o f pos'] value pos) (bU X.K ta tv f):=by
 intro pins s σ H D I h;refine plainObj_wpAny_Assign_Attribute (thn (m pins s σ H _ I h) λu e⟨y,H1,j,k,q⟩=>thn (p pins e σ H1 _ j q) λr v⟨x,H2,g,d,a,C,dx,fs,ex,t,c,n,l,q2⟩=>?_) b;subst ex;obtain rfl:r=Value.ref a:=d;exact Qy g t c n l k λw i=>⟨σ,_,i,q2⟩
theorem bY(m:PE X o ta)(E:PE X value tv)(hop:Qz X op e):PS X (.AugAssign (.Attribute o f tpos) op value pos) (bV X.K ta tv e f):=by
 intro pins s σ H D I h;refine wpAny_AugAssign_AttributeAny (thn (m pins s σ H _ I h) λF R b=>?_);obtain⟨x,H1,B,t,a,C,dx,fs,v,ex,p,c,n,l,q⟩:=b;subst ex;obtain rfl:F=Value.ref a:=t;refine Qw B p c n l λu g N i=>thn (E pins g σ H1 _ N q) λA G⟨y,H2,L,w,q3⟩=>thn (hop pins G σ H2 v y u A _ L i w q3) ?_;rintro S Q ⟨z,P,k,O,j,fs',d,r,q4⟩;exact Qy k d c n r O λT J=>⟨σ,_,J,q4⟩
def Cn:V->V->Hp->VK->Prop:=λx y H Q=>∃ i j,x=.int i/\y=.int j/\Q (.int (i+j)) H
theorem bZ:Qz X .Add Cn:=by
 rintro pins s σ H x y u v Q I a b ⟨i,j,rfl,rfl,q⟩;obtain⟨t,rfl⟩:=(show ∃ t,u=Value.int i t from a);obtain⟨t',rfl⟩:=(show ∃ t',v=Value.int j t' from b);exact PyProof.Rows.iadd_int ⟨.int (i+j),H,I.tok _,⟨_,rfl⟩,q⟩
end
section
end
structure Room(k:Nat)(A:Around):Prop where
 hd:A.handled=none
 dp:A.depth+3*k+5 < recursionLimit
 un:A.units+16*k+200 < cLine
theorem Room.mono(r:Room k A)(h:j<=k):Room j A:=⟨r.hd,by have:=r.dp;lia,by have:=r.un;lia⟩
theorem Room.deeper(r:Room (k+1) A)(env:Env):Room k (A.deeper env):=
 ⟨r.hd,by have:=r.dp;show A.depth+1+3*k+5 < _;lia,by have:=r.un;show A.units+3+16*k+200 < _;lia⟩
theorem Room.in1(r:Room (k+1) A):Room k A.in1 :=
 ⟨r.hd,by have:=r.dp;show A.depth+3*k+5 < _;lia,by have:=r.un;show A.units+1+16*k+200 < _;lia⟩
theorem b0{A:Around}:(A.under (.builtin "type.__call__" ⟨.ref C::us,a⟩)).depth=A.depth+1:=by
 first | rfl | simp[Around.under,Code.weight,Code.isCreation,Code.isGuard,Code.isCaller,Code.frames,Code.isFrame,guardIds]
theorem b5{A:Around}:(A.under (.builtin "type.__call__" ⟨.ref C::us,a⟩)).units=A.units+1:=by
 first | rfl | simp[Around.under,Code.cUnits,Code.frames,Code.isFrame]
theorem Room.make(r:Room (k+1) A)(C:Addr)(us:List Value)(a:List (Str×Value)):Room k (A.under (.builtin "type.__call__" ⟨.ref C::us,a⟩)):=
 ⟨r.hd,by have:=r.dp;rw[b0];lia,by have:=r.un;rw[b5];lia⟩
theorem Room.depth(r:Room k A):A.depth < recursionLimit:=by have:=r.dp;lia
theorem Room.units(r:Room k A):A.units+64 < cLine:=by have:=r.un;lia
def FQ:TA:=λ_ H Q=>Q [] H
def Dv(ta:TE)(tr:TA):TA:=λσ H Q=>ta σ H λx H1=>tr σ H1 λxs H2=>Q (x::xs) H2
section
variable {t:TA}
theorem GN:PA X [] FQ:=λ_ _ _ _ H Q I h=>Calls.spliced_nil ⟨[],H,I,.nil,h⟩
theorem DW(j:PE X e te)(i:PA X es t)(c:starEach (e::es) X.env=(false,eval e X.env)::starEach es X.env:=by rfl):PA X (e::es) (Dv te t):=by
 intro pos pins s σ H Q I h;rw[c];show wpAny _ _ (spliced ((false,eval e X.env)::backTo pos (starEach es X.env))) _ _ s;refine Calls.spliced_cons (thn (j pins s σ H _ I h) λu d a=>?_);obtain⟨x,H1,g,r1,q1⟩:=a;exact thn (i pos pins d σ H1 _ g q1) (by rintro l k ⟨xs,H2,f,b,q2⟩;exact⟨x::xs,H2,f,.cons r1 b,q2⟩)
def QA(t:TA):TE:=λσ H Q=>t σ H λxs H1=>xs.length<=sizeLine/\∀ p,H1 p=none->Q (.ref p) (upd H1 p (.tup xs))
def b6(t:TA):TE:=λσ H Q=>t σ H λxs H1=>xs.length<=sizeLine/\∀ p,H1 p=none->Q (.ref p) (upd H1 p (.lst xs))
theorem QB{x1}(h:PA X es t):PE X (.Tuple es x1 pos) (QA t):=by
 intro pins s σ H Q I g;refine wpAny_Tuple_spliced (thn (h pos pins s σ H _ I g) λf a⟨xs,H1,c,r,z,q⟩=>⟨by rw[<- r.length];exact z,?_⟩);have d:H1 a.heap.objs.size=none:=c.hok.fresh (Yr _);refine⟨.ref a.heap.objs.size,upd H1 a.heap.objs.size (.tup xs),c.laid (t':=a.toks) (λb u e=>Qn _ e) (Yr _) ?_,rfl,q _ d⟩;exact⟨z,f,r,⟨_,Qp _ rfl,rfl,rfl,_,rfl⟩⟩
theorem b7(h:PA X es t):PE X (.List es pos) (b6 t):=by
 intro pins s σ H Q I g;refine wpAny_List_spliced (thn (h pos pins s σ H _ I g) λf a⟨xs,H1,c,r,z,q⟩=>⟨by rw[<- r.length];exact z,?_⟩);have d:H1 a.heap.objs.size=none:=c.hok.fresh (Yr _);refine⟨.ref a.heap.objs.size,upd H1 a.heap.objs.size (.lst xs),c.laid (t':=a.toks) (λb u e=>Qn _ e) (Yr _) ?_,rfl,q _ d⟩;exact⟨z,f,0,r,Qp _ rfl⟩
end
abbrev Sp:=List V->Hp->VK->XK->Prop
abbrev CXT:=List Env->Hp->Shared->XK->Value->Shared->Prop
structure Env0(P:Program)(w:World)(K:PySem.W.Frag)(mg:Str->Option Value)(base:Heap)(A:Around)(outer:List Env)(s:Shared)(H:Hp):Prop where
 frames:A.frames=some outer
 mod:Mod K mg base
 bs:∀ b o,base.get? b=some o->s.heap.get? b=some o/\H b=none
 bsz:base.objs.size<=s.heap.objs.size
 funs:s.heap.FunFrames base outer
 frf:∀ b∈frs outer,H b=none
 hok:HOk P w H s.heap
 bare:AllBare s.gens
def CE(outer:List Env)(P:Program)(w:World)(H:Hp)(s:Shared)(Q:VK)(u:Value)(s':Shared):Prop :=
 ∃ v H',s'.os=s.os/\AllBare s'.gens/\Un (frs outer) [] H H' s.heap s'.heap/\HOk P w H' s'.heap/\RelV v u/\Q v H'
def CR(CX:CXT)(outer:List Env)(P:Program)(w:World)(H:Hp)(s:Shared)(Q:VK)(E:XK)(r:Result)(s':Shared):Prop :=
 match r with
 | .ok (.ret u)=>CE outer P w H s Q u s'
 | .ok _=>False
 | .error e=>CX outer H s E e s'
structure FnOk(P:Program)(w:World)(K:PySem.W.Frag)(mg:Str->Option Value)(base:Heap)(CX:CXT)(k:Nat)(f:Addr)(fd:FuncData)(ps:List Str)(sp:Sp):Prop where
 len:∀ vs H Q E,sp vs H Q E->vs.length=ps.length
 run:∀(A:Around)(outer:List Env)(s:Shared)(H:Hp)(args:Args)(us:List Value)(vs:List V)(Q:VK)(E:XK),Room k A->Env0 P w K mg base A outer s H->BindsTo s fd args (ps.zip us)->Vals vs us->sp vs H Q E->
  codeAny (model P w) A (.call (.ref f) args) (CR CX outer P w H s Q E) s
theorem FnOk.mono{K:PySem.W.Frag}(F:FnOk P w K mg base CX j f fd ps sp)(h:j<=k):
  FnOk P w K mg base CX k f fd ps sp:=⟨F.len,λA outer s H a b c Q E d=>F.run A outer s H a b c Q E (d.mono h)⟩
theorem FnOk.imp{K:PySem.W.Frag}(F:FnOk P w K mg base CX k f fd ps sp)(h:∀ vs H Q E,a vs H Q E->sp vs H Q E):FnOk P w K mg base CX k f fd ps a :=
 ⟨λvs H Q E q=>F.len vs H Q E (h _ _ _ _ q),λA outer s H b e vs Q E j c d i g=>F.run A outer s H b e vs Q E j c d i (h _ _ _ _ g)⟩
theorem Env0.make{K:PySem.W.Frag}(e:Env0 P w K mg base A outer s H)(C:Addr)(us:List Value)(a:List (Str×Value)):
  Env0 P w K mg base (A.under (.builtin "type.__call__" ⟨.ref C::us,a⟩)) outer s H:=⟨by first | exact e.frames |(simpa[Around.under,Code.envs,Code.isFrame,pushEnvs]using e.frames),e.mod,e.bs,e.bsz,e.funs,e.frf,e.hok,e.bare⟩
theorem Env0.in1{K:PySem.W.Frag}(e:Env0 P w K mg base A outer s H):
  Env0 P w K mg base A.in1 outer s H:=⟨e.frames,e.mod,e.bs,e.bsz,e.funs,e.frf,e.hok,e.bare⟩
section
theorem Inv.env0{σ:St}(I:Inv X pins σ H s):Env0 X.prog X.w X.K X.mg X.base X.A X.stack s H :=
 ⟨I.ok.frames,I.ok.mod,I.bs,Yt I.ok.bsz I.sz,I.stack,I.stkFree,I.hok,I.bare⟩
theorem Inv.after{σ:St}(I:Inv X pins σ H s)(h:CE X.stack X.prog X.w H s Q u s'):EP X pins σ Q u s':=by
 obtain⟨v,H',os,bare,un,hok,r,q⟩:=h;obtain⟨c,g,d,t,a⟩:=s';obtain rfl:a=s.os:=os;exact⟨v,H',I.call (h':=c) (g':=g) (d':=d) (t':=t) (ch:=[]) un hok bare (λb z=>Qk z (by simp)),r,q⟩
end
def Binds(K:PySem.W.Frag)(fd:FuncData)(ps:List Str)(ds:List Value):Prop :=
 ∀(s:Shared)(us:List Value),K.In s.heap->(us++ds).length=ps.length->BindsTo s fd ⟨us,[]⟩ (ps.zip (us++ds))
theorem Binds.all{K:PySem.W.Frag}(h:∀ us:List Value,us.length=ps.length->bindArgs fd ⟨us,[]⟩=pure (ps.zip us)):Binds K fd ps []:=λs us _ hl=>by
 rw[Yx]at hl ⊢;exact .of_eq (h us hl)
def b8(CX:CXT)(X:Cx)(E:XK):Prop:=∀(pins:List (Addr×Obj))(σ:St)(H:Hp)(s:Shared)(e:Value)(s':Shared),Inv X pins σ H s->CX X.stack H s E e s'->X.xe e s'
section
variable {f C:Addr}
structure Mk(K:PySem.W.Frag)(C f:Addr):Prop where
 makes:PySem.W.makesIn K C=true
 init:PySem.W.findIn K (.ref C) "__init__"=some (some (.ref f))
 fn:PySem.W.isFn K (.ref f)=true
 kp:PySem.W.keepIn K (.ref C)=true
end
section
end
structure Az(N P:List Str)(sc:Scope):Prop where
 kind:sc.kind=.function
 co:sc.isCoroutine=false
 gen:sc.isGenerator=false
 nd:N.Nodup
 pre:N.take P.length=P
 par:∀ x∈P,sc.names.lookup x=some .local\/sc.names.lookup x=some .cell
 nofree:∀ y∈sc.names,y.2≠.free
theorem QC{kindOf:Str->Option NameKind}:∀{binds:List (Str×Value)}{m:Str->Option Value},(∀ v,(x,v)∉binds)->bindL kindOf binds m x=m x
 | [],_,_=>rfl
 |(n,v)::r,m,h=>by
  unfold bindL;rw[QC λw hw=>h w (Yd _ hw)];split
  ·have:x≠n:=by rintro rfl;exact h v Ye
   simp[this]
  ·rfl
theorem QD{kindOf:Str->Option NameKind}:∀{binds:List (Str×Value)}{m:Str->Option Value},(∀ v,(x,v)∉binds)->bindC kindOf binds m x=m x
 | [],_,_=>rfl
 |(n,v)::r,m,h=>by
  unfold bindC;rw[QD λw hw=>h w (Yd _ hw)];split
  ·rfl
  ·have:x≠n:=by rintro rfl;exact h v Ye
   simp[this]
theorem QE{kindOf:Str->Option NameKind}:∀{P:List Str}{vs:List Value}{i:Nat}{m:Str->Option Value},P.Nodup->P[i]?=some x->vs[i]?=some v->kindOf x=some .local->
  bindL kindOf (P.zip vs) m x=some v
 | [],_,_,_,_,h,_,_=>by simp at h
 | _::_,[],_,_,_,_,h,_=>by simp at h
 | p::P,w::vs,0,m,nd,h1,h2,a=>by
  simp at h1 h2;subst h1;subst h2;show bindL kindOf ((p,w)::P.zip vs) m p=_;unfold bindL;rw[QC λv b=>(YR.mp nd).1 (List.of_mem_zip b).1,if_pos a];simp
 | p::P,w::vs,i+1,m,nd,h1,h2,a=>by
  show bindL kindOf ((p,w)::P.zip vs) m x=_;unfold bindL;exact QE (i:=i) (YR.mp nd).2 (by simpa using h1) (by simpa using h2) a
theorem QF{kindOf:Str->Option NameKind}:∀{P:List Str}{vs:List Value}{i:Nat}{m:Str->Option Value},P.Nodup->P[i]?=some x->vs[i]?=some v->kindOf x≠some .local->
  bindC kindOf (P.zip vs) m x=some v
 | [],_,_,_,_,h,_,_=>by simp at h
 | _::_,[],_,_,_,_,h,_=>by simp at h
 | p::P,w::vs,0,m,nd,h1,h2,a=>by
  simp at h1 h2;subst h1;subst h2;show bindC kindOf ((p,w)::P.zip vs) m p=_;unfold bindC;rw[QD λv b=>(YR.mp nd).1 (List.of_mem_zip b).1,if_neg a];simp
 | p::P,w::vs,i+1,m,nd,h1,h2,a=>by
  show bindC kindOf ((p,w)::P.zip vs) m x=_;unfold bindC;exact QF (i:=i) (YR.mp nd).2 (by simpa using h1) (by simpa using h2) a
def Dw(N:List Str)(vs:List V):St:=vs.map some++List.replicate (N.length - vs.length) none
def BA(CX:CXT)(P:Program)(w:World)(K:PySem.W.Frag)(mg:Str->Option Value)(base:Heap)(N:List Str)(qual:Str)(scope:Scope)(f:Addr)(cd:Value)(A:Around)(outer:List Env)(s:Shared)(H:Hp)(E:XK):Cx where
 prog:=P
 w:=w
 K:=K
 mg:=mg
 base:=base
 A:=A.deeper (envOfC qual scope s.heap.objs.size f cd)
 N:=N
 s₀:=s
 H₀:=H
 env:=envOfC qual scope s.heap.objs.size f cd
 outer:=outer
 stack:=envOfC qual scope s.heap.objs.size f cd::outer
 ex:=[]
 calm:=true
 fn:=λ_=>true
 pn:=[]
 xe:=λe s'=>wpAny (model P w) (A.deeper (envOfC qual scope s.heap.objs.size f cd)) (leaving (envOfC qual scope s.heap.objs.size f cd) e) (λ_ s''=>CX outer H s E e s'') (λe' s''=>CX outer H s E e' s'') s'
theorem Mg{a:Scope}(h:a.names.lookup x=some .cell):∃ c,(cellsFrom n a.names []).lookup x=some c:=by
 have q:=PySem.W.cellsFrom_some a.names n [] (.inl h);exact Option.isSome_iff_exists.mp q
theorem b9{K:PySem.W.Frag}(S:Az N ps scope)(hd:A.handled=none)(d:Env0 P w K mg base A outer s H)(hl:vs.length=ps.length)(r:Vals vs us)(x:InCallC s s.heap.objs.size (bindL (envOfC qual scope s.heap.objs.size f cd).kindOf (ps.zip us) λ_=>none) (cellsFrom (s.heap.objs.size+1) scope.names []) (bindC (envOfC qual scope s.heap.objs.size f cd).kindOf (ps.zip us) λ_=>none) o):
  Inv (BA CX P w K mg base N qual scope f cd A outer s H E) [] (Dw N vs) H o:=by
 have D:ps.length<=N.length:=by have:=Qh List.length S.pre;rw[List.length_take]at this;lia
 obtain⟨h1,tk,rfl,t⟩:=x.done;have j:∀ b:Addr,b∉(BA CX P w K mg base N qual scope f cd A outer s H E).ex:=λb z=>Qk (show b∈([]:List Addr)from z) (by simp)
 refine⟨⟨d.mod,S.kind,rfl,rfl,Yr _,λy z c h1 h2=>?_,λy g=>?_,λy c _ h=>?_,λ_=>hd,Around.frames_deeper d.frames,.inr ⟨rfl,rfl⟩,λb z=>Qk z (j b),d.bs,d.bsz,λb _ _=>j b,λb z=>Qk z (j b),d.funs,d.frf⟩,
  rfl,d.bare,Un.kept t,⟨_,x.toInCall.ns,λi y v h1 h2 I=>?_⟩,λy c h=>⟨_,x.cell y c h⟩,d.hok.fresh (Yr _),λy c h=>?_,λp l=>Qk (show p∈([]:List (Addr×Obj))from l) (by simp),d.hok.kept t,?_⟩
 ·exact name_of_addr x.apart (PySem.mem_of_lookup h1) (PySem.mem_of_lookup h2)
 ·have g:scope.names.lookup y=some .cell\/scope.names.lookup y=some .free:=g;rcases g with g | g
  ·exact Mg g
  ·exact Qk rfl (S.nofree _ (PySem.mem_of_lookup g))
 ·exact Nat.le_of_lt (x.above y c (PySem.mem_of_lookup h))
 ·have hi:i < vs.length:=by
   unfold Dw at h2;by_cases hi:i < vs.length
   ·exact hi
   ·rw[List.getElem?_append_right (by simpa using hi)]at h2;rw[List.getElem?_replicate]at h2;split at h2 <;> cases h2
  have G:vs[i]?=some v:=by
   unfold Dw at h2;rw[YJ (by simpa using hi),YN]at h2;cases e:vs[i]? with
   | none=>rw[e]at h2;cases h2
   | some a=>rw[e]at h2;cases h2;rfl
  obtain⟨u,B,F⟩:=r.get G
  have l:ps[i]?=some y:=by
   rw[<- S.pre,List.getElem?_take_of_lt (by lia)];exact h1
  have m:ps.Nodup:=by rw[<- S.pre];exact S.nd.sublist (List.take_sublist _ _)
  refine⟨u,F,?_⟩;rcases S.par y (List.mem_of_getElem? l)with k | k
  ·exact .inl ⟨k,QE m l B k⟩
  ·obtain⟨c,e⟩:=Mg (n:=s.heap.objs.size+1) k;refine .inr ⟨.inl k,c,e,?_⟩;have q:=x.cell y c e;rw[QF m l B (by show scope.names.lookup y≠_;rw[k];decide)]at q;exact q
 ·exact d.hok.fresh (Nat.le_of_lt (x.above y c (PySem.mem_of_lookup h)))
 ·unfold Dw;show _=N.length;rw[Yj,Yh,List.length_replicate];lia
theorem GP{K:PySem.W.Frag}{kV:Value}(lk:K.lookup f=some ⟨U,X,.func (PySem.W.fnOf name qual params body scope F kV g pm G cdv ct),l⟩)(B:PySem.W.codeIn K cdv qual=true)(S:Az N ps scope)(len:∀ vs H Q E,sp vs H Q E->vs.length=ps.length)(c:∀(A:Around)(outer:List Env)(s:Shared)(H:Hp)(vs:List V)(Q:VK)(E:XK),Room k (A.deeper (envOfC qual scope s.heap.objs.size f cdv))->sp vs H Q E->
   ∃ t,PSs (BA CX P w K mg base N qual scope f cdv A outer s H E) body t/\t {nx:=λ_ H'=>Q .non H',rt:=Q} (Dw N vs) H):
  FnOk P w K mg base CX (k+1) f (PySem.W.fnOf name qual params body scope F kV g pm G cdv ct) ps sp:=by
 refine⟨len,λA outer s H L Y vs Q E m j O r h=>?_⟩;have hl:=len _ _ _ _ h;have KX:K.In s.heap:=j.mod.kin.keeps λb o e=>(j.bs b o e).1;have p:s.heap.NoLimit:=j.mod.nolimit.keeps λb o e=>(j.bs b o e).1
 have a:∀ y∈ps.zip Y,scope.names.lookup y.1=some .local\/(scope.names.lookup y.1=some .cell/\((cellsFrom (s.heap.objs.size+1) scope.names []).lookup y.1).isSome=true):=by
  rintro⟨n,v⟩ R;rcases S.par n (List.of_mem_zip R).1 with q | q
  ·exact .inl q
  ·exact .inr ⟨q,PySem.W.cellsFrom_some _ _ _ (.inl q)⟩
 refine codeAny_call_function m.depth (KX _ _ lk) rfl S.co S.gen rfl (PySem.W.codeRec_of KX B) (O _ _ _ _ ?_);refine wpAny_newFunctionEnv_cells S.kind a λenv he D x=>?_;subst he;refine⟨p.keeps x.toInCall.keep,codeAny_func ?_⟩;obtain⟨t,Z,hq⟩:=c A outer s H vs Q E (m.deeper _) h;have I:Inv (BA CX P w K mg base N qual scope f cdv A outer s H E) [] (Dw N vs) H D:=b9 S m.hd j hl r x;refine wpAny_mono (Z [] D (Dw N vs) H _ I hq) (λT s' d=>?_) λe s' d=>d
 have i:∀{σ':St}{H':Hp}{v:V}{u:Value},Inv (BA CX P w K mg base N qual scope f cdv A outer s H E) [] σ' H' s'->RelV v u->Q v H'->CE outer P w H s Q u s' :=
  λ{σ' H' v u}J z q=>⟨v,H',J.os,J.bare,J.base,J.hok,z,q⟩
 cases T with
 | ret u =>
  obtain⟨v,σ',H',J,z,q⟩:=d;exact i J z q
 | next =>
  obtain⟨σ',H',J,q⟩:=d;exact i (v:=V.non) (u:=Value.none) J rfl q
 | brk =>
  obtain⟨_,_,_,q⟩:=d;exact Qe q
 | cont =>
  obtain⟨_,_,_,q⟩:=d;exact Qe q
section
variable {t:TA}{r:List V->Hp->VK->Prop}
def tCB(r:List V->Hp->VK->Prop)(t:TA):TE:=λσ H Q=>t σ H λvs H1=>r vs H1 Q
theorem ca{p pos:Pos}{id:String}(hc:CallR X (.builtin id) r)(j:Gl X x)(i:X.mg x=none)(l:bootBuiltins x=some (.builtin id))(m:PA X (e::es) t)(n:x≠"__name__":=by decide)(b:(x==("__debug__":Str))=false:=by decide)(c:starEach (e::es) X.env=(false,eval e X.env)::starEach es X.env:=by rfl)(a:(backTo pos (starEach es X.env)).any (·.1)=false:=by rfl):PE X (.Call (.Name x p) (e::es) [] pos) (tCB r t):=by
 intro pins s σ H Q I h;refine wpAny_Call_Name_kw (EZ I j i l ?_ n b);exact PyProof.Rows.callWith_builtin1 (thn (m pos pins s σ H _ I h) (by rintro d g ⟨f,H1,k,r1,q1⟩;exact hc pins g σ H1 f d Q k r1 q1)) c a
theorem cb{p pos:Pos}(hc:CallR X (.type T) r)(j:Gl X x)(i:X.mg x=none)(l:bootBuiltins x=some (.type T))(m:PA X (e::es) t)(n:x≠"__name__":=by decide)(b:(x==("__debug__":Str))=false:=by decide)(c:starEach (e::es) X.env=(false,eval e X.env)::starEach es X.env:=by rfl)(a:(backTo pos (starEach es X.env)).any (·.1)=false:=by rfl):PE X (.Call (.Name x p) (e::es) [] pos) (tCB r t):=by
 intro pins s σ H Q I h;refine wpAny_Call_Name_kw (EZ I j i l ?_ n b);exact Qc (thn (m pos pins s σ H _ I h) (by rintro d g ⟨f,H1,k,r1,q1⟩;exact hc pins g σ H1 f d Q k r1 q1)) c a
end
end L2
namespace HT
open PySem PyProof.Rows
section
open PySem.SeqAt
open PySem.AutoSeq1 (wpAny_loadPart')
open PySem.MeetsSeq PySem.MeetsSeq2 PySem.MeetsSeq3
end
section
theorem cat_tup(r:IsTup s.heap t vs.toArray)(q:IsTup s.heap b a.toArray)(o:vs≠[])(h1:a=[]->Q (.ref t) s)(h2:a≠[]->Q (.ref s.heap.objs.size) {s with heap:=s.heap.push {cls:=.type "tuple",data:=.seq (vs++a).toArray}})(k:vs.length+a.length<=sizeLine):wpAny (model prog w) A (binaryOp .Add (.ref t) (.ref b)) Q E s:=by
 obtain⟨⟨cls,p,data,m⟩,i,hc,n,hd⟩:=id r;obtain⟨⟨l,f,j,g⟩,c,d,n2,h⟩:=id q;simp only at hc hd d h;subst hc hd d h;have e:vs.toArray++a.toArray=(vs++a).toArray:=by simp
 by_cases hw:a=[]
 ·exact concat_meets ⟨_,i,rfl⟩ ⟨_,c,rfl⟩ noFill_tuple_add seq_tuple_add PySem.F.slot_tuple_add PySem.F.entry_tuple_add (PySem.F.args_tuple_add_2 _ _)
   (tuple_addW1 t b vs.toArray a.toArray n n2 p f m g (by simpa using o) (by simp[hw])) ⟨i,c,h1 hw⟩
 ·refine concat_meets ⟨_,i,rfl⟩ ⟨_,c,rfl⟩ noFill_tuple_add seq_tuple_add PySem.F.slot_tuple_add PySem.F.entry_tuple_add (PySem.F.args_tuple_add_2 _ _)
   (tuple_addW2 t b vs.toArray a.toArray n n2 p f m g (by simpa using o) (by simpa using hw) (by rw[Yn,Yn];exact k)) ⟨i,c,?_⟩
  rw[e];exact h2 hw
def sIx(n d:Nat):Option Int->Nat
 | none=>d
 | some v=>if v < 0 then(v+(n:Int)).toNat else min v.toNat n
theorem sIx_none(n d:Nat):sIx n d none=d:=rfl
theorem sIx_nat(n d k:Nat):sIx n d (some (k:Int))=min k n:=by
 show(if(k:Int) < 0 then((k:Int)+(n:Int)).toNat else min (k:Int).toNat n)=min k n;rw[if_neg (by lia),Int.toNat_natCast]
theorem cc(n d:Nat)(hd:d<=n)(o:Option Int):sIx n d o<=n:=by
 cases o with
 | none=>exact hd
 | some v =>
  show(if v < 0 then(v+(n:Int)).toNat else min v.toNat n)<=n;by_cases a:v < 0
  ·rw[if_pos a];lia
  ·rw[if_neg a];exact Nat.min_le_right _ _
theorem QG(v:Int)(n d:Nat):(if v < 0 then max (v+(n:Int)) 0 else min v (n:Int))=((sIx n d (some v):Nat):Int):=by
 show(if v < 0 then max (v+(n:Int)) 0 else min v (n:Int))=(((if v < 0 then(v+(n:Int)).toNat else min v.toNat n):Nat):Int);by_cases a:v < 0
 ·simp only[if_pos a];lia
 ·simp only[if_neg a];lia
theorem ce(lo hi:Option Int)(n:Nat):Builtin.Slice.sliceAdjust lo hi 1 (n:Int)=(((sIx n 0 lo:Nat):Int),((sIx n n hi:Nat):Int)):=by
 have h1:¬ ((1:Int) < 0):=by lia
 unfold Builtin.Slice.sliceAdjust;simp only[h1,if_false];refine Prod.ext ?_ ?_
 ·cases lo with
  | none=>rfl
  | some v=>exact QG v n 0
 ·cases hi with
  | none=>rfl
  | some v=>exact QG v n n
theorem cf(i j:Nat):Builtin.Slice.slicePlaces (i:Int) (j:Int) 1=j - i:=by
 unfold Builtin.Slice.slicePlaces;have h1:(1:Int) > 0:=by lia
 simp only[h1,if_true,Int.ediv_one];split <;> lia
theorem QH(p:IsPart v o)(h:Q o s):wpAny (model prog w) A (Builtin.Slice.slicePartIndex v) Q E s:=by
 cases p with
 | none=>exact slicePart_none h
 | int i t=>exact slicePart_int h
theorem QI{lo:Option Int}{Q:Int×Int×Nat->Shared->Prop}(f:s.heap.IsSliceOf d vl c .none)(pl:IsPart vl lo)(g:IsPart c hi)(h:Q (((sIx n 0 lo:Nat):Int),1,sIx n n hi - sIx n 0 lo) s):wpAny (model prog w) A (Builtin.Slice.sliceApplied (.ref d) (pure (n:Int))) Q E s:=by
 obtain⟨os,a,e,b⟩:=id f;unfold Builtin.Slice.sliceApplied Builtin.Slice.sliceFields;refine Ql (Ql (wpAny_field a b (x:=vl) rfl (Ql (wpAny_field a b (x:=c) rfl (Ql (wpAny_field a b (x:=.none) rfl (Qm ?_)))))));refine Ql (slicePart_none ?_);show wpAny _ _ (if((1:Int)==0)=true then _ else _) _ _ s;rw[if_neg (by decide)];refine Ql (QH pl (Ql (QH g (Ql (Qm ?_)))));show wpAny _ _ (match Builtin.Slice.sliceAdjust lo hi 1 (n:Int)with |(lo,hi)=>pure (lo,(1:Int),Builtin.Slice.slicePlaces lo hi 1)) _ _ s;rw[ce lo hi n];show wpAny _ _ (pure (((sIx n 0 lo:Nat):Int),(1:Int),Builtin.Slice.slicePlaces ((sIx n 0 lo:Nat):Int) ((sIx n n hi:Nat):Int) 1)) _ _ s;rw[cf];exact Qm h
theorem cg(xs:Array Value)(i k:Nat):((List.range k).filterMap λ(m:Nat)=>xs[((i:Int)+(m:Int)*1).toNat]?).toArray=((xs.toList.drop i).take k).toArray:=by
 have e:(λ(m:Nat)=>xs[((i:Int)+(m:Int)*1).toNat]?)=λm=>xs[i+m]?:=by
  funext m;have:((i:Int)+(m:Int)*1).toNat=i+m:=by lia
  rw[this]
 rw[e];have:=pick_run xs i k;rw[List.filterMap_map]at this;have a:((λx=>xs[x]?)∘λx=>i+x)=λm=>xs[i+m]?:=rfl;rw[a]at this;rw[this]
theorem getItem_tuple_cut{lo:Option Int}(b:IsTup s.heap t items)(j:s.heap.IsSliceOf g vl i .none)(pl:IsPart vl lo)(n:IsPart i hi)(hw:¬ (sIx items.size 0 lo=0/\sIx items.size items.size hi=items.size))(h:Q (.ref s.heap.objs.size) {s with heap:=s.heap.push {cls:=.type "tuple",data:=.seq ((items.toList.drop (sIx items.size 0 lo)).take (sIx items.size items.size hi - sIx items.size 0 lo)).toArray}})(l:items.size<=sizeLine):wpAny (model prog w) A (getItem (.ref t) (.ref g)) Q E s:=by
 have a:sizeOk (.seq ((items.toList.drop (sIx items.size 0 lo)).take (sIx items.size items.size hi - sIx items.size 0 lo)).toArray):=by
  show((items.toList.drop (sIx items.size 0 lo)).take (sIx items.size items.size hi - sIx items.size 0 lo)).toArray.size<=sizeLine;rw[Yn,List.length_take,List.length_drop,YS];lia
 have o:sIx items.size items.size hi<=items.size:=cc _ _ (Yr _) hi;obtain⟨os,c,e,k⟩:=id j;have d:s.TypeIs (.ref g) "slice":=⟨os,c,e⟩;unfold getItem
 try with_reducible refine wpAny_holding ?_
 first | refine Ql (Qm ?_)| skip
 refine Ql (wpAny_sequenceKey b.typeIs (by decide) ?_)
 refine Ql (wpAny_callSpecial?_slot (name:=Str.ofString "__getitem__") b.typeIs PyProof.Rows.slot_tuple_getitem
  (wpAny_call_entry PyProof.Rows.slot_tuple_getitem b.typeIs entry_tuple_getitem ?_ (args_tuple_getitem _ _)))
 show wpAny _ _ (Builtin.Tuple.tupleItemsOf (.ref t) >>=_) _ _ s;refine Ql (tupleItemsOf_ b ?_);refine Ql (wpAny_typeOf d ?_);rw[if_pos (by decide)];refine Ql (QI j pl n ?_)
 have f:¬ ((((sIx items.size 0 lo:Nat):Int)==0&&(1:Int)==1&&(sIx items.size items.size hi - sIx items.size 0 lo)==items.size)=true):=by
  intro q;rw[YG,YG]at q;have q1:((sIx items.size 0 lo:Nat):Int)=0:=eq_of_beq q.1.1;have q2:sIx items.size items.size hi - sIx items.size 0 lo=items.size:=eq_of_beq q.2;exact hw ⟨by lia,by lia⟩
 show wpAny _ _ (if(((sIx items.size 0 lo:Nat):Int)==0&&(1:Int)==1&&(sIx items.size items.size hi - sIx items.size 0 lo)==items.size)=true then _ else _) _ _ s;rw[if_neg f,cg]
 first
  | exact Ql (m:=Builtin.Tuple.tupleExact _) (wpAny_newObj_type (Qm ⟨_,rfl,Qm h⟩) a)
  | exact Ql (m:=Builtin.Tuple.tupleExact _) (wpAny_newObj_type (Ql (Qm (Qm ⟨_,rfl,Qm h⟩))) a)
  | exact Ql (Ql (m:=Builtin.Tuple.tupleExact _) (wpAny_newObj_type (Qm (Qm ⟨_,rfl,Qm h⟩)) a))
  | exact Ql (Ql (m:=Builtin.Tuple.tupleExact _) (wpAny_newObj_type (Qm ⟨_,rfl,Qm h⟩) a))
end
end HT
namespace L2
open PySem PySem.Spec PyProof.Rows
abbrev TO:=St->Hp->(Option Int->Hp->Prop)->Prop
def PO(X:Cx)(e:Option Expr)(t:TO):Prop :=
 ∀(pins:List (Addr×Obj))(s:Shared)(σ:St)(H:Hp)(Q:Option Int->Hp->Prop),Inv X pins σ H s->t σ H Q->
  wpAny (model X.prog X.w) X.A (evalPart e X.env) (λu s'=>∃ o H',Inv X pins σ H' s'/\IsPart u o/\Q o H') X.xe s
def ci:TO:=λ_ H Q=>Q none H
def cj(t:TE):TO:=λσ H Q=>t σ H λx H1=>∃ i,x=.int i/\Q (some i) H1
section
variable {X:Cx}{te:TE}{lo hi:Option Expr}{tl th:TO}
theorem ck:PO X none ci:=by
 intro pins s σ H Q I h;rw[evalPart_none];exact Qm ⟨none,H,I,.none,h⟩
theorem cm(h:PE X e te):PO X (some e) (cj te):=by
 intro pins s σ H Q I hw;rw[evalPart_some];refine thn (h pins s σ H _ I hw) λu c a=>?_;obtain⟨x,H1,b,r1,q1⟩:=a;obtain⟨i,rfl,q⟩:=q1;obtain⟨t,rfl⟩:=r1;exact⟨some i,H1,b,.int i t,q⟩
def SlR(X:Cx)(r:V->Option Int->Option Int->Hp->VK->Prop):Prop :=
 ∀(pins:List (Addr×Obj))(s:Shared)(σ:St)(H:Hp)(x:V)(v vl vu:Value)(lo hi:Option Int)(sl:Addr)(Q:VK),Inv X pins σ H s->RelV x v->s.heap.IsSliceOf sl vl vu .none->IsPart vl lo->IsPart vu hi->r x lo hi H Q->
  ∃ T id,typeLookup (.type T) "__getitem__"=pure (some (.builtin id))/\s.TypeIs v T/\wpAny (model X.prog X.w) X.A (getItem v (.ref sl)) (EP X pins σ Q) X.xe s
theorem SlR.or(h:SlR X r)(h':SlR X r'):SlR X (λx lo hi H Q=>r x lo hi H Q\/r' x lo hi H Q):=by
 intro pins s σ H x v vl a lo hi d Q I c b pl e q;rcases q with q | q
 ·exact h pins s σ H x v vl a lo hi d Q I c b pl e q
 ·exact h' pins s σ H x v vl a lo hi d Q I c b pl e q
def tSl(r:V->Option Int->Option Int->Hp->VK->Prop)(te:TE)(tl th:TO):TE:=λσ H Q=>te σ H λx H1=>tl σ H1 λl H2=>th σ H2 λu H3=>r x l u H3 Q
theorem QJ(D:SlR X r)(i:PE X e te)(hl:PO X lo tl)(p:PO X hi th):PE X (.Subscript e (.Slice lo hi none p2) pos) (tSl r te tl th):=by
 intro pins s σ H Q I h;refine Subscript_ (thn (i pins s σ H _ I h) λv k c=>?_);obtain⟨x,H1,y,r1,q1⟩:=c;refine wpAny_Slice (thn (hl pins k σ H1 _ y q1) λvl g⟨l,H2,m,pl,q2⟩=>thn (p pins g σ H2 _ m q2) λd a⟨u,f,j,z,q3⟩=>?_);rw[evalPart_none];refine Qm ?_;have B:Inv X pins σ f {a with heap:=a.heap.push {cls:=.type "slice",data:=.fields #[vl,d,.none]}}:=j.kept (t':=a.toks) λb E q=>Qn _ q;obtain⟨T,id,t,n,o⟩:=D pins {a with heap:=a.heap.push {cls:=.type "slice",data:=.fields #[vl,d,.none]}} σ f x v vl d l u a.heap.objs.size Q B r1 (Heap.IsSliceOf.new ..) pl z q3;show wpAny (model X.prog X.w) X.A (subscriptTail e (.Slice lo hi none p2) v (.ref a.heap.objs.size)) (EP X pins σ Q) X.xe {a with heap:=a.heap.push {cls:=.type "slice",data:=.fields #[vl,d,.none]}};exact tail_any (ops:=[.ref a.heap.objs.size,v]) n t o (by with_unfolding_all rfl)
def E0(xs:List V)(lo hi:Option Int):List V:=(xs.drop (HT.sIx xs.length 0 lo)).take (HT.sIx xs.length xs.length hi - HT.sIx xs.length 0 lo)
theorem QK(xs:List V)(lo hi:Option Int):(E0 xs lo hi).length<=xs.length:=by
 unfold E0;rw[List.length_take,List.length_drop];lia
def Mh(K:PySem.W.Frag):V->Option Int->Option Int->Hp->VK->Prop:=λx lo hi H Q=>∃ a xs,x=.ref a/\SqT K H a xs/\
 ¬ (HT.sIx xs.length 0 lo=0/\HT.sIx xs.length xs.length hi=xs.length)/\∀ p,H p=none->Q (.ref p) (upd H p (.tup (E0 xs lo hi)))
theorem QL:SlR X (Mh X.K):=by
 intro pins s σ H x v vl l lo hi m Q I i g pl k h;obtain⟨a,xs,rfl,j,hw,q⟩:=h;cases i;obtain⟨d,r,e,f⟩:=I.tuple j;have c:d.toArray.size=xs.length:=by rw[Yn];exact r.length.symm
 refine⟨"tuple",_,PyProof.Rows.slot_tuple_getitem.lookup,e.typeIs,?_⟩;refine HT.getItem_tuple_cut e g pl k (by rw[c];exact hw) ?_ (by rw[c];exact f);rw[c];refine⟨.ref s.heap.objs.size,_,I.laid (t':=s.toks) (o:=.tup (E0 xs lo hi)) (λb n q=>Qn _ q) (Yr _) ?_,rfl,q _ (I.hok.fresh (Yr _))⟩;exact⟨Yt (QK xs lo hi) f,_,(r.drop (HT.sIx xs.length 0 lo)).take (HT.sIx xs.length xs.length hi - HT.sIx xs.length 0 lo),TupP.new _ _⟩
def Mi(K:PySem.W.Frag):R2:=λx y H Q=>∃ a b xs ys,x=.ref a/\y=.ref b/\SqT K H a xs/\SqT K H b ys/\xs≠[]/\xs.length+ys.length<=sizeLine/\
 (ys=[]->Q (.ref a) H)/\(ys≠[]->∀ p,H p=none->Q (.ref p) (upd H p (.tup (xs++ys))))
theorem Vals.nil_iff(r:Vals xs us):us=[]↔xs=[]:=by
 cases r with
 | nil=>simp
 | cons _ _=>simp
theorem cn:OpR X (binaryOp .Add) (Mi X.K):=by
 intro pins s σ H x y v u Q I g l h;obtain⟨a,b,xs,ys,rfl,rfl,k,f,j,e,q1,q2⟩:=h;cases g;cases l;obtain⟨i,r1,p1,_⟩:=I.tuple k;obtain⟨d,c,p2,_⟩:=I.tuple f;refine HT.cat_tup p1 p2 (λz=>j (r1.nil_iff.mp z)) (λz=>⟨.ref a,H,I,rfl,q1 (c.nil_iff.mp z)⟩) (λz=>?_) (by rw[<- r1.length,<- c.length];exact e);refine⟨.ref s.heap.objs.size,_,I.laid (t':=s.toks) (o:=.tup (xs++ys)) (λb m q=>Qn _ q) (Yr _) ?_,rfl,q2 (λw=>z (c.nil_iff.mpr w)) _ (I.hok.fresh (Yr _))⟩;exact⟨by rw[Yj];exact e,_,r1.append c,TupP.new _ _⟩
end
def ixN(n:Nat)(i:Int):Option Nat:=if 0<=i then(if i < n then some i.toNat else none)else if -(n:Int)<=i then some (i+n).toNat else none
def atI{α:Type}(xs:List α)(i:Int):Option α:=(ixN xs.length i).bind λj=>xs[j]?
theorem QM(h:ixN n i=some j):seqIndex? i n=some j/\j < n/\-(n:Int)<=i/\i < n:=by
 unfold ixN at h;by_cases a:0<=i
 ·rw[if_pos a]at h;by_cases h1:i < n
  ·rw[if_pos h1]at h;have e:i.toNat=j:=YE h;exact⟨by rw[seqIndex_of a h1,e],by lia,by lia,h1⟩
  ·rw[if_neg h1]at h;cases h
 ·rw[if_neg a]at h;by_cases h1:-(n:Int)<=i
  ·rw[if_pos h1]at h;have e:(i+n).toNat=j:=YE h;exact⟨by rw[seqIndex_neg (by lia) h1,e],by lia,h1,by lia⟩
  ·rw[if_neg h1]at h;cases h
theorem Mj{α:Type}{xs:List α}{v:α}(h:atI xs i=some v):∃ j,seqIndex? i xs.length=some j/\xs[j]?=some v/\j < xs.length/\-(xs.length:Int)<=i/\i < xs.length:=by
 unfold atI at h;cases e:ixN xs.length i with
 | none=>rw[e]at h;cases h
 | some j =>
  rw[e]at h;obtain⟨h1,h2,b,a⟩:=QM e;exact⟨j,h1,h,h2,b,a⟩
theorem CB{α:Type}{xs:List α}{j:Nat}{v:α}(h:xs[j]?=some v):atI xs (j:Int)=some v:=by
 have a:j < xs.length:=(YW.mp h).1
 have e:ixN xs.length (j:Int)=some j:=by
  unfold ixN;rw[if_pos (by lia),if_pos (by lia)];simp
 unfold atI;rw[e];exact h
def Js(b:Expr):Prop:=∀ o i,subscripted b false o i=operate [o,i] (getItem o i)
def IxR(X:Cx)(r:R2):Prop :=
 ∀(value slice:Expr)(pins:List (Addr×Obj))(s:Shared)(σ:St)(H:Hp)(x y:V)(v u:Value)(Q:VK),Inv X pins σ H s->RelV x v->RelV y u->r x y H Q->
  subscripted slice false v u=operate [v,u] (getItem v u)->wpAny (model X.prog X.w) X.A (subscriptTail value slice v u) (EP X pins σ Q) X.xe s
def MtR(X:Cx)(id:String)(r:V->List V->Hp->VK->Prop):Prop :=
 ∀(pins:List (Addr×Obj))(s:Shared)(σ:St)(H:Hp)(x:V)(xs:List V)(v:Value)(us:List Value)(Q:VK),Inv X pins σ H s->RelV x v->Vals xs us->r x xs H Q->
  wpAny (model X.prog X.w) X.A (call (.builtin id) (v::us)) (EP X pins σ Q) X.xe s
section
variable {a b:Expr}
theorem IxR.or(h:IxR X r)(h':IxR X r'):IxR X (λx y H Q=>r x y H Q\/r' x y H Q):=by
 intro value slice pins s σ H x y v u Q I b c q a;rcases q with q | q
 ·exact h value slice pins s σ H x y v u Q I b c q a
 ·exact h' value slice pins s σ H x y v u Q I b c q a
theorem MtR.or{id:String}(h:MtR X id r)(h':MtR X id r'):MtR X id (λx xs H Q=>r x xs H Q\/r' x xs H Q):=by
 intro pins s σ H x xs v a Q I b c q;rcases q with q | q
 ·exact h pins s σ H x xs v a Q I b c q
 ·exact h' pins s σ H x xs v a Q I b c q
theorem cp(i:IxR X r)(j:PE X a ta)(d:PE X b tb)(e:Js b):PE X (.Subscript a b pos) (tOp r ta tb):=by
 intro pins s σ H Q I h;exact Subscript_ (L6 j d I h λv u c x y H2 g f k q=>i a b pins c σ H2 x y v u Q g f k q (e _ _))
def Ml(K:PySem.W.Frag):R2:=λx y H Q=>∃ p xs i v,x=.ref p/\y=.int i/\SqL K H p xs/\atI xs i=some v/\Q v H
def Mm(K:PySem.W.Frag):R2:=λx y H Q=>∃ p xs i v,x=.ref p/\y=.int i/\SqT K H p xs/\atI xs i=some v/\Q v H
def Mn:R2:=λx y H Q=>∃ z i c,x=.str z/\y=.int i/\z.length<=sizeLine/\atI z.cps.toList i=some c/\Q (.str ⟨#[c]⟩) H
theorem cq:IxR X (Ml X.K):=by
 intro value slice pins s σ H x y v u Q I l A h e;obtain⟨p,xs,i,z,rfl,rfl,o,k,q⟩:=h;cases l;obtain⟨t,rfl⟩:=A;obtain⟨c,r,pl,E⟩:=I.list o;obtain⟨j,h1,h2,B,m,n⟩:=Mj k;obtain⟨w,f,d⟩:=r.get h2;have hl:=r.length;have D:=GM;have a:EP X pins σ Q w s:=⟨z,H,I,d,q⟩;by_cases g:0<=i
 ·have b:i.toNat=j:=by
   rw[seqIndex_of g n]at h1;exact YE h1
  exact item_listR pl.isList g (by lia) (by rw[b];simpa using f) a e
 ·have b:(i+(c.toArray.size:Int)).toNat=j:=by
   rw[seqIndex_neg (by lia) m]at h1;rw[Yn,<- hl];exact YE h1
  exact subscriptTail_builtinR (x:=w) pl.isList.typeIs slot_list_getitem.lookup
   (wpAny_getItem_list_neg (Q:=λr s'=>r=w/\EP X pins σ Q r s') pl.isList (by lia) (by rw[Yn] <;> lia) (by lia) (by rw[b];simpa using f) ⟨rfl,a⟩) e
theorem cr:IxR X (Mm X.K):=by
 intro value slice pins s σ H x y v u Q I e k h d;obtain⟨p,xs,i,z,rfl,rfl,g,c,q⟩:=h;cases e;obtain⟨t,rfl⟩:=k;obtain⟨f,r,pl,A⟩:=I.tuple g;obtain⟨j,h1,h2,m,n,o⟩:=Mj c;obtain⟨w,l,b⟩:=r.get h2;have hl:=r.length;have B:=GM;have a:EP X pins σ Q w s:=⟨z,H,I,b,q⟩
 exact subscriptTail_builtinR (x:=w) pl.typeIs slot_tuple_getitem.lookup
  (getItem_tuple (j:=j) (Q:=λr s'=>r=w/\EP X pins σ Q r s') pl (by lia) (by lia) (by rw[Yn,<- hl];exact h1) (by simpa using l) ⟨rfl,a⟩) d
theorem cu:IxR X Mn:=by
 intro value slice pins s σ H x y v u Q I e k h d;obtain⟨z,i,c,rfl,rfl,o,a,q⟩:=h;obtain⟨t,rfl⟩:=e;obtain⟨t',rfl⟩:=k;obtain⟨j,h1,h2,m,f,g⟩:=Mj a;have hl:z.cps.toList.length=z.length:=by simp[Str.length]
 rw[hl]at h1 f g;have n:=GM
 exact tail_any (typeIs_str s z t) slot_str_getitem.lookup (getItem_str (c:=c) (by
  have b:decide (i < -(2 ^ 63:Int))=false:=Qj (by lia);have l:decide (i>=2 ^ 63)=false:=Qj (by lia);rw[b,l,Bool.or_false]) (by rw[h1];simpa using h2) ⟨.str ⟨#[c]⟩,H,I.tok _,⟨_,rfl⟩,q⟩) d
theorem cw(a:List Value)(n j:Nat)(u:Value):Obj.mapSeq (·.setIfInBounds j u) {cls:=.type "list",data:=.seq a.toArray n}={cls:=.type "list",data:=.seq (a.set j u).toArray n}:=by
 simp[Obj.mapSeq]
theorem Inv.lst{σ:St}(I:Inv X pins σ H s)(h:H p=some (.lst xs)):
  ∃(a:List Value)(n:Nat),Vals xs a/\s.heap.get? p=some {cls:=.type "list",data:=.seq a.toArray n}/\xs.length<=sizeLine:=by
 obtain⟨z,a,n,r,e⟩:=I.hok p _ h;exact⟨a,n,r,e,z⟩
theorem Inv.lstUpd{σ:St}{a:List Value}(I:Inv X pins σ H s)(h:H p=some (.lst xs))(j:s.heap.get? p=some {cls:=.type "list",data:=.seq a.toArray n})(d:f {cls:=.type "list",data:=.seq a.toArray n}={cls:=.type "list",data:=.seq its'.toArray c})(r:Vals ys its')(i:ys.length<=sizeLine)(t:Nat):
  Inv X pins σ (upd H p (.lst ys)) {s with heap:=s.heap.update p f,toks:=t}:=by
 have e:(s.heap.update p f).get? p=some {cls:=.type "list",data:=.seq its'.toArray c}:=by
  rw[Heap.get?_update_self f j (by rw[d] <;> rfl),d]
 refine I.write (x:=p) (e:=p) (by rw[h];trivial) (.inl rfl) (λb u g q=>(Heap.get?_update_other _ _ (YV g)).trans q) ⟨_,e⟩ ?_;exact⟨i,its',c,r,e⟩
def QN:V->V->V->Hp->(Hp->Prop)->Prop:=λo i v H Q=>∃ p xs k j,o=.ref p/\i=.int k/\H p=some (.lst xs)/\ixN xs.length k=some j/\Q (upd H p (.lst (xs.set j v)))
theorem cx:P4 X QN:=by
 intro pins s σ H o i v D B u Q I w y x h;obtain⟨p,xs,k,j,rfl,rfl,f,m,q⟩:=h;cases w;obtain⟨t,rfl⟩:=y;obtain⟨a,n,r,c,z⟩:=I.lst f;obtain⟨h1,h2,e,g⟩:=QM m;have hl:=r.length;have A:=GM
 have d:Inv X pins σ (upd H p (.lst (xs.set j v))) {s with heap:=s.heap.update p (Obj.mapSeq (·.setIfInBounds j u))}:=
  I.lstUpd f c (cw a n j u) (r.set x j) (by rw[List.length_set];exact z) s.toks
 by_cases l:0<=k
 ·have b:k.toNat=j:=by
   rw[seqIndex_of l g]at h1;exact YE h1
  exact PySem.W.ki_setAt c l (by lia) (by rw[Yn,<- hl];exact g) (by rw[b];exact⟨_,d,q⟩)
 ·have b:(k+(a.toArray.size:Int)).toNat=j:=by
   rw[seqIndex_neg (by lia) e]at h1;rw[Yn,<- hl];exact YE h1
  exact PySem.W.ki_setBack c (by lia) (by rw[Yn,<- hl];exact e) (by lia) (by rw[b];exact⟨_,d,q⟩)
theorem cy(lo hi:Option Int)(n:Nat):(sliceBounds lo hi none n).1=((HT.sIx n 0 lo:Nat):Int)/\(sliceBounds lo hi none n).2.1=((HT.sIx n n hi:Nat):Int)/\(sliceBounds lo hi none n).2.2=1:=by
 refine⟨?_,?_,rfl⟩
 ·cases lo with
  | none=>simp[sliceBounds,HT.sIx]
  | some i =>
   simp only[sliceBounds,HT.sIx,Option.getD_none,show(1:Int) > 0 by decide,if_true];by_cases h:i < 0
   ·simp only[h,if_true] <;> lia
   ·simp only[h,if_false] <;> lia
 ·cases hi with
  | none=>simp[sliceBounds,HT.sIx]
  | some i =>
   simp only[sliceBounds,HT.sIx,Option.getD_none,show(1:Int) > 0 by decide,if_true];by_cases h:i < 0
   ·simp only[h,if_true] <;> lia
   ·simp only[h,if_false] <;> lia
theorem cz(a:List Value)(lo hi:Option Int):slicePick a.toArray lo hi none=((a.drop (HT.sIx a.length 0 lo)).take (HT.sIx a.length a.length hi - HT.sIx a.length 0 lo)).toArray:=by
 obtain⟨h1,h2,b⟩:=cy lo hi a.toArray.size;unfold slicePick;rw[h1,h2,b];simp only[sliceRange_one,pick_run,Yn] <;> rfl
def Mo(K:PySem.W.Frag):V->Option Int->Option Int->Hp->VK->Prop:=λx lo hi H Q=>∃ a xs,x=.ref a/\SqL K H a xs/\∀ p,H p=none->Q (.ref p) (upd H p (.lst (E0 xs lo hi)))
theorem QO:SlR X (Mo X.K):=by
 intro pins s σ H x v vl l lo hi m Q I f e pl j h;obtain⟨a,xs,rfl,i,q⟩:=h;cases f;obtain⟨g,r,d,k⟩:=I.list i;have c:=r.length;refine⟨"list",_,slot_list_getitem.lookup,d.isList.typeIs,?_⟩;refine wpAny_getItem_list_slice d.isList e pl j .none (by simp) ?_ (by rw[Yn] <;> lia);rw[cz,<- c];refine⟨.ref s.heap.objs.size,_,I.laid (t':=s.toks) (o:=.lst (E0 xs lo hi)) (λb n q=>Qn _ q) (Yr _) ?_,rfl,q _ (I.hok.fresh (Yr _))⟩;exact⟨Yt (QK xs lo hi) k,_,0,(r.drop (HT.sIx xs.length 0 lo)).take (HT.sIx xs.length xs.length hi - HT.sIx xs.length 0 lo),Qp _ rfl⟩
def DX:V->Bool
 | .non=>true
 | .bl _=>true
 | .int _=>true
 | .str _=>true
 | _=>false
def eqV:V->V->Bool
 | .non,.non=>true
 | .bl a,.bl b=>a==b
 | .bl a,.int b=>(if a then 1 else 0)==b
 | .int a,.bl b=>a==(if b then 1 else 0)
 | .int a,.int b=>a==b
 | .str a,.str b=>a==b
 | _,_=>false
theorem Hz(d:RelV y u)(c:RelV x v)(f:DX y=true)(e:DX x=true):SeqAt.EqAt A s u v (eqV y x):=by
 cases y with
 | non =>
  cases d;cases x with
  | non=>cases c;exact SeqAt.EqAt.same _
  | bl b=>cases c;exact SeqAt.EqAt.none_bool b
  | int b=>obtain⟨t,rfl⟩:=c;exact SeqAt.EqAt.none_int b t
  | str b=>obtain⟨t,rfl⟩:=c;exact SeqAt.EqAt.none_str b t
  | _=>exact Qk (show false=true from e) YT
 | bl a =>
  cases d;cases x with
  | non=>cases c;exact SeqAt.EqAt.bool_none a
  | bl b=>cases c;exact SeqAt.EqAt.bool_bool a b
  | int b=>obtain⟨t,rfl⟩:=c;exact SeqAt.EqAt.bool_int a b t
  | str b=>obtain⟨t,rfl⟩:=c;exact SeqAt.EqAt.bool_str a b t
  | _=>exact Qk (show false=true from e) YT
 | int a =>
  obtain⟨t',rfl⟩:=d;cases x with
  | non=>cases c;exact SeqAt.EqAt.int_none a t'
  | bl b=>cases c;exact SeqAt.EqAt.int_bool a t' b
  | int b=>obtain⟨t,rfl⟩:=c;exact SeqAt.EqAt.int_int a t' b t
  | str b=>obtain⟨t,rfl⟩:=c;exact SeqAt.EqAt.int_str a t' b t
  | _=>exact Qk (show false=true from e) YT
 | str a =>
  obtain⟨t',rfl⟩:=d;cases x with
  | non=>cases c;exact SeqAt.EqAt.str_none a t'
  | bl b=>cases c;exact SeqAt.EqAt.str_bool a t' b
  | int b=>obtain⟨t,rfl⟩:=c;exact SeqAt.EqAt.str_int a t' b t
  | str b=>obtain⟨t,rfl⟩:=c;exact SeqAt.EqAt.str_str a t' b t
  | _=>exact Qk (show false=true from e) YT
 | _=>exact Qk (show false=true from f) YT
def eqU(x:V)(u:Value):Bool:=match u with
 | .none=>eqV .non x
 | .bool b=>eqV (.bl b) x
 | .int i _=>eqV (.int i) x
 | .str z _=>eqV (.str z) x
 | _=>false
theorem QP(r:RelV y u)(f:DX y=true):eqU x u=eqV y x:=by
 cases y with
 | non=>cases r;rfl
 | bl b=>cases r;rfl
 | int i=>obtain⟨t,rfl⟩:=r;rfl
 | str z=>obtain⟨t,rfl⟩:=r;rfl
 | _=>exact Qk (show false=true from f) YT
theorem HA:∀{xs:List V}{us:List Value},Vals xs us->xs.all DX=true->us.any (eqU x)=xs.any λy=>eqV y x
 | _,_,.nil,_=>rfl
 | y::xs,u::us,.cons r t,f=>by
  rw[List.all_cons,YG]at f;rw[List.any_cons,List.any_cons,QP r f.1,HA t f.2]
theorem HB(b:RelV x v)(c:DX x=true):∀{xs:List V}{us:List Value},Vals xs us->xs.all DX=true->∀ u∈us,SeqAt.EqAt A s u v (eqU x u)
 | _,_,.nil,_=>λu a=>by cases a
 | y::xs,u::us,.cons r t,f=>λd a=>by
  rw[List.all_cons,YG]at f;walk_at "pf"
  ·rw[QP r f.1];exact Hz r b f.1 c
  ·exact HB b c t f.2 d a
def inV(x:V)(xs:List V):Bool:=xs.any λy=>eqV y x
def rIn(K:PySem.W.Frag)(neg:Bool):R2:=λx y H Q=>∃ p xs,y=.ref p/\(SqL K H p xs\/SqT K H p xs)/\DX x=true/\xs.all DX=true/\Q (.bl (if neg then !inV x xs else inV x xs)) H
theorem cA:OpR X (compareOp .In) (rIn X.K false):=by
 intro pins s σ H x y v u Q I c f h;obtain⟨p,xs,rfl,b,d,fs,q⟩:=h;cases f;rcases b with b | b
 ·obtain⟨a,r,pl,e⟩:=I.list b;refine SeqAt.in_listAt (eqU x) pl.isList (λw hw=>HB c d r fs w (by simpa using hw)) ⟨.bl _,H,I,rfl,?_⟩;rw[show a.toArray.any (eqU x)=a.any (eqU x) by simp,HA r fs];exact q
 ·obtain⟨a,r,pl,e⟩:=I.tuple b;refine SeqAt.in_tupleAt (eqU x) pl (λw hw=>HB c d r fs w (by simpa using hw)) ⟨.bl _,H,I,rfl,?_⟩;rw[show a.toArray.any (eqU x)=a.any (eqU x) by simp,HA r fs];exact q
theorem cB:OpR X (compareOp .NotIn) (rIn X.K true):=by
 intro pins s σ H x y v u Q I c f h;obtain⟨p,xs,rfl,b,d,fs,q⟩:=h;cases f;rcases b with b | b
 ·obtain⟨a,r,pl,e⟩:=I.list b;refine SeqAt.notIn_listAt (eqU x) pl.isList (λw hw=>HB c d r fs w (by simpa using hw)) ⟨.bl _,H,I,rfl,?_⟩;rw[show a.toArray.any (eqU x)=a.any (eqU x) by simp,HA r fs];exact q
 ·obtain⟨a,r,pl,e⟩:=I.tuple b;refine SeqAt.notIn_tupleAt (eqU x) pl (λw hw=>HB c d r fs w (by simpa using hw)) ⟨.bl _,H,I,rfl,?_⟩;rw[show a.toArray.any (eqU x)=a.any (eqU x) by simp,HA r fs];exact q
theorem CallR.or(h:CallR X f r)(h':CallR X f r'):CallR X f (λxs H Q=>r xs H Q\/r' xs H Q):=by
 intro pins s σ H xs a Q I b q;rcases q with q | q
 ·exact h pins s σ H xs a Q I b q
 ·exact h' pins s σ H xs a Q I b q
theorem cC:CallR X (.type "list") (λxs H Q=>∃ p ys,xs=[.ref p]/\(SqL X.K H p ys\/SqT X.K H p ys)/\∀ l,H l=none->Q (.ref l) (upd H l (.lst ys))):=by
 intro pins s σ H xs m Q I r h;obtain⟨p,ys,rfl,i,q⟩:=h;obtain⟨u,rfl,k⟩:=C1 r;cases k
 have f:∀(a:List Value),Vals ys a->ys.length<=sizeLine->∀(h':Heap)(c:Nat),(∀ b o',s.heap.get? b=some o'->h'.get? b=some o')->
   h'.get? s.heap.objs.size=some {cls:=.type "list",dict:=none,data:=.seq a.toArray c,slots:=#[]}->EP X pins σ Q (.ref s.heap.objs.size) {s with heap:=h'}:=λa r' g h' c kp e=>
  ⟨.ref s.heap.objs.size,_,I.laid (t':=s.toks) kp (Yr _) (show ObjOk X.prog X.w _ h' _ (.lst ys)from⟨g,a,c,r',e⟩),rfl,q _ (I.hok.fresh (Yr _))⟩
 rcases i with i | i
 ·obtain⟨a,r',pl,g⟩:=I.list i;have d:=r'.length;obtain⟨o,j,hc,n,hd⟩:=pl.isList;exact call_list_seq p (.inl rfl) j hc hd (λh' c kp e=>f a r' g h' c kp e) (by simp only[Yn] <;> lia)
 ·obtain⟨a,r',pl,g⟩:=I.tuple i;have d:=r'.length;obtain⟨o,j,hc,n,hd⟩:=pl;exact call_list_seq p (.inr rfl) j hc hd (λh' c kp e=>f a r' g h' c kp e) (by simp only[Yn] <;> lia)
theorem cD:CallR X (.type "tuple") (λxs H Q=>∃ p ys,xs=[.ref p]/\((SqL X.K H p ys/\∀ l,H l=none->Q (.ref l) (upd H l (.tup ys)))\/(SqT X.K H p ys/\Q (.ref p) H))):=by
 intro pins s σ H xs k Q I r h;obtain⟨p,ys,rfl,h⟩:=h;obtain⟨u,rfl,i⟩:=C1 r;cases i;rcases h with⟨c,q⟩|⟨c,q⟩
 ·obtain⟨a,r',pl,g⟩:=I.list c;have d:=r'.length;refine call_tuple_list pl.isList (λh' kp=>?_) (by simp only[Yn] <;> lia);have f:Inv X pins σ H {s with heap:=h'}:=I.kept (t':=s.toks) kp
  have j:Inv X pins σ (upd H h'.objs.size (.tup ys)) {s with heap:=h'.push {cls:=.type "tuple",data:=.seq a.toArray}}:=
   f.laid (t':=s.toks) (λb o e=>Qn _ e) (Yr _) (show ObjOk X.prog X.w _ _ _ (.tup ys)from⟨g,a,r',TupP.new _ _⟩)
  exact⟨.ref h'.objs.size,_,j,rfl,q _ (f.hok.fresh (Yr _))⟩
 ·obtain⟨a,r',pl,g⟩:=I.tuple c;exact call_tuple_same pl ⟨.ref p,H,I,rfl,q⟩
def tyV(K:PySem.W.Frag)(T:String)(x:V)(H:Hp):Prop:=match x with
 | .str _=>T="str"
 | .int _=>T="int"
 | .ref p=>(T="list"/\∃ xs,SqL K H p xs)\/(T="tuple"/\∃ o,K.lookup p=some o/\o.cls=.type "tuple"/\o.dict=none)\/
   (T="dict"/\((∃ kvs,H p=some (.dK kvs))\/∃ kvs,H p=some (.dT kvs)))\/(T="set"/\∃ S n,H p=some (.set S n))
 | _=>False
theorem cE{σ:St}(I:Inv X pins σ H s)(r:RelV x v)(ty:tyV X.K T x H):
  s.TypeIs v T/\∀ a,v=.ref a->∃ g,s.heap.get? a=some g/\g.dict=none:=by
 cases x with
 | str z =>
  obtain⟨t,rfl⟩:=r;cases(show T="str" from ty);exact⟨typeIs_str s z t,λ_ e=>nomatch e⟩
 | int i =>
  obtain⟨t,rfl⟩:=r;cases(show T="int" from ty);exact⟨typeIs_int s i t,λ_ e=>nomatch e⟩
 | ref p =>
  cases r;rcases ty with⟨rfl,xs,h⟩|⟨rfl,o,b,hc,hd⟩|⟨rfl,b⟩|⟨rfl,S,n,b⟩
  ·obtain⟨j,_,pl,_⟩:=I.list h;refine⟨pl.isList.typeIs,λa e=>?_⟩;cases e;obtain⟨o,n,e,c,hd,_⟩:=pl;exact⟨o,e,hd⟩
  ·refine⟨⟨o,I.kIn p o b,hc⟩,λa e=>?_⟩;cases e;exact⟨o,I.kIn _ o b,hd⟩
  ·have z:∃ o,s.heap.get? p=some o/\o.ExactDict:=by
    rcases b with⟨d,b⟩|⟨d,b⟩
    ·obtain⟨_,_,_,_,o,_,_,e,ex,_⟩:=I.hok p _ b;exact⟨o,e,ex⟩
    ·obtain⟨_,_,_,_,o,_,_,e,ex,_⟩:=I.hok p _ b;exact⟨o,e,ex⟩
   obtain⟨o,e,ex⟩:=z;refine⟨⟨o,e,ex.1⟩,λa f=>?_⟩;cases f;exact⟨o,e,ex.2.1⟩
  ·obtain⟨o,_,_,_,e,ex,_⟩:=I.hok p _ b;refine⟨⟨o,e,ex.1⟩,λa f=>?_⟩;cases f;exact⟨o,e,ex.2.1⟩
 | _=>exact Qe ty
def tBM(K:PySem.W.Frag)(T:String)(r:V->List V->Hp->VK->Prop)(to:TE)(t:TA):TE:=λσ H Q=>to σ H λx H1=>tyV K T x H1/\t σ H1 λxs H2=>r x xs H2 Q
theorem cF{apos cpos:Pos}{id:String}(pa:PlainAttrs T)(slot:Slot T name id)(f:typeOf (.builtin id)=pure (.type "method_descriptor"))(u:MtR X id r)(y:PE X o to)(w:PA X (e::es) t)(a:attributeBase o name X.env (eval o X.env)=eval o X.env:=by rfl)(d:((backTo cpos (starEach (e::es) X.env)).all (λx=>!x.1)&&(backToKw cpos (keywordEach [] X.env)).all (λx=>x.1.isSome)
   && decide ((e::es).length+([]:List Keyword).length+(if([]:List Keyword).isEmpty then 0 else 1) < 30))=true:=by rfl)(b:(apos.endLine==cpos.line)=true:=by rfl)(m:starEach (e::es) X.env=(false,eval e X.env)::starEach es X.env:=by rfl)(hplain:(backTo cpos (starEach es X.env)).any (·.1)=false:=by rfl):
  PE X (.Call (.Attribute o name apos) (e::es) [] cpos) (tBM X.K T r to t):=by
 intro pins s σ H Q I h;refine wpAny_Call_method_late a d b rfl (thn (y pins s σ H _ I h) λv n c=>?_);obtain⟨x,H1,i,r1,ty,q1⟩:=c;obtain⟨h1,h2⟩:=cE i r1 ty;refine⟨T,id,pa,slot,f,h1,h2,?_⟩;have g:=w cpos pins n σ H1 _ i q1;rw[m]at g ⊢;refine Calls.callWith_builtin (by show(false||(backTo cpos (starEach es X.env)).any (·.1))=false;rw[hplain] <;> rfl) (Calls.evalArgs_plain ?_);exact thn g (by rintro l k ⟨p,H2,q,j,q2⟩;exact u pins k σ H2 x p v l Q q r1 j q2)
end
def MtM(X:Cx)(id:String)(r:V->List V->Hp->VK->Prop):Prop :=
 ∀(pins:List (Addr×Obj))(s:Shared)(σ:St)(H:Hp)(x:V)(xs:List V)(v:Value)(us:List Value)(Q:VK),Inv X pins σ H s->RelV x v->Vals xs us->r x xs H Q->
  wpAny (model X.prog X.w) X.A (call (.builtin id) (v::us)) (EP X pins σ Q) X.xe s
theorem Vals.one:∀{x:V}{us:List Value},Vals [x] us->∃ u,us=[u]/\RelV x u
 | _,_,.cons r .nil=>⟨_,rfl,r⟩
theorem Vals.two:∀{x y:V}{us:List Value},Vals [x,y] us->∃ u v,us=[u,v]/\RelV x u/\RelV y v
 | _,_,_,.cons r (.cons q .nil)=>⟨_,_,rfl,r,q⟩
theorem Vals.zero:∀{us:List Value},Vals [] us->us=[]
 | _,.nil=>rfl
theorem Vals.rep(h:Vals xs us):∀ k:Nat,Vals (List.replicate k xs).flatten (List.replicate k us).flatten
 | 0=>.nil
 | k+1=>by
  rw[List.replicate_succ,List.replicate_succ,List.flatten_cons,List.flatten_cons];exact Vals.append h (Vals.rep h k)
theorem QQ(b:List Value):∀(k:Nat)(a:List Value),
  List.foldl (λd c=>d++c) a.toArray (List.replicate k b.toArray)=(a++(List.replicate k b).flatten).toArray
 | 0,a=>by simp
 | k+1,a=>by
  have e:a.toArray++b.toArray=(a++b).toArray:=by simp
  have f:(a++b)++(List.replicate k b).flatten=a++(List.replicate (k+1) b).flatten:=by
   rw[List.replicate_succ,List.flatten_cons,Yv]
  rw[<- f,<- QQ b k (a++b),<- e,List.replicate_succ,List.foldl_cons]
section
variable {X:Cx}{pins:List (Addr×Obj)}{σ:St}{H:Hp}{s:Shared}{l b:Addr}{xs ys:List V} in
theorem Inv.lset{a its':List Value}{n:Nat}{f:Array Value->Array Value}{t':Nat}(I:Inv X pins σ H s)(c:H l=some (.lst xs))
  (e:s.heap.get? l=some {cls:=.type "list",data:=.seq a.toArray n}) (b:f a.toArray=its'.toArray) (h:Vals ys its') (i:ys.length<=sizeLine):
  Inv X pins σ (upd H l (.lst ys)) {s with heap:=s.heap.update l (Obj.mapSeq f),toks:=t'}:=by
 have q:=PySem.IsL.update e f;rw[b]at q;refine I.write (x:=l) (e:=l) (by rw[c];exact trivial) (.inl rfl) (λj u d g=>(Heap.get?_update_other s.heap (Obj.mapSeq f) (YV d)).trans g) ⟨_,q⟩ ?_;exact⟨i,its',_,h,q⟩
variable {X:Cx}{pins:List (Addr×Obj)}{σ:St}{H:Hp}{s:Shared}{b:Addr}{ys:List V} in
theorem Inv.lnew{a:List Value}{t':Nat}(I:Inv X pins σ H s)(c:Vals ys a)(b:ys.length<=sizeLine):
  Inv X pins σ (upd H s.heap.objs.size (.lst ys)) {s with heap:=s.heap.push {cls:=.type "list",data:=.seq a.toArray},toks:=t'}:=
 I.laid (λ_ _ q=>Qn _ q) (Yr _) ⟨b,a,0,c,Qp _ rfl⟩
theorem Inv.fresh{σ:St}(I:Inv X pins σ H s):H s.heap.objs.size=none:=I.hok.fresh (Yr _)
variable {X:Cx}{pins:List (Addr×Obj)}{σ:St}{H:Hp}{s:Shared}{l b:Addr}{xs:List V} in
theorem Inv.lstM(I:Inv X pins σ H s)(b:H l=some (.lst xs)):xs.length<=sizeLine/\∃(a:List Value)(n:Nat),Vals xs a/\xs.length=a.length/\s.heap.get? l=some {cls:=.type "list",data:=.seq a.toArray n}:=by
 obtain⟨z,a,n,r,e⟩:=I.hok l _ b;exact⟨z,a,n,r,r.length,e⟩
theorem QR(h:n<=sizeLine):Builtin.List.listTooLong n=false:=by
 unfold Builtin.List.listTooLong;exact Qj (by lia)
end
section
def cG:V->List V->Hp->VK->Prop:=λx vs H Q=>∃ l xs y,x=.ref l/\vs=[y]/\H l=some (.lst xs)/\xs.length < sizeLine/\Q .non (upd H l (.lst (xs++[y])))
theorem cH:MtM X "list.append" cG:=by
 intro pins s σ H x i v g Q I d c h;obtain⟨l,xs,y,rfl,rfl,b,j,q⟩:=h;cases d;obtain⟨u,rfl,f⟩:=c.one;obtain⟨z,a,n,r,hl,e⟩:=I.lstM b;refine call_meets F.slot_list_append ⟨_,e,rfl⟩ F.entry_list_append (F.args_list_append_2 _ _) (PySem.list_append l a.toArray n u (by rw[Yn];lia)) ⟨e,?_⟩;refine⟨.non,_,I.lset (its':=a++[u]) b e (by simp) (r.append (.cons f .nil)) ?_,rfl,q⟩;rw[Yj,List.length_singleton];lia
def cI:V->List V->Hp->VK->Prop:=λx vs H Q=>∃ l b xs zs,x=.ref l/\vs=[.ref b]/\H l=some (.lst xs)/\H b=some (.lst zs)/\xs.length+zs.length<=sizeLine/\Q .non (upd H l (.lst (xs++zs)))
theorem cJ:MtM X "list.extend" cI:=by
 intro pins s σ H x A v w Q I k j h;obtain⟨l,b,xs,zs,rfl,rfl,g,o,B,q⟩:=h;cases k;obtain⟨u,rfl,m⟩:=j.one;cases m;obtain⟨z,c,n,r,hl,e⟩:=I.lstM g;obtain⟨y,a,n2,i,p,t⟩:=I.lstM o;have f:c.toArray.size+a.toArray.size<=sizeLine:=by rw[Yn,Yn];lia
 have d:¬ (!c.toArray.isEmpty&&Builtin.List.listTooLong (c.toArray.size+a.toArray.size))=true:=by
  rw[QR f,Bool.and_false];exact YT
 refine call_meets F.slot_list_extend ⟨_,e,rfl⟩ F.entry_list_extend (F.args_list_extend_2 _ _)
  (AutoSeq1.list_extend_list_list_0 l c.toArray n b a.toArray n2 d (by rw[Yn];lia) (by lia)) ⟨e,t,?_⟩
 refine⟨.non,_,I.lset (its':=c++a) g e (by simp) (r.append i) ?_,rfl,q⟩;rw[Yj];lia
def HC:R2:=λx y H Q=>∃ l b xs zs,x=.ref l/\y=.ref b/\H l=some (.lst xs)/\H b=some (.lst zs)/\xs.length+zs.length<=sizeLine/\∀ p,H p=none->Q (.ref p) (upd H p (.lst (xs++zs)))
theorem cK:OpR X (binaryOp .Add) HC:=by
 intro pins s σ H x y v u Q I g k h;obtain⟨l,b,xs,zs,rfl,rfl,f,j,t,q⟩:=h;cases g;cases k;obtain⟨z,c,n,r,hl,e⟩:=I.lstM f;obtain⟨p,a,n2,d,i,m⟩:=I.lstM j;refine PySem.P.add_list e m ?_ (by rw[Yn,Yn];lia);have o:c.toArray++a.toArray=(c++a).toArray:=by simp
 rw[o];exact⟨.ref _,_,I.lnew (t':=s.toks) (r.append d) (by rw[Yj];lia),rfl,q _ I.fresh⟩
def QS:R2:=λx y H Q=>∃ l k xs,x=.ref l/\y=.int k/\H l=some (.lst xs)/\-(2 ^ 63)<=k/\k < 2 ^ 63/\xs.length*k.toNat<=sizeLine/\
 ∀ p,H p=none->Q (.ref p) (upd H p (.lst (List.replicate k.toNat xs).flatten))
theorem cL{α:Type}(xs:List α)(k:Nat):(List.replicate k xs).flatten.length=k*xs.length:=by
 induction k with
 | zero=>simp
 | succ k a=>rw[List.replicate_succ,List.flatten_cons,Yj,a,Nat.succ_mul,Nat.add_comm]
theorem cM:OpR X (binaryOp .Mult) QS:=by
 intro pins s σ H x y v u Q I A D h;obtain⟨l,k,xs,rfl,rfl,w,h1,h2,p,q⟩:=h;cases A;obtain⟨t,rfl⟩:=D;obtain⟨z,b,n,r,hl,e⟩:=I.lstM w;have g:b.toArray.size*k.toNat<=sizeLine:=by rw[Yn,<- hl];exact p
 have d:¬ b.toArray.size*k.toNat >(2 ^ 63 - 1) / 8:=by
  have:(sizeLine:Nat)<=(2 ^ 63 - 1) / 8:=by decide
  lia
 have i:¬ (!Builtin.List.listFitsIndex k)=true:=by
  rw[fitsIndex_both h1 h2];exact YT
 have c:¬ Builtin.List.listTooLong (b.toArray.size*k.toNat)=true:=by
  rw[QR g];exact YT
 have f:List.foldl (λo j=>o++j) #[] (List.replicate (if b.toArray.isEmpty=true then 0 else k.toNat) b.toArray)=(List.replicate k.toNat b).flatten.toArray:=by
  have B:∀ m:Nat,List.foldl (λo j=>o++j) #[] (List.replicate m b.toArray)=(List.replicate m b).flatten.toArray:=λm=>by
   have:=QQ b m [];rw[Yw]at this;exact this
  rw[B];cases b with
  | nil=>simp
  | cons a r'=>rw[if_neg (by simp)]
 refine wpAny_binaryOp_repeat_ref (T:="list") (U:="int") (by decide) ⟨_,e,rfl⟩ (λs'=>typeIs_int s' k t) noFill_list_mul F.fills_int_mul F.slot_int_rmul repeat_list F.slot_int_index.lookup
  (call_meets F.slot_int_rmul (typeIs_int s k t) F.entry_int_rmul (F.args_int_rmul_2 _ _) (int___rmul___int_list k t l b.toArray n)
   ⟨e,rfl,⟨_,e,rfl⟩,call_meets F.slot_list_mul ⟨_,e,rfl⟩ F.entry_list_mul (F.args_list_mul_2 _ _) (AutoListH.list___mul___list_int_3 l b.toArray n k t i d c) ⟨e,?_⟩⟩)
 rw[f];exact⟨.ref _,_,I.lnew (t':=s.toks) (r.rep k.toNat) (by rw[cL,Nat.mul_comm];exact p),rfl,q _ I.fresh⟩
end
section
end
section
end
end L2
namespace Att
open PySem PySem.W PySem.Calls PyProof.Rows
theorem cN:∀(ns:List Int)(vs:List Value),WellAll P h vs (ns.map WData.int)->IntsAre vs ns:=by
 intro ns;induction ns with
 | nil =>
  intro vs w;rw[YI]at w;cases w;exact .nil
 | cons n ns c =>
  intro vs w;rw[Ym]at w;cases w with
  | cons a b =>
   cases a;exact .cons _ _ (c _ b)
theorem cO{l:OpenLaw}(t:l.most=some n)(b:l.row.toRowW.claim.pre args=true)(j:WellAll P h c args):
  ∃ a vs ns,c=[Value.ref a]/\args=[WData.list (ns.map WData.int)]/\h.get? a=some {cls:=.type "list",data:=.seq vs.toArray}/\IntsAre vs ns/\ns.length<=n:=by
 have k:WShape.hasAll [] args [.list .int]=true:=(pre_splitW b).1;have hc:l.pre.holds [] {args:=args}=true:=(pre_splitW b).2;obtain⟨d,r,rfl,h1,h2⟩:=hasAllW_cons k;obtain rfl:=hasAllW_nil h2;obtain⟨xs,rfl,o⟩:=hasW_list h1;obtain⟨ns,rfl⟩:=items_int o
 have e:ns.length<=n:=by
  unfold OpenLaw.pre at hc
  have g:(WTm.not (.lt (.lit (.int (n:Int))) (.len (.arg 0)))).holds [] {args:=[.list (ns.map .int)]}=true:=by
   have g:=(holds_andW hc).1;rw[t]at g;exact g
  have i:=condW_of g (w_not (w_lt w_lit (w_len_list (w_arg rfl))));rw[Yh]at i;refine Nat.le_of_not_lt λq=>?_;have m:(n:Int) <((ns.length:Nat):Int):=by lia
  first
   |(rw[YH m]at i;exact Qk i (by decide))
   |(simp at i;lia)
 cases j with
 | cons s u =>
  cases u;cases s with
  | list p f=>exact⟨_,_,ns,rfl,rfl,p,cN ns _ f,e⟩
theorem cP(l:OpenLaw)(args:List WData):l.row.toRowW.claim.post args (.bool true) args=true :=
 postW_of (r:=l.row.toRowW) (X:=(true==true))
  (show WShape.has [] (.bool true) .bool=true by first | rfl | decide | simp[WShape.has,WShape.arms,WShape.armsAll])
  (show(WTm.eq .res (.lit (.bool true))).value [] {args:=args,res:=some (.bool true),after:=args}=some (.bool (true==true))from w_eq_bool (w_res rfl) w_lit) rfl
theorem attach_call{l:OpenLaw}(D:l.most=some n)(s:d.params.defaults=[])(call:∀(w:World)(s₀ b:Shared)(mg p:Str->Option Value)(j:Addr)(o:Obj)(pm cd c:Value)(a:Addr)(vs:List Value)(ns:List Int),
   Ground q loose [] XP w s₀ mg p b.heap->YP w b.heap->
   b.heap.get? j=some o->o.data=.func (docDef d.name d.params d.body d.scope pm cd c)->b.heap.CodeRec cd d.name->mg d.name=some (.ref j)->
   b.heap.get? a=some {cls:=.type "list",data:=.seq vs.toArray}->IntsAre vs ns->ns.length<=n->b.gens=#[]->
   codeAny (model l.prog w) callerA (.call (.ref j) ⟨[.ref a],[]⟩) (λr s'=>r=.ok (.ret (.bool true))/\OldK b.heap s'.heap/\s'.os=b.os/\AllBare s'.gens) b):
  WalkO q loose XP YP l.row.toRowW d [] (λf vs=>PySem.call f vs):=by
 intro w s₀ b mg p G Y j o pm cd c E kV F hd t u k I y v L h x z m A;obtain rfl:E=.none:=Dflts.none u s;obtain rfl:kV=.none:=Dflts.noKw u;obtain⟨a,vs,ns,rfl,rfl,g,e,i⟩:=cO D h m;refine enter_call (codeAny_mono (call w s₀ b mg p j o pm cd c a vs ns G Y F (fd_plain hd) t k g e i I) λr s' K=>?_);obtain⟨rfl,h2,H,B⟩:=K;exact⟨.inl ⟨.bool true,.bool true,[],rfl,λ_=>rfl,.bool true,cP l _,λ_=>⟨List.Pairwise.nil,λ_ J=>(nomatch J)⟩⟩,h2,H,B⟩
section
end
end Att
namespace L2
open PySem PySem.Spec PyProof.Rows
theorem QT:∀{vs:List Value}{ns:List Int},IntsAre vs ns->Vals (ns.map V.int) vs
 | _,_,.nil=>.nil
 | _,_,.cons n t h=>.cons ⟨t,rfl⟩ (QT h)
def Jt(H:Hp):Prop:=∀ b,H b=none\/∃ o xs,H b=some (.frz o (.lst xs))
theorem cQ{K:PySem.W.Frag}(KX:K.In c.heap)(A:c.heap.Ns mainGlobals mg)(f:c.heap.Ns builtinsNs N)(G:∀ x:Str,x≠"__name__"->N x=bootBuiltins x)(l:c.heap.NoLimit)(hg:c.gens=#[])(E:c.heap.get? a=some {cls:=.type "list",data:=.seq vs.toArray})(hi:IntsAre vs ns)(hl:ns.length<=sizeLine)(hr:Room k callerA)(F:∀ base:Heap,K.In base->base.Ns mainGlobals mg->FnOk P w K mg base CX k R fd [x] sp)(j:∀(s:Shared)(u:Value),BindsTo s fd ⟨[u],[]⟩ [(x,u)])(L:∀ H:Hp,Jt H->SqL K H a (ns.map V.int)->sp [.ref a] H (λv _=>v=.bl true) λ_ _ _=>False)(O:∀ H e s',CX [] H c (λ_ _ _=>False) e s'->False):
  codeAny (model P w) callerA (.call (.ref R) ⟨[.ref a],[]⟩) (λr s'=>r=.ok (.ret (.bool true))/\OldK c.heap s'.heap/\s'.os=c.os/\AllBare s'.gens) c:=by
 have X:=QT hi;have y:=hi.length
 have i:∀ H:Hp,Jt H->SqL K H a (ns.map V.int)->HOk P w H c.heap->(∀ b,H b≠none->b=a)->(H a≠none->K.lookup a=none)->
   codeAny (model P w) callerA (.call (.ref R) ⟨[.ref a],[]⟩) (λr s'=>r=.ok (.ret (.bool true))/\OldK c.heap s'.heap/\s'.os=c.os/\AllBare s'.gens) c:=by
  intro H U hS hok T hK;have base_of:∀{b:Addr}{o:Obj},c.heap.get? b=some o->H b=none->(Ef c.heap H).get? b=some o:=λe n=>Z9 e n
  have I:∀{b:Addr}{o:Obj}{es:Array DictEntry}{t:Nat},c.heap.get? b=some o->o.data=.dict es t->H b=none:=λ{b o es t}e d=>by
   cases q:H b with
   | none=>rfl
   | some u =>
    have J:b=a:=T b (by rw[q];simp);subst J;rw[E]at e;cases e;have Y:Data.seq vs.toArray _=Data.dict es t:=d;cases Y
  have g:∀{b:Addr}{m:Str->Option Value},c.heap.Ns b m->(Ef c.heap H).Ns b m:=λ{b m}⟨o,es,t,e,d,r⟩=>⟨o,es,t,base_of e (I e d),d,r⟩
  have D:K.In (Ef c.heap H):=λb o e=>base_of (KX b o e) (by
   cases q:H b with
   | none=>rfl
   | some u =>
    have J:b=a:=T b (by rw[q];simp);subst J;rw[hK (by rw[q];simp)]at e;cases e)
  have hM:Mod K mg (Ef c.heap H):=⟨D,g A,⟨N,g f,G⟩,let⟨mc,h1,h2⟩:=l;⟨mc,g h1,h2⟩⟩;have e0:Env0 P w K mg (Ef c.heap H) callerA [] c H:=⟨rfl,hM,λb o e=>aa e,Nat.le_of_eq (Z8 _ _),trivial,λb f=>Qk (show b∈([]:List Addr)from f) (by simp),hok,.of_eq hg⟩;refine codeAny_mono ((F _ D (g A)).run callerA [] c H ⟨[.ref a],[]⟩ [.ref a] [.ref a] _ _ hr e0 (j c (.ref a)) (.cons rfl .nil) (L H U hS)) λr s' h=>?_;cases r with
  | error e=>exact(O H e s' h).elim
  | ok Z =>
   cases Z with
   | next=>exact Qe h
   | brk=>exact Qe h
   | cont=>exact Qe h
   | ret u =>
    obtain⟨v,H',os,bare,un,B,r',q⟩:=h;have q':v=.bl true:=q;subst q';obtain rfl:u=Value.bool true:=r';refine⟨rfl,OldK.of_keep λb o e=>?_,os,bare⟩;cases q:H b with
    | none=>exact un.keep b o e q (by intro z;exact Qk (show b∈([]:List Addr)from z) (by simp)) (by simp)
    | some u =>
     rcases U b with z |⟨ob,xs,z⟩
     ·rw[q]at z;cases z
     ·have z2:=un.frzs b ob _ z;obtain⟨S,_⟩:=hok b _ z;obtain⟨e2,_⟩:=B b _ z2;rw[e]at S;cases S;exact e2
 cases Q:K.lookup a with
 | some o =>
  have e:=KX a o Q;rw[E]at e;cases e;refine i (λ_=>none) (λ_=>.inl rfl) (.inr ⟨_,vs.toArray,_,Q,rfl,rfl,rfl,by rw[Yn,y];exact hl,by simpa using X⟩) (λb u z=>by have p:(none:Option HO)=some u:=z;cases p) (λb z=>Qk rfl z) λz=>Qk rfl z
 | none =>
  refine i (λb=>if b=a then some (.frz {cls:=.type "list",data:=.seq vs.toArray} (.lst (ns.map V.int)))else none) (λb=>?_) (.inl (.inr ⟨{cls:=.type "list",data:=.seq vs.toArray},if_pos rfl⟩)) (λb u z=>?_) (λb z=>?_) λ_=>Q
  ·by_cases f:b=a
   ·exact .inr ⟨_,_,if_pos f⟩
   ·exact .inl (if_neg f)
  ·by_cases f:b=a
   ·have p:=(if_pos f).symm.trans z;cases p;subst f;exact⟨E,by rw[Yh];exact hl,vs,_,X,E⟩
   ·have p:=(if_neg f).symm.trans z;cases p
  ·by_cases f:b=a
   ·exact f
   ·exact Qk (if_neg f) z
abbrev KOf{K:PySem.W.Frag}{h:Heap}(_:K.In h):PySem.W.Frag:=K
theorem cR{l:PySem.W.OpenLaw}{K:Params->PySem.W.Frag}{CX:World->CXT}{sp:World->Sp}(L:l.most=some n)(t:n<=sizeLine)(z:d.params.defaults=[])(I:Room k callerA)(D:∀(w:World)(h:Heap),YP w h->(K w.params).In h)(F:∀(w:World)(mg:Str->Option Value)(p:Addr)(h:Heap),(K w.params).In h->h.Ns mainGlobals mg->mg d.name=some (.ref p)->
   ∃ fd:FuncData,(∀(s:Shared)(u:Value),BindsTo s fd ⟨[u],[]⟩ [(x,u)])/\
    ∀ base:Heap,(K w.params).In base->base.Ns mainGlobals mg->FnOk l.prog w (K w.params) mg base (CX w) k p fd [x] (sp w))(r:∀(w:World)(H:Hp)(a:Addr)(ns:List Int),ns.length<=n->Jt H->SqL (K w.params) H a (ns.map V.int)->sp w [.ref a] H (λv _=>v=.bl true) λ_ _ _=>False)(y:∀(w:World)(H:Hp)(s:Shared)(e:Value)(s':Shared),CX w [] H s (λ_ _ _=>False) e s'->False):
  PySem.W.WalkO q loose XP YP l.row.toRowW d [] (λf vs=>PySem.call f vs):=by
 refine Att.attach_call L z λw s₀ m mg R p o pm cd E a vs ns G Y S hd O A j i c P=>?_;have KX:=D w _ Y;obtain⟨fd,B,J⟩:=F w mg p _ KX G.T.g A;exact cQ KX G.T.g G.T.b G.T.builtins G.T.nolimit P j i (Yt c t) I J B (λH N Q=>r w H a ns c N Q) λH e s'=>y w H m e s'
abbrev CX0:CXT:=λ_ _ _ _ _ _=>False
structure Fun(K:PySem.W.Frag)(x qual:Str)(st:Stmt)(f:Addr)(fd:FuncData):Prop where
 ex:∃(oc:Value)(od:Option Addr)(kV doc pm:Value)(an:Option Addr)(cdv ct:Value)(osl:Array (Option Value)),
  fd=PySem.W.fnOf x qual (BS st) (AO st) (Ak st) .none kV doc pm an cdv ct/\K.lookup f=some ⟨oc,od,.func fd,osl⟩/\PySem.W.codeIn K cdv qual=true
 kp:PySem.W.keepIn K (.ref f)=true
section
theorem Fun.ok{K:PySem.W.Frag}{st:Stmt}(F:Fun K x qual st f fd)(S:Az N ps (Ak st))(len:∀ vs H Q E,sp vs H Q E->vs.length=ps.length)(a:∀(cdv:Value)(A:Around)(outer:List Env)(s:Shared)(H:Hp)(vs:List V)(Q:VK)(E:XK),Room k (A.deeper (envOfC qual (Ak st) s.heap.objs.size f cdv))->sp vs H Q E->
   ∃ t,PSs (BA CX0 P w K mg base N qual (Ak st) f cdv A outer s H E).nox (AO st) t/\t {nx:=λ_ H'=>Q .non H',rt:=Q} (Dw N vs) H):FnOk P w K mg base CX0 (k+1) f fd ps sp:=by
 obtain⟨l,m,kV,e,pm,j,cdv,ct,i,rfl,d,b⟩:=F.ex;refine GP d b S len λA outer s H vs Q E g c=>?_;obtain⟨t,h,q⟩:=a cdv A outer s H vs Q E g c;exact⟨t,h.nox,q⟩
theorem Fun.binds{K:PySem.W.Frag}{st:Stmt}(F:Fun K x qual st f fd)(h:∀(kV a pm:Value)(b:Option Addr)(cdv ct:Value)(us:List Value),us.length=ps.length->bindArgs (PySem.W.fnOf x qual (BS st) (AO st) (Ak st) .none kV a pm b cdv ct) ⟨us,[]⟩=pure (ps.zip us)):Binds K fd ps []:=by
 obtain⟨g,i,kV,a,pm,b,cdv,ct,d,rfl,e,c⟩:=F.ex;exact .all (h kV a pm b cdv ct)
theorem QU{K:PySem.W.Frag}{st:Stmt}{kV:Value}(l:K.lookup f=some ⟨e,g,.func (PySem.W.fnOf x qual (BS st) (AO st) (Ak st) .none kV a pm d cdv ct),b⟩)(c:PySem.W.codeIn K cdv qual=true)(k:PySem.W.keepIn K (.ref f)=true):Fun K x qual st f (PySem.W.fnOf x qual (BS st) (AO st) (Ak st) .none kV a pm d cdv ct):=⟨⟨e,g,kV,a,pm,d,cdv,ct,b,rfl,l,c⟩,k⟩
end
section
theorem pv{X:Cx}(i:Nat){pos:Pos}(c:X.N[i]?=some x:=by rfl)(b:Vis X.env.scope x:=by first | exact Or.inl rfl | exact Or.inr (Or.inl rfl)| exact Or.inr (Or.inr rfl))(hd:(x==("__debug__":Str))=false:=by decide)(a:(x==("__classdict__":Str))=false:=by decide):PE X (.Name x pos) (P0 i):=P1 c b hd a
end
theorem BK{c A B:Prop}[Decidable c](h1:c->A)(h2:¬ c->B):if c then A else B:=by
 by_cases h:c
 ·rw[if_pos h];exact h1 h
 ·rw[if_neg h];exact h2 h
def Same(H H':Hp):Prop:=∀ b o,H b=some o->H' b=some o
theorem Same.refl(H:Hp):Same H H:=λ_ _ h=>h
theorem Same.trans(a:Same H H1)(b:Same H1 H2):Same H H2:=λc o h=>b c o (a c o h)
theorem Same.free(e:Same H H')(h:H' l=Option.none):H l=Option.none:=by
 cases q:H l with
 | none=>rfl
 | some o =>
  rw[e l o q]at h;cases h
theorem Same.seq{K:PySem.W.Frag}(e:Same H H')(h:SqL K H a xs):SqL K H' a xs:=by
 rcases h with(h |⟨o,h⟩)| h
 ·exact .inl (.inl (e _ _ h))
 ·exact .inl (.inr ⟨o,e _ _ h⟩)
 ·exact .inr h
end L2
namespace L3
open PySem PySem.Spec PyProof.Rows L2
namespace Tb
def hop(M:Nat):Nat->Nat->Nat
 | 0,i=>i
 | n+1,i=>hop M n ((i*5+1) % M)
def cover(M:Nat):Bool:=(List.range M).all λi=>(List.range M).all λj=>(List.range M).any λn=>hop M n i==j
end Tb
def bt(w:World):Bool:=w.params.followText "set-order"
structure Tab(w:World)(es:Array (Int×Value))(t:SetTable)(ks:List Str):Prop where
 el:∀ e∈es.toList,∃ x u,e=(hashStr w x,Value.str x u)
 pm:(es.toList.map λe=>strOf e.2).Perm ks
 nd:ks.Nodup
 ft:t.fits es.size=true
 ld:bt w=false->t.led=true
 pl:t.plain=true->ks=[]
def SS(w:World)(h:Heap)(a:Addr)(ks:List Str):Prop:=∃ o es ep t,h.get? a=some o/\o.ExactSet/\o.data=.set es ep t/\Tab w es t ks
namespace Tab
theorem len(T:Tab w es t ks):es.size=ks.length:=by
 have:=T.pm.length_eq;rw[Yh,YS]at this;exact this
theorem mem(T:Tab w es t ks)(k:Str):k∈ks↔∃ e∈es.toList,Value.isStrOf k e.2=true:=by
 rw[<- T.pm.mem_iff,YC];constructor
 ·rintro⟨e,a,rfl⟩;obtain⟨x,u,rfl⟩:=T.el e a;exact⟨_,a,by show Value.isStrOf x (.str x u)=true;simp[Value.isStrOf]⟩
 ·rintro⟨e,a,h⟩;obtain⟨x,u,rfl⟩:=T.el e a;refine⟨_,a,?_⟩;obtain⟨t,b⟩:=Value.isStrOf_shape h;injection b
end Tab
section
end
section
theorem SS.kept(S:SS w h a ks)(k:∀ o,h.get? a=some o->h'.get? a=some o):SS w h' a ks:=by
 obtain⟨o,es,c,t,b,r⟩:=S;exact⟨o,es,c,t,k o b,r⟩
theorem SS.nd(S:SS w h a ks):ks.Nodup:=by
 obtain⟨o,es,c,t,b,_,_,T⟩:=S;exact T.nd
end
section
end
section
end
section
end
section
end
end L3
namespace L2
open PySem PySem.Spec PyProof.Rows
section
theorem cS(I:Nat->Shared->Prop)(l:∀ e s',E' e s'->notedBy (model prog w) A env (λe s'=>R (.error e) s') e s')(t:∀ n s,I n s->wpAny (model prog w) A (pyNext u) (λr b=>match r with
   | none=>R (.ok .next) b
   | some v=>wpAny (model prog w) A (letOwnedTupleGo target u v) (λ_ s₁'=>wpAny (model prog w) A (assign target env v) (λ_ d=>
     wpAny (model prog w) A (forIn ifs true λc r=>if r=true then do let ok <- isTrue c env (eval c env);pure (ForInStep.yield ok)else pure (ForInStep.yield r)) (λok a=>
      if ok=true then wpAny (model prog w) A (eval elt env) (λx j=>
       wpAny (model prog w) A (call (.builtin "list.append") [k,x]) (λ_ i=>∃ m,m < n/\I m i) E' j) E' a
      else ∃ m,m < n/\I m a) E' d) E' s₁') E' b) E' s)(n:Nat)(h:I n s):
  codeAny (model prog w) A (.compLoop (.ListComp elt [⟨target,iter,ifs,0⟩] scope pos) 0 u k env) R s:=by
 refine codeAny_loop rfl I (λn s y=>?_) n h;show wpAny _ A ((compTurn (.ListComp elt [⟨target,iter,ifs,0⟩] scope pos) 0 u k env).onRaise (λx=>do noteFrame x env;theTreesLotGoes x)) _ _ s;refine wpAny_noted ?_;rw[compTurn_list];refine Ql (wpAny_standAt (Ql (wpAny_mono (t n s y) (λr b g=>?_) l)));cases r with
 | none=>exact Qm g
 | some v =>
  refine Ql (wpAny_mono g (λ_ s₁' h₁'=>?_) l);refine Ql (wpAny_mono h₁' (λ_ d p=>Ql (wpAny_mono p (λok a f=>?_) l)) l);cases ok with
  | false=>exact Qm ⟨rfl,f⟩
  | true =>
   exact Ql (Ql (wpAny_mono f (λx j o=>Ql (wpAny_mono o (λ_ i q=>Qm (Qm ⟨rfl,q⟩)) l)) l))
end
def PF(X:Cx)(ifs:List Expr)(t:TT):Prop :=
 ∀(pins:List (Addr×Obj))(s:Shared)(σ:St)(H:Hp)(Q:Bool->Hp->Prop),Inv X pins σ H s->t σ H Q->
  wpAny (model X.prog X.w) X.A (forIn ifs true λc r=>if r=true then do let ok <- isTrue c X.env (eval c X.env);pure (ForInStep.yield ok)else pure (ForInStep.yield r)) (TP X pins σ Q) X.xe s
def cT:TT:=λ_ H Q=>Q true H
theorem cU:PF X [] cT:=λ_ _ _ H _ I h=>wpAny_tests_nil ⟨H,I,h⟩
theorem cV(hc:PT X c t):PF X [c] t:=λpins s σ H Q I h=>wpAny_tests_one (hc pins s σ H Q I h)
def cxB(X:Cx)(Nc:List Str)(scope:Scope)(cl:List (Str×Addr))(C:Addr)(fp:List Addr)(s:Shared)(H:Hp):Cx :=
 {X with N:=Nc,s₀:=s,H₀:=H,env:=compEnvC scope cl C X.env,outer:=X.stack,ex:=fp,fn:=λ_=>false,pn:=[],xe:=λ_ _=>False}
structure Blk(X:Cx)(Nc:List Str)(scope:Scope)(cl:List (Str×Addr))(cap:St->St):Prop where
 clos:closureFor scope X.env=pure cl
 kind:scope.kind=.function
 names:∀ x∈scope.names,x.2=.local->scope.names.lookup x.1=some .local
 nocell:∀ y∈scope.names,y.2≠.cell
 sub:∀ y c,cl.lookup y=some c->X.env.cells.lookup y=some c
 has:∀ y,((relabel scope X.env).names.lookup y=some .cell\/(relabel scope X.env).names.lookup y=some .free)->∃ c,cl.lookup y=some c
 take:∀(σ:St)(i:Nat)(y:Str)(v:V),Nc[i]?=some y->(cap σ)[i]?=some (some v)->Vis (relabel scope X.env) y->
  ((relabel scope X.env).names.lookup y=some .cell\/(relabel scope X.env).names.lookup y=some .free)/\Vis X.env.scope y/\X.env.scope.names.lookup y≠some .local/\∃ j:Nat,X.N[j]?=some y/\σ[j]?=some (some v)
 len:∀ σ:St,(cap σ).length=Nc.length
theorem cW(h:∀ y∈scope.names,y.2≠.free):relabel scope env=scope:=by
 unfold relabel
 rw[map_eq_self (l:=scope.names) (λx a=>by
  obtain⟨n,k⟩:=x;have:(k==NameKind.free)=false:=by simpa using h _ a
  simp[this])]
theorem Mp{names:List (Str×NameKind)}(h:names.lookup x=some k):(x,k)∈names:=PySem.mem_of_lookup h
theorem Cj(kind:scope.kind=.function)(all:∀ y∈scope.names,y.2≠.free/\y.2≠.cell)(names:∀ x∈scope.names,x.2=.local->scope.names.lookup x.1=some .local):
  Blk X Nc scope [] (λ_=>List.replicate Nc.length none) where
 clos:=closureFor_none λx a=>(all x a).1
 kind:=kind
 names:=names
 nocell:=λy b=>(all y b).2
 sub:=λy c h=>by cases h
 has:=λy h=>by
  rw[cW λz d=>(all z d).1]at h;rcases h with h | h
  ·exact Qk rfl (all _ (Mp h)).2
  ·exact Qk rfl (all _ (Mp h)).1
 take:=λσ i y v h1 h2 e=>by
  rw[List.getElem?_replicate]at h2;split at h2 <;> cases h2
 len:=λσ=>List.length_replicate ..
def cOk(cap:St->St)(g:TG)(tt:TT)(te:TE)(K:List V->Hp->Prop)(σ:St)(J:It)(H1:Hp):Prop :=
 ∃ W:Nat->Nat->St->Hp->List V->Prop,(∃ m,W 0 m (cap σ) H1 [])/\∀ i m σ' H' ys,W i m σ' H' ys->
  (J.stop i H'/\K ys H')\/
  (J.go i H'/\ys.length < sizeLine/\∃ N:St->Hp->List V->Prop,(∀ σ2 H2 ys2,N σ2 H2 ys2->∃ m',m' < m/\W (i+1) m' σ2 H2 ys2)/\
   ∀ x H2,J.yld i H' x H2->g x σ' H2 λσ3 H3=>tt σ3 H3 λb H4=>if b=true then te σ3 H4 λy H5=>N σ3 H5 (ys++[y])else N σ3 H4 ys)
def Ju(wi:TI)(cap:St->St)(g:TG)(tt:TT)(te:TE):TE:=λσ H Q=>wi σ H λJ H1=>cOk cap g tt te (λys H'=>∀ a,H' a=none->Q (.ref a) (upd H' a (.lst ys))) σ J H1
section
theorem QV(hc:X.calm=true)(B:Blk X Nc scope cl cap)(hg:∀ C fp s H,PG (cxB X Nc scope cl C fp s H) tg g)(ht:∀ C fp s H,PF (cxB X Nc scope cl C fp s H) ifs tt)(he:∀ C fp s H,PE (cxB X Nc scope cl C fp s H) elt te){σ:St}{RR:Value->Addr->Result->Shared->Prop}{K:List V->Hp->Prop}(F:Inv X pins σ H2 P)(T:Eh X.prog X.w X.K tg J fp it tn)(st2:tn 0 P.heap)(f2:∀ b∈fp,Du X pins H2 b)(w2:cOk cap g tt te K σ J H2)(fin:∀(D C:Addr)(s':Shared)(H':Hp)(ys:List V)(oC:Obj),H' D=none->K ys H'->Inv X pins σ (upd H' D (.lst ys)) s'->Du X pins (upd H' D (.lst ys)) C->s'.heap.get? C=some oC->(∀ v,oC.data≠.cell v)->(∃ m,s'.heap.Ns C m)->RR (.ref D) C (.ok .next) s'):
  wpAny (model X.prog X.w) X.A (newList []) (λacc s₃=>wpAny (model X.prog X.w) X.A (newFunctionEnv scope X.env.globals cl [] X.env.qual none .none (some X.env)) (λcenv s₄=>
   codeAny (model X.prog X.w) X.A (.compStart (.ListComp elt [⟨tg,iter,ifs,0⟩] scope pos) 0 (.ref it) acc {cenv with scope:=relabel scope X.env}) (RR acc cenv.locals) s₄) E s₃) E P:=by
 refine wpAny_newObj_type (wpAny_newFunctionEnv B.nocell (by intro y hy;simp at hy) (λS G t=>?_) B.kind);dsimp only at G t ⊢;generalize hP2:P.heap.push {cls:=.type "list",dict:=none,data:=.seq ([]:List Value).toArray}=P2 at G t ⊢;generalize L:P.heap.objs.size=D at G t ⊢;have hCs:P2.objs.size=D+1:=by rw[<- hP2,Qq,L]
 generalize hCC:P2.objs.size=C at G t hCs ⊢;have hDC:D≠C:=Ys (by rw[hCs];exact Nat.lt_succ_self _);have Q:∀ b:Addr,b < D->b≠C:=λb h=>Ys (by rw[hCs];exact Nat.lt_succ_of_lt h);have leC:D<=C:=by rw[hCs];exact Nat.le_succ _
 have old:∀ b o,P.heap.get? b=some o->S.get? b=some o:=λb o e=>by
  have f:=Qo e;rw[L]at f;refine t.extBut b o (Q b f) (Qn _ ?_);rw[<- hP2];exact Qn _ e
 have hacc:S.get? D=some {cls:=.type "list",data:=.seq #[]}:=by
  refine t.extBut D _ hDC (Qn _ ?_);rw[<- hP2,<- L];exact Qp _ rfl
 have lt2:∀ b o,P.heap.get? b=some o->b < D:=λb o e=>by rw[<- L];exact Qo e
 have U:∀ b∈fp,b < D:=λb f=>by
  obtain⟨o,e,_⟩:=T.obj _ _ st2 b f;exact lt2 b o e
 have celt:∀ x c,X.env.cells.lookup x=some c->c < D:=λx c e=>by
  obtain⟨v,z⟩:=F.cell x c e;rw[<- L];exact z.lt
 have R:∀ p∈X.pn++pins,p.1 < D:=λp hp=>lt2 _ _ (F.pin p hp).1;have fstk:∀ b∈fp,b∉frs X.stack:=λb f z=>(Yo.mp (F.stkSub b z)).elim (f2 b f).2.1 (f2 b f).2.2.1;have hDn:H2 D=none:=F.hok.fresh (by rw[L];exact Yr _);have hCn:H2 C=none:=F.hok.fresh (by rw[L];exact leC);have sz0:X.s₀.heap.objs.size<=D:=by rw[<- L];exact F.sz
 let Xc:=cxB X Nc scope cl C fp P H2
 have okc:Xc.Ok:=by
  refine⟨F.ok.mod,?_,F.ok.glob,F.ok.blt,?_,λx y c h1 h2=>F.ok.inj x y c (B.sub x c h1) (B.sub y c h2),λx hx=>B.has x hx,(λx c h=>by cases h),F.ok.hd,F.ok.frames,.inl rfl,?_,F.bs,Yt F.ok.bsz F.sz,?_,fstk,F.stack,F.stkFree⟩
  ·exact B.kind
  ·show P.heap.objs.size<=C;rw[L];exact leC
  ·intro b f;refine⟨?_,λx c e=>?_⟩
   ·exact Q b (U b f)
   ·exact(f2 b f).2.2.2.2.1 x c (B.sub x c e)
  ·intro b o e f;rcases(f2 b f).2.2.2.1 with z | z
   ·exact F.ok.noex b o e z
   ·exact Qk (Yu (Qo (F.ok.bs b o e).1) z) (YK _)
 have I0:∀ tk,Inv Xc (X.pn++pins) (cap σ) H2 {P with heap:=S,toks:=tk}:=λtk=>by
  refine⟨okc,rfl,F.bare,Un.kept old,⟨_,G,λi y v h1 h2 h3=>?_⟩,λx c e=>?_,hCn,λx c e=>F.freeC x c (B.sub x c e),λp hp=>?_,F.hok.kept old,B.len σ⟩
  ·obtain⟨k1,k2,k3,j,k4,k5⟩:=B.take σ i y v h1 h2 h3;obtain⟨m,hn,hl⟩:=F.loc;obtain⟨u,r,l⟩:=hl j y v k4 k5 k2;refine⟨u,r,.inr ⟨k1,?_⟩⟩;rcases l with⟨l,_⟩|⟨_,c,e,z⟩
   ·exact Qk l k3
   ·obtain⟨c',e'⟩:=B.has y k1;have:=B.sub y c' e';rw[e]at this;cases this;obtain⟨oc,ec,dc⟩:=z;exact⟨c,e',oc,old _ _ ec,dc⟩
  ·obtain⟨v,oc,ec,dc⟩:=F.cell x c (B.sub x c e);exact⟨v,oc,old _ _ ec,dc⟩
  ·have Y:p∈X.pn++pins:=by simpa[Xc,cxB]using hp
   obtain⟨e,n,ne,nf,d⟩:=F.pin p Y;exact⟨old _ _ e,n,Q _ (R p Y),λz=>(Yo.mp (F.stkSub _ z)).elim ne nf,d⟩
 have fpc:∀{H':Hp}{o:Obj},(∀ b∈fp,H' b=none)->∀ b∈fp,Du Xc ((X.pn++pins)++[(D,o)]) H' b:=λ{H' o}hn b f=>by
  refine⟨hn b f,Q b (U b f),fstk b f,.inl f,λx c e=>(f2 b f).2.2.2.2.1 x c (B.sub x c e),λp hp=>?_⟩
  ·have Y:p∈X.pn++pins\/p=(D,o):=by
    rcases Yz.mp hp with z | z
    ·cases z
    ·rcases Yz.mp z with z | z
     ·exact .inl z
     ·exact .inr (YA.mp z)
   rcases Y with z | z
   ·exact(f2 b f).2.2.2.2.2 p z
   ·subst z;exact Nat.ne_of_gt (U b f)
 obtain⟨W,⟨m0,w0⟩,turn⟩:=w2
 have loop:∀ tk,codeAny (model X.prog X.w) X.A (.compLoop (.ListComp elt [⟨tg,iter,ifs,0⟩] scope pos) 0 (.ref it) (.ref D) Xc.env) (RR (.ref D) C) {P with heap:=S,toks:=tk}:=by
  intro tk
  refine cS (E':=λ_ _=>False)
   (λn s'=>∃(i:Nat)(σ':St)(H':Hp)(ys:List V)(I:List Value)(k:Nat),Inv Xc (X.pn++pins) σ' H' s'/\tn i s'.heap/\(∀ b∈fp,H' b=none)/\H' D=none/\s'.heap.get? D=some {cls:=.type "list",data:=.seq I.toArray k}/\
    Vals ys I/\ys.length<=sizeLine/\W i n σ' H' ys) (λ_ _ z=>z.elim) ?_ m0
   ⟨0,cap σ,H2,[],[],0,I0 tk,T.keep _ _ _ st2 λb _ o e=>old b o e,λb f=>(f2 b f).1,hDn,hacc,.nil,YU _,w0⟩
  rintro n s3 ⟨i,σ3,Z,ys,I,k,I3,st3,fr3,hD3,o3,rv3,hz3,w3⟩
  have I3':Inv Xc ((X.pn++pins)++[(D,{cls:=.type "list",data:=.seq I.toArray k})]) σ3 Z s3:=I3.pins_of λp hp=>by
   have Y:p∈X.pn++pins\/p=(D,{cls:=.type "list",data:=.seq I.toArray k}):=by
    rcases Yz.mp hp with z | z
    ·exact .inl z
    ·exact .inr (YA.mp z)
   rcases Y with z | z
   ·exact I3.pin p (by simpa[Xc,cxB]using z)
   ·subst z;refine⟨o3,hD3,hDC,λz=>?_,(λv z=>by cases z)⟩
    ·obtain⟨_,o,ho,_⟩:=F.stack.mem z;exact Qk (lt2 _ _ ho) (YK _)
  rcases turn i n σ3 Z ys w3 with⟨stop,qn⟩|⟨go,hlt,N,hN,step⟩
  ·refine thn (T.done Xc rfl rfl rfl hc i _ s3 σ3 Z _ I3' (fpc fr3) st3 stop) λr s4 zz1=>?_;obtain⟨hr,I4⟩:=zz1;subst hr;have pD:=I4.pin (D,{cls:=.type "list",data:=.seq I.toArray k}) (by simp);obtain⟨m4,hn4,_⟩:=I4.loc;obtain⟨oC,es,ep,eC,dC,rC⟩:=id hn4;have hD4:Z D=none:=hD3;have hC4:Z C=none:=I4.free;have O:∀ b u,Z b=some u->upd Z D (.lst ys) b=some u:=λb u e=>by rw[A9 (FN e hD4)];exact e
   have un:Un (frs X.stack) fp H2 (upd Z D (.lst ys)) P.heap s4.heap:=by
    have u:=I4.base;refine⟨u.keep,u.slot,λb o e n hx=>?_,u.there,λb xs e=>O _ _ (u.tups b xs e),λb o v e=>O _ _ (u.frzs b o v e),λb ps e=>?_⟩
    ·rw[A9 (Ys (lt2 b o e))];exact u.free b o e n hx
    ·obtain⟨more,q⟩:=u.tbls b ps e;exact⟨more,O _ _ q⟩
   have hok:HOk X.prog X.w (upd Z D (.lst ys)) s4.heap:=λb u e=>by
    by_cases f:b=D
    ·subst f;rw[Ca]at e;cases e;exact⟨hz3,I,k,rv3,pD.1⟩
    ·rw[A9 f]at e;exact(I4.hok b u e).stay (λ_ _ _ q=>q) (λc q=>O _ _ q) λc xs q=>O _ _ q
   have I5:Inv X pins σ (upd Z D (.lst ys)) s4:=F.call' (ch:=fp) I4.os un hok I4.bare λb f=>⟨(f2 b f).2.2.2.1,(f2 b f).2.1,(f2 b f).2.2.2.2.1,(f2 b f).2.2.2.2.2⟩;refine fin D C s4 Z ys oC hD4 qn I5 ⟨?_,?_,λz=>?_,.inr (Yt sz0 leC),λx c e=>?_,λp hp=>?_⟩ eC (λv z=>by rw[dC]at z;cases z) ⟨m4,hn4⟩
   ·rw[A9 (YV hDC)];exact hC4
   ·have:=F.lt;rw[L]at this;exact YV (Q _ this)
   ·exact F.nofs (a:=C) (by rw[L];exact leC) z
   ·exact Q _ (celt x c e)
   ·exact Q _ (R p hp)
  ·refine thn (T.item Xc rfl rfl rfl hc i _ s3 σ3 Z _ I3' (fpc fr3) st3 go) λr s4 zz2=>?_;obtain⟨u,hr,h4⟩:=zz2;subst hr;refine thn h4 λ_ s5 zz3=>?_;obtain⟨x,H5,I5,r5,y5,st5,fr5⟩:=zz3;have I5':=I5.pinned (fpc fr5) (T.obj _ _ st5);refine thn (hg C fp P H2 _ s5 σ3 H5 x u _ I5' r5 (step x H5 y5)) λ_ s6 zz4=>?_;obtain⟨σ6,H6,I6,q6⟩:=zz4;refine thn (ht C fp P H2 _ s6 σ6 H6 _ I6 q6) λok s7 zz5=>?_;obtain⟨H7,I7,q7⟩:=zz5
   have again:∀{σ8:St}{H8:Hp}{s8:Shared},Inv Xc (((X.pn++pins)++[(D,{cls:=.type "list",data:=.seq I.toArray k})])++GK fp s5.heap) σ8 H8 s8->
     tn (i+1) s8.heap/\(∀ b∈fp,H8 b=none)/\s8.heap.get? D=some {cls:=.type "list",data:=.seq I.toArray k}/\H8 D=none:=λ{σ8 H8 s8}I8=>by
    refine⟨T.keep _ _ _ st5 λb f o e=>(I8.pin (b,o) (YL _ (YL _ (Hy f e)))).1,λb f=>?_,?_⟩
    ·obtain⟨o,e,d⟩:=T.obj _ _ st5 b f;exact(I8.pin (b,o) (YL _ (YL _ (Hy f e)))).2.1
    ·have:=I8.pin (D,{cls:=.type "list",data:=.seq I.toArray k}) (by simp);exact⟨this.1,this.2.1⟩
   cases ok with
   | false =>
    rw[if_neg YT]at q7 ⊢;obtain⟨m',hm,w7⟩:=hN _ _ _ q7;obtain⟨t7,f7,o7,d7⟩:=again I7;exact⟨m',hm,i+1,σ6,H7,ys,I,k,I7.unpinned.unpinned,t7,f7,d7,o7,rv3,hz3,w7⟩
   | true =>
    rw[if_pos rfl]at q7 ⊢;refine thn (he C fp P H2 _ s7 σ6 H7 _ I7 q7) λy s8 zz6=>?_;obtain⟨yv,H8,I8,r8,q8⟩:=zz6;obtain⟨m',hm,w8⟩:=hN _ _ _ q8;obtain⟨t8,f8,o8,d8⟩:=again I8;have hlen:=rv3.length;refine wpAny_list_append_plain (s:=s8) (items:=I.toArray) ⟨k,o8⟩ (λh9 zz7 sb9=>?_) (by rw[Yn];lia);obtain⟨k9,l9⟩:=zz7
    have I9:Inv Xc (X.pn++pins) σ6 H8 {s8 with heap:=h9}:=by
     refine I8.unpinned.unpinned.turned (t':=s8.toks) (λb o f e=>(sb9.2 b f).trans e) d8 ?_ (.inr ?_) (λx c e=>?_) λp hp=>?_
     ·exact hDC
     ·show P.heap.objs.size<=D;rw[L];exact Yr _
     ·exact Ys (celt x c (B.sub x c e))
     ·exact Ys (R p (by simpa[Xc,cxB]using hp))
    refine⟨m',hm,i+1,σ6,H8,ys++[yv],I++[y],k9,I9,?_,f8,d8,?_,rv3.append (.cons r8 .nil),?_,w8⟩
    ·refine T.keep _ _ _ t8 λb f o e=>?_;exact(sb9.2 b (Ys (U b f))).trans e
    ·rw[l9];simp
    ·rw[Yj,List.length_singleton];lia
 have env_eq:Xc.env=compEnvC scope cl C X.env:=rfl;exact codeAny_compStart_list (loop _) (T.self _ 0 _ _ _ (T.keep _ _ _ st2 λb _ o e=>old b o e) (loop _))
theorem QW(hc:X.calm=true)(hi:PI X tg iter d)(B:Blk X Nc scope cl cap)(K:∀ C fp s H,PG (cxB X Nc scope cl C fp s H) tg g)(p:∀ C fp s H,PF (cxB X Nc scope cl C fp s H) ifs tt)(E:∀ C fp s H,PE (cxB X Nc scope cl C fp s H) elt te)(t:∀ x,foldedSetIterable iter X.env x=pure x:=by intro _;rfl):PE X (.ListComp elt [⟨tg,iter,ifs,0⟩] scope pos) (Ju d cap g tt te):=by
 intro pins s σ H Q I h;rw[eval_ListComp];refine wpAny_comprehension_free (use:=none) rfl t B.clos B.kind B.names (thn (hi pins s σ H _ I h) λv Z h1=>thn h1 λu R h2=>?_);obtain⟨it,fp,S,J,H2,e,G,T,a,n,z⟩:=h2;subst e;refine QV (RR:=λc C=>compPost (model X.prog X.w) X.A X.xe none (EP X pins σ Q) c C) hc B K p E G T a n z ?_;intro D C s' H' ys U k q j F Y P ⟨m,r⟩;obtain⟨L,y,_,N,l,i⟩:=F;exact⟨m,r,λh' O=>⟨.ref D,_,j.turned (t':=s'.toks) (λb o f e=>(O.2 b f).trans e) L y N l i,rfl,q D k⟩⟩
theorem cX(hN:X.N.Nodup)(l:X.N[i]?=some x)(P:X.env.scope.names.lookup x=some .local)(p:swapsWith (.ListComp elt [⟨tg,iter,ifs,0⟩] scope pos) (some (.Name x pos')) a.line X.env=pure true)(hc:X.calm=true)(hi:PI X tg iter E)(B:Blk X Nc scope cl cap)(hg:∀ C fp s H,PG (cxB X Nc scope cl C fp s H) tg g)(ht:∀ C fp s H,PF (cxB X Nc scope cl C fp s H) ifs tt)(he:∀ C fp s H,PE (cxB X Nc scope cl C fp s H) elt te)(hs:∀ x,foldedSetIterable iter X.env x=pure x:=by intro _;rfl):PS X (.Assign [.Name x pos'] (.ListComp elt [⟨tg,iter,ifs,0⟩] scope pos) a) (L4 (Ju E cap g tt te) (Di i)):=by
 intro pins s σ H G I h;rw[exec_Assign_Name_used _ _ _ _ p];refine Ql (wpAny_standAt (Ql ?_));show wpAny _ X.A (do let _ <- comprehension (.ListComp elt [⟨tg,iter,ifs,0⟩] scope pos) scope X.env _ (newList []) false (eval iter X.env) (some (assign (.Name x pos') X.env))) _ _ s
 refine Ql (wpAny_mono (wpAny_comprehension_free (use:=some (assign (.Name x pos') X.env)) (Q:=λ_ s'=>SP X pins G .next s') rfl hs B.clos B.kind B.names
  (thn (hi pins s σ H _ I h) λv s1 h1=>thn h1 λitv s2 h2=>?_)) (λ_ s' hq=>Qm (Qm hq)) λ_ _ e=>e)
 obtain⟨it,fp,tn,J,H2,e,I2,T,r,Z,w2⟩:=h2;subst e;refine QV (RR:=λt C=>compPost (model X.prog X.w) X.A X.xe (some (assign (.Name x pos') X.env)) (λ_ s'=>SP X pins G .next s') t C) hc B hg ht he I2 T r Z w2 ?_;intro D C s' H' ys k Y q U F j S ⟨m,hn⟩;obtain⟨O,K,f,R,z,y⟩:=F
 have Ip:Inv X (pins++GK [C] s'.heap) σ (upd H' D (.lst ys)) s':=U.pinned (fp:=[C]) (λb c=>by
  have e:b=C:=by simpa using c
  subst e
  exact⟨O,K,f,R,z,y⟩) λb c=>by
   have e:b=C:=by simpa using c
   subst e;exact⟨k,j,S⟩
 show wpAny _ X.A (assign (.Name x pos') X.env (.ref D)) _ _ _;refine wpAny_assign_Name (Jm Ip hN l (.inl P) (v:=.ref D) rfl (λs3 L=>?_) (.inr P));have pC:=L.pin (C,k) (YL _ (YL _ (Hy (by simp) j)));obtain⟨oC',es,ep,d,n,u⟩:=hn;rw[j]at d;cases d;refine⟨m,⟨k,es,ep,pC.1,n,u⟩,λh' sb=>⟨_,_,L.unpinned.turned (t':=s3.toks) (λb o c e=>(sb.2 b c).trans e) O K R z y,q D Y⟩⟩
end
theorem ObjOk.at(x:ObjOk P w H h a o):∃ u,h.get? a=some u:=by
 cases o with
 | lst xs=>obtain⟨_,_,_,_,e⟩:=x;exact⟨_,e⟩
 | tup xs=>obtain⟨_,_,_,c,e,_⟩:=x;exact⟨_,e⟩
 | dK b=>obtain⟨_,_,_,_,o,_,_,e,_⟩:=x;exact⟨_,e⟩
 | dT b=>obtain⟨_,_,_,_,o,_,_,e,_⟩:=x;exact⟨_,e⟩
 | set S n=>obtain⟨o,_,_,_,e,_⟩:=x;exact⟨_,e⟩
 | ins C dx fs=>obtain⟨_,_,_,e,_⟩:=x;exact⟨_,e⟩
 | own y=>obtain⟨_,e⟩:=x;exact⟨_,e⟩
 | xd fs=>obtain⟨_,⟨_,_,_,e,_⟩,_⟩:=x;exact⟨_,e⟩
 | rng lo hi=>obtain⟨_,_,_,e⟩:=x;exact⟨_,e⟩
 | frz c u=>obtain⟨e,_⟩:=x;exact⟨_,e⟩
 | tbl ps=>exact⟨_,(show h.get? a=some _ from x)⟩
 | met f y=>exact⟨_,(show h.get? a=some _ from x)⟩
 | ext φ=>obtain⟨_,⟨_,e⟩,_⟩:=x;exact⟨_,e⟩
structure Fly(P:Program)(w:World)(outer:List Env)(H0:Hp)(s0:Shared)(H':Hp)(e C:Addr)(s':Shared):Prop where
 os:s'.os=s0.os
 bare:AllBare s'.gens
 un:Un (frs outer) [] H0 H' s0.heap s'.heap
 hok:HOk P w H' s'.heap
 fly:∃(B:Heap)(a0:Value),Heap.FlyingW B outer e (.ref C) a0 s'.heap/\∀ b,b∉frs outer->((∃ o,s0.heap.get? b=some o)\/H' b≠none)->∃ o,B.get? b=some o
 new:s0.heap.get? e=none
 free:H' e=none
def CXe(P:Program)(w:World):CXT:=λouter H0 s0 E ev s'=>∃(e C:Addr)(H':Hp),ev=.ref e/\Fly P w outer H0 s0 H' e C s'/\E (.ref C) none H'
theorem QX{B:Heap}(un:Un (frs outer) [] r H' j h1)(hok:HOk P w H' h1)(d:∀ b∈frs outer,H' b=none)(t:∀ b∈frs outer,∃ o,h1.get? b=some o/\∀ vs,o.data≠.fields vs)(x:B.StaysIn h1)(m:∀ b,b∉frs outer->((∃ o,j.get? b=some o)\/H' b≠none)->∃ o,B.get? b=some o)(st:B.StaysIn h')(up:h1.UpToSlots h'):Un (frs outer) [] r H' j h'/\HOk P w H' h':=by
 have exact_:∀ b o,b∉frs outer->((∃ o,j.get? b=some o)\/H' b≠none)->h1.get? b=some o->h'.get? b=some o:=λb o c p e=>by
  obtain⟨o',s⟩:=m b c p;have:=x b o' s;rw[e]at this;cases this;exact st b _ s
 refine⟨⟨λb o q n c g=>exact_ b o c (.inl ⟨o,q⟩) (un.keep b o q n c g),λb o q n c g=>?_,un.free,λb o q g=>?_,un.tups,un.frzs,un.tbls⟩,λa o e=>?_⟩
 ·obtain⟨A,i⟩:=un.slot b o q n c g;obtain⟨y,h,l⟩:=t b c;rw[i]at h;cases h;obtain⟨f,k⟩:=up b _ i l;exact⟨f,k⟩
 ·obtain⟨o',i⟩:=un.there b o q g;by_cases c:b∈frs outer
  ·obtain⟨y,h,l⟩:=t b c;obtain⟨f,k⟩:=up b _ h l;exact⟨_,k⟩
  ·exact⟨o',exact_ b o' c (.inl ⟨o,q⟩) i⟩
 ·refine(hok a o e).stay (λb u c q=>?_) (λ_ q=>q) λ_ _ q=>q
  have v:H' b≠none:=by
   rcases c with rfl | c
   ·rw[e];simp
   ·rw[c];simp
  exact exact_ b u (λz=>v (d b z)) (.inr v) q
section
theorem Fly.inv{σ:St}(I:Inv X pins σ H s)(F:Fly X.prog X.w X.stack H s H' e C s')(f:Heap.FlyingW B X.stack e (.ref C) g s'.heap)(d:∀ b,b∉frs X.stack->((∃ o,s.heap.get? b=some o)\/H' b≠none)->∃ o,B.get? b=some o)(st:B.StaysIn h')(up:s'.heap.UpToSlots h'):Inv X pins σ H' {s' with heap:=h'}:=by
 have a:∀ b∈frs X.stack,H' b=none:=λb c=>by
  obtain⟨_,o,h,_⟩:=I.stack.mem c;exact F.un.free b o h (I.stkFree b c) (by simp)
 obtain⟨u,k⟩:=QX F.un F.hok a (λb c=>(f.2.2.1.mem c).2) f.1 d st up;exact I.call' (s':={s' with heap:=h'}) (ch:=[]) F.os u k F.bare (λb z=>Qk z (by simp))
end
theorem cY{K:PySem.W.Frag}:
  b8 (CXe P w) (BA (CXe P w) P w K mg base N qual scope f cd A outer s H E) E:=by
 intro pins σ Hc r ev s' I ⟨e,C,H',p,F,q⟩;subst p;obtain⟨B,m,l,g⟩:=F.fly;show wpAny _ _ (leaving _ (.ref e)) _ _ s';refine wpAny_leaves_onW I.ok.frames rfl l λh' d up=>?_;have c:=F.inv I l g d.1 up;refine⟨e,C,H',rfl,⟨c.os,c.bare,c.base,c.hok,⟨B,m,d,λb n h=>?_⟩,?_,F.free⟩,q⟩
 ·have k:b∉frs (BA (CXe P w) P w K mg base N qual scope f cd A outer s H E).stack:=λz=>by
   rcases Yo.mp (c.stkSub b z)with a | a
   ·rcases h with⟨o,j⟩| i
    ·have h1:=Qo j;have h2:=I.ok.above;rw[a]at h1;exact Qk (Yu h1 h2) (YK _)
    ·rw[a]at i;exact i c.free
   ·exact n a
  refine g b k ?_;rcases h with⟨o,j⟩| i
  ·exact .inl (I.base.there b o j (by intro z;cases z))
  ·exact .inr i
 ·cases z:s.heap.get? e with
  | none=>rfl
  | some o =>
   obtain⟨o',a⟩:=I.base.there e o z (by intro z;cases z);rw[F.new]at a;cases a
theorem cZ{K:PySem.W.Frag}{σ:St}(I:Inv (BA (CXe P w) P w K mg base N qual scope f cd A outer s H E) pins σ Hc g)(i:Heap.MadeExcOf g.heap h1 e (.ref C) vs)(q:E (.ref C) none Hc):
  (BA (CXe P w) P w K mg base N qual scope f cd A outer s H E).xe (.ref e) {g with heap:=h1}:=by
 have p:∀ env∈(BA (CXe P w) P w K mg base N qual scope f cd A outer s H E).stack,∀ b,env.frame=some b->b∈frs (BA (CXe P w) P w K mg base N qual scope f cd A outer s H E).stack:=λenv B b h=>List.mem_filterMap.mpr ⟨env,B,h⟩;show wpAny _ _ (leaving _ (.ref e)) _ _ _;refine wpAny_leaves_madeW (base:=PySem.W.hideAll g.heap (frs (BA (CXe P w) P w K mg base N qual scope f cd A outer s H E).stack)) I.ok.frames rfl (λb o z=>PySem.W.of_hideAll _ z) (PySem.W.funFrames_hide I.stack p) i λh' t x y v up=>?_
 have m:∀ b,b∉frs (BA (CXe P w) P w K mg base N qual scope f cd A outer s H E).stack->((∃ o,g.heap.get? b=some o)\/Hc b≠none)->∃ o,(PySem.W.hideAll g.heap (frs (BA (CXe P w) P w K mg base N qual scope f cd A outer s H E).stack)).get? b=some o:=λb h c=>by
  have:∃ o,g.heap.get? b=some o:=by
   rcases c with z | z
   ·exact z
   ·cases a:Hc b with
    | none=>exact Qk a z
    | some o=>exact(I.hok b o a).at
  obtain⟨o,j⟩:=this;exact⟨o,PySem.W.hideAll_get _ j h⟩
 obtain⟨u,k⟩:=QX (P:=P) (w:=w) (Un.kept i.keeps) (I.hok.kept i.keeps) I.stkFree (λb h=>by
  obtain⟨_,o,j,d⟩:=I.stack.mem h;exact⟨o,i.keeps _ _ j,d⟩) (λb o z=>i.keeps _ _ (PySem.W.of_hideAll _ z)) m x.1 up
 have l:=I.call' (s':={g with heap:=h'}) (ch:=[]) rfl u k I.bare (λb z=>Qk z (by simp))
 have en:Hc e=none:=by
  cases z:Hc e with
  | none=>rfl
  | some o =>
   obtain⟨o',a⟩:=(I.hok e o z).at
   rw[i.new]at a;cases a
 refine⟨e,C,Hc,rfl,⟨l.os,l.bare,l.base,l.hok,⟨_,_,x,λb h c=>?_⟩,?_,en⟩,q⟩
 ·have r:b∉frs (BA (CXe P w) P w K mg base N qual scope f cd A outer s H E).stack:=λz=>by
   rcases Yo.mp (l.stkSub b z)with a | a
   ·rcases c with⟨o,j⟩| n
    ·have h1:=Qo j;have h2:=I.ok.above;rw[a]at h1;exact Qk (Yu h1 h2) (YK _)
    ·rw[a]at n;exact n l.free
   ·exact h a
  refine m b r ?_;rcases c with⟨o,j⟩| n
  ·exact .inl (I.base.there b o j (by intro z;cases z))
  ·exact .inr n
 ·cases z:s.heap.get? e with
  | none=>rfl
  | some o =>
   obtain⟨o',a⟩:=I.base.there e o z (by intro z;cases z);rw[i.new]at a;cases a
theorem c0{K:PySem.W.Frag}(X:K.In h)(q:PySem.W.excIn K C c a=true):
  ∃ bm N nm q bs hdct sn sub ab col dd k0 k1 k2 k3 k5 mN,h.get? C=some (excClassObj nm q C N bs bm hdct sn sub ab col dd k0 k1 k2 k3 k5 a)/\h.Ns N mN/\mN "__init__"=none/\OwnTail h c bm:=by
 unfold PySem.W.excIn at q;split at q
 ·rename_i dd cd g k;split at q
  ·rename_i p bm k0 k1 k2 k3 n k5 i f;simp only[YG,beq_iff_eq,Bool.not_eq_true']at q;obtain⟨⟨⟨⟨⟨rfl,rfl⟩,b⟩,o⟩,hok⟩,d⟩:=q;obtain⟨nm,bs,m,ns,qn,hd,sn,sub,ab,col,j⟩:=cd;dsimp only at i b hok d;subst i b
   have e:g=#[k0,k1,k2,k3,some (.builtin n),k5]:=by
    obtain⟨l⟩:=g;simp only at f;rw[f]
   subst e;exact⟨bm,ns,nm,qn,bs,hd,sn,sub,ab,col,dd,k0,k1,k2,k3,k5,_,X _ _ k,.of_isNs (PySem.W.isNs_of_in X hok),PySem.W.nsMap_none_of_in X hok d,PySem.W.tail_of_in X o⟩
  ·cases q
 ·cases q
def c1(C:Addr)(E:XK)(t:TA):TS:=λ_ σ H=>t σ H λvs H1=>vs.length<=sizeLine/\E (.ref C) none H1
section
theorem c5{K:PySem.W.Frag}{v cpos pos:Pos}{Au:List Expr}(y:Gl (BA (CXe P w) P w K mg base N qual scope f cd A outer s H E) x)(z:mg x=some (.ref C))(q:PySem.W.excIn K C bm b=true)(FB:ExcBaseFacts B b initId bm)(m:PA (BA (CXe P w) P w K mg base N qual scope f cd A outer s H E) (a::Au) t)(k:starEach (a::Au) (BA (CXe P w) P w K mg base N qual scope f cd A outer s H E).env=(false,eval a (BA (CXe P w) P w K mg base N qual scope f cd A outer s H E).env)::starEach Au (BA (CXe P w) P w K mg base N qual scope f cd A outer s H E).env:=by rfl)(hplain:(backTo cpos (starEach Au (BA (CXe P w) P w K mg base N qual scope f cd A outer s H E).env)).any (·.1)=false:=by rfl)(hd:(x==("__debug__":Str))=false:=by decide):
  PS (BA (CXe P w) P w K mg base N qual scope f cd A outer s H E) (.Raise (some (.Call (.Name x v) (a::Au) [] cpos)) none pos) (c1 C E t):=by
 intro pins o σ Hc D I h;obtain⟨tl,l,nm,r,bs,hdct,sn,sub,ab,col,dd,k0,k1,k2,k3,k5,mN,u,p,j,T⟩:=c0 I.ok.mod.kin q
 refine wpAny_Raise_call_subT (C:=C) (nm:=nm) (q:=r) (N:=l) (bs:=bs) (bm:=tl) (hdct:=hdct) (sn:=sn) (sub:=sub) (ab:=ab) (col:=col) (dd:=dd) (k0:=k0) (k1:=k1) (k2:=k2) (k3:=k3) (k5:=k5)
  FB (mN:=mN) (T.hasType FB.hasBase) (I.ok.hd rfl) (by rw[k];show(false||(backTo cpos (starEach Au _)).any (·.1))=false;rw[hplain];rfl) j (GJ I y z ⟨rfl,?_⟩ hd)
 have c:=m cpos pins o σ Hc _ I h;rw[k]at c ⊢;refine Calls.evalArgs_plain (thn c λn F i=>?_);obtain⟨J,H1,d,r1,G,q1⟩:=i;exact⟨rfl,by have:=r1.length;show n.length<=_;lia,d.bk _ _ u,p.keeps d.bk,T.keeps d.bk,λh' e g=>cZ d g q1⟩
end
theorem Inv.track{σ:St}(I:Inv X pins σ H s)(l:H e=none)(k:e≠X.env.locals)(hc:∀ x c,X.env.cells.lookup x=some c->c≠e)(h:∀ p∈X.pn++pins,p.1≠e)(j:X.s₀.heap.get? e=none)(ok:ObjOk X.prog X.w (upd H e o) s.heap e o):Inv X pins σ (upd H e o) s:=by
 have a:∀ b u,H b=some u->upd H e o b=some u:=λb u z=>by rw[A9 (FN z l)];exact z
 refine⟨I.ok,I.os,I.bare,⟨I.base.keep,I.base.slot,λb f z n i=>?_,I.base.there,λb xs z=>a _ _ (I.base.tups b xs z),λb f u z=>a _ _ (I.base.frzs b f u z),λb ps z=>?_⟩,I.loc,I.cell,?_,λx c z=>?_,λp z=>?_,λb u z=>?_,I.len⟩
 ·rw[A9 (λq=>by rw[q,j]at z;cases z)];exact I.base.free b f z n i
 ·obtain⟨d,q⟩:=I.base.tbls b ps z;exact⟨d,a _ _ q⟩
 ·rw[A9 (YV k)];exact I.free
 ·rw[A9 (hc x c z)];exact I.freeC x c z
 ·obtain⟨q1,q2,q3⟩:=I.pin p z;exact⟨q1,by rw[A9 (h p z)];exact q2,q3⟩
 ·by_cases g:b=e
  ·subst g;rw[Ca]at z;cases z;exact ok
  ·rw[A9 g]at z;exact(I.hok b u z).stay (λ_ _ _ q=>q) (λc q=>a _ _ q) λc xs q=>a _ _ q
def c6(e C:Addr):Heap->Prop:=λh=>∃ ox,h.get? e=some ox/\ox.cls=.ref C
def HD(CX:CXT)(X:Cx)(Eσ:St->XK):Prop:=∀(pins:List (Addr×Obj))(σ:St)(H:Hp)(s:Shared)(e:Value)(s':Shared),Inv X pins σ H s->CX X.stack H s (Eσ σ) e s'->X.xe e s'
def QY(sp:Sp)(dvs:List V)(Eσ:St->XK)(t:TA):TE:=λσ H Q=>t σ H λvs H1=>sp (vs++dvs) H1 Q (Eσ σ)
section
theorem c7{p pos:Pos}(F:FnOk X.prog X.w X.K X.mg X.base CX k f fd ps sp)(D:Room k X.A)(y:Gl X x)(v:X.mg x=some (.ref f))(z:PySem.W.keepIn X.K (.ref f)=true)(n:Binds X.K fd ps ds)(hd:Vals dvs ds)(B:HD CX X Eσ)(E:PA X (e::es) t)(i:(x==("__debug__":Str))=false:=by decide)(m:starEach (e::es) X.env=(false,eval e X.env)::starEach es X.env:=by rfl)(d:(backTo pos (starEach es X.env)).any (·.1)=false:=by rfl):
  PE X (.Call (.Name x p) (e::es) [] pos) (QY sp dvs Eσ t):=by
 intro pins s σ H Q I h;refine wpAny_Call_Name_kw (GJ I y v ?_ i);refine PySem.W.callWith_K (h₀:=X.base) I.ok.mod.kin z (thn (E pos pins s σ H _ I h) λa g⟨l,H1,b,r,q⟩=>⟨b.kIn,?_⟩) m d;have j:Vals (l++dvs) (a++ds):=r.append hd;have hl:(a++ds).length=ps.length:=by rw[<- j.length];exact F.len _ _ _ _ q
 refine wpAny_call (codeAny_mono (F.run X.A X.stack g H1 ⟨a,[]⟩ (a++ds) (l++dvs) Q (Eσ σ) D b.env0 (n g a b.kIn hl) j q) λr s' c=>?_);cases r with
 | error e=>exact B pins σ H1 g e s' b c
 | ok o =>
  cases o with
  | ret u=>exact b.after c
  | next=>exact Qe c
  | brk=>exact Qe c
  | cont=>exact Qe c
end
section
end
end L2
namespace L3
open PySem PySem.Spec PyProof.Rows L2
abbrev St:=L2.St
inductive W where
 | non | bl (b:Bool)| int (i:Int)| str (x:Str)| tup (xs:List W)| rol (xs:List W)| ref (a:Addr)
inductive HW where
 | lst (xs:List W)| exc (C:Addr)| ins (C:Addr) (fs:List (Str×W))| dct (kvs:List (Key×W))
abbrev Sw:=List (Option W)
abbrev Hw:=Addr->Option HW
def put(H:Hw)(a:Addr)(o:HW):Hw:=λb=>if b=a then some o else H b
theorem Ap:put H a o a=some o:=by unfold put;rw[if_pos rfl]
theorem A2(h:b≠a):put H a o b=H b:=by unfold put;rw[if_neg h]
section
variable (K:PySem.W.Frag)
def RoL(H:Hp)(a:Addr)(xs:List V):Prop:=(∃ o,H a=some (.frz o (.lst xs)))\/
 ∃(o:Obj)(its:Array Value)(n:Nat),K.lookup a=some o/\o.cls=.type "list"/\o.dict=none/\o.data=.seq its n/\its.size<=sizeLine/\Vals xs its.toList
theorem RoL.sq{K:PySem.W.Frag}(h:RoL K H a xs):SqL K H a xs:=by
 rcases h with⟨o,h⟩| h
 ·exact .inl (.inr ⟨o,h⟩)
 ·exact .inr h
mutual
inductive Tr(H:Hp):V->W->Prop where
 | non:Tr H .non .non
 | bl (b:Bool):Tr H (.bl b) (.bl b)
 | int (i:Int):Tr H (.int i) (.int i)
 | str (x:Str):Tr H (.str x) (.str x)
 | tup {a:Addr} {vs:List V} {ws:List W}:SqT K H a vs->TrL H vs ws->Tr H (.ref a) (.tup ws)
 | rol {a:Addr} {vs:List V} {ws:List W}:RoL K H a vs->TrL H vs ws->Tr H (.ref a) (.rol ws)
 | ref (a:Addr):Tr H (.ref a) (.ref a)
inductive TrL(H:Hp):List V->List W->Prop where
 | nil:TrL H [] []
 | cons {v:V} {w:W} {vs:List V} {ws:List W}:Tr H v w->TrL H vs ws->TrL H (v::vs) (w::ws)
end
inductive TrP{α:Type}(H:Hp):List (α×V)->List (α×W)->Prop where
 | nil:TrP H [] []
 | cons {f:α} {v:V} {w:W} {vs:List (α×V)} {ws:List (α×W)}:Tr K H v w->TrP H vs ws->TrP H ((f,v)::vs) ((f,w)::ws)
structure Mono(H H':Hp):Prop where
 tup:∀ a vs,SqT K H a vs->SqT K H' a vs
 rol:∀ a vs,RoL K H a vs->RoL K H' a vs
def RelO2(H:Hp)(a:Addr):HW->Prop
 | .lst ws=>∃ vs,H a=some (.lst vs)/\TrL K H vs ws
 | .exc C=>H a=some (.ext (c6 a C))
 | .ins C ws=>∃ dx vs,H a=some (.ins C dx vs)/\TrP K H vs ws
 | .dct ws=>∃ vs,H a=some (.dK vs)/\TrP K H vs ws
def RelH(H:Hp)(G:Hw):Prop:=∀ a o,G a=some o->RelO2 K H a o
structure TrSt(H:Hp)(σ:St)(ω:Sw):Prop where
 len:σ.length=ω.length
 get:∀(i:Nat)(w:W),ω[i]?=some (some w)->∃ v,σ[i]?=some (some v)/\Tr K H v w
end
variable {K:PySem.W.Frag}{H H':Hp}
theorem Mono.refl:Mono K H H:=⟨λ_ _ h=>h,λ_ _ h=>h⟩
theorem Mono.trans(m:Mono K H H')(c:Mono K H' H2):Mono K H H2:=⟨λa b h=>c.tup a b (m.tup a b h),λa b h=>c.rol a b (m.rol a b h)⟩
mutual
theorem Tr.mono(m:Mono K H H'){v:V}{w:W}(t:Tr K H v w):Tr K H' v w:=by
 cases t with
 | non=>exact .non
 | bl b=>exact .bl b
 | int i=>exact .int i
 | str x=>exact .str x
 | tup h l=>exact .tup (m.tup _ _ h) (TrL.mono m l)
 | rol h l=>exact .rol (m.rol _ _ h) (TrL.mono m l)
 | ref a=>exact .ref a
theorem TrL.mono(m:Mono K H H'){vs:List V}{a:List W}(t:TrL K H vs a):TrL K H' vs a:=by
 cases t with
 | nil=>exact .nil
 | cons h l=>exact .cons (Tr.mono m h) (TrL.mono m l)
end
theorem TrP.mono{α:Type}(m:Mono K H H'):∀{vs:List (α×V)}{a:List (α×W)},TrP K H vs a->TrP K H' vs a
 | _,_,.nil=>.nil
 | _,_,.cons r t=>.cons (r.mono m) (TrP.mono m t)
theorem RelO2.mono(m:Mono K H H')(e:H' a=H a):∀{o:HW},RelO2 K H a o->RelO2 K H' a o
 | .lst c,⟨b,z,t⟩=>⟨b,e.trans z,t.mono m⟩
 | .exc C,z=>(e.trans z:H' a=_)
 | .ins C c,⟨dx,b,z,t⟩=>⟨dx,b,e.trans z,t.mono m⟩
 | .dct c,⟨b,z,t⟩=>⟨b,e.trans z,t.mono m⟩
theorem RelO2.some:∀{o:HW},RelO2 K H a o->H a≠none
 | .lst c,⟨b,z,t⟩,q=>by rw[q]at z;cases z
 | .exc C,z,q=>by rw[show H a=_ from z]at q;cases q
 | .ins C c,⟨dx,b,z,t⟩,q=>by rw[q]at z;cases z
 | .dct c,⟨b,z,t⟩,q=>by rw[q]at z;cases z
theorem TrSt.mono(m:Mono K H H')(t:TrSt K H σ ω):TrSt K H' σ ω:=⟨t.len,λi w e=>let⟨v,e',r⟩:=t.get i w e;⟨v,e',r.mono m⟩⟩
theorem TrSt.set(t:TrSt K H σ ω)(i:Nat)(r:Tr K H v w):TrSt K H (σ.set i (some v)) (ω.set i (some w)):=by
 refine⟨by simp[t.len],λj u e=>?_⟩;by_cases h:i=j
 ·subst h;by_cases hl:i < ω.length
  ·rw[List.getElem?_set_self hl]at e;cases e;exact⟨v,List.getElem?_set_self (by rw[t.len];exact hl),r⟩
  ·rw[List.getElem?_eq_none (by simp;lia)]at e;cases e
 ·rw[List.getElem?_set_ne h]at e;obtain⟨b,a,r'⟩:=t.get j u e;exact⟨b,by rw[List.getElem?_set_ne h];exact a,r'⟩
theorem TrL.length:∀{vs:List V}{a:List W},TrL K H vs a->vs.length=a.length
 | _,_,.nil=>rfl
 | _,_,.cons _ t=>Qh (·+1) t.length
theorem TrL.get:∀{vs:List V}{a:List W}{i:Nat}{w:W},TrL K H vs a->a[i]?=some w->∃ v,vs[i]?=some v/\Tr K H v w
 | _,_,_,_,.nil,e=>by simp at e
 | _,_,0,_,.cons r _,e=>by simp at e;subst e;exact⟨_,rfl,r⟩
 | _,_,i+1,w,.cons _ t,e=>by
  obtain⟨v,h1,h2⟩:=TrL.get (i:=i) (w:=w) t (by simpa using e);exact⟨v,by simpa using h1,h2⟩
theorem TrL.get':∀{vs:List V}{a:List W}{i:Nat}{v:V},TrL K H vs a->vs[i]?=some v->∃ w,a[i]?=some w/\Tr K H v w
 | _,_,_,_,.nil,e=>by simp at e
 | _,_,0,_,.cons r _,e=>by simp at e;subst e;exact⟨_,rfl,r⟩
 | _,_,i+1,v,.cons _ t,e=>by
  obtain⟨w,h1,h2⟩:=TrL.get' (i:=i) (v:=v) t (by simpa using e);exact⟨w,by simpa using h1,h2⟩
theorem TrL.append:∀{vs a:List V}{c b:List W},TrL K H vs c->TrL K H a b->TrL K H (vs++a) (c++b)
 | _,_,_,_,.nil,s=>s
 | _,_,_,_,.cons r t,s=>.cons r (t.append s)
theorem TrL.set(r:Tr K H v w):∀{vs:List V}{a:List W}(i:Nat),TrL K H vs a->TrL K H (vs.set i v) (a.set i w)
 | _,_,_,.nil=>.nil
 | _,_,0,.cons _ t=>.cons r t
 | _,_,i+1,.cons q t=>.cons q (TrL.set r i t)
theorem TrL.take:∀{vs:List V}{a:List W}(n:Nat),TrL K H vs a->TrL K H (vs.take n) (a.take n)
 | _,_,0,_=>.nil
 | _,_,_+1,.nil=>.nil
 | _,_,n+1,.cons r t=>.cons r (TrL.take n t)
theorem TrL.drop:∀{vs:List V}{a:List W}(n:Nat),TrL K H vs a->TrL K H (vs.drop n) (a.drop n)
 | _,_,0,r=>r
 | _,_,_+1,.nil=>.nil
 | _,_,n+1,.cons _ t=>TrL.drop n t
theorem Mq(h:SqT K H a vs)(f:∀ xs,H b≠some (.tup xs))(d:∀ c xs,H b≠some (.frz c (.tup xs))):SqT K (upd H b o) a vs:=by
 rcases h with(h |⟨c,h⟩)| h
 ·exact .inl (.inl (by rw[A9 (λe=>f _ (e▸h))];exact h))
 ·exact .inl (.inr ⟨c,by rw[A9 (λe=>d _ _ (e▸h))];exact h⟩)
 ·exact .inr h
theorem Mr(h:RoL K H a vs)(d:∀ c u,H b≠some (.frz c u)):RoL K (upd H b o) a vs:=by
 rcases h with⟨c,h⟩| h
 ·exact .inl ⟨c,by rw[A9 (λe=>d _ _ (e▸h))];exact h⟩
 ·exact .inr h
theorem Mono.new(b:H p=none)(o:HO):Mono K H (upd H p o):=
 ⟨λa c h=>Mq h (λxs e=>by rw[b]at e;cases e) (λd xs e=>by rw[b]at e;cases e),λa c h=>Mr h (λd xs e=>by rw[b]at e;cases e)⟩
theorem Mono.lst(b:H p=some (.lst xs))(o:HO):Mono K H (upd H p o):=
 ⟨λa c h=>Mq h (λxs e=>by rw[b]at e;cases e) (λd xs e=>by rw[b]at e;cases e),λa c h=>Mr h (λd xs e=>by rw[b]at e;cases e)⟩
theorem Mono.was(b:H p=some o')(o:HO)(h1:∀ xs,o'≠.tup xs)(h2:∀ c u,o'≠.frz c u):Mono K H (upd H p o):=
 ⟨λa d h=>Mq h (λxs e=>by rw[b]at e;exact h1 _ (YE e)) (λc xs e=>by rw[b]at e;exact h2 _ _ (YE e)),λa d h=>Mr h (λc xs e=>by rw[b]at e;exact h2 _ _ (YE e))⟩
theorem RelH.no(r:RelH K H G)(a:H p=none):G p=none:=by
 cases e:G p with
 | none=>rfl
 | some o=>exact Qk a (r p o e).some
theorem RelH.mono0(r:RelH K H G)(b:H p=none):RelH K (upd H p o) G:=λa u e=>
 have q:=r a u e
 q.mono (Mono.new b o) (A9 (by rintro rfl;exact q.some b))
theorem RelH.laid(r:RelH K H G)(m:Mono K H (upd H p o))(t:RelO2 K (upd H p o) p u):RelH K (upd H p o) (put G p u):=λa b e=>by
 by_cases h:a=p
 ·subst h;rw[Ap]at e;cases e;exact t
 ·rw[A2 h]at e;exact(r a _ e).mono m (A9 h)
theorem RelH.new(r:RelH K H G)(b:H p=none)(t:TrL K H vs a):RelH K (upd H p (.lst vs)) (put G p (.lst a)):=
 r.laid (Mono.new b _) ⟨vs,Ca,t.mono (Mono.new b _)⟩
theorem RelH.chg(r:RelH K H G)(b:H p=some (.lst xs))(t:TrL K H vs a):RelH K (upd H p (.lst vs)) (put G p (.lst a)):=
 r.laid (Mono.lst b _) ⟨vs,Ca,t.mono (Mono.lst b _)⟩
theorem RelH.chgI(r:RelH K H G)(b:H p=some (.ins C dx xs))(t:TrP K H vs a):RelH K (upd H p (.ins C dx vs)) (put G p (.ins C a)):=
 have m:Mono K H (upd H p (.ins C dx vs)):=Mono.was b _ (λ_ z=>by cases z) (λ_ _ z=>by cases z)
 r.laid m ⟨dx,vs,Ca,t.mono m⟩
abbrev Kw:=W->Hw->Prop
abbrev GE:=Sw->Hw->Kw->Prop
abbrev GT:=Sw->Hw->(Bool->Hw->Prop)->Prop
abbrev GA:=Sw->Hw->(List W->Hw->Prop)->Prop
structure Ew where
 nx:Sw->Hw->Prop
 rt:Kw
 bk:Sw->Hw->Prop
 ct:Sw->Hw->Prop
abbrev GS:=Ew->Sw->Hw->Prop
abbrev GG:=W->Sw->Hw->(Sw->Hw->Prop)->Prop
def GE.M(g:GE):Prop:=∀ ω G(Q Q':Kw),(∀ w G',Q w G'->Q' w G')->g ω G Q->g ω G Q'
def GT.M(g:GT):Prop:=∀ ω G(Q Q':Bool->Hw->Prop),(∀ w G',Q w G'->Q' w G')->g ω G Q->g ω G Q'
def GA.M(g:GA):Prop:=∀ ω G(Q Q':List W->Hw->Prop),(∀ w G',Q w G'->Q' w G')->g ω G Q->g ω G Q'
def GS.M(g:GS):Prop:=∀ ω G(D D':Ew),(∀ a b,D.nx a b->D'.nx a b)->(∀ a b,D.rt a b->D'.rt a b)->(∀ a b,D.bk a b->D'.bk a b)->(∀ a b,D.ct a b->D'.ct a b)->g D ω G->g D' ω G
def GG.M(g:GG):Prop:=∀ w ω G(Q Q':Sw->Hw->Prop),(∀ a b,Q a b->Q' a b)->g w ω G Q->g w ω G Q'
def dn(K:PySem.W.Frag)(H:Hp)(Q:VK):Kw:=λw G=>∀ v H',Mono K H H'->Tr K H' v w->RelH K H' G->Q v H'
def dnT(K:PySem.W.Frag)(H:Hp)(Q:Bool->Hp->Prop):Bool->Hw->Prop:=λb G=>∀ H',Mono K H H'->RelH K H' G->Q b H'
def dnA(K:PySem.W.Frag)(H:Hp)(Q:List V->Hp->Prop):List W->Hw->Prop:=λws G=>∀ vs H',Mono K H H'->TrL K H' vs ws->RelH K H' G->Q vs H'
def dnS(K:PySem.W.Frag)(H:Hp)(Q:St->Hp->Prop):Sw->Hw->Prop:=λω G=>∀ σ H',Mono K H H'->TrSt K H' σ ω->RelH K H' G->Q σ H'
def dnD(K:PySem.W.Frag)(H:Hp)(D:GH):Ew:=⟨dnS K H D.nx,dn K H D.rt,dnS K H D.bk,dnS K H D.ct⟩
theorem CC(m:Mono K H H')(q:dn K H Q w G):dn K H' Q w G:=λv H2 a t r=>q v H2 (m.trans a) t r
theorem QZ(m:Mono K H H')(q:dnT K H Q w G):dnT K H' Q w G:=λH2 a r=>q H2 (m.trans a) r
theorem c8(m:Mono K H H')(q:dnS K H Q w G):dnS K H' Q w G:=λv H2 a t r=>q v H2 (m.trans a) t r
def up(K:PySem.W.Frag)(g:GE):TE:=λσ H Q=>∃ ω G,TrSt K H σ ω/\RelH K H G/\g ω G (dn K H Q)
def upT(K:PySem.W.Frag)(g:GT):TT:=λσ H Q=>∃ ω G,TrSt K H σ ω/\RelH K H G/\g ω G (dnT K H Q)
def upA(K:PySem.W.Frag)(g:GA):TA:=λσ H Q=>∃ ω G,TrSt K H σ ω/\RelH K H G/\g ω G (dnA K H Q)
def upS(K:PySem.W.Frag)(B:Hp)(g:GS):TS:=λD σ H=>∃ ω G,TrSt K H σ ω/\RelH K H G/\Mono K B H/\g (dnD K B D) ω G
theorem Bm(h:PE X e t)(i:∀ σ H Q,t' σ H Q->t σ H Q):PE X e t':=λpins s σ H Q I q=>h pins s σ H Q I (i σ H Q q)
theorem Jv(h:PT X e t)(i:∀ σ H Q,t' σ H Q->t σ H Q):PT X e t':=λpins s σ H Q I q=>h pins s σ H Q I (i σ H Q q)
theorem Q0(h:PA X e t)(i:∀ σ H Q,t' σ H Q->t σ H Q):PA X e t':=λpos pins s σ H Q I q=>h pos pins s σ H Q I (i σ H Q q)
theorem Dx(h:PS X e t)(i:∀ D σ H,t' D σ H->t D σ H):PS X e t':=λpins s σ H D I q=>h pins s σ H D I (i D σ H q)
theorem Ms(h:PSs X e t)(i:∀ D σ H,t' D σ H->t D σ H):PSs X e t':=λpins s σ H D I q=>h pins s σ H D I (i D σ H q)
section
variable {X:Cx}{e:Expr}{es:List Expr}{ga gb:GE}
abbrev PEw(X:Cx)(e:Expr)(g:GE):Prop:=PE X e (up X.K g)
abbrev PTw(X:Cx)(e:Expr)(g:GT):Prop:=PT X e (upT X.K g)
abbrev PAw(X:Cx)(es:List Expr)(g:GA):Prop:=PA X es (upA X.K g)
abbrev PSw(X:Cx)(P:Hp->Prop)(st:Stmt)(g:GS):Prop:=∀ B,P B->PS X st (upS X.K B g)
abbrev Ei(X:Cx)(P:Hp->Prop)(st:List Stmt)(g:GS):Prop:=∀ B,P B->PSs X st (upS X.K B g)
abbrev Q1:Hp->Prop:=λ_=>True
def gC(w:W):GE:=λ_ G Q=>Q w G
def Ab(i:Nat):GE:=λω G Q=>match ω[i]? with | some (some w)=>Q w G | _=>False
theorem GQ:GE.M (gC w):=λ_ _ _ _ h q=>h _ _ q
theorem c9:GE.M (Ab i):=λω G Q a h q=>by
 have z:Ab i ω G Q=(match ω[i]? with | some (some w)=>Q w G | _=>False):=rfl;have b:Ab i ω G a=(match ω[i]? with | some (some w)=>a w G | _=>False):=rfl;rw[z]at q;rw[b];cases e:ω[i]? with
 | none=>rw[e]at q;exact q
 | some o =>
  cases o with
  | none=>rw[e]at q;exact q
  | some w=>rw[e]at q;exact h _ _ q
theorem da(d:X.N[i]?=some x)(c:Vis X.env.scope x)(hd:(x==("__debug__":Str))=false)(a:(x==("__classdict__":Str))=false):PEw X (.Name x pos) (Ab i):=
 Bm (P1 d c hd a) <| by
  rintro σ H Q ⟨ω,G,b,r,q⟩;unfold Ab at q;split at q
  ·rename_i w z;obtain⟨v,e,t⟩:=b.get i w z;exact⟨v,e,q v H .refl t r⟩
  ·exact q.elim
theorem db{j}:PEw X (.Constant (.int i) j pos) (gC (.int i)):=Bm ag (by rintro σ H Q ⟨ω,G,a,r,q⟩;exact q _ H .refl (.int i) r)
theorem df{j}:PEw X (.Constant (.bool i) j pos) (gC (.bl i)):=Bm ah (by rintro σ H Q ⟨ω,G,a,r,q⟩;exact q _ H .refl (.bl i) r)
theorem dg{j}:PEw X (.Constant .none j pos) (gC .non):=Bm ai (by rintro σ H Q ⟨ω,G,a,r,q⟩;exact q _ H .refl .non r)
theorem dh{j}:PEw X (.Constant (.str i) j pos) (gC (.str i)):=Bm P3 (by rintro σ H Q ⟨ω,G,a,r,q⟩;exact q _ H .refl (.str i) r)
theorem Q2(c:Gl X x)(b:X.mg x=some u)(a:RelV v u)(t:∀ H,Tr X.K H v w)(hd:(x==("__debug__":Str))=false):PEw X (.Name x pos) (gC w):=
 Bm (aj c b a hd) (by rintro σ H Q ⟨ω,G,d,r,q⟩;exact q _ H .refl (t H) r)
abbrev RW2:=W->W->Hw->Kw->Prop
def RW2.M(r:RW2):Prop:=∀ x y G(Q Q':Kw),(∀ w G',Q w G'->Q' w G')->r x y G Q->r x y G Q'
def Ad(r:RW2)(ga gb:GE):GE:=λω G Q=>ga ω G λx G1=>gb ω G1 λy G2=>r x y G2 Q
theorem Dy(b:r.M)(a:ga.M)(c:gb.M):GE.M (Ad r ga gb):=λω G Q d h q=>a _ _ _ _ (λx G1 q1=>c _ _ _ _ (λy G2 q2=>b _ _ _ _ _ h q2) q1) q
theorem Jw(f:r.M)(i:ga.M)(g:gb.M)(j:∀(x y:W)(v u:V)(G:Hw)(H:Hp)(Q:VK),Tr K H v x->Tr K H u y->RelH K H G->r x y G (dn K H Q)->r2 v u H Q)(σ:St)(H:Hp)(Q:VK)(h:up K (Ad r ga gb) σ H Q):tOp r2 (up K ga) (up K gb) σ H Q:=by
 obtain⟨ω,G,d,e,q⟩:=h;refine⟨ω,G,d,e,i _ _ _ _ (λx G1 q1 v H1 c k r1=>?_) q⟩;refine⟨ω,G1,d.mono c,r1,g _ _ _ _ (λy G2 q2 u H2 b ty a=>?_) q1⟩;exact j x y v u G2 H2 Q (k.mono b) ty a (f _ _ _ _ _ (λw l z=>CC (c.trans b) z) q2)
theorem GR(g:OpR X (binaryOp op) r2)(d:r.M)(h:ga.M)(i:gb.M)(f:∀(x y:W)(v u:V)(G:Hw)(H:Hp)(Q:VK),Tr X.K H v x->Tr X.K H u y->RelH X.K H G->r x y G (dn X.K H Q)->r2 v u H Q)(e:PEw X a ga)(c:PEw X b gb):PEw X (.BinOp a op b pos) (Ad r ga gb):=Bm (bd g e c) (Jw d h i f)
theorem di(h:OpR X (compareOp op) r2)(d:r.M)(i:ga.M)(j:gb.M)(g:∀(x y:W)(v u:V)(G:Hw)(H:Hp)(Q:VK),Tr X.K H v x->Tr X.K H u y->RelH X.K H G->r x y G (dn X.K H Q)->r2 v u H Q)(f:PEw X a ga)(c:PEw X b gb)(e:behindInMarks op b=false):PEw X (.Compare a [op] [b] pos) (Ad r ga gb):=Bm (bB h f c e) (Jw d i j g)
theorem Q3(h:IxR X r2)(d:r.M)(i:ga.M)(j:gb.M)(g:∀(x y:W)(v u:V)(G:Hw)(H:Hp)(Q:VK),Tr X.K H v x->Tr X.K H u y->RelH X.K H G->r x y G (dn X.K H Q)->r2 v u H Q)(f:PEw X a ga)(c:PEw X b gb)(e:Js b):PEw X (.Subscript a b pos) (Ad r ga gb):=Bm (cp h f c e) (Jw d i j g)
end
abbrev Xw:=Sw->Addr->Hw->Prop
abbrev XF:Xw:=λ_ _ _=>False
def upX(K:PySem.W.Frag)(ex:Xw):St->XK:=λσ Cv _ H'=>∃ C ω G,Cv=.ref C/\TrSt K H' σ ω/\RelH K H' G/\ex ω C G
abbrev Ej(X:Cx)(ex:Xw):Prop:=HD (CXe X.prog X.w) X (upX X.K ex)
theorem Un.mono'(u:Un fs b H H' h h'):Mono K H H':=by
 refine⟨λa c q=>?_,λa c q=>?_⟩
 ·rcases q with(q |⟨o,q⟩)| q
  ·exact .inl (.inl (u.tups a c q))
  ·exact .inl (.inr ⟨o,u.frzs a o _ q⟩)
  ·exact .inr q
 ·rcases q with⟨o,q⟩| q
  ·exact .inl ⟨o,u.frzs a o _ q⟩
  ·exact .inr q
abbrev Spw:=List W->Hw->Kw->(Addr->Hw->Prop)->Prop
def dnX(K:PySem.W.Frag)(H:Hp)(E:XK):Addr->Hw->Prop:=λC G'=>∀ H',Mono K H H'->RelH K H' G'->E (.ref C) none H'
def C2(K:PySem.W.Frag)(sp:Spw):Sp:=λvs H Q E=>∃ ws G,TrL K H vs ws/\RelH K H G/\sp ws G (dn K H Q) (dnX K H E)
def Spw.M(sp:Spw):Prop:=∀ ws G(Q Q':Kw)(E E':Addr->Hw->Prop),(∀ w G',Q w G'->Q' w G')->(∀ w G',E w G'->E' w G')->sp ws G Q E->sp ws G Q' E'
structure Df(P:Program)(w:World)(K:PySem.W.Frag)(mg:Str->Option Value)(base:Heap)(x:Str)(k n:Nat)(sp:Spw):Prop where
 ex:∃(f:Addr)(fd:FuncData)(ps:List Str),mg x=some (.ref f)/\PySem.W.keepIn K (.ref f)=true/\Binds K fd ps []/\ps.length=n/\FnOk P w K mg base (CXe P w) k f fd ps (C2 K sp)
 mono:sp.M
section
variable {gs:GA}{ex:Xw}
def Ac:GA:=λ_ G Q=>Q [] G
def Aa(g:GE)(gs:GA):GA:=λω G Q=>g ω G λx G1=>gs ω G1 λxs G2=>Q (x::xs) G2
theorem Mt:GA.M Ac:=λ_ _ _ _ h q=>h _ _ q
theorem Q4(a:ga.M)(b:gs.M):GA.M (Aa ga gs):=λω G Q c h q=>a _ _ _ _ (λx G1 q1=>b _ _ _ _ (λxs G2 q2=>h _ _ q2) q1) q
theorem dj:PAw X [] Ac:=Q0 GN (by rintro σ H Q ⟨ω,G,a,r,q⟩;exact q [] H .refl .nil r)
theorem dk(j:ga.M)(h:gs.M)(k:PEw X e ga)(i:PAw X es gs)(b:starEach (e::es) X.env=(false,eval e X.env)::starEach es X.env:=by rfl):PAw X (e::es) (Aa ga gs):=
 Q0 (DW k i b) (by rintro σ H Q ⟨ω,G,f,r,q⟩;exact⟨ω,G,f,r,j _ _ _ _ (λx G1 q1 v H1 d l r1=>⟨ω,G1,f.mono d,r1,h _ _ _ _ (λxs G2 q2 m H2 c a g=>q2 _ H2 (d.trans c) (.cons (l.mono c) a) g) q1⟩) q⟩)
def Ah(sp:Spw)(ex:Xw)(gs:GA):GE:=λω G Q=>gs ω G λws G1=>sp ws G1 Q (ex ω)
theorem dq(m:sp.M)(a:gs.M):GE.M (Ah sp ex gs):=λω G Q b h q=>a _ _ _ _ (λc G1 q1=>m _ _ _ _ _ _ h (λ_ _ z=>z) q1) q
theorem dr{pos p:Pos}(D:Df X.prog X.w X.K X.mg X.base x k n sp)(t:Room k X.A)(B:Gl X x)(s:Ej X ex)(l:gs.M)(m:PAw X (e::es) gs)(c:(x==("__debug__":Str))=false:=by decide)(y:starEach (e::es) X.env=(false,eval e X.env)::starEach es X.env:=by rfl)(a:(backTo pos (starEach es X.env)).any (·.1)=false:=by rfl):
  PEw X (.Call (.Name x p) (e::es) [] pos) (Ah sp ex gs):=by
 obtain⟨f,fd,ps,E,I,j,_,F⟩:=D.ex;refine Bm (c7 F t B E I j .nil s m c y a) λσ H Q b=>?_;obtain⟨ω,G,i,r,q⟩:=b;refine⟨ω,G,i,r,l _ _ _ _ (λv G1 q1 J H1 g d r1=>?_) q⟩;refine⟨v,G1,by rw[Yx];exact d,r1,D.mono _ _ _ _ _ _ (λw h z=>CC g z) (λC h z H2 u o=>?_) q1⟩;exact⟨C,ω,h,rfl,(i.mono g).mono u,o,z⟩
end
def Bn(N:List Str)(ws:List W):Sw:=ws.map some++List.replicate (N.length - ws.length) none
theorem HE(t:TrL K H vs a):TrSt K H (L2.Dw N vs) (Bn N a):=by
 have hl:=t.length;refine⟨by simp[L2.Dw,Bn,hl],λi w e=>?_⟩;unfold Bn at e;by_cases hi:i < a.length
 ·rw[YJ (by simpa using hi),YN]at e;cases z:a[i]? with
  | none=>rw[z]at e;cases e
  | some c =>
   rw[z]at e;cases e;obtain⟨v,b,r⟩:=t.get z;exact⟨v,by unfold L2.Dw;rw[YJ (by simp;lia),YN,b];rfl,r⟩
 ·rw[List.getElem?_append_right (by simpa using hi),List.getElem?_replicate]at e;split at e <;> cases e
def Sub(G G':Hw):Prop:=∀ a o,G a=some o->G' a=some o
theorem Sub.refl:Sub G G:=λ_ _ h=>h
theorem Sub.trans(a:Sub G G1)(b:Sub G1 G2):Sub G G2:=λc o h=>b c o (a c o h)
theorem Sub.put(h:Sub G G')(b:G a=none):Sub G (put G' a o):=λc u z=>by
 rw[A2 (λe=>by rw[e,b]at z;cases z)];exact h c u z
theorem Sub.put2(h:Sub G G'):Sub (L3.put G a o) (L3.put G' a o):=λc u z=>by
 by_cases e:c=a
 ·subst e;rw[Ap]at z ⊢;exact z
 ·rw[A2 e]at z ⊢;exact h c u z
theorem RelH.sub(r:RelH K H G')(s:Sub G G'):RelH K H G:=λa o e=>r a o (s a o e)
def Kw.C(Q:Kw):Prop:=∀ w G G',Sub G G'->Q w G->Q w G'
def Xc(E:Addr->Hw->Prop):Prop:=∀ w G G',Sub G G'->E w G->E w G'
theorem HF:Kw.C (dn K H Q):=λw G a s q v H2 m t r=>q v H2 m t (r.sub s)
theorem Q5:Xc (dnX K H E):=λw G a s q H2 m r=>q H2 m (r.sub s)
def Ax(Q:Kw):Ew:=⟨λ_ G=>Q .non G,Q,λ_ _=>False,λ_ _=>False⟩
section
variable {P:Program}{w:World}{mg:Str->Option Value}{base:Heap}
abbrev cxW(P:Program)(w:World)(K:PySem.W.Frag)(mg:Str->Option Value)(base:Heap)(N:List Str)(qual:Str)(scope:Scope)(f:Addr)(cd:Value)(A:Around)(outer:List Env)(s:Shared)(H:Hp)(E:XK):Cx :=
 BA (CXe P w) P w K mg base N qual scope f cd A outer s H E
theorem AH:Ej (cxW P w K mg base N qual scope f cd A outer s H E) (λ_=>dnX K H E):=by
 intro pins σ Hc b ev s' I ⟨e,C,H',c,F,d,ω,G,a,g,r,q⟩;cases a;refine cY pins σ Hc b ev s' I ⟨e,C,H',c,F,q H' ?_ r⟩;exact(Un.mono' I.base).trans (Un.mono' F.un)
end
section
variable {X:Cx}{a b c e:Expr}{ga gb:GE}{gt:GT}{g1 g2:GS}
def Aj:GS:=λD ω G=>D.nx ω G
def Af(g1 g2:GS):GS:=λD ω G=>g1 {D with nx:=g2 D} ω G
theorem dt:GS.M Aj:=λ_ _ _ _ h _ _ _ q=>h _ _ q
theorem du(d:g1.M)(c:g2.M):GS.M (Af g1 g2):=λω G D e h1 h2 a b q=>d _ _ {D with nx:=g2 D} _ (λ_ _ z=>c _ _ _ _ h1 h2 a b z) h2 a b q
theorem dv:Ei X P [] Aj:=λB c=>Ms aG (by rintro D σ H ⟨ω,G,a,r,b,q⟩;exact q σ H b a r)
theorem dw{st:Stmt}(d:g1.M)(g:g2.M)(h1:PSw X P st g1)(h2:Ei X P sts g2):Ei X P (st::sts) (Af g1 g2):=λB b=>
 Ms (aH (h1 B b) (h2 B b)) (by rintro D σ H ⟨ω,G,e,r,f,q⟩;exact⟨ω,G,e,r,f,d _ _ {dnD X.K B D with nx:=g2 (dnD X.K B D)} _ (λω' c z σ' H' m a r'=>⟨ω',c,a,r',m,z⟩) (λ_ _ z=>z) (λ_ _ z=>z) (λ_ _ z=>z) q⟩)
theorem dy{st:Stmt}(h1:PSw X P st g1):Ei X P [st] g1:=λB a=>Ms (aI (h1 B a)) λD σ H z=>z
def Aq(i:Nat)(ga:GE):GS:=λD ω G=>ga ω G λw G1=>D.nx (ω.set i (some w)) G1
theorem Mu(a:ga.M):GS.M (Aq i ga):=λω G D b h _ _ _ q=>a _ _ _ _ (λ_ _ z=>h _ _ z) q
theorem Q6(d:X.N.Nodup)(hi:X.N[i]?=some x)(f:Loc X.env.scope x)(g:ga.M)(h:PEw X e ga)(c:swapsWith e (some (.Name x pos')) pos.line X.env=pure false)(b:X.fn x=true\/X.env.scope.names.lookup x=some .local):
  PSw X P (.Assign [.Name x pos'] e pos) (Aq i ga):=λB k=>
 Dx (aS d hi f h c b) (by rintro D σ H ⟨ω,G,a,r,j,q⟩;exact⟨ω,G,a,r,g _ _ _ _ (λw G1 z v H1 m t r1=>z _ H1 (j.trans m) ((a.mono m).set i t) r1) q⟩)
def Ai(ga:GE):GS:=λD ω G=>ga ω G D.rt
theorem dz(a:ga.M):GS.M (Ai ga):=λω G D b _ h _ _ q=>a _ _ _ _ (λ_ _ z=>h _ _ z) q
theorem dA(a:ga.M)(b:PEw X e ga):PSw X P (.Return (some e) pos) (Ai ga):=λB f=>Dx (aM b) (by rintro D σ H ⟨ω,G,c,r,d,q⟩;exact⟨ω,G,c,r,a _ _ _ _ (λw G1 z v H1 m t r1=>z v H1 (d.trans m) t r1) q⟩)
def AC(ga:GE):GS:=λD ω G=>ga ω G λ_ G1=>D.nx ω G1
theorem dB(a:ga.M):GS.M (AC ga):=λω G D b h _ _ _ q=>a _ _ _ _ (λ_ _ z=>h _ _ z) q
theorem dD(c:ga.M)(d:PEw X e ga)(b:swapsWith e none pos.line X.env=pure false):PSw X P (.Expr e pos) (AC ga):=λB g=>
 Dx (aK d b) (by rintro D σ H ⟨ω,G,a,r,f,q⟩;exact⟨ω,G,a,r,c _ _ _ _ (λw G1 z v H1 m t r1=>z _ H1 (f.trans m) (a.mono m) r1) q⟩)
def gIf(gt:GT)(g1 g2:GS):GS:=λD ω G=>gt ω G λb G1=>if b=true then g1 D ω G1 else g2 D ω G1
theorem dE(d:gt.M)(f:g1.M)(e:g2.M):GS.M (gIf gt g1 g2):=λω G D g h1 h2 a c q=>d _ _ _ _ (λb G1 z=>by
 cases b with
 | true=>exact f _ _ _ _ h1 h2 a c z
 | false=>exact e _ _ _ _ h1 h2 a c z) q
theorem dF(f:gt.M)(h:g1.M)(g:g2.M)(hc:PTw X c gt)(h1:Ei X P sts g1)(h2:Ei X P sts' g2):PSw X P (.If c sts sts' pos) (gIf gt g1 g2):=λB d=>
 Dx (aO hc (h1 B d) (h2 B d)) λD σ H⟨ω,G,a,r,e,q⟩=>⟨ω,G,a,r,f _ _ _ _ (λb G1 z H1 m r1=>by
  cases b with
  | true=>exact⟨ω,G1,a.mono m,r1,e.trans m,z⟩
  | false=>exact⟨ω,G1,a.mono m,r1,e.trans m,z⟩) q⟩
def gTB(g:GE):GT:=λω G Q=>g ω G λw G1=>match w with | .bl b=>Q b G1 | _=>False
theorem Q7(m:ga.M):GT.M (gTB ga):=λω G Q a h q=>m _ _ _ _ (λw G1 z=>by
 cases w <;> first | exact h _ _ z | exact z) q
theorem FR{b:Bool}(t:Tr K H v (.bl b)):v=.bl b:=by cases t;rfl
theorem Q8{b:Int}(t:Tr K H v (.int b)):v=.int b:=by cases t;rfl
theorem Q9{b:Str}(t:Tr K H v (.str b)):v=.str b:=by cases t;rfl
theorem HG{a:Addr}(t:Tr K H v (.ref a)):v=.ref a:=by cases t;rfl
theorem Ra(m:ga.M){σ:St}(h:upT K (gTB ga) σ H f):up K ga σ H (λx H1=>∃ k,x=.bl k/\f k H1):=by
 obtain⟨ω,G,a,r,q⟩:=h;refine⟨ω,G,a,r,m _ _ _ _ (λw G1 z v H1 c t r1=>?_) q⟩;cases w with
 | bl b=>exact⟨b,FR t,z H1 c r1⟩
 | _=>exact z.elim
theorem dG(j:OpR X (compareOp op) r2)(c:r.M)(d:ga.M)(e:gb.M)(i:∀(x y:W)(v u:V)(G:Hw)(H:Hp)(Q:VK),Tr X.K H v x->Tr X.K H u y->RelH X.K H G->r x y G (dn X.K H Q)->r2 v u H Q)(h:PEw X a ga)(f:PEw X b gb)(g:behindInMarks op b=false):PTw X (.Compare a [op] [b] pos) (gTB (Ad r ga gb)):=
 Jv (bC j h f g) λσ H Q z=>Jw c d e i σ H _ (Ra (Dy c d e) z)
def A8(w:W)(G:Hw):Option Bool:=match w with
 | .non=>some false
 | .bl b=>some b
 | .int i=>some (i != 0)
 | .tup xs=>some (!xs.isEmpty)
 | .rol xs=>some (!xs.isEmpty)
 | .ref a=>match G a with | some (.lst xs)=>some (!xs.isEmpty)| _=>none
 | .str _=>none
def AB(g:GE):GT:=λω G Q=>g ω G λw G1=>match A8 w G1 with | some b=>Q b G1 | none=>False
theorem dH(m:ga.M):GT.M (AB ga):=λω G Q a h q=>m _ _ _ _ (λw G1 z=>by
 cases e:A8 w G1 with
 | none=>rw[e]at z;exact z
 | some b=>rw[e]at z;exact h _ _ z) q
theorem Mv:∀{vs:List V}{a:List W},TrL K H vs a->vs.isEmpty=a.isEmpty
 | _,_,.nil=>rfl
 | _,_,.cons _ _=>rfl
theorem dI{b:Bool}(t:Tr K H v w)(r:RelH K H G)(e:A8 w G=some b):Mb K v H b:=by
 cases t with
 | non=>cases e;rfl
 | bl c=>cases e;rfl
 | int i=>cases e;rfl
 | str x=>cases e
 | tup h l=>cases e;exact .inr (.inl ⟨_,h,by rw[Mv l]⟩)
 | rol h l=>cases e;exact .inl ⟨_,h.sq,by rw[Mv l]⟩
 | ref a =>
  unfold A8 at e;dsimp only at e;cases z:G a with
  | none=>rw[z]at e;cases e
  | some o =>
   rw[z]at e;cases o with
   | exc C=>cases e
   | ins C fs=>cases e
   | dct d=>cases e
   | lst xs =>
    cases e;obtain⟨f,g,l⟩:=r a _ z;exact .inl ⟨f,SqL.of g,by rw[Mv l]⟩
theorem dJ(f:ga.M)(g:PEw X e ga)(d:∀ a,isTrue e X.env a=(do let v <- a;standAt e.pos;holding [v] (truthy v)):=by intro _;rfl):PTw X e (AB ga):=
 Jv (bH g d) λσ H Q⟨ω,G,h,r,q⟩=>⟨ω,G,h,r,f _ _ _ _ (λw G1 z v H1 m t r1=>by
  cases c:A8 w G1 with
  | none=>rw[c]at z;exact z.elim
  | some b=>rw[c]at z;exact⟨b,dI t r1 c,z H1 m r1⟩) q⟩
def gNt(g:GT):GT:=λω G Q=>g ω G λb G1=>Q (!b) G1
theorem dL(m:gt.M):GT.M (gNt gt):=λω G Q a h q=>m _ _ _ _ (λw G1 z=>h _ _ z) q
theorem dM(b:PTw X a gt):PTw X (.UnaryOp .Not a pos) (gNt gt):=Jv (au b) λσ H Q z=>z
abbrev PWw(X:Cx)(e:Expr)(g:GT):Prop:=PW X e (upT X.K g)
theorem Jx(h:PW X e t)(i:∀ σ H Q,t' σ H Q->t σ H Q):PW X e t':=λa pins s σ H Q I q=>h a pins s σ H Q I (i σ H Q q)
def Bp(g1 g2:GT):GT:=λω G Q=>g1 ω G λb G1=>if b=true then g2 ω G1 Q else Q false G1
def gOr(g1 g2:GT):GT:=λω G Q=>g1 ω G λb G1=>if b=true then Q true G1 else g2 ω G1 Q
theorem dN(c:gt.M)(a:gu.M):GT.M (Bp gt gu):=λω G Q d h q=>c _ _ _ _ (λb G1 z=>by
 cases b with
 | true=>exact a _ _ _ _ h z
 | false=>exact h _ _ z) q
theorem dO(c:gt.M)(a:gu.M):GT.M (gOr gt gu):=λω G Q d h q=>c _ _ _ _ (λb G1 z=>by
 cases b with
 | true=>exact h _ _ z
 | false=>exact a _ _ _ _ h z) q
theorem dP(b:PTw X a gt):PWw X (.BoolOp .And [a] pos) gt:=Jx (ao b) λσ H Q z=>z
theorem dQ(b:PTw X a gt):PWw X (.BoolOp .Or [a] pos) gt:=Jx (ap b) λσ H Q z=>z
theorem dR{Au:List Expr}(f:gt.M)(e:gu.M)(g:PTw X a gt)(d:PWw X (.BoolOp .And (b::Au) pos) gu):PWw X (.BoolOp .And (a::b::Au) pos) (Bp gt gu):=
 Jx (aq g d) λσ H Q⟨ω,G,c,r,q⟩=>⟨ω,G,c,r,f _ _ _ _ (λb G1 z H1 m r1=>by
  cases b with
  | true=>exact⟨ω,G1,c.mono m,r1,e _ _ _ _ (λ_ _ z=>QZ m z) z⟩
  | false=>exact z H1 m r1) q⟩
theorem dS{Au:List Expr}(f:gt.M)(e:gu.M)(g:PTw X a gt)(d:PWw X (.BoolOp .Or (b::Au) pos) gu):PWw X (.BoolOp .Or (a::b::Au) pos) (gOr gt gu):=
 Jx (ar g d) λσ H Q⟨ω,G,c,r,q⟩=>⟨ω,G,c,r,f _ _ _ _ (λb G1 z H1 m r1=>by
  cases b with
  | true=>exact z H1 m r1
  | false=>exact⟨ω,G1,c.mono m,r1,e _ _ _ _ (λ_ _ z=>QZ m z) z⟩) q⟩
theorem dU(h:PWw X (.BoolOp op vs pos) gt):PTw X (.BoolOp op vs pos) gt:=PW.pt h
def BE(ga gb:GE):GE:=λω G Q=>ga ω G λx G1=>match x with | .bl c=>if c=true then gb ω G1 Q else Q (.bl false) G1 | _=>False
def CL(ga gb:GE):GE:=λω G Q=>ga ω G λx G1=>match x with | .bl c=>if c=true then Q (.bl true) G1 else gb ω G1 Q | _=>False
def CM(ga:GE):GE:=λω G Q=>ga ω G λx G1=>match x with | .bl c=>Q (.bl (!c)) G1 | _=>False
def BB(gt:GT)(ga gb:GE):GE:=λω G Q=>gt ω G λc G1=>if c=true then ga ω G1 Q else gb ω G1 Q
theorem dV(a:ga.M)(b:gb.M):GE.M (BE ga gb):=λω G Q d h q=>a _ _ _ _ (λx G1 z=>by
 cases x with
 | bl c =>
  cases c with
  | true=>exact b _ _ _ _ h z
  | false=>exact h _ _ z
 | _=>exact z) q
theorem dW(a:ga.M)(b:gb.M):GE.M (CL ga gb):=λω G Q d h q=>a _ _ _ _ (λx G1 z=>by
 cases x with
 | bl c =>
  cases c with
  | true=>exact h _ _ z
  | false=>exact b _ _ _ _ h z
 | _=>exact z) q
theorem dX(a:ga.M):GE.M (CM ga):=λω G Q b h q=>a _ _ _ _ (λx G1 z=>by
 cases x with
 | bl c=>exact h _ _ z
 | _=>exact z) q
theorem dY(b:gt.M)(a:ga.M)(d:gb.M):GE.M (BB gt ga gb):=λω G Q e h q=>b _ _ _ _ (λc G1 z=>by
 cases c with
 | true=>exact a _ _ _ _ h z
 | false=>exact d _ _ _ _ h z) q
theorem dZ(h:PEw X a ga):PEw X (.BoolOp op [a] pos) ga:=ay h
theorem d0{Au:List Expr}(f:ga.M)(g:gb.M)(h:PEw X a ga)(e:PEw X (.BoolOp .And (b::Au) pos) gb):PEw X (.BoolOp .And (a::b::Au) pos) (BE ga gb):=
 Bm (az h e) λσ H Q⟨ω,G,d,r,q⟩=>⟨ω,G,d,r,f _ _ _ _ (λx G1 z v H1 m t r1=>by
  cases x with
  | bl c =>
   refine⟨c,FR t,?_⟩;cases c with
   | true=>exact⟨ω,G1,d.mono m,r1,g _ _ _ _ (λ_ _ z=>CC m z) z⟩
   | false=>exact z _ H1 m (.bl false) r1
  | _=>exact z.elim) q⟩
theorem d3{Au:List Expr}(f:ga.M)(g:gb.M)(h:PEw X a ga)(e:PEw X (.BoolOp .Or (b::Au) pos) gb):PEw X (.BoolOp .Or (a::b::Au) pos) (CL ga gb):=
 Bm (aA h e) λσ H Q⟨ω,G,d,r,q⟩=>⟨ω,G,d,r,f _ _ _ _ (λx G1 z v H1 m t r1=>by
  cases x with
  | bl c =>
   refine⟨c,FR t,?_⟩;cases c with
   | true=>exact z _ H1 m (.bl true) r1
   | false=>exact⟨ω,G1,d.mono m,r1,g _ _ _ _ (λ_ _ z=>CC m z) z⟩
  | _=>exact z.elim) q⟩
theorem d4(d:ga.M)(b:PEw X a ga):PEw X (.UnaryOp .Not a pos) (CM ga):=
 Bm (aB b) λσ H Q⟨ω,G,e,r,q⟩=>⟨ω,G,e,r,d _ _ _ _ (λx G1 z v H1 m t r1=>by
  cases x with
  | bl c=>exact⟨c,FR t,z _ H1 m (.bl _) r1⟩
  | _=>exact z.elim) q⟩
theorem d5(e:gt.M)(g:ga.M)(h:gb.M)(hc:PTw X c gt)(i:PEw X a ga)(f:PEw X b gb):PEw X (.IfExp c a b pos) (BB gt ga gb):=
 Bm (aC hc i f) λσ H Q⟨ω,G,d,r,q⟩=>⟨ω,G,d,r,e _ _ _ _ (λc G1 z H1 m r1=>by
  cases c with
  | true=>exact⟨ω,G1,d.mono m,r1,g _ _ _ _ (λ_ _ z=>CC m z) z⟩
  | false=>exact⟨ω,G1,d.mono m,r1,h _ _ _ _ (λ_ _ z=>CC m z) z⟩) q⟩
variable {gs:GA}
def Ao(gs:GA):GE:=λω G Q=>gs ω G λws G1=>ws.length<=sizeLine/\Q (.tup ws) G1
def Av(gs:GA):GE:=λω G Q=>gs ω G λws G1=>ws.length<=sizeLine/\∀ p,G1 p=none->Q (.ref p) (put G1 p (.lst ws))
theorem d6(m:gs.M):GE.M (Ao gs):=λω G Q a h q=>m _ _ _ _ (λb G1 z=>⟨z.1,h _ _ z.2⟩) q
theorem d9(m:gs.M):GE.M (Av gs):=λω G Q b h q=>m _ _ _ _ (λc G1 z=>⟨z.1,λp a=>h _ _ (z.2 p a)⟩) q
theorem ea{x1}(m:gs.M)(h:PAw X es gs):PEw X (.Tuple es x1 pos) (Ao gs):=
 Bm (QB h) λσ H Q⟨ω,G,c,r,q⟩=>⟨ω,G,c,r,m _ _ _ _ (λe G1 z d H1 b t r1=>⟨by rw[t.length];exact z.1,λp a=>
  z.2 _ _ (b.trans (Mono.new a _)) (.tup (SqT.of Ca) (t.mono (Mono.new a _))) (r1.mono0 a)⟩) q⟩
theorem ee(m:gs.M)(h:PAw X es gs):PEw X (.List es pos) (Av gs):=
 Bm (b7 h) λσ H Q⟨ω,G,c,r,q⟩=>⟨ω,G,c,r,m _ _ _ _ (λe G1 z d H1 b t r1=>⟨by rw[t.length];exact z.1,λp a=>
  z.2 p (r1.no a) _ _ (b.trans (Mono.new a _)) (.ref p) (r1.new a t)⟩) q⟩
end
def Dz(z:Str):List V:=z.cps.toList.map λc=>V.str ⟨#[c]⟩
def Itk(xs:List V):It:=⟨λi _=>i < xs.length,λi H x H'=>H'=H/\xs[i]?=some x,λi _=>xs.length<=i⟩
theorem ef(G:∀ a u,letOwnedTupleGo tg a u=pure ())(a:Addr)(z:Str)(t:Tok):Eh P w K tg (Itk (Dz z)) [a] a (λi h=>h.IsStrIter a "str_ascii_iterator" z t i) where
 mem:=by simp
 obj:=λi h st b f=>by
  have e:b=a:=by simpa using f
  subst e;obtain⟨o,e,c,d⟩:=st;exact⟨o,e,λv z=>by rw[d]at z;cases z⟩
 keep:=λi h h' st k=>by
  obtain⟨o,e,c,d⟩:=st;exact⟨o,k a (by simp) o e,c,d⟩
 item:=by
  intro X l hw n hc i pins s σ H E I g st p;subst l hw n;obtain⟨q,y,F,r,j,m⟩:=g a (by simp);have W:=Walks.strAscii (prog:=X.prog) (w:=X.w) (I.ok.hd hc) a z t;have hi:i < z.cps.size:=by simpa[Dz,Itk]using p
  refine W.item i s _ _ hi st λv h' tk L B D=>?_;obtain⟨c,t',x,rfl⟩:=L;have J:Inv X pins σ H {s with heap:=h',toks:=tk}:=I.turned (λb o f e=>D b o (by simpa using f) e) q y r j m;exact⟨_,rfl,wpAny_of_eq (G _ _) ⟨.str ⟨#[c]⟩,H,J,⟨_,rfl⟩,⟨rfl,by simp[Dz,x]⟩,B,λb f=>(g b f).1⟩⟩
 done:=by
  intro X l hw n hc i pins s σ H E I g st p;subst l hw n;obtain⟨q,y,F,r,j,m⟩:=g a (by simp);have hi:z.cps.size<=i:=by simpa[Dz,Itk]using p
  exact wpAny_pyNext_ascii_end (I.ok.hd hc) st (by simp[hi]) λh' eb=>⟨rfl,I.turned (t':=s.toks) (λb o f e=>eb b o f e) q y r j m⟩
 self:=λA i s Q E st h=>wpAny_pyIter_striter_ascii st h
theorem eg(G:∀ a u,letOwnedTupleGo tg a u=pure ())(a:Addr)(z:Str)(t:Tok):Eh P w K tg (Itk (Dz z)) [a] a (λi h=>h.IsStrIter a "str_iterator" z t i) where
 mem:=by simp
 obj:=λi h st b f=>by
  have e:b=a:=by simpa using f
  subst e;obtain⟨o,e,c,d⟩:=st;exact⟨o,e,λv z=>by rw[d]at z;cases z⟩
 keep:=λi h h' st k=>by
  obtain⟨o,e,c,d⟩:=st;exact⟨o,k a (by simp) o e,c,d⟩
 item:=by
  intro X l hw n hc i pins s σ H E I g st p;subst l hw n;obtain⟨q,y,F,r,j,m⟩:=g a (by simp);have W:=Walks.strWide (prog:=X.prog) (w:=X.w) (I.ok.hd hc) a z t;have hi:i < z.cps.size:=by simpa[Dz,Itk]using p
  refine W.item i s _ _ hi st λv h' tk L B D=>?_;obtain⟨c,t',x,rfl⟩:=L;have J:Inv X pins σ H {s with heap:=h',toks:=tk}:=I.turned (λb o f e=>D b o (by simpa using f) e) q y r j m;exact⟨_,rfl,wpAny_of_eq (G _ _) ⟨.str ⟨#[c]⟩,H,J,⟨_,rfl⟩,⟨rfl,by simp[Dz,x]⟩,B,λb f=>(g b f).1⟩⟩
 done:=by
  intro X l hw n hc i pins s σ H E I g st p;subst l hw n;obtain⟨q,y,F,r,j,m⟩:=g a (by simp);have hi:z.cps.size<=i:=by simpa[Dz,Itk]using p
  exact wpAny_pyNext_wide_end (I.ok.hd hc) st (by simp[hi]) λh' eb=>⟨rfl,I.turned (t':=s.toks) (λb o f e=>eb b o f e) q y r j m⟩
 self:=λA i s Q E st h=>wpAny_pyIter_striter_wide st h
def eh(K:PySem.W.Frag)(tl:TE):TI:=λσ H R=>tl σ H λx H1=>(∃ a,x=.ref a/\(∃ xs,SqL K H1 a xs)/\R (Itl K a) H1)\/(∃ a,x=.ref a/\(∃ xs,SqT K H1 a xs)/\R (Itt K a) H1)\/(∃ z,x=.str z/\R (Itk (Dz z)) H1)
theorem ei(k:∀ r u,letOwnedTupleGo tg r u=pure ())(hl:PE X l tl):PI X tg l (eh X.K tl):=by
 intro pins s σ H R I h;refine thn (hl pins s σ H _ I h) λv c i=>?_;obtain⟨x,H1,d,r1,q1⟩:=i;rcases q1 with⟨a,e,⟨xs,j⟩,q⟩|⟨a,e,⟨xs,j⟩,q⟩|⟨z,e,q⟩
 ·subst e;cases r1;obtain⟨g,w,p,y⟩:=d.list j;refine wpAny_pyIter_list p.isList ?_;refine⟨c.heap.objs.size,[c.heap.objs.size],_,_,H1,rfl,d.kept (t':=c.toks) λb o e=>Qn _ e,P5 a _,⟨_,Qp _ rfl,rfl,rfl⟩,λb f=>?_,q⟩;have e:b=c.heap.objs.size:=by simpa using f
  subst e;walk_at "pl"
 ·subst e;cases r1;obtain⟨g,w,p,y⟩:=d.tuple j;refine wpAny_pyIter_tuple (show c.heap.IsTuple a g.toArray from p) ?_;refine⟨c.heap.objs.size,[c.heap.objs.size],_,_,H1,rfl,d.kept (t':=c.toks) λb o e=>Qn _ e,P6 a _,⟨_,Qp _ rfl,rfl,rfl⟩,λb f=>?_,q⟩;have e:b=c.heap.objs.size:=by simpa using f
  subst e;walk_at "pl"
 ·subst e;obtain⟨t,rfl⟩:=r1
  have m:∀ b∈[c.heap.objs.size],Du X pins H1 b:=λb f=>by
   have e:b=c.heap.objs.size:=by simpa using f
   subst e;walk_at "pl"
  cases n:z.cps.all (· < 128)
  ·exact wpAny_pyIter_wide n ⟨c.heap.objs.size,[c.heap.objs.size],_,_,H1,rfl,d.kept (t':=c.toks) λb o e=>Qn _ e,eg k _ z t,⟨_,Qp _ rfl,rfl,rfl⟩,m,q⟩
  ·exact wpAny_pyIter_ascii n ⟨c.heap.objs.size,[c.heap.objs.size],_,_,H1,rfl,d.kept (t':=c.toks) λb o e=>Qn _ e,ef k _ z t,⟨_,Qp _ rfl,rfl,rfl⟩,m,q⟩
abbrev GI:=Sw->Hw->(List W->(Hw->Prop)->Hw->Prop)->Prop
def GI.M(g:GI):Prop:=∀ ω G(R R':List W->(Hw->Prop)->Hw->Prop),(∀ ws gd G',R ws gd G'->R' ws gd G')->g ω G R->g ω G R'
def FT(z:Str):List W:=z.cps.toList.map λc=>W.str ⟨#[c]⟩
theorem ek:TrL K H (Dz z) (FT z):=by
 unfold Dz FT;generalize z.cps.toList=l;induction l with
 | nil=>exact .nil
 | cons c l a=>exact .cons (.str _) a
def yes:Hw->Prop:=λ_=>True
def holds(a:Addr)(ws:List W):Hw->Prop:=λG=>G a=some (.lst ws)
def AY(ga:GE):GI:=λω G R=>ga ω G λw G1=>match w with
 | .tup ws=>R ws yes G1
 | .rol ws=>R ws yes G1
 | .str z=>R (FT z) yes G1
 | .ref a=>match G1 a with | some (.lst ws)=>R ws (holds a ws) G1 | _=>False
 | _=>False
theorem em(m:ga.M):GI.M (AY ga):=λω G R d h q=>m _ _ _ _ (λw G1 z=>by
 cases w with
 | tup b=>exact h _ _ _ z
 | rol b=>exact h _ _ _ z
 | str x=>exact h _ _ _ z
 | ref a =>
  dsimp only at z ⊢;cases e:G1 a with
  | none=>rw[e]at z;exact z
  | some o =>
   rw[e]at z;cases o with
   | lst b=>exact h _ _ _ z
   | exc C=>exact z
   | ins C fs=>exact z
   | dct c=>exact z
 | _=>exact z) q
structure FU(K:PySem.W.Frag)(H1:Hp)(J:It)(ws:List W)(gd:Hw->Prop):Prop where
 go:∀(i:Nat)(H:Hp)(G:Hw),Mono K H1 H->RelH K H G->gd G->i < ws.length->J.go i H
 yld:∀(i:Nat)(H:Hp)(G:Hw)(x:V)(H':Hp),Mono K H1 H->RelH K H G->gd G->J.yld i H x H'->i < ws.length->Mono K H H'/\RelH K H' G/\∃ w,ws[i]?=some w/\Tr K H' x w
 stop:∀(H:Hp)(G:Hw),Mono K H1 H->RelH K H G->gd G->J.stop ws.length H
theorem Jy{a:List W}{i:Nat}(r:RelH K H G)(e:H'=H)(h:∃ w,a[i]?=some w/\Tr K H x w):Mono K H H'/\RelH K H' G/\∃ w,a[i]?=some w/\Tr K H' x w:=by
 subst e;exact⟨.refl,r,h⟩
theorem Jz(h:∀ H G,Mono K H1 H->RelH K H G->gd G->∃ vs,SqL K H a vs/\TrL K H vs b):FU K H1 (Itl K a) b gd where
 go:=λi H G m r g hi=>by
  obtain⟨vs,q,t⟩:=h H G m r g;have hl:=t.length;exact⟨vs,vs[i]'(by lia),q,by simp⟩
 yld:=λi H G x H' m r g y hi=>by
  obtain⟨vs,q,t⟩:=h H G m r g;obtain⟨w,e,c⟩:=t.get' (y.2 vs q);exact Jy r y.1 ⟨w,e,c⟩
 stop:=λH G m r g=>by
  obtain⟨vs,q,t⟩:=h H G m r g;exact⟨vs,q,Nat.le_of_eq t.length⟩
theorem Rb(q:SqT K H1 a vs)(t:TrL K H1 vs b):FU K H1 (Itt K a) b gd where
 go:=λi H G m r g hi=>by
  have hl:=t.length;exact⟨vs,vs[i]'(by lia),m.tup _ _ q,by simp⟩
 yld:=λi H G x H' m r g y hi=>by
  obtain⟨w,e,c⟩:=(t.mono m).get' (y.2 vs (m.tup _ _ q));exact Jy r y.1 ⟨w,e,c⟩
 stop:=λH G m r g=>⟨vs,m.tup _ _ q,Nat.le_of_eq t.length⟩
theorem eo(t:TrL K H1 vs a):FU K H1 (Itk vs) a gd where
 go:=λi H G m r g hi=>by show i < vs.length;rw[t.length];exact hi
 yld:=λi H G x H' m r g y hi=>by
  obtain⟨w,e,b⟩:=(t.mono m).get' y.2;exact Jy r y.1 ⟨w,e,b⟩
 stop:=λH G m r g=>by show vs.length<=a.length;exact Nat.le_of_eq t.length
def PIw(X:Cx)(tg l:Expr)(gi:GI):Prop:=∃ wi:TI,PI X tg l wi/\∀(σ:St)(H:Hp)(ω:Sw)(G:Hw)(R:List W->(Hw->Prop)->Hw->Prop)(R0:It->Hp->Prop),TrSt X.K H σ ω->RelH X.K H G->gi ω G R->
 (∀ ws gd G1 H1 J,R ws gd G1->Mono X.K H H1->RelH X.K H1 G1->gd G1->FU X.K H1 J ws gd->R0 J H1)->wi σ H R0
theorem et(n:∀ g u,letOwnedTupleGo tg g u=pure ())(p:ga.M)(hl:PEw X l ga):PIw X tg l (AY ga):=by
 refine⟨_,ei n hl,λσ H ω G R A y r q k=>⟨ω,G,y,r,p _ _ _ _ (λw G1 z v H1 m t r1=>?_) q⟩⟩;cases t with
 | tup h l=>exact .inr (.inl ⟨_,rfl,⟨_,h⟩,k _ _ _ H1 _ z m r1 trivial (Rb h l)⟩)
 | rol h l=>exact .inl ⟨_,rfl,⟨_,h.sq⟩,k _ _ _ H1 _ z m r1 trivial (Jz λH2 G2 c _ _=>⟨_,(c.rol _ _ h).sq,l.mono c⟩)⟩
 | str x=>exact .inr (.inr ⟨x,rfl,k _ _ _ H1 _ z m r1 trivial (eo ek)⟩)
 | ref a =>
  dsimp only at z;cases e:G1 a with
  | none=>rw[e]at z;exact z.elim
  | some o =>
   rw[e]at z;cases o with
   | exc C=>exact z.elim
   | ins C fs=>exact z.elim
   | dct s=>exact z.elim
   | lst B =>
    obtain⟨d,j,D⟩:=r1 a _ e;exact .inl ⟨a,rfl,⟨d,SqL.of j⟩,k _ _ _ H1 _ z m r1 e (Jz λH2 G2 c f g2=>let⟨d,e2,t2⟩:=f a _ g2;⟨d,SqL.of e2,t2⟩)⟩
 | non=>exact z.elim
 | bl b=>exact z.elim
 | int i=>exact z.elim
structure TgW(X:Cx)(tg:Expr)(gg:GG):Prop where
 ex:∃ g:TG,PG X tg g/\∀(x:V)(w:W)(σ:St)(ω:Sw)(H:Hp)(G:Hw)(Q:St->Hp->Prop),Tr X.K H x w->TrSt X.K H σ ω->RelH X.K H G->gg w ω G (dnS X.K H Q)->g x σ H Q
 mono:gg.M
def gNm(i:Nat):GG:=λw ω G Q=>Q (ω.set i (some w)) G
theorem Rc(c:X.N.Nodup)(hi:X.N[i]?=some x)(a:Loc X.env.scope x)(d:X.fn x=true\/X.env.scope.names.lookup x=some .local):TgW X (.Name x p) (gNm i) where
 ex:=⟨_,Dj c hi a d,λx w σ ω H G Q t b r q=>q _ H .refl (b.set i t) r⟩
 mono:=λ_ _ _ _ _ h q=>h _ _ q
def Bi(i j:Nat):GG:=λw ω G Q=>match w with | .tup [a,b]=>Q ((ω.set i (some a)).set j (some b)) G | _=>False
theorem Re(hc:X.calm=true)(d:X.N.Nodup)(hi:X.N[i]?=some x)(n:Loc X.env.scope x)(f:X.fn x=true\/X.env.scope.names.lookup x=some .local)(e:X.N[j]?=some y)(m:Loc X.env.scope y)(c:X.fn y=true\/X.env.scope.names.lookup y=some .local):TgW X (.Tuple [.Name x p,.Name y g] k pos) (Bi i j) where
 ex:=⟨_,Jp hc (Eg (Dj d hi n f) (Eg (Dj d e m c) Jo)),λv w σ ω H G Q t o r q=>by
  unfold Bi at q;split at q
  ·rename_i a b;cases t with
   | tup h l =>
    cases l with
    | cons ta l =>
     cases l with
     | cons tb l =>
      cases l;exact⟨_,_,rfl,h,rfl,_,_,rfl,_,_,rfl,rfl,q _ H .refl ((o.set i ta).set j tb) r⟩
  ·exact q.elim⟩
 mono:=λw ω G Q s h q=>by
  unfold Bi at q ⊢;split
  ·exact h _ _ q
  ·rename_i z;split at q
   ·exact(z _ _ rfl).elim
   ·exact q
def BU(gd:Hw->Prop)(gg:GG)(gb:GS)(D:Ew):List W->Sw->Hw->Prop
 | [],ω,G=>gd G/\D.nx ω G
 | x::xs,ω,G=>gd G/\gg x ω G λω1 G1=>gb {nx:=BU gd gg gb D xs,rt:=D.rt,bk:=D.nx,ct:=BU gd gg gb D xs} ω1 G1
def BC(gi:GI)(gg:GG)(gb:GS):GS:=λD ω G=>gi ω G λws gd G1=>BU gd gg gb D ws ω G1
theorem Mw(mg:c.M)(d:gb.M)(h1:∀ a b,D.nx a b->e.nx a b)(h2:∀ a b,D.rt a b->e.rt a b):∀(f:List W)(ω:Sw)(G:Hw),BU gd c gb D f ω G->BU gd c gb e f ω G
 | [],ω,G,q=>⟨q.1,h1 _ _ q.2⟩
 | x::xs,ω,G,q=>⟨q.1,mg _ _ _ _ _ (λω1 G1 z=>d _ _ {nx:=BU gd c gb D xs,rt:=D.rt,bk:=D.nx,ct:=BU gd c gb D xs} _ (λa b y=>Mw mg d h1 h2 xs a b y) h2 h1 (λa b y=>Mw mg d h1 h2 xs a b y) z) q.2⟩
theorem eu(b:gi.M)(mg:a.M)(d:gb.M):GS.M (BC gi a gb):=λω G D g h1 h2 f h q=>b _ _ _ _ (λc e G1 z=>Mw mg d h1 h2 c ω G1 z) q
theorem ez(q:BU gd b gb D a ω G):gd G:=by
 cases a with
 | nil=>exact q.1
 | cons w a=>exact q.1
theorem eA(hp:PassesOwn (model X.prog X.w) X.A X.env X.xe)(hc:X.calm=true)(mi:gi.M)(mb:gb.M)(hi:PIw X tg iter gi)(hg:TgW X tg p)(hb:Ei X Q1 body gb)(hs:∀ x,foldedSetIterable iter X.env x=pure x:=by intro _;rfl):PSw X P (.For tg iter body [] pos) (BC gi p gb):=by
 intro B hB;obtain⟨wi,O,hi⟩:=hi;obtain⟨g,T,L⟩:=hg.ex;have mg:=hg.mono;have F:PSs X body (λD σ H=>∃ E,upS X.K E gb D σ H):=(by rintro pins s σ H D I ⟨E,z⟩;exact hb E trivial pins s σ H D I z);refine Dx (a9 hp hc O T F hs) λD σ H R=>?_;obtain⟨ω,G,ts,r,t,q⟩:=R;refine hi σ H ω G _ _ ts r q λd U G1 H1 J z Y r1 hgd S=>?_;have h:=t.trans Y;refine⟨λi m σ' H'=>m=d.length - i/\i<=d.length/\Mono X.K H1 H'/\∃ ω' l,TrSt X.K H' σ' ω'/\RelH X.K H' l/\BU U p gb (dnD X.K B D) (d.drop i) ω' l,⟨d.length,by simp,YU _,.refl,ω,G1,ts.mono Y,r1,by simpa using z⟩,?_⟩;rintro i m σ' H' ⟨rfl,hle,j,ω',l,o,r',n⟩;have c:=ez n;by_cases f:i < d.length
 ·refine .inr ⟨S.go i H' l j r' c f,λσ2 H2=>Mono X.K H1 H2/\∃ ω2 G2,TrSt X.K H2 σ2 ω2/\RelH X.K H2 G2/\BU U p gb (dnD X.K B D) (d.drop (i+1)) ω2 G2,
   (by rintro σ2 H2 ⟨y1,y2⟩;exact⟨d.length -(i+1),by lia,rfl,f,y1,y2⟩),λx H2 y=>?_⟩
  obtain⟨Z,ry,w,ew,tw⟩:=S.yld i H' l x H2 j r' c y f;have j:=j.trans Z
  have ed:d.drop i=w::d.drop (i+1):=by
   obtain⟨h',e'⟩:=YW.mp ew;rw[<- e'];exact List.drop_eq_getElem_cons h'
  rw[ed]at n;refine L x w σ' ω' _ l _ tw (o.mono Z) ry (mg _ _ _ _ _ (λω1 N z1 σ1 H3 m3 Q r3=>?_) n.2);exact⟨H1,ω1,N,Q,r3,j.trans m3,mb _ _ _ _ (λa b y σ4 H4 u k v=>⟨u,a,b,k,v,y⟩) (λa b y=>CC h y) (λa b y=>c8 h y) (λa b y σ4 H4 u k v=>⟨u,a,b,k,v,y⟩) z1⟩
 ·have e:i=d.length:=by lia
  subst e;rw[List.drop_length]at n;exact .inl ⟨S.stop H' l j r' c,n.2 σ' H' (h.trans j) o r'⟩
def Bj(gd:Hw->Prop)(gg:GG)(gt:GT)(ge:GE)(R:List W->Hw->Prop):List W->Sw->Hw->List W->Prop
 | [],_,G,ys=>gd G/\R ys G
 | x::xs,ω,G,ys=>gd G/\ys.length < sizeLine/\gg x ω G λω1 G1=>gt ω1 G1 λb G2=>if b=true then ge ω1 G2 λy G3=>Bj gd gg gt ge R xs ω1 G3 (ys++[y])else Bj gd gg gt ge R xs ω1 G2 ys
def AZ(gi:GI)(n:Nat)(gg:GG)(gt:GT)(ge:GE):GE:=λω G Q=>gi ω G λws gd G1=>Bj gd gg gt ge (λys G2=>∀ p,G2 p=none->Q (.ref p) (put G2 p (.lst ys))) ws (List.replicate n none) G1 []
theorem JA(mg:d.M)(c:gt.M)(e:ge.M)(h:∀ a b,R a b->i a b):∀(g:List W)(ω:Sw)(G:Hw)(ys:List W),Bj gd d gt ge R g ω G ys->Bj gd d gt ge i g ω G ys
 | [],ω,G,ys,q=>⟨q.1,h _ _ q.2⟩
 | x::xs,ω,G,ys,q=>⟨q.1,q.2.1,mg _ _ _ _ _ (λω1 G1 z=>c _ _ _ _ (λb G2 f=>by
   cases b with
   | true=>exact e _ _ _ _ (λy j k=>JA mg c e h xs ω1 j _ k) f
   | false=>exact JA mg c e h xs ω1 G2 _ f) z) q.2.2⟩
theorem eB(c:gi.M)(mg:a.M)(b:gt.M)(e:ge.M):GE.M (AZ gi n a gt ge):=λω G Q g h q=>
 c _ _ _ _ (λi f G1 z=>JA mg b e (λys G2 z p d=>h _ _ (z p d)) _ _ _ _ z) q
theorem Rf(q:Bj gd b gt ge R a ω G ys):gd G:=by
 cases a with
 | nil=>exact q.1
 | cons w a=>exact q.1
def AX:GT:=λ_ G Q=>Q true G
theorem eD:GT.M AX:=λ_ _ _ _ h q=>h _ _ q
abbrev PFw(X:Cx)(ifs:List Expr)(g:GT):Prop:=PF X ifs (upT X.K g)
theorem eE:PFw X [] AX:=(by rintro pins s σ H Q I ⟨ω,G,a,r,q⟩;exact cU pins s σ H Q I (q H .refl r))
theorem eF(h:PTw X c g):PFw X [c] g:=cV h
theorem eG{σ:St}(h:σ=List.replicate n none):TrSt K H σ (List.replicate n none):=by
 subst h;refine⟨by simp,λi w e=>?_⟩;rw[List.getElem?_replicate]at e;split at e <;> cases e
theorem eH{X:Cx}{Nc:List Str}(E:∀(σ:St)(H:Hp)(ω:Sw)(G:Hw)(R:List W->(Hw->Prop)->Hw->Prop)(Y:It->Hp->Prop),TrSt X.K H σ ω->RelH X.K H G->gi ω G R->
   (∀ a gd G1 H1 J,R a gd G1->Mono X.K H H1->RelH X.K H1 G1->gd G1->FU X.K H1 J a gd->Y J H1)->P σ H Y)(B:∀(x:V)(w:W)(σ:St)(ω:Sw)(H:Hp)(G:Hw)(Q:St->Hp->Prop),Tr X.K H x w->TrSt X.K H σ ω->RelH X.K H G->t w ω G (dnS X.K H Q)->g x σ H Q)(mg:t.M)(mt:gt.M)(me:ge.M)(σ:St)(H:Hp)(Q:VK)(h:up X.K (AZ gi Nc.length t gt ge) σ H Q):
  Ju P (λ_=>List.replicate Nc.length none) g (upT X.K gt) (up X.K ge) σ H Q:=by
 obtain⟨ω,G,ts,r,q⟩:=h;refine E σ H ω G _ _ ts r q λa gd G1 H1 J z m1 r1 hgd I=>?_
 refine⟨λi m σ' H' T=>m=a.length - i/\i<=a.length/\Mono X.K H1 H'/\∃ ω' l ys,TrSt X.K H' σ' ω'/\RelH X.K H' l/\TrL X.K H' T ys/\Bj gd t gt ge (λys G2=>∀ p,G2 p=none->dn X.K H Q (.ref p) (put G2 p (.lst ys))) (a.drop i) ω' l ys,
  ⟨a.length,by simp,YU _,.refl,_,G1,[],eG rfl,r1,.nil,by simpa using z⟩,?_⟩
 rintro i m σ' H' T ⟨rfl,hle,j,ω',l,ys,N,r',tv,n⟩;have c:=Rf n;by_cases d:i < a.length
 ·have hw:∃ w,a[i]?=some w:=⟨a[i],by simp[d]⟩;obtain⟨w0,s⟩:=hw
  have ed:a.drop i=w0::a.drop (i+1):=by
   obtain⟨h',e'⟩:=YW.mp s;rw[<- e'];exact List.drop_eq_getElem_cons h'
  rw[ed]at n
  refine .inr ⟨I.go i H' l j r' c d,by rw[tv.length];exact n.2.1,λσ2 H2 o=>Mono X.K H1 H2/\∃ ω2 G2 u,TrSt X.K H2 σ2 ω2/\RelH X.K H2 G2/\TrL X.K H2 o u/\Bj gd t gt ge (λys G2=>∀ p,G2 p=none->dn X.K H Q (.ref p) (put G2 p (.lst ys))) (a.drop (i+1)) ω2 G2 u,
   (by rintro σ2 H2 o ⟨y1,y2⟩;exact⟨a.length -(i+1),by lia,rfl,d,y1,y2⟩),λx H2 y=>?_⟩
  obtain⟨F,ry,w,S,tw⟩:=I.yld i H' l x H2 j r' c y d;have j:=j.trans F;have tv:=tv.mono F;rw[s]at S;cases S;refine B x _ σ' ω' _ l _ tw (N.mono F) ry (mg _ _ _ _ _ (λω1 D z1 σ1 H3 v f r3=>?_) n.2.2);refine⟨ω1,D,f,r3,mt _ _ _ _ (λb U Z H4 k O=>?_) z1⟩;cases b with
  | true=>exact⟨ω1,U,f.mono k,O,me _ _ _ _ (λy5 G5 z5 v5 H5 L t5 r5=>⟨((j.trans v).trans k).trans L,ω1,G5,_,(f.mono k).mono L,r5,(((tv.mono v).mono k).mono L).append (.cons t5 .nil),z5⟩) Z⟩
  | false=>exact⟨(j.trans v).trans k,ω1,U,_,f.mono k,O,(tv.mono v).mono k,Z⟩
 ·have e:i=a.length:=by lia
  subst e;rw[List.drop_length]at n;exact .inl ⟨I.stop H' l j r' c,λp A=>n.2 p (r'.no A) _ _ ((m1.trans j).trans (Mono.new A _)) (.ref p) (r'.new A tv)⟩
structure TgU(X:Cx)(Nc:List Str)(scope:Scope)(tg:Expr)(gg:GG):Prop where
 ex:∃ g:TG,(∀ C fp s H,PG (cxB X Nc scope [] C fp s H) tg g)/\∀(x:V)(w:W)(σ:St)(ω:Sw)(H:Hp)(G:Hw)(Q:St->Hp->Prop),Tr X.K H x w->TrSt X.K H σ ω->RelH X.K H G->gg w ω G (dnS X.K H Q)->g x σ H Q
 mono:gg.M
theorem C3(c:Nc.Nodup)(hi:Nc[i]?=some x)(a:scope.names.lookup x=some .local):TgU X Nc scope (.Name x p) (gNm i) where
 ex:=⟨Di i,λC d s H=>Dj (X:=cxB X Nc scope [] C d s H) c hi (.inl (lookup_relabel_local a)) (.inr (lookup_relabel_local a)),λx w σ ω H G Q t b r q=>q _ H .refl (b.set i t) r⟩
 mono:=λ_ _ _ _ _ h q=>h _ _ q
theorem Rg:GG.M (Bi i j):=λw ω G Q a h q=>by
 unfold Bi at q ⊢;split
 ·exact h _ _ q
 ·rename_i z;split at q
  ·exact(z _ _ rfl).elim
  ·exact q
theorem JB(hc:X.calm=true)(d:Nc.Nodup)(hi:Nc[i]?=some x)(e:scope.names.lookup x=some .local)(f:Nc[j]?=some y)(c:scope.names.lookup y=some .local):
  TgU X Nc scope (.Tuple [.Name x p,.Name y g] k pos) (Bi i j) where
 ex:=⟨Cl X.K 2 (BT (Di i) (BT (Di j) Ch)),λC m s H=>Jp (X:=cxB X Nc scope [] C m s H) hc (Eg (Dj d hi (.inl (lookup_relabel_local e)) (.inr (lookup_relabel_local e))) (Eg (Dj d f (.inl (lookup_relabel_local c)) (.inr (lookup_relabel_local c))) Jo)),
  λv w σ ω H G Q t n r q=>by
   unfold Bi at q;split at q
   ·rename_i a b;cases t with
    | tup h l =>
     cases l with
     | cons ta l =>
      cases l with
      | cons tb l =>
       cases l;exact⟨_,_,rfl,h,rfl,_,_,rfl,_,_,rfl,rfl,q _ H .refl ((n.set i ta).set j tb) r⟩
   ·exact q.elim⟩
 mono:=Rg
theorem eI(hc:X.calm=true)(hi:PIw X tg iter gi)(B:Blk X Nc scope [] (λ_=>List.replicate Nc.length none))(d:TgU X Nc scope tg e)(f:gt.M)(j:∀ C fp s H,PFw (cxB X Nc scope [] C fp s H) ifs gt)(k:ge.M)(h:∀ C fp s H,PEw (cxB X Nc scope [] C fp s H) elt ge)(i:∀ x,foldedSetIterable iter X.env x=pure x):
  PEw X (.ListComp elt [⟨tg,iter,ifs,0⟩] scope pos) (AZ gi Nc.length e gt ge):=by
 obtain⟨l,b,hi⟩:=hi;obtain⟨g,a,c⟩:=d.ex;exact Bm (QW hc b B a j h i) (eH hi c d.mono f k)
def AI(C:Int->Int->Prop)(f:Int->Int->Int):RW2:=λx y G Q=>match x,y with
 | .int i,.int j=>C i j/\Q (.int (f i j)) G
 | _,_=>False
theorem E1:RW2.M (AI C f):=λx y G Q a h q=>by
 cases x <;> cases y <;> first | exact q | exact⟨q.1,h _ _ q.2⟩
theorem JC(x y:W)(v u:V)(G:Hw)(H:Hp)(Q:VK)(a:Tr K H v x)(ty:Tr K H u y)(r:RelH K H G)(q:AI C f x y G (dn K H Q)):rI C (λi j=>.int (f i j)) v u H Q:=by
 cases a <;> first | exact q.elim |(cases ty <;> first | exact q.elim | exact⟨_,_,rfl,rfl,q.1,q.2 _ H .refl (.int _) r⟩)
def Bz:RW2:=λx y G Q=>match x,y with
 | .int i,.int j=>Q (.int (i+j)) G
 | .str a,.str b=>a.length+b.length<=sizeLine/\Q (.str (a++b)) G
 | .ref a,.ref b=>(match G a,G b with
  | some (.lst xs),some (.lst ys)=>xs.length+ys.length<=sizeLine/\∀ p,G p=none->Q (.ref p) (put G p (.lst (xs++ys)))
  | _,_=>False)
 | _,_=>False
theorem eJ:RW2.M Bz:=λx y G Q g h q=>by
 cases x <;> cases y <;> first | exact q | exact h _ _ q | exact⟨q.1,h _ _ q.2⟩| skip
 rename_i a b;unfold Bz at q ⊢;dsimp only at q ⊢;cases c:G a with
 | none=>rw[c]at q;exact q
 | some d =>
  cases eb:G b with
  | none=>rw[c,eb]at q;cases d <;> exact q
  | some f =>
   rw[c,eb]at q;cases d <;> cases f <;> first | exact q | exact⟨q.1,λp e=>h _ _ (q.2 p e)⟩
theorem eK:OpR X (binaryOp .Add) (λx y H Q=>(rI0 λi j=>.int (i+j)) x y H Q\/(∃ i j,x=.str i/\y=.str j/\i.length+j.length<=sizeLine/\Q (.str (i++j)) H)\/HC x y H Q):=OpR.or bg (OpR.or bI cK)
theorem eL(x y:W)(v u:V)(G:Hw)(H:Hp)(Q:VK)(n:Tr K H v x)(ty:Tr K H u y)(r:RelH K H G)(q:Bz x y G (dn K H Q)):
  (rI0 λi j=>.int (i+j)) v u H Q\/(∃ i j,v=.str i/\u=.str j/\i.length+j.length<=sizeLine/\Q (.str (i++j)) H)\/HC v u H Q:=by
 cases n with
 | int i=>cases ty <;> first | exact q.elim | exact .inl ⟨_,_,rfl,rfl,q _ H .refl (.int _) r⟩
 | str i=>cases ty <;> first | exact q.elim | exact .inr (.inl ⟨_,_,rfl,rfl,q.1,q.2 _ H .refl (.str _) r⟩)
 | ref a =>
  cases ty <;> try exact q.elim
  rename_i b;unfold Bz at q;dsimp only at q;cases c:G a with
  | none=>rw[c]at q;exact q.elim
  | some g =>
   cases eb:G b with
   | none=>rw[c,eb]at q;cases g <;> exact q.elim
   | some o =>
    rw[c,eb]at q;cases g <;> cases o <;> try exact q.elim
    obtain⟨m,k,f⟩:=r a _ c;obtain⟨l,h,e⟩:=r b _ eb;exact .inr (.inr ⟨a,b,m,l,rfl,rfl,k,h,by rw[f.length,e.length];exact q.1,λp d=>q.2 p (r.no d) _ _ (Mono.new d _) (.ref p) (r.new d (f.append e))⟩)
 | _=>exact q.elim
def A0(f:Int->Int->Bool):RW2:=λx y G Q=>match x,y with
 | .int i,.int j=>Q (.bl (f i j)) G
 | _,_=>False
theorem Rh:RW2.M (A0 f):=λx y G Q a h q=>by
 cases x <;> cases y <;> first | exact q | exact h _ _ q
theorem Ri(x y:W)(v u:V)(G:Hw)(H:Hp)(Q:VK)(a:Tr K H v x)(ty:Tr K H u y)(r:RelH K H G)(q:A0 f x y G (dn K H Q)):rI0 (λi j=>.bl (f i j)) v u H Q:=by
 cases a <;> first | exact q.elim |(cases ty <;> first | exact q.elim | exact⟨_,_,rfl,rfl,q _ H .refl (.bl _) r⟩)
def opt(o:Option W)(f:W->Prop):Prop:=match o with | some w=>f w | none=>False
theorem Mx(h:∀ w,f w->a w)(q:opt o f):opt o a:=by
 cases o with
 | none=>exact q
 | some w=>exact h _ q
theorem C4(q:opt o f):∃ w,o=some w/\f w:=by
 cases o with
 | none=>exact q.elim
 | some w=>exact⟨w,rfl,q⟩
def Ae(f:W->W->Hw->Option W):RW2:=λx y G Q=>opt (f x y G) λw=>Q w G
theorem Ek:RW2.M (Ae f):=λx y G Q a h q=>Mx (λw z=>h _ _ z) q
def ixW(x y:W)(G:Hw):Option W:=match x,y with
 | .tup xs,.int i=>atI xs i
 | .rol xs,.int i=>atI xs i
 | .ref a,.int i=>(match G a with | some (.lst xs)=>atI xs i | _=>none)
 | .str z,.int i=>if z.length<=sizeLine then(atI z.cps.toList i).map λc=>.str ⟨#[c]⟩else none
 | _,_=>none
theorem My(t:TrL K H vs a)(e:atI a i=some w):∃ v,atI vs i=some v/\Tr K H v w:=by
 unfold atI at e ⊢;rw[t.length];cases z:ixN a.length i with
 | none=>rw[z]at e;cases e
 | some j =>
  rw[z]at e;exact t.get e
theorem eM:IxR X (λx y H Q=>Ml X.K x y H Q\/Mm X.K x y H Q\/Mn x y H Q):=IxR.or cq (IxR.or cr cu)
theorem eN(x y:W)(v u:V)(G:Hw)(H:Hp)(Q:VK)(n:Tr K H v x)(ty:Tr K H u y)(r:RelH K H G)(q:Ae ixW x y G (dn K H Q)):Ml K v u H Q\/Mm K v u H Q\/Mn v u H Q:=by
 obtain⟨w,e,f⟩:=C4 q;cases ty with
 | int i =>
  cases n with
  | tup h l =>
   obtain⟨j,d,t'⟩:=My l e;exact .inr (.inl ⟨_,_,_,_,rfl,rfl,h,d,f _ H .refl t' r⟩)
  | rol h l =>
   obtain⟨j,d,t'⟩:=My l e;exact .inl ⟨_,_,_,_,rfl,rfl,h.sq,d,f _ H .refl t' r⟩
  | str z =>
   unfold ixW at e;dsimp only at e;split at e
   ·rename_i k;cases b:atI z.cps.toList i with
    | none=>rw[b]at e;cases e
    | some c =>
     rw[b]at e;cases e;exact .inr (.inr ⟨z,i,c,rfl,rfl,k,b,f _ H .refl (.str _) r⟩)
   ·cases e
  | ref a =>
   unfold ixW at e;dsimp only at e;cases g:G a with
   | none=>rw[g]at e;cases e
   | some o =>
    rw[g]at e;cases o with
    | exc C=>cases e
    | ins C fs=>cases e
    | dct m=>cases e
    | lst s =>
     obtain⟨p,b,l⟩:=r a _ g;obtain⟨j,d,t'⟩:=My l e;exact .inl ⟨_,_,_,_,rfl,rfl,SqL.of b,d,f _ H .refl t' r⟩
  | _=>cases e
 | _=>cases x <;> cases e
structure Em(X:Cx)(e:Expr)(g:GE):Prop where
 p:PEw X e g
 m:g.M
structure Tm(X:Cx)(e:Expr)(g:GT):Prop where
 p:PTw X e g
 m:g.M
structure Wm(X:Cx)(e:Expr)(g:GT):Prop where
 p:PWw X e g
 m:g.M
structure Am(X:Cx)(es:List Expr)(g:GA):Prop where
 p:PAw X es g
 m:g.M
structure Sm(X:Cx)(P:Hp->Prop)(s:Stmt)(g:GS):Prop where
 p:PSw X P s g
 m:g.M
structure Ssm(X:Cx)(P:Hp->Prop)(s:List Stmt)(g:GS):Prop where
 p:Ei X P s g
 m:g.M
structure Im(X:Cx)(tg l:Expr)(g:GI):Prop where
 p:PIw X tg l g
 m:g.M
def place(N:List Str)(x:Str):Option Nat:=N.findIdx? (·==x)
theorem eO(h:place N x=some i):N[i]?=some x:=by
 unfold place at h;obtain⟨hi,e,_⟩:=List.findIdx?_eq_some_iff_getElem.mp h;rw[Yp hi,eq_of_beq e]
def seen(sc:Scope)(x:Str):Bool:=match sc.names.lookup x with | some .local=>true | some .cell=>true | some .free=>true | _=>false
theorem Rj(h:seen a x=true):Vis a x:=by
 unfold seen at h;split at h <;> first |(rename_i e;exact .inl e)|(rename_i e;exact .inr (.inl e))|(rename_i e;exact .inr (.inr e))| cases h
def HH(sc:Scope)(x:Str):Bool:=match sc.names.lookup x with | some .local=>true | _=>false
theorem HI(h:HH a x=true):a.names.lookup x=some .local:=by
 unfold HH at h;split at h
 ·rename_i e;exact e
 ·cases h
section
theorem E2{j}:Em X (.Constant (.int i) j pos) (gC (.int i)):=⟨db,GQ⟩
theorem eP{j}:Em X (.Constant (.bool i) j pos) (gC (.bl i)):=⟨df,GQ⟩
theorem eQ{j}:Em X (.Constant .none j pos) (gC .non):=⟨dg,GQ⟩
theorem E3{j}:Em X (.Constant (.str i) j pos) (gC (.str i)):=⟨dh,GQ⟩
theorem eR(c:Em X a ga)(d:Em X b gb):Em X (.BinOp a .Sub b pos) (Ad (AI (λ_ _=>True) λi j=>i - j) ga gb):=
 ⟨GR (r2:=rI (λ_ _=>True) λi j=>.int (i - j)) (opI λ_ _ _ _ _ _ _ _ q=>sub_int q) E1 c.m d.m JC c.p d.p,Dy E1 c.m d.m⟩
theorem eS(c:Em X a ga)(d:Em X b gb):Em X (.BinOp a .FloorDiv b pos) (Ad (AI FO λi j=>i / j) ga gb):=⟨GR bi E1 c.m d.m JC c.p d.p,Dy E1 c.m d.m⟩
theorem eT(c:Em X a ga)(d:Em X b gb):Em X (.BinOp a .Mod b pos) (Ad (AI (λ_ j=>0 < j) λi j=>i % j) ga gb):=⟨GR bj E1 c.m d.m JC c.p d.p,Dy E1 c.m d.m⟩
theorem eU(c:Em X a ga)(d:Em X b gb):Em X (.BinOp a .Pow b pos) (Ad (AI GL λi j=>i ^ j.toNat) ga gb):=⟨GR bn E1 c.m d.m JC c.p d.p,Dy E1 c.m d.m⟩
theorem JD(e:Js b)(d:Em X a ga)(c:Em X b gb):Em X (.Subscript a b pos) (Ad (Ae ixW) ga gb):=⟨Q3 eM Ek d.m c.m eN d.p c.p e,Dy Ek d.m c.m⟩
theorem Mz{k}(h:Am X es gs):Em X (.Tuple es k pos) (Ao gs):=⟨ea h.m h.p,d6 h.m⟩
theorem MA(h:Am X es gs):Em X (.List es pos) (Av gs):=⟨ee h.m h.p,d9 h.m⟩
theorem MB(h:Em X a ga):Em X (.BoolOp op [a] pos) ga:=⟨dZ h.p,h.m⟩
variable {X:Cx}{a b c:Expr}{Au:List Expr}{pos:Pos}{ga gb:GE} in
theorem MC(c:Em X a ga)(d:Em X (.BoolOp .And (b::Au) pos) gb):Em X (.BoolOp .And (a::b::Au) pos) (BE ga gb):=⟨d0 c.m d.m c.p d.p,dV c.m d.m⟩
variable {X:Cx}{a b c:Expr}{Au:List Expr}{pos:Pos}{ga gb:GE} in
theorem eV(c:Em X a ga)(d:Em X (.BoolOp .Or (b::Au) pos) gb):Em X (.BoolOp .Or (a::b::Au) pos) (CL ga gb):=⟨d3 c.m d.m c.p d.p,dW c.m d.m⟩
theorem eW(b:Em X a ga):Em X (.UnaryOp .Not a pos) (CM ga):=⟨d4 b.m b.p,dX b.m⟩
theorem MD(hc:Tm X c gt)(d:Em X a ga)(e:Em X b gb):Em X (.IfExp c a b pos) (BB gt ga gb):=⟨d5 hc.m d.m e.m hc.p d.p e.p,dY hc.m d.m e.m⟩
theorem Bk:Am X [] Ac:=⟨dj,Mt⟩
theorem AT(c:starEach (e::es) X.env=(false,eval e X.env)::starEach es X.env)(a:Em X e ga)(b:Am X es gs):Am X (e::es) (Aa ga gs):=⟨dk a.m b.m a.p b.p c,Q4 a.m b.m⟩
theorem Bo(D:Df X.prog X.w X.K X.mg X.base x k n sp)(h:Room k X.A)(g:Gl X x)(f:Ej X ex)(b:(x==("__debug__":Str))=false)(d:starEach (e::es) X.env=(false,eval e X.env)::starEach es X.env)(a:(backTo pos (starEach es X.env)).any (·.1)=false)(c:Am X (e::es) gs):Em X (.Call (.Name x p) (e::es) [] pos) (Ah sp ex gs):=⟨dr D h g f c.m c.p b d a,dq D.mono c.m⟩
theorem Cw(c:∀ a,isTrue e X.env a=(do let v <- a;standAt e.pos;holding [v] (truthy v)))(b:Em X e ga):Tm X e (AB ga):=⟨dJ b.m b.p c,dH b.m⟩
theorem FV(b:Tm X a gt):Tm X (.UnaryOp .Not a pos) (gNt gt):=⟨dM b.p,dL b.m⟩
theorem ME(h:Wm X (.BoolOp op vs pos) gt):Tm X (.BoolOp op vs pos) gt:=⟨dU h.p,h.m⟩
theorem MF(h:Tm X a gt):Wm X (.BoolOp .And [a] pos) gt:=⟨dP h.p,h.m⟩
theorem eX(h:Tm X a gt):Wm X (.BoolOp .Or [a] pos) gt:=⟨dQ h.p,h.m⟩
variable {X:Cx}{a b c:Expr}{Au:List Expr}{pos:Pos}{gt gu:GT} in
theorem MG(c:Tm X a gt)(d:Wm X (.BoolOp .And (b::Au) pos) gu):Wm X (.BoolOp .And (a::b::Au) pos) (Bp gt gu):=⟨dR c.m d.m c.p d.p,dN c.m d.m⟩
variable {X:Cx}{a b c:Expr}{Au:List Expr}{pos:Pos}{gt gu:GT} in
theorem eY(c:Tm X a gt)(d:Wm X (.BoolOp .Or (b::Au) pos) gu):Wm X (.BoolOp .Or (a::b::Au) pos) (gOr gt gu):=⟨dS c.m d.m c.p d.p,dO c.m d.m⟩
theorem Bf:Ssm X P [] Aj:=⟨dv,dt⟩
theorem AD{st:Stmt}(h:Sm X P st g1):Ssm X P [st] g1:=⟨dy h.p,h.m⟩
theorem Aw{st:Stmt}(h1:Sm X P st g1)(h2:Ssm X P sts g2):Ssm X P (st::sts) (Af g1 g2):=⟨dw h1.m h2.m h1.p h2.p,du h1.m h2.m⟩
theorem A3(a:Em X e ga):Sm X P (.Return (some e) pos) (Ai ga):=⟨dA a.m a.p,dz a.m⟩
theorem B2(b:swapsWith e none pos.line X.env=pure false)(a:Em X e ga):Sm X P (.Expr e pos) (AC ga):=⟨dD a.m a.p b,dB a.m⟩
theorem Bg(hc:Tm X c gt)(h1:Ssm X P sts g1)(h2:Ssm X P sts' g2):Sm X P (.If c sts sts' pos) (gIf gt g1 g2):=⟨dF hc.m h1.m h2.m hc.p h1.p h2.p,dE hc.m h1.m h2.m⟩
theorem eZ(b:∀ a u,letOwnedTupleGo tg a u=pure ())(hl:Em X l ga):Im X tg l (AY ga):=⟨et b hl.m hl.p,em hl.m⟩
theorem HJ(e:PassesOwn (model X.prog X.w) X.A X.env X.xe)(hc:X.calm=true)(d:∀ x,foldedSetIterable iter X.env x=pure x)(hi:Im X tg iter gi)(b:TgW X tg c)(a:Ssm X Q1 sts gb):Sm X P (.For tg iter sts [] pos) (BC gi c gb):=
 ⟨eA e hc hi.m a.m hi.p b a.p d,eu hi.m b.mono a.m⟩
end
theorem e5{bs:List Bool}(r:Vals (bs.map V.bl) a){i:Nat}(e:a.toArray[i]?=some v):v=.bool (bs.getD i false):=by
 have b:a[i]?=some v:=by simpa using e
 have hl:=r.length;rw[Yh]at hl;have hi:i < a.length:=(YW.mp b).1;have d:bs[i]?=some (bs[i]'(by lia)):=Yp _;obtain⟨u,c,r1⟩:=r.get (i:=i) (x:=.bl (bs[i]'(by lia))) (by rw[YN,d];rfl);rw[b]at c;cases c;rw[YZ,d];exact r1
theorem e6{bs:List Bool}:(List.range bs.length).all (λi=>bs.getD i false)=bs.all id:=by
 rw[Bool.eq_iff_iff];simp only[List.all_eq_true,List.mem_range,id];constructor
 ·intro h b a;obtain⟨i,hi,e⟩:=List.mem_iff_getElem.mp a;have:=h i hi;rw[YZ,Yp hi]at this;rw[<- e];exact this
 ·intro h i hi;rw[YZ,Yp hi];exact h _ (Qd hi)
section
theorem e7(hc:X.calm=true):CallR X (.builtin "all") (λxs H Q=>∃(p:Addr)(bs:List Bool),xs=[.ref p]/\SqL X.K H p (bs.map V.bl)/\Q (.bl (bs.all id)) H):=by
 intro pins s σ H xs g Q I r h;obtain⟨p,bs,rfl,c,q⟩:=h;obtain⟨u,rfl,d⟩:=C1 r;cases d;obtain⟨a,r',pl,j⟩:=I.list c;have hl:=r'.length;rw[Yh]at hl;obtain⟨o,n,e,_⟩:=id pl
 refine call_all_walk (wpAny_pyIter_list pl.isList ⟨s.heap.objs.size,_,_,_,_,_,λi=>bs.getD i false,rfl,Walks.list (A:=X.A.in1) (I.ok.hd hc) _ p (Ys (Qo e)) a.toArray,
  ⟨⟨_,Qp _ rfl,rfl,rfl⟩,pl.isList.push _⟩,λi v s Q E f c=>by rw[e5 r' f];exact wpAny_truthy_bool c,λh' tk k=>?_⟩)
 refine⟨.bl (bs.all id),H,I.kept (t':=tk) λb o e=>k b o (by simpa using Ys (Qo e)) (Qn _ e),?_,q⟩;show Value.bool _=_;rw[Yn,<- hl,e6]
theorem MH{ns:List Int}(r:Vals (ns.map V.int) a){i:Nat}(e:a.toArray[i]?=some v):∃ t,v=.int (ns.getD i 0) t:=by
 have b:a[i]?=some v:=by simpa using e
 have hl:=r.length;rw[Yh]at hl;have hi:i < a.length:=(YW.mp b).1;have d:ns[i]?=some (ns[i]'(by lia)):=Yp _;obtain⟨u,c,r1⟩:=r.get (i:=i) (x:=.int (ns[i]'(by lia))) (by rw[YN,d];rfl);rw[b]at c;cases c;rw[YZ,d];exact r1
theorem e8(hc:X.calm=true):CallR X (.builtin "sum") (λxs H Q=>∃(p:Addr)(ns:List Int),xs=[.ref p]/\SqL X.K H p (ns.map V.int)/\PyProof.Rows.SumFits ns/\Q (.int ns.sum) H):=by
 intro pins s σ H xs w Q I r h;obtain⟨p,ns,rfl,t,f,q⟩:=h;obtain⟨u,rfl,l⟩:=C1 r;cases l;obtain⟨c,r',pl,x⟩:=I.list t;have hl:=r'.length;rw[Yh]at hl;obtain⟨o,n,e,_⟩:=id pl
 refine call_sum_walk (wpAny_pyIter_list pl.isList ⟨s.heap.objs.size,_,_,_,_,_,λi=>ns.getD i 0,rfl,Walks.list (A:=X.A.in1) (I.ok.hd hc) _ p (Ys (Qo e)) c.toArray,
  ⟨⟨_,Qp _ rfl,rfl,rfl⟩,pl.isList.push _⟩,λb g=>?_,λi v m=>MH r' m,λj d=>?_,λh' tk t' k=>?_⟩)
 ·rw[Qq];rcases Yo.mp g with a | a
  ·rw[a];exact Nat.lt_succ_self _
  ·rw[YA.mp a];exact Nat.lt_succ_of_lt (Qo e)
 ·rw[Yn,<- hl]at d;have:=f j d;rw[preSum_getD];exact this
 ·refine⟨.int ns.sum,H,I.kept (t':=tk) λb o e=>k b o (by simpa using Ys (Qo e)) (Qn _ e),⟨t',?_⟩,q⟩;rw[Yn,<- hl,preSum_getD,List.take_length]
end
abbrev RWc:=List W->Hw->Kw->Prop
def RWc.M(r:RWc):Prop:=∀ ws G(Q Q':Kw),(∀ w G',Q w G'->Q' w G')->r ws G Q->r ws G Q'
def gB(r:RWc)(gs:GA):GE:=λω G Q=>gs ω G λws G1=>r ws G1 Q
theorem Rk(b:r.M)(a:gs.M):GE.M (gB r gs):=λω G Q c h q=>a _ _ _ _ (λd G1 z=>b _ _ _ _ h z) q
theorem Rl(e:r.M)(d:gs.M)(f:∀ a vs G H Q,TrL K H vs a->RelH K H G->r a G (dn K H Q)->r1 vs H Q)(σ:St)(H:Hp)(Q:VK)(h:up K (gB r gs) σ H Q):tCB r1 (upA K gs) σ H Q:=by
 obtain⟨ω,G,g,c,q⟩:=h;exact⟨ω,G,g,c,d _ _ _ _ (λa G1 z vs H1 m t b=>f a vs G1 H1 Q t b (e _ _ _ _ (λw i y=>CC m y) z)) q⟩
section
theorem e9{id:String}(hc:CallR X (.builtin id) r1)(d:r.M)(k:∀ f vs G H Q,TrL X.K H vs f->RelH X.K H G->r f G (dn X.K H Q)->r1 vs H Q)(h:Gl X x)(i:X.mg x=none)(j:bootBuiltins x=some (.builtin id))(l:x≠"__name__")(b:(x==("__debug__":Str))=false)(g:starEach (e::es) X.env=(false,eval e X.env)::starEach es X.env)(a:(backTo pos (starEach es X.env)).any (·.1)=false)(c:Am X (e::es) gs):Em X (.Call (.Name x p) (e::es) [] pos) (gB r gs):=
 ⟨Bm (ca hc h i j c.p l b g a) (Rl d c.m k),Rk d c.m⟩
theorem fe(hc:CallR X (.type T) r1)(d:r.M)(k:∀ f vs G H Q,TrL X.K H vs f->RelH X.K H G->r f G (dn X.K H Q)->r1 vs H Q)(h:Gl X x)(i:X.mg x=none)(j:bootBuiltins x=some (.type T))(l:x≠"__name__")(b:(x==("__debug__":Str))=false)(g:starEach (e::es) X.env=(false,eval e X.env)::starEach es X.env)(a:(backTo pos (starEach es X.env)).any (·.1)=false)(c:Am X (e::es) gs):Em X (.Call (.Name x p) (e::es) [] pos) (gB r gs):=
 ⟨Bm (cb hc h i j c.p l b g a) (Rl d c.m k),Rk d c.m⟩
end
def rF(f:List W->Hw->Option W):RWc:=λws G Q=>opt (f ws G) λw=>Q w G
theorem FW:RWc.M (rF f):=λb G Q a h q=>Mx (λw z=>h _ _ z) q
def DA:List W->Option (List Bool)
 | []=>some []
 | .bl b::r=>(DA r).map (b::·)
 | _=>none
theorem Rm:∀{a:List W}{bs:List Bool}{vs:List V},DA a=some bs->TrL K H vs a->vs=bs.map V.bl
 | [],bs,vs,e,t=>by cases e;cases t;rfl
 | w::a,bs,vs,e,t=>by
  cases t with
  | cons d t =>
   cases w with
   | bl b =>
    unfold DA at e;cases z:DA a with
    | none=>rw[z]at e;cases e
    | some c =>
     rw[z]at e;cases e;rw[FR d,Rm z t];rfl
   | _=>cases e
def E4:List W->Option (List Int)
 | []=>some []
 | .int b::r=>(E4 r).map (b::·)
 | _=>none
theorem MI:∀{a:List W}{bs:List Int}{vs:List V},E4 a=some bs->TrL K H vs a->vs=bs.map V.int
 | [],bs,vs,e,t=>by cases e;cases t;rfl
 | w::a,bs,vs,e,t=>by
  cases t with
  | cons d t =>
   cases w with
   | int b =>
    unfold E4 at e;cases z:E4 a with
    | none=>rw[z]at e;cases e
    | some c =>
     rw[z]at e;cases e;rw[Q8 d,MI z t];rfl
   | _=>cases e
def DY(G:Hw)(w:W):Option (List W):=match w with
 | .ref a=>(match G a with | some (.lst xs)=>some xs | _=>none)
 | _=>none
theorem HK(r:RelH K H G)(t:Tr K H v w)(e:DY G w=some xs):∃ a vs,v=.ref a/\w=.ref a/\G a=some (.lst xs)/\H a=some (.lst vs)/\TrL K H vs xs:=by
 cases t with
 | ref a =>
  unfold DY at e;dsimp only at e;cases z:G a with
  | none=>rw[z]at e;cases e
  | some o =>
   rw[z]at e;cases o with
   | lst ys=>cases e;obtain⟨vs,d,c⟩:=r a _ z;exact⟨a,vs,rfl,rfl,z,d,c⟩
   | exc C=>cases e
   | ins C fs=>cases e
   | dct b=>cases e
 | _=>cases e
def BG(ws:List W)(G:Hw):Option W:=match ws with | [w]=>(DY G w).bind λxs=>(DA xs).map λbs=>.bl (bs.all id)| _=>none
theorem ff(b:List W)(vs:List V)(G:Hw)(H:Hp)(Q:VK)(t:TrL K H vs b)(r:RelH K H G)(q:rF BG b G (dn K H Q)):∃(p:Addr)(bs:List Bool),vs=[.ref p]/\SqL K H p (bs.map V.bl)/\Q (.bl (bs.all id)) H:=by
 obtain⟨w,e,j⟩:=C4 q;unfold BG at e;split at e
 ·rename_i m;cases t with
  | cons i t =>
   cases t;obtain⟨xs,g,k⟩:=Qb.mp e;obtain⟨bs,d,c⟩:=YQ.mp k;obtain⟨a,l,rfl,rfl,_,f,h⟩:=HK r i g;subst c;have:=Rm d h;subst this;exact⟨a,bs,rfl,SqL.of f,j _ H .refl (.bl _) r⟩
 ·cases e
def El:RWc:=λws G Q=>match ws with
 | [w]=>(match(DY G w).bind E4 with | some ns=>PyProof.Rows.SumFits ns/\Q (.int ns.sum) G | none=>False)
 | _=>False
theorem fg:RWc.M El:=λb G Q a h q=>by
 unfold El at q ⊢;split at q
 ·split at q
  ·exact⟨q.1,h _ _ q.2⟩
  ·exact q.elim
 ·exact q.elim
theorem fh(b:List W)(vs:List V)(G:Hw)(H:Hp)(Q:VK)(t:TrL K H vs b)(r:RelH K H G)(q:El b G (dn K H Q)):∃(p:Addr)(ns:List Int),vs=[.ref p]/\SqL K H p (ns.map V.int)/\PyProof.Rows.SumFits ns/\Q (.int ns.sum) H:=by
 unfold El at q;split at q
 ·rename_i j;split at q
  ·rename_i ns e;cases t with
   | cons g t =>
    cases t;obtain⟨xs,d,h⟩:=Qb.mp e;obtain⟨a,i,rfl,rfl,_,c,f⟩:=HK r g d;have:=MI h f;subst this;exact⟨a,ns,rfl,SqL.of c,q.1,q.2 _ H .refl (.int _) r⟩
  ·exact q.elim
 ·exact q.elim
def BL(w:W)(G:Hw):Option W:=match w with
 | .tup xs=>some (.int xs.length)
 | .rol xs=>some (.int xs.length)
 | .str z=>if z.length<=sizeLine then some (.int z.length)else none
 | .ref a=>(match G a with | some (.lst xs)=>some (.int xs.length)| _=>none)
 | _=>none
def AL(ws:List W)(G:Hw):Option W:=match ws with | [w]=>BL w G | _=>none
theorem fj(c:List W)(vs:List V)(G:Hw)(H:Hp)(Q:VK)(t:TrL K H vs c)(r:RelH K H G)(q:rF AL c G (dn K H Q)):∃ x n,vs=[x]/\Qt K x H n/\Q (.int n) H:=by
 obtain⟨w,e,b⟩:=C4 q;unfold AL at e;split at e
 ·cases t with
  | cons g t =>
   cases t;cases g with
   | tup h l=>cases e;exact⟨_,_,rfl,.inr ⟨_,h,rfl⟩,by rw[l.length];exact b _ H .refl (.int _) r⟩
   | rol h l=>cases e;exact⟨_,_,rfl,.inl ⟨_,h.sq,rfl⟩,by rw[l.length];exact b _ H .refl (.int _) r⟩
   | str z =>
    unfold BL at e;dsimp only at e;split at e
    ·rename_i f;cases e;exact⟨_,_,rfl,⟨f,rfl⟩,b _ H .refl (.int _) r⟩
    ·cases e
   | ref a =>
    unfold BL at e;dsimp only at e;cases z:G a with
    | none=>rw[z]at e;cases e
    | some o =>
     rw[z]at e;cases o with
     | exc C=>cases e
     | ins C fs=>cases e
     | dct i=>cases e
     | lst xs =>
      cases e;obtain⟨k,d,j⟩:=r a _ z;exact⟨_,_,rfl,.inl ⟨_,SqL.of d,rfl⟩,by rw[j.length];exact b _ H .refl (.int _) r⟩
   | _=>cases e
 ·cases e
mutual
def eqD:W->W->Option Bool
 | .tup xs,.tup ys=>Cb xs ys
 | .non,.non=>some true
 | .bl a,.bl b=>some (a==b)
 | .bl a,.int b=>some ((if a then 1 else 0)==b)
 | .int a,.bl b=>some (a==(if b then 1 else 0))
 | .int a,.int b=>some (a==b)
 | .str a,.str b=>some (a==b)
 | .non,.int _=>some false
 | .int _,.non=>some false
 | .int _,.str _=>some false
 | .str _,.int _=>some false
 | .bl _,.str _=>some false
 | .str _,.bl _=>some false
 | .non,.str _=>some false
 | .str _,.non=>some false
 | .non,.bl _=>some false
 | .bl _,.non=>some false
 | .tup _,.str _=>some false
 | .str _,.tup _=>some false
 | .tup _,.bl _=>some false
 | .bl _,.tup _=>some false
 | .tup _,.int _=>some false
 | .int _,.tup _=>some false
 | _,_=>none
def Cb:List W->List W->Option Bool
 | [],[]=>some true
 | [],_::_=>some false
 | _::_,[]=>some false
 | x::xs,y::ys=>match eqD x y,Cb xs ys with
  | some a,some b=>some (a&&b)
  | _,_=>none
end
mutual
def dpW:W->Nat
 | .tup xs=>dpL xs+1
 | _=>0
def dpL:List W->Nat
 | []=>0
 | x::xs=>max (dpW x) (dpL xs)
end
def HL:W->Option V
 | .non=>some .non
 | .bl b=>some (.bl b)
 | .int i=>some (.int i)
 | .str x=>some (.str x)
 | _=>none
theorem Rn(t:Tr K H v w)(e:HL w=some f):v=f/\DX v=true:=by
 cases t <;> first | cases e;exact⟨rfl,rfl⟩| cases e
theorem JE:∀{xs ys:List W}{b:Bool},Cb xs ys=some b->∃ e:Nat->Bool,(∀(i:Nat)x y,xs[i]?=some x->ys[i]?=some y->eqD x y=some (e i))/\b=((List.range (min xs.length ys.length)).all e&&xs.length==ys.length)
 | [],[],b,h=>by
  cases(show some true=some b from h);exact⟨λ_=>true,λi x y h1 h2=>by simp at h1,by simp⟩
 | [],_::_,b,h=>by
  cases(show some false=some b from h);exact⟨λ_=>true,λi x y h1 h2=>by simp at h1,by simp⟩
 | _::_,[],b,h=>by
  cases(show some false=some b from h);exact⟨λ_=>true,λi x y h1 h2=>by simp at h2,by simp⟩
 | x::xs,y::ys,b,h=>by
  have h':(match eqD x y,Cb xs ys with | some a,some b=>some (a&&b)| _,_=>none)=some b:=by rw[<- h];rfl
  cases d:eqD x y with
  | none=>rw[d]at h';cases h'
  | some a =>
   cases g:Cb xs ys with
   | none=>rw[d,g]at h';cases h'
   | some c =>
    rw[d,g]at h';cases h';obtain⟨f,l,hc⟩:=JE g;refine⟨λi=>match i with | 0=>a | j+1=>f j,λi k n h1 h2=>?_,?_⟩
    ·cases i with
     | zero=>simp at h1 h2;subst h1;subst h2;exact d
     | succ j=>exact l j k n (by simpa using h1) (by simpa using h2)
    ·have m:min (x::xs).length (y::ys).length=min xs.length ys.length+1:=by simp only[Yg];lia
     rw[m,List.range_succ_eq_map,List.all_cons,List.all_map,hc];have o:((x::xs).length==(y::ys).length)=(xs.length==ys.length):=by simp
     rw[o,Bool.and_assoc];rfl
theorem Ro:∀(xs:List W),(∀ x∈xs,eqD x x=some true\/eqD x x=none)->Cb xs xs=some true\/Cb xs xs=none
 | [],_=>.inl rfl
 | x::xs,h=>by
  have e:Cb (x::xs) (x::xs)=(match eqD x x,Cb xs xs with | some a,some b=>some (a&&b)| _,_=>none):=rfl;rw[e];rcases h x Ye with h1 | h1
  ·rcases Ro xs (λy c=>h y (Yd _ c))with h2 | h2
   ·rw[h1,h2];exact .inl rfl
   ·rw[h1,h2];exact .inr rfl
  ·rw[h1];exact .inr rfl
theorem Rp:∀(x:W),eqD x x=some true\/eqD x x=none
 | .non=>.inl rfl
 | .bl b=>.inl (by show some (b==b)=_;simp)
 | .int b=>.inl (by show some (b==b)=_;simp)
 | .str b=>.inl (by show some (b==b)=_;simp)
 | .tup xs=>Ro xs (λx _=>Rp x)
 | .rol _=>.inr rfl
 | .ref _=>.inr rfl
theorem GU:∀{xs:List W}{x:W},x∈xs->dpW x<=dpL xs
 | y::xs,x,h=>by
  have e:dpL (y::xs)=max (dpW y) (dpL xs):=rfl;rw[e];walk_at "pk"
  ·exact Nat.le_max_left ..
  ·exact Yt (GU h) (Nat.le_max_right ..)
theorem fk:∀(c:List W)(ys:List W)(vs:List V),(∀(v:V)(w y:W),w∈c->Tr K H v w->Tr K H v y->eqD w y≠none->w=y)->TrL K H vs c->TrL K H vs ys->Cb c ys≠none->c=ys:=by
 intro c;induction c with
 | nil =>
  intro ys vs _ l d _;cases l;cases d;rfl
 | cons w c f =>
  intro ys vs h l d ne;cases l with
  | cons t l =>
   cases d with
   | @cons _ y _ ys t' d =>
    have e:Cb (w::c) (y::ys)=(match eqD w y,Cb c ys with | some a,some b=>some (a&&b)| _,_=>none):=rfl;have h1:eqD w y≠none:=λz=>ne (by rw[e,z]);have h2:Cb c ys≠none:=λz=>ne (by rw[e,z];cases eqD w y <;> rfl);rw[h _ w y Ye t t' h1,f ys _ (λv w y g=>h v w y (Yd _ g)) l d h2]
theorem fl{σ:St}(I:Inv X pins σ H s)(n:Nat):∀(v:V)(w y:W),dpW w < n->Tr X.K H v w->Tr X.K H v y->eqD w y≠none->w=y:=by
 induction n with
 | zero=>intro v w y h;exact Qk h (Nat.not_lt_zero _)
 | succ n k =>
  intro v w y h i ty ne;cases i with
  | tup j l =>
   rename_i a o d;generalize b:V.ref a=vr at ty;cases ty with
   | tup c f =>
    cases b;have e:=I.tuple_inj j c;subst e;have m:dpL d+1 < n+1:=h;rw[fk d _ _ (λv w y g=>k v w y (by have:=GU g;lia)) l f ne]
   | rol _ _=>exact Qk rfl ne
   | ref _=>exact Qk rfl ne
   | non=>cases b
   | bl _=>cases b
   | int _=>cases b
   | str _=>cases b
  | rol _ _=>exact Qk (by cases y <;> rfl) ne
  | ref _=>exact Qk (by cases y <;> rfl) ne
  | non=>cases ty;rfl
  | bl _=>cases ty;rfl
  | int _=>cases ty;rfl
  | str _=>cases ty;rfl
theorem fq{σ:St}(I:Inv X pins σ H s)(n:Nat):∀(w y:W)(v u:V)(J L:Value)(b:Bool)(A:Around),dpW w < n->Tr X.K H v w->Tr X.K H u y->RelV v J->RelV u L->eqD w y=some b->A.units+n < cLine->SeqAt.EqAt A s J L b:=by
 induction n with
 | zero=>intro w _ _ _ _ _ _ _ h;exact Qk h (Nat.not_lt_zero _)
 | succ n Z =>
  intro w y v u J L b A h tw ty k i e hu;cases tw with
  | tup m l =>
   cases ty with
   | tup q B =>
    rename_i a vs o P us ys;cases k;cases i;by_cases p:a=P
    ·subst p;have Y:=fl I (dpW (.tup o)+1) _ _ _ (Nat.lt_succ_self _) (.tup m l) (.tup q B) (by rw[e];simp);cases Y;rcases Rp (.tup o)with z | z
     ·rw[e]at z;cases z;exact SeqAt.EqAt.same _
     ·rw[e]at z;cases z
    ·obtain⟨d,r1,p1,_⟩:=I.tuple m;obtain⟨g,N,p2,_⟩:=I.tuple q;obtain⟨f,Q,R⟩:=JE (show Cb o ys=some b from e);have l1:=r1.length;have l2:=N.length;have l3:=l.length;have l4:=B.length;refine SeqAt.EqAt.of_refs p ?_;have key:=SeqAt.RcAt.tuples (A:=A) (s:=s) (e:=f) (show s.heap.IsTuple a d.toArray from p1) (show s.heap.IsTuple P g.toArray from p2) (by lia) (λj h1 h2=>?_)
     ·rw[R];have T:d.toArray.size=o.length:=by rw[Yn];lia
      have e2:g.toArray.size=ys.length:=by rw[Yn];lia
      rw[T,e2]at key;exact key
     ·have F:j < o.length:=by rw[Yn]at h1;lia
      have O:j < ys.length:=by rw[Yn]at h2;lia
      obtain⟨v1,g1,t1⟩:=l.get (Yp F);obtain⟨v2,g2,S⟩:=B.get (Yp O);obtain⟨U,g3,E⟩:=r1.get g1;obtain⟨u2,g4,D⟩:=N.get g2
      have G:d.toArray[j]=U:=by
       have z:d[j]?=some d[j]:=Yp (by lia);rw[g3]at z;have x:=YE z;rw[x];simp
      have r:g.toArray[j]=u2:=by
       have z:g[j]?=some g[j]:=Yp (by lia);rw[g4]at z;have x:=YE z;rw[x];simp
      rw[G,r];have hd:dpW (o[j])<=dpL o:=GU (Qd F);have hd2:dpL o+1 < n+1:=h;exact Z _ _ _ _ _ _ _ A.in1 (by lia) t1 S E D (Q j _ _ (Yp F) (Yp O)) (by show A.units+1+n < cLine;lia)
   | str _ =>
    cases e;cases k;obtain⟨t,rfl⟩:=i;obtain⟨d,r1,p1,_⟩:=I.tuple m;exact SeqAt.EqAt.tuple_str (A:=A) _ _ p1 (by lia)
   | bl _ =>
    cases e;cases k;cases i;obtain⟨d,r1,p1,_⟩:=I.tuple m;exact SeqAt.EqAt.tuple_bool _ p1 (by lia)
   | int _ =>
    cases e;cases k;obtain⟨t,rfl⟩:=i;obtain⟨d,r1,p1,_⟩:=I.tuple m;exact SeqAt.EqAt.tuple_int (A:=A) _ _ p1 (by lia)
   | _=>cases e
  | non=>cases ty <;> cases e <;> exact Hz k i rfl rfl
  | bl c =>
   cases ty with
   | tup m l =>
    cases e;cases k;cases i;obtain⟨d,r1,p1,_⟩:=I.tuple m;exact SeqAt.EqAt.bool_tuple _ p1 (by lia)
   | _=>cases e <;> exact Hz k i rfl rfl
  | int c =>
   cases ty with
   | tup m l =>
    cases e;cases i;obtain⟨t,rfl⟩:=k;obtain⟨d,r1,p1,_⟩:=I.tuple m;exact SeqAt.EqAt.int_tuple (A:=A) _ _ p1 (by lia)
   | _=>cases e <;> exact Hz k i rfl rfl
  | str c =>
   cases ty with
   | tup m l =>
    cases e;cases i;obtain⟨t,rfl⟩:=k;obtain⟨d,r1,p1,_⟩:=I.tuple m;exact SeqAt.EqAt.str_tuple (A:=A) _ _ p1 (by lia)
   | _=>cases e <;> exact Hz k i rfl rfl
  | rol _ _=>cases y <;> cases e
  | ref _=>cases y <;> cases e
def rSq(K:PySem.W.Frag)(neg:Bool):R2:=λv u H Q=>∃(a b:Addr)(vs us:List V)(ws ys:List W)(c:Bool),v=.ref a/\u=.ref b/\((SqT K H a vs/\SqT K H b us)\/(SqL K H a vs/\SqL K H b us))/\TrL K H vs ws/\TrL K H us ys/\dpL ws < 90/\Cb ws ys=some c/\Q (.bl (c != neg)) H
section
theorem JF{σ:St}(I:Inv X pins σ H s){A:Around}(r1:Vals vs a)(r2:Vals us its')(t1:TrL X.K H vs b)(t2:TrL X.K H us ys)(hd:dpL b < 90)(t:A.units+100 < cLine){f:Nat->Bool}(n:∀(i:Nat)x y,b[i]?=some x->ys[i]?=some y->eqD x y=some (f i))(j:Nat)(h1:j < a.toArray.size)(h2:j < its'.toArray.size):SeqAt.EqAt A.in1 s a.toArray[j] its'.toArray[j] (f j):=by
 have v:=r1.length;have u:=r2.length;have r:=t1.length;have q:=t2.length;have k:j < b.length:=by rw[Yn]at h1;lia
 have m:j < ys.length:=by rw[Yn]at h2;lia
 obtain⟨w,g1,e⟩:=t1.get (Yp k);obtain⟨B,g2,d⟩:=t2.get (Yp m);obtain⟨o,g3,h⟩:=r1.get g1;obtain⟨p,g4,g⟩:=r2.get g2
 have l:a.toArray[j]=o:=by
  have z:a[j]?=some a[j]:=Yp (by lia);rw[g3]at z;rw[YE z];simp
 have c:its'.toArray[j]=p:=by
  have z:its'[j]?=some its'[j]:=Yp (by lia);rw[g4]at z;rw[YE z];simp
 rw[l,c];exact fq I 99 _ _ _ _ _ _ _ A.in1 (by have:=GU (Qd k);lia) e d h g (n j _ _ (Yp k) (Yp m)) (by show A.units+1+99 < cLine;lia)
end
theorem fu(w:X.A.units+100 < cLine):OpR X (compareOp .Eq) (rSq X.K false):=by
 intro pins s σ H x y v u Q I B E h;obtain⟨a,b,N,L,n,ys,c,rfl,rfl,F,p,r,hd,e,q⟩:=h;cases B;cases E;obtain⟨f,t,m⟩:=JE e;have J:=p.length;have G:=r.length;have j:∀ d:Bool,d=c->EP X pins σ Q (.bool d) s:=λd hd=>by subst hd;exact⟨.bl d,H,I,rfl,by simpa using q⟩
 rcases F with⟨h1,h2⟩|⟨h1,h2⟩
 ·obtain⟨i,r1,p1,_⟩:=I.tuple h1;obtain⟨g,k,p2,_⟩:=I.tuple h2;have D:=r1.length;have z:=k.length;refine SeqAt.eq_tupleAt (e:=f) (show s.heap.IsTuple a i.toArray from p1) (show s.heap.IsTuple b g.toArray from p2) (by lia) (JF I r1 k p r hd w t) (j _ ?_);have l:i.toArray.size=n.length:=by rw[Yn];lia
  have o:g.toArray.size=ys.length:=by rw[Yn];lia
  rw[l,o,m]
 ·obtain⟨i,r1,p1,_⟩:=I.list h1;obtain⟨g,k,p2,_⟩:=I.list h2;have D:=r1.length;have z:=k.length;have l:i.toArray.size=n.length:=by rw[Yn];lia
  have o:g.toArray.size=ys.length:=by rw[Yn];lia
  by_cases hl:n.length=ys.length
  ·refine SeqAt.eq_listAt (e:=f) p1.isList p2.isList (by lia) (by lia) (JF I r1 k p r hd w t) (j _ ?_);rw[l,m,hl];simp
  ·refine SeqAt.eq_list_lengthsAt p1.isList p2.isList (by rw[l,o];simpa using hl) (by lia) (j _ ?_);rw[m];simp[hl]
theorem fv(w:X.A.units+100 < cLine):OpR X (compareOp .NotEq) (rSq X.K true):=by
 intro pins s σ H x y v u Q I B E h;obtain⟨a,b,N,L,n,ys,c,rfl,rfl,F,p,r,hd,e,q⟩:=h;cases B;cases E;obtain⟨f,t,m⟩:=JE e;have J:=p.length;have G:=r.length;have j:∀ d:Bool,d=!c->EP X pins σ Q (.bool d) s:=λd hd=>by subst hd;exact⟨.bl _,H,I,rfl,by simpa using q⟩
 rcases F with⟨h1,h2⟩|⟨h1,h2⟩
 ·obtain⟨i,r1,p1,_⟩:=I.tuple h1;obtain⟨g,k,p2,_⟩:=I.tuple h2;have D:=r1.length;have z:=k.length;refine SeqAt.RcNeAt.tuples (e:=f) (show s.heap.IsTuple a i.toArray from p1) (show s.heap.IsTuple b g.toArray from p2) (by lia) (JF I r1 k p r hd w t) _ _ _ _ (j _ ?_);have l:i.toArray.size=n.length:=by rw[Yn];lia
  have o:g.toArray.size=ys.length:=by rw[Yn];lia
  rw[l,o,m]
 ·obtain⟨i,r1,p1,_⟩:=I.list h1;obtain⟨g,k,p2,_⟩:=I.list h2;have D:=r1.length;have z:=k.length;have l:i.toArray.size=n.length:=by rw[Yn];lia
  have o:g.toArray.size=ys.length:=by rw[Yn];lia
  by_cases hl:n.length=ys.length
  ·refine SeqAt.RcNeAt.lists (e:=f) p1.isList p2.isList (by lia) (by lia) (JF I r1 k p r hd w t) _ _ _ _ (j _ ?_);rw[l,m,hl];simp
  ·refine SeqAt.RcNeAt.lists_lengths p1.isList p2.isList (by rw[l,o];simpa using hl) (by lia) _ _ _ _ (j _ ?_);rw[m];simp[hl]
def eqW(x y:W)(G:Hw):Option Bool:=match x,y with
 | .tup xs,.tup ys=>if dpL xs < 90 then Cb xs ys else none
 | .ref a,.ref b=>(match G a,G b with
  | some (.lst xs),some (.lst ys)=>if dpL xs < 90 then Cb xs ys else none
  | _,_=>none)
 | .int a,.int b=>some (a==b)
 | .bl a,.bl b=>some (a==b)
 | .str a,.str b=>some (a==b)
 | .non,.non=>some true
 | .int _,.non=>some false
 | .non,.int _=>some false
 | .int _,.str _=>some false
 | .str _,.int _=>some false
 | .bl _,.str _=>some false
 | .str _,.bl _=>some false
 | .non,.str _=>some false
 | .str _,.non=>some false
 | .non,.bl _=>some false
 | .bl _,.non=>some false
 | _,_=>none
def eqF(neg:Bool)(x y:W)(G:Hw):Option W:=(eqW x y G).map λc=>.bl (c != neg)
theorem fw(c:Bool):(c != true)=!c:=by cases c <;> rfl
theorem Rq(neg:Bool)(x y:W)(v u:V)(G:Hw)(H:Hp)(Q:VK)(s:Tr K H v x)(ty:Tr K H u y)(r:RelH K H G)(q:Ae (eqF neg) x y G (dn K H Q)):(FP v u=true/\Q (.bl (decide (v=u) != neg)) H)\/rSq K neg v u H Q:=by
 obtain⟨w,e,m⟩:=C4 q;obtain⟨c,d,D⟩:=YQ.mp e;subst D;have qq:=m (.bl (c != neg)) H .refl (.bl _) r;have f:∀{i j:V},decide (i=j)=c->FP i j=true->(FP i j=true/\Q (.bl (decide (i=j) != neg)) H)\/rSq K neg i j H Q:=λ{i j}h1 h2=>.inl ⟨h2,by rw[h1];exact qq⟩;cases s with
 | tup t l =>
  cases ty with
  | tup h o =>
   unfold eqW at d;dsimp only at d;split at d
   ·rename_i hd;exact .inr ⟨_,_,_,_,_,_,c,rfl,rfl,.inl ⟨t,h⟩,l,o,hd,d,qq⟩
   ·cases d
  | _=>cases d
 | ref a =>
  cases ty with
  | ref b =>
   unfold eqW at d;dsimp only at d;cases g:G a with
   | none=>rw[g]at d;cases d
   | some k =>
    cases eb:G b with
    | none=>rw[g,eb]at d;cases k <;> cases d
    | some p =>
     rw[g,eb]at d;cases k <;> cases p <;> try cases d
     dsimp only at d;split at d
     ·rename_i hd;obtain⟨F,z,B⟩:=r a _ g;obtain⟨E,n,A⟩:=r b _ eb;exact .inr ⟨_,_,_,_,_,_,c,rfl,rfl,.inr ⟨SqL.of z,SqL.of n⟩,B,A,hd,d,qq⟩
     ·cases d
  | _=>cases d
 | rol _ _=>cases y <;> cases d
 | non=>cases ty <;> cases d <;> exact f (by simp) rfl
 | bl b=>cases ty <;> cases d <;> exact f (by first | exact L8 | simp) rfl
 | int b=>cases ty <;> cases d <;> exact f (by first | exact L7 | simp) rfl
 | str b=>cases ty <;> cases d <;> exact f (by first | exact L9 | simp) rfl
theorem fx(c:X.A.units+100 < cLine):OpR X (compareOp .Eq) (λx y H Q=>(FP x y=true/\Q (.bl (decide (x=y) != false)) H)\/rSq X.K false x y H Q):=by
 intro pins s σ H x y v u Q I a b h;rcases h with⟨h1,h2⟩| h
 ·exact bq pins s σ H x y v u Q I a b ⟨h1,by simpa using h2⟩
 ·exact fu c pins s σ H x y v u Q I a b h
theorem fy(c:X.A.units+100 < cLine):OpR X (compareOp .NotEq) (λx y H Q=>(FP x y=true/\Q (.bl (decide (x=y) != true)) H)\/rSq X.K true x y H Q):=by
 intro pins s σ H x y v u Q I a b h;rcases h with⟨h1,h2⟩| h
 ·exact br pins s σ H x y v u Q I a b ⟨h1,by rw[<- fw];exact h2⟩
 ·exact fv c pins s σ H x y v u Q I a b h
section
variable {a:Expr}
def DZ(G:Hw)(w:W):Option (List W):=match w with
 | .tup xs=>some xs
 | .rol xs=>some xs
 | .ref a=>(match G a with | some (.lst xs)=>some xs | _=>none)
 | _=>none
theorem MJ(r:RelH K H G)(t:Tr K H v w)(e:DZ G w=some xs):∃ a vs,v=.ref a/\(SqL K H a vs\/SqT K H a vs)/\TrL K H vs xs:=by
 cases t with
 | tup h l=>cases e;exact⟨_,_,rfl,.inr h,l⟩
 | rol h l=>cases e;exact⟨_,_,rfl,.inl h.sq,l⟩
 | ref a =>
  unfold DZ at e;dsimp only at e;cases z:G a with
  | none=>rw[z]at e;cases e
  | some o =>
   rw[z]at e;cases o with
   | lst ys=>cases e;obtain⟨vs,d,c⟩:=r a _ z;exact⟨a,vs,rfl,.inl (SqL.of d),c⟩
   | exc C=>cases e
   | ins C fs=>cases e
   | dct b=>cases e
 | _=>cases e
def FX:List W->Option (List V)
 | []=>some []
 | w::ws=>(HL w).bind λv=>(FX ws).map (v::·)
theorem Rr:∀{a:List W}{vs us:List V},FX a=some us->TrL K H vs a->vs=us/\vs.all DX=true
 | [],vs,us,e,t=>by cases e;cases t;exact⟨rfl,rfl⟩
 | w::a,vs,us,e,t=>by
  cases t with
  | cons i t =>
   obtain⟨f,d,j⟩:=Qb.mp (show(HL w).bind (λv=>(FX a).map (v::·))=some us from e);obtain⟨fs,c,b⟩:=YQ.mp j;obtain⟨h1,h2⟩:=Rn i d;obtain⟨g,h⟩:=Rr c t;subst b;exact⟨by rw[h1,g],by rw[List.all_cons,h2,h];rfl⟩
def inF(neg:Bool)(x y:W)(G:Hw):Option W:=(HL x).bind λv=>(DZ G y).bind λxs=>(FX xs).map λus=>.bl (if neg then !inV v us else inV v us)
theorem Rt(neg:Bool)(x y:W)(v u:V)(G:Hw)(H:Hp)(Q:VK)(o:Tr K H v x)(ty:Tr K H u y)(r:RelH K H G)(q:Ae (inF neg) x y G (dn K H Q)):rIn K neg v u H Q:=by
 obtain⟨w,e,m⟩:=C4 q;obtain⟨f,g,n⟩:=Qb.mp e;obtain⟨xs,c,b⟩:=Qb.mp n;obtain⟨p,d,i⟩:=YQ.mp b;subst i;obtain⟨h1,h2⟩:=Rn o g;obtain⟨a,h,rfl,l,t⟩:=MJ r ty c;obtain⟨j,k⟩:=Rr d t;subst h1;subst j;exact⟨a,h,rfl,l,h2,k,m _ H .refl (.bl _) r⟩
end
section
variable {X:Cx}{a b e o i:Expr}{ga gv go gi:GE}{gt:GT}{g:GS}
def E5(gt:GT)(g:GS):GS:=λD ω G=>∃ W:Nat->Sw->Hw->Prop,(∃ m,W m ω G)/\∀ m ω G,W m ω G->
 gt ω G λb G1=>if b=true then g {nx:=λω' G'=>∃ m',m' < m/\W m' ω' G',rt:=D.rt,bk:=D.nx,ct:=λω' G'=>∃ m',m' < m/\W m' ω' G'} ω G1 else D.nx ω G1
theorem fz(e:gt.M)(f:g.M):GS.M (E5 gt g):=λω G D j h1 h2 i k⟨W,h,c⟩=>⟨W,h,λm ω G w=>e _ _ _ _ (λb G1 z=>by
 cases b with
 | true=>exact f _ _ {nx:=λω' d=>∃ a,a < m/\W a ω' d,rt:=D.rt,bk:=D.nx,ct:=λω' d=>∃ a,a < m/\W a ω' d} _ (λ_ _ y=>y) h2 h1 (λ_ _ y=>y) z
 | false=>exact h1 _ _ z) (c m ω G w)⟩
theorem fA(t:PassesOwn (model X.prog X.w) X.A X.env X.xe)(s:gt.M)(v:g.M)(hc:PTw X c gt)(p:Ei X P sts g):PSw X P (.While c sts [] pos) (E5 gt g):=λB q=>
 Dx (aW t hc (p B q)) <| by
  rintro D σ H ⟨ω,G,E,r,k,W,⟨x,F⟩,i⟩;refine⟨λm σ' H'=>Mono X.K B H'/\∃ ω' e,TrSt X.K H' σ' ω'/\RelH X.K H' e/\W m ω' e,⟨x,k,ω,G,E,r,F⟩,?_⟩;rintro m σ' H' ⟨o,ω',e,h,r',u⟩;refine⟨ω',e,h,r',s _ _ _ _ (λb G1 z H1 j r1=>?_) (i m ω' e u)⟩;cases b with
  | true =>
   rw[if_pos rfl];refine⟨λσ2 H2=>∃ d,d < m/\Mono X.K B H2/\∃ ω2 G2,TrSt X.K H2 σ2 ω2/\RelH X.K H2 G2/\W d ω2 G2,(by rintro σ2 H2 ⟨d,h1,h2⟩;exact⟨d,h1,h2⟩),ω',G1,h.mono j,r1,o.trans j,?_⟩
   exact v _ _ {nx:=λω' e=>∃ d,d < m/\W d ω' e,rt:=(dnD X.K B D).rt,bk:=(dnD X.K B D).nx,ct:=λω' e=>∃ d,d < m/\W d ω' e} _
    ((by rintro a b ⟨d,h1,h2⟩ σ2 H2 n f l;exact⟨d,h1,n,a,b,f,l,h2⟩)) (λa b y=>y) (λa b y=>y) ((by rintro a b ⟨d,h1,h2⟩ σ2 H2 n f l;exact⟨d,h1,n,a,b,f,l,h2⟩)) z
  | false =>
   rw[if_neg YT];exact z σ' H1 (o.trans j) (h.mono j) r1
theorem GV(b:PassesOwn (model X.prog X.w) X.A X.env X.xe)(hc:Tm X c gt)(a:Ssm X P sts g):Sm X P (.While c sts [] pos) (E5 gt g):=⟨fA b hc.m a.m hc.p a.p,fz hc.m a.m⟩
def En(ω:Sw)(i:Nat):Option W:=match ω[i]? with | some (some w)=>some w | _=>none
theorem fB(ts:TrSt K H σ ω)(e:En ω n=some w):∃ v,σ[n]?=some (some v)/\Tr K H v w:=by
 unfold En at e;split at e
 ·rename_i u z;cases e;exact ts.get n _ z
 ·cases e
def CD(n:Nat)(r:RW2)(ga:GE):GS:=λD ω G=>opt (En ω n) λx=>ga ω G λy G1=>r x y G1 λz G2=>D.nx (ω.set n (some z)) G2
theorem fC(c:r.M)(b:ga.M):GS.M (CD n r ga):=λω G D d h1 _ _ _ q=>Mx (λx q=>b _ _ _ _ (λy G1 z=>c _ _ _ _ _ (λw G2 a=>h1 _ _ a) z) q) q
theorem fD(A:OpR X (inplaceOp op) r2)(f:r.M)(l:∀(x y:W)(v u:V)(G:Hw)(H:Hp)(Q:VK),Tr X.K H v x->Tr X.K H u y->RelH X.K H G->r x y G (dn X.K H Q)->r2 v u H Q)(k:X.N.Nodup)(hi:X.N[n]?=some x)(F:Loc X.env.scope x)(d:X.fn x=true\/X.env.scope.names.lookup x=some .local)(o:ga.M)(g:PEw X e ga):PSw X P (.AugAssign (.Name x pos') op e pos) (CD n r ga):=λB O=>
 Dx (aU k hi F g (λpins s σ H x y v u Q I r1 r2 h=>A pins s σ H x y v u Q I r1 r2 h) d) <| by
  rintro D σ H ⟨ω,G,a,c,p,q⟩;obtain⟨w,i,q⟩:=C4 q;obtain⟨v,E,t⟩:=fB a i;refine⟨v,E,ω,G,a,c,o _ _ _ _ (λy G1 z u H1 m J r1=>?_) q⟩;exact l w y v u G1 H1 _ (t.mono m) J r1 (f _ _ _ _ _ (λS G2 j R H2 b L r2=>j _ H2 ((p.trans m).trans b) (((a.mono m).mono b).set n L) r2) z)
def CF:RW2:=λx y G Q=>match x,y with
 | .int i,.int j=>Q (.int (i+j)) G
 | .str a,.str b=>a.length+b.length<=sizeLine/\Q (.str (a++b)) G
 | _,_=>False
theorem Ru:RW2.M CF:=λx y G Q a h q=>by
 cases x <;> cases y <;> first | exact q | exact h _ _ q | exact⟨q.1,h _ _ q.2⟩
theorem fE(x y:W)(v u:V)(G:Hw)(H:Hp)(Q:VK)(a:Tr K H v x)(ty:Tr K H u y)(r:RelH K H G)(q:CF x y G (dn K H Q)):
  (rI0 λi j=>.int (i+j)) v u H Q\/(∃ i j,v=.str i/\u=.str j/\i.length+j.length<=sizeLine/\Q (.str (i++j)) H):=by
 cases a with
 | int i=>cases ty <;> first | exact q.elim | exact .inl ⟨_,_,rfl,rfl,q _ H .refl (.int _) r⟩
 | str i=>cases ty <;> first | exact q.elim | exact .inr ⟨_,_,rfl,rfl,q.1,q.2 _ H .refl (.str _) r⟩
 | _=>exact q.elim
def D0(o k v:W)(G:Hw)(Q:Hw->Prop):Prop:=match o,k with
 | .ref a,.int j=>(match G a with
  | some (.lst xs)=>(match ixN xs.length j with | some n=>Q (put G a (.lst (xs.set n v)))| none=>False)
  | _=>False)
 | _,_=>False
theorem Rv{o:W}(q:D0 o k v G Q):∃ a j xs n,o=.ref a/\k=.int j/\G a=some (.lst xs)/\ixN xs.length j=some n/\Q (put G a (.lst (xs.set n v))):=by
 unfold D0 at q;split at q
 ·split at q
  ·rename_i xs e;split at q
   ·rename_i n b;exact⟨_,_,xs,n,rfl,rfl,e,b,q⟩
   ·exact q.elim
  ·exact q.elim
 ·exact q.elim
theorem MK{a:Addr}(e:G a=some (.lst xs))(b:ixN xs.length j=some n)(q:Q (put G a (.lst (xs.set n v)))):D0 (.ref a) (.int j) v G Q:=by
 unfold D0;dsimp only;rw[e];dsimp only;rw[b];exact q
theorem fF{o:W}{b:Hw->Prop}(h:∀ G,Q G->b G)(q:D0 o k v G Q):D0 o k v G b:=by
 obtain⟨a,j,xs,n,rfl,rfl,e,c,q⟩:=Rv q;exact MK e c (h _ q)
theorem fG{o:W}(l:Tr K H x v)(ty:Tr K H y o)(i:Tr K H u k)(r:RelH K H G)(q:D0 o k v G Pq)(f:∀ d c,Mono K H c->RelH K c d->Pq d->R c):QN y u x H R:=by
 obtain⟨a,j,xs,n,rfl,rfl,e,g,q⟩:=Rv q;cases ty;cases i;obtain⟨h,b,t⟩:=r a _ e;exact⟨a,h,j,n,rfl,rfl,b,by rw[t.length];exact g,f _ _ (Mono.lst b _) (r.chg b (TrL.set l n t)) q⟩
def Ck(gv go gi:GE):GS:=λD ω G=>gv ω G λv G1=>go ω G1 λo G2=>gi ω G2 λk G3=>D0 o k v G3 λG4=>D.nx ω G4
theorem fH(b:gv.M)(mo:go.M)(a:gi.M):GS.M (Ck gv go gi):=λω G D e h1 _ _ _ q=>
 b _ _ _ _ (λv G1 z=>mo _ _ _ _ (λo G2 z=>a _ _ _ _ (λk c z=>fF (λd z=>h1 _ _ z) z) z) z) q
theorem fI(l:∀ v,assign (.Subscript o i pos') X.env v=(do
   let ov <- holding [v] (eval o X.env)
   let iv <- holding [v,ov] (eval i X.env)
   standAt pos'
   holding [v,ov,iv] (setItem ov iv v)
   release [v,ov,iv] []))(w:swapsWithSole [.Subscript o i pos'] e pos.line X.env=pure false)(hw:swappedStores [.Subscript o i pos'] e X.env=pure none)(h1:(assignEach [.Subscript o i pos'] X.env).map (·.2)=[assign (.Subscript o i pos') X.env])(f:Em X e gv)(g:Em X o go)(hi:Em X i gi):Sm X P (.Assign [.Subscript o i pos'] e pos) (Ck gv go gi):=
 ⟨λB O=>Dx (aR f.p (aQ g.p hi.p cx l) w hw h1) λD σ H⟨ω,G,c,r,E,q⟩=>⟨ω,G,c,r,f.m _ _ _ _ (λv G1 z x H1 a F r1=>
  ⟨ω,G1,c.mono a,r1,g.m _ _ _ _ (λL G2 t y H2 b ty s=>
   ⟨ω,G2,(c.mono a).mono b,s,hi.m _ _ _ _ (λk K J u N d I A=>
    fG ((F.mono b).mono d) (ty.mono d) I A J (λQ n h j q4=>q4 σ n ((((E.trans a).trans b).trans d).trans h) ((((c.mono a).mono b).mono d).mono h) j)) t⟩) z⟩) q⟩,fH f.m g.m hi.m⟩
abbrev GO:=Sw->Hw->(Option Int->Hw->Prop)->Prop
def GO.M(g:GO):Prop:=∀ ω G(Q Q':Option Int->Hw->Prop),(∀ w G',Q w G'->Q' w G')->g ω G Q->g ω G Q'
def dnO(K:PySem.W.Frag)(H:Hp)(Q:Option Int->Hp->Prop):Option Int->Hw->Prop:=λb G=>∀ H',Mono K H H'->RelH K H' G->Q b H'
def upO(K:PySem.W.Frag)(g:GO):TO:=λσ H Q=>∃ ω G,TrSt K H σ ω/\RelH K H G/\g ω G (dnO K H Q)
structure Om(X:Cx)(e:Option Expr)(g:GO):Prop where
 p:PO X e (upO X.K g)
 m:g.M
def Bu:GO:=λ_ G Q=>Q none G
def Bl(ga:GE):GO:=λω G Q=>ga ω G λw G1=>match w with | .int j=>Q (some j) G1 | _=>False
theorem fJ:Om X none Bu:=⟨(by rintro pins s σ H Q I ⟨ω,G,a,r,q⟩;exact ck pins s σ H Q I (q H .refl r)),λ_ _ _ _ h q=>h _ _ q⟩
theorem ML(h:Em X e ga):Om X (some e) (Bl ga):=⟨λpins s σ H Q I⟨ω,G,a,r,q⟩=>cm h.p pins s σ H Q I ⟨ω,G,a,r,h.m _ _ _ _ (λw G1 z v H1 m t r1=>by
  cases w with
  | int j=>exact⟨j,Q8 t,z H1 m r1⟩
  | _=>exact z.elim) q⟩,λω G Q c b q=>h.m _ _ _ _ (λw G1 z=>by cases w <;> first | exact b _ _ z | exact z) q⟩
def Cm{α:Type}(xs:List α)(lo hi:Option Int):List α:=(xs.drop (HT.sIx xs.length 0 lo)).take (HT.sIx xs.length xs.length hi - HT.sIx xs.length 0 lo)
def slW(w:W)(lo hi:Option Int)(G:Hw)(Q:Kw):Prop:=match w with
 | .tup xs=>¬ (HT.sIx xs.length 0 lo=0/\HT.sIx xs.length xs.length hi=xs.length)/\Q (.tup (Cm xs lo hi)) G
 | .rol xs=>∀ p,G p=none->Q (.ref p) (put G p (.lst (Cm xs lo hi)))
 | .ref a=>(match G a with | some (.lst xs)=>∀ p,G p=none->Q (.ref p) (put G p (.lst (Cm xs lo hi)))| _=>False)
 | _=>False
theorem JG{lo:Option Int}(h:∀ w G',Q w G'->c w G')(q:slW w lo hi G Q):slW w lo hi G c:=by
 cases w with
 | tup xs=>exact⟨q.1,h _ _ q.2⟩
 | rol xs=>exact λp b=>h _ _ (q p b)
 | ref a =>
  unfold slW at q ⊢;dsimp only at q ⊢;cases e:G a with
  | none=>rw[e]at q;exact q.elim
  | some f =>
   rw[e]at q;cases f with
   | lst xs=>exact λp b=>h _ _ (q p b)
   | exc C=>exact q.elim
   | ins C fs=>exact q.elim
   | dct d=>exact q.elim
 | _=>exact q.elim
theorem TrL.cut{a:List W}(t:TrL K H vs a)(lo hi:Option Int):TrL K H (E0 vs lo hi) (Cm a lo hi):=by
 unfold E0 Cm;rw[t.length];exact(t.drop _).take _
theorem JH{lo:Option Int}(t:Tr K H v w)(r:RelH K H G)(q:slW w lo hi G (dn K H Q)):Mh K v lo hi H Q\/Mo K v lo hi H Q:=by
 cases t with
 | tup h l =>
  refine .inl ⟨_,_,rfl,h,by rw[l.length];exact q.1,λp b=>?_⟩;exact q.2 _ _ (Mono.new b _) (.tup (SqT.of Ca) ((l.cut lo hi).mono (Mono.new b _))) (r.mono0 b)
 | rol h l=>exact .inr ⟨_,_,rfl,h.sq,λp b=>q p (r.no b) _ _ (Mono.new b _) (.ref p) (r.new b (l.cut lo hi))⟩
 | ref a =>
  unfold slW at q;dsimp only at q;cases e:G a with
  | none=>rw[e]at q;exact q.elim
  | some d =>
   rw[e]at q;cases d with
   | lst xs =>
    obtain⟨g,c,l⟩:=r a _ e;exact .inr ⟨_,_,rfl,SqL.of c,λp b=>q p (r.no b) _ _ (Mono.new b _) (.ref p) (r.new b (l.cut lo hi))⟩
   | exc C=>exact q.elim
   | ins C fs=>exact q.elim
   | dct f=>exact q.elim
 | _=>exact q.elim
def gSl(ga:GE)(gl gh:GO):GE:=λω G Q=>ga ω G λw G1=>gl ω G1 λlo G2=>gh ω G2 λhi G3=>slW w lo hi G3 Q
theorem fK{lo:Option Expr}(f:Em X e ga)(hl:Om X lo j)(b:Om X hi n):Em X (.Subscript e (.Slice lo hi none p2) pos) (gSl ga j n):=
 ⟨Bm (QJ (SlR.or QL QO) f.p hl.p b.p) λσ H Q⟨ω,G,i,r,q⟩=>⟨ω,G,i,r,f.m _ _ _ _ (λw G1 z v H1 d t r1=>⟨ω,G1,i.mono d,r1,hl.m _ _ _ _ (λl G2 c H2 a s=>
   ⟨ω,G2,(i.mono d).mono a,s,b.m _ _ _ _ (λh o g A k x=>JH ((t.mono a).mono k) x (JG (λw B z=>CC ((d.trans a).trans k) z) g)) c⟩) z⟩) q⟩,
  λω G Q y h q=>f.m _ _ _ _ (λw G1 z=>hl.m _ _ _ _ (λl G2 c=>b.m _ _ _ _ (λu o g=>JG h g) c) z) q⟩
end
abbrev UpW(K:PySem.W.Frag)(r:RW2)(r2:R2):Prop:=∀(x y:W)(v u:V)(G:Hw)(H:Hp)(Q:VK),Tr K H v x->Tr K H u y->RelH K H G->r x y G (dn K H Q)->r2 v u H Q
structure Cop(X:Cx)(op:CmpOp)(r:RW2):Prop where
 ex:∃ r2,OpR X (compareOp op) r2/\UpW X.K r r2
 m:r.M
def AS(a b:Str):Bool:=decide (a.cps.toList < b.cps.toList)
def AU(f:Int->Int->Bool)(g:Str->Str->Bool):RW2:=λx y G Q=>match x,y with
 | .int i,.int j=>Q (.bl (f i j)) G
 | .str i,.str j=>Q (.bl (g i j)) G
 | _,_=>False
theorem Rw:RW2.M (AU f g):=λx y G Q a h q=>by
 cases x <;> cases y <;> first | exact q | exact h _ _ q
theorem Rx:UpW K (AU f g) (λx y H Q=>rI0 (λi j=>.bl (f i j)) x y H Q\/∃ i j,x=.str i/\y=.str j/\Q (.bl (g i j)) H):=λx y v u G H Q a ty r q=>by
 cases a with
 | int i=>cases ty <;> first | exact q.elim | exact .inl ⟨_,_,rfl,rfl,q _ H .refl (.bl _) r⟩
 | str i=>cases ty <;> first | exact q.elim | exact .inr ⟨_,_,rfl,rfl,q _ H .refl (.bl _) r⟩
 | _=>exact q.elim
theorem fL:OpR X (compareOp .LtE) (λx y H Q=>∃ i j,x=.str i/\y=.str j/\Q (.bl (!AS j i)) H):=by
 intro pins s σ H x y v u Q I a b h;obtain⟨i,j,rfl,rfl,q⟩:=h;obtain⟨t,rfl⟩:=a;obtain⟨t',rfl⟩:=b;exact PySem.P.le_str ⟨.bl _,H,I,rfl,q⟩
theorem JI:Cop X .Lt (AU (λi j=>decide (i < j)) AS):=⟨⟨_,OpR.or bu bz,Rx⟩,Rw⟩
theorem HM:Cop X .LtE (AU (λi j=>decide (i<=j)) (λa b=>!AS b a)):=⟨⟨_,OpR.or bv fL,Rx⟩,Rw⟩
theorem fM:Cop X .Gt (A0 λi j=>decide (j < i)):=⟨⟨_,bw,Ri⟩,Rh⟩
theorem fN:Cop X .GtE (A0 λi j=>decide (j<=i)):=⟨⟨_,bx,Ri⟩,Rh⟩
theorem fO(a:X.A.units+100 < cLine):Cop X .Eq (Ae (eqF false)):=⟨⟨_,fx a,Rq false⟩,Ek⟩
theorem fP(a:X.A.units+100 < cLine):Cop X .NotEq (Ae (eqF true)):=⟨⟨_,fy a,Rq true⟩,Ek⟩
theorem fQ:Cop X .In (Ae (inF false)):=⟨⟨_,cA,Rt false⟩,Ek⟩
theorem fR:Cop X .NotIn (Ae (inF true)):=⟨⟨_,cB,Rt true⟩,Ek⟩
section
variable {r r':RW2}{ga gb gc:GE}
theorem fS(C:Cop X op r)(e:behindInMarks op b=false)(c:Em X a ga)(d:Em X b gb):Em X (.Compare a [op] [b] pos) (Ad r ga gb):=
 let⟨_,h1,h2⟩:=C.ex
 ⟨di h1 C.m c.m d.m h2 c.p d.p e,Dy C.m c.m d.m⟩
theorem JJ(C:Cop X op r)(e:behindInMarks op b=false)(c:Em X a ga)(d:Em X b gb):Tm X (.Compare a [op] [b] pos) (gTB (Ad r ga gb)):=
 let⟨_,h1,h2⟩:=C.ex
 ⟨dG h1 C.m c.m d.m h2 c.p d.p e,Q7 (Dy C.m c.m d.m)⟩
def BM(r r':RW2)(ga gb gc:GE):GE:=λω G Q=>ga ω G λx G1=>gb ω G1 λy G2=>r x y G2 λz G3=>match z with
 | .bl k=>if k=true then gc ω G3 λw G4=>r' y w G4 Q else Q (.bl false) G3
 | _=>False
theorem MM(b:r.M)(a:r'.M)(e:ga.M)(d:gb.M)(c:gc.M):GE.M (BM r r' ga gb gc):=λω G Q i h q=>
 e _ _ _ _ (λx G1 z=>d _ _ _ _ (λy G2 z=>b _ _ _ _ _ (λf g z=>by
  cases f with
  | bl k =>
   cases k with
   | true=>exact c _ _ _ _ (λw j z=>a _ _ _ _ _ h z) z
   | false=>exact h _ _ z
  | _=>exact z) z) z) q
theorem Ry(u:UpW K r r2)(z:UpW K r' a)(p:r.M)(e:r'.M)(E:ga.M)(L:gb.M)(D:gc.M)(σ:St)(H:Hp)(Q:VK)(h:up K (BM r r' ga gb gc) σ H Q):Ma r2 a (up K ga) (up K gb) (up K gc) σ H Q:=by
 obtain⟨ω,G,g,n,q⟩:=h;refine⟨ω,G,g,n,E _ _ _ _ (λx G1 F v H1 b N r1=>⟨ω,G1,g.mono b,r1,L _ _ _ _ (λy G2 B l H2 c ty r2=>?_) F⟩) q⟩;refine u x y v l G2 H2 _ (N.mono c) ty r2 (p _ _ _ _ _ (λk m f R s d tk j=>?_) B);cases k with
 | bl k =>
  refine⟨k,FR tk,?_⟩;cases k with
  | true =>
   rw[if_pos rfl];refine⟨ω,m,((g.mono b).mono c).mono d,j,D _ _ _ _ (λw J P I A i O t=>?_) f⟩;exact z y w l I J A Q ((ty.mono d).mono i) O t (e _ _ _ _ _ (λT S o=>CC (((b.trans c).trans d).trans i) o) P)
  | false =>
   rw[if_neg YT];exact f _ s ((b.trans c).trans d) (.bl false) j
 | _=>exact f.elim
theorem Rz(C:Cop X op r)(e:Cop X op' r')(g:lastMarks [op,op'] [b,c]=false)(d:Em X a ga)(f:Em X b gb)(hc:Em X c gc):Em X (.Compare a [op,op'] [b,c] pos) (BM r r' ga gb gc):=
 let⟨_,h1,h2⟩:=C.ex
 let⟨_,h3,h4⟩:=e.ex
 ⟨Bm (bD h1 h3 d.p f.p hc.p g) (Ry h2 h4 C.m e.m d.m f.m hc.m),MM C.m e.m d.m f.m hc.m⟩
theorem RA(C:Cop X op r)(e:Cop X op' r')(g:lastMarks [op,op'] [b,c]=false)(d:Em X a ga)(f:Em X b gb)(hc:Em X c gc):Tm X (.Compare a [op,op'] [b,c] pos) (gTB (BM r r' ga gb gc)):=
 let⟨_,h1,h2⟩:=C.ex
 let⟨_,h3,h4⟩:=e.ex
 ⟨Jv (bE h1 h3 d.p f.p hc.p g) λσ H Q z=>Ry h2 h4 C.m e.m d.m f.m hc.m σ H _ (Ra (MM C.m e.m d.m f.m hc.m) z),Q7 (MM C.m e.m d.m f.m hc.m)⟩
end
abbrev UpC(K:PySem.W.Frag)(r:RWc)(r1:List V->Hp->VK->Prop):Prop:=∀ ws vs G H Q,TrL K H vs ws->RelH K H G->r ws G (dn K H Q)->r1 vs H Q
structure Blt(X:Cx)(f:Value)(r:RWc):Prop where
 ex:∃ r1,CallR X f r1/\UpC X.K r r1
 m:r.M
section
theorem Co{id:String}(g:bootBuiltins x=some (.builtin id))(B:Blt X (.builtin id) r)(f:Gl X x)(d:X.mg x=none)(i:x≠"__name__")(b:(x==("__debug__":Str))=false)(c:starEach (e::es) X.env=(false,eval e X.env)::starEach es X.env)(a:(backTo pos (starEach es X.env)).any (·.1)=false)(h:Am X (e::es) gs):Em X (.Call (.Name x p) (e::es) [] pos) (gB r gs):=
 let⟨_,h1,h2⟩:=B.ex
 e9 h1 B.m h2 f d g i b c a h
theorem HN(g:bootBuiltins x=some (.type T))(B:Blt X (.type T) r)(f:Gl X x)(d:X.mg x=none)(i:x≠"__name__")(b:(x==("__debug__":Str))=false)(c:starEach (e::es) X.env=(false,eval e X.env)::starEach es X.env)(a:(backTo pos (starEach es X.env)).any (·.1)=false)(h:Am X (e::es) gs):Em X (.Call (.Name x p) (e::es) [] pos) (gB r gs):=
 let⟨_,h1,h2⟩:=B.ex
 fe h1 B.m h2 f d g i b c a h
end
theorem JK:Blt X (.builtin "len") (rF AL):=⟨⟨_,bL,fj⟩,FW⟩
theorem Eo(hc:X.calm=true):Blt X (.builtin "all") (rF BG):=⟨⟨_,e7 hc,ff⟩,FW⟩
theorem RB(hc:X.calm=true):Blt X (.builtin "sum") El:=⟨⟨_,e8 hc,fh⟩,fg⟩
def Ep:RWc:=λws G Q=>match ws with
 | [w]=>(match DZ G w with | some xs=>∀ p,G p=none->Q (.ref p) (put G p (.lst xs))| none=>False)
 | _=>False
theorem fT:RWc.M Ep:=λc G Q b h q=>by
 unfold Ep at q ⊢;split at q
 ·split at q
  ·exact λp a=>h _ _ (q p a)
  ·exact q.elim
 ·exact q.elim
theorem fU:UpC K Ep (λxs H Q=>∃ p ys,xs=[.ref p]/\(SqL K H p ys\/SqT K H p ys)/\∀ l,H l=none->Q (.ref l) (upd H l (.lst ys))):=λh g G H Q t r q=>by
 unfold Ep at q;split at q
 ·rename_i i;split at q
  ·rename_i xs e;cases t with
   | cons d t =>
    cases t;obtain⟨a,c,rfl,f,l⟩:=MJ r d e;exact⟨a,c,rfl,f,λp b=>q p (r.no b) _ _ (Mono.new b _) (.ref p) (r.new b l)⟩
  ·exact q.elim
 ·exact q.elim
theorem fV:Blt X (.type "list") Ep:=⟨⟨_,cC,fU⟩,fT⟩
def Cp(ws:List W)(G:Hw):Option W:=match ws with | [w]=>(DZ G w).map W.tup | _=>none
theorem fW:UpC K (rF Cp) (λxs H Q=>∃ p ys,xs=[.ref p]/\((SqL K H p ys/\∀ l,H l=none->Q (.ref l) (upd H l (.tup ys)))\/(SqT K H p ys/\Q (.ref p) H))):=λk j G H Q t r q=>by
 obtain⟨w,e,f⟩:=C4 q;unfold Cp at e;split at e
 ·obtain⟨xs,g,i⟩:=YQ.mp e;subst i;cases t with
  | cons h t =>
   cases t;obtain⟨a,d,rfl,b,l⟩:=MJ r h g;rcases b with b | b
   ·exact⟨a,d,rfl,.inl ⟨b,λp c=>f _ _ (Mono.new c _) (.tup (SqT.of Ca) (l.mono (Mono.new c _))) (r.mono0 c)⟩⟩
   ·exact⟨a,d,rfl,.inr ⟨b,f _ H .refl (.tup b l) r⟩⟩
 ·cases e
theorem fX:Blt X (.type "tuple") (rF Cp):=⟨⟨_,cD,fW⟩,FW⟩
def C5(ws:List W)(_:Hw):Option W:=match ws with | [.int i]=>some (.int i)| [.bl k]=>some (.int (if k then 1 else 0))| _=>none
theorem fY:UpC K (rF C5) (λxs H Q=>(∃ i,xs=[.int i]/\Q (.int i) H)\/∃ k,xs=[.bl k]/\Q (.int (if k then 1 else 0)) H):=λd c G H Q t r q=>by
 obtain⟨w,e,b⟩:=C4 q;unfold C5 at e;split at e
 ·cases e;cases t with
  | cons a t=>cases t;cases a;exact .inl ⟨_,rfl,b _ H .refl (.int _) r⟩
 ·cases e;cases t with
  | cons a t=>cases t;cases a;exact .inr ⟨_,rfl,b _ H .refl (.int _) r⟩
 ·cases e
theorem fZ:Blt X (.type "int") (rF C5):=⟨⟨_,bK,fY⟩,FW⟩
def C6:List Int->Int
 | []=>0
 | [x]=>x
 | x::y::r=>max x (C6 (y::r))
theorem RC:∀{ns:List Int}{m:Int},m∈ns->m<=C6 ns
 | [x],m,h=>by rw[YA.mp h];exact Int.le_refl _
 | x::y::r,m,h=>by
  show m<=max x (C6 (y::r));walk_at "pk"
  ·exact Int.le_max_left ..
  ·exact Int.le_trans (RC h) (Int.le_max_right ..)
theorem RD:∀{ns:List Int},ns≠[]->C6 ns∈ns
 | [x],_=>YA.mpr rfl
 | x::y::r,_=>by
  show max x (C6 (y::r))∈x::y::r;rcases Int.le_total x (C6 (y::r))with z | z
  ·rw[Int.max_eq_right z];exact Yd _ (RD (by simp))
  ·rw[Int.max_eq_left z];exact Ye
theorem f9(h:0 < ns.length):ns.getD (argBest (λi j=>decide (ns.getD i 0 > ns.getD j 0)) (ns.length - 1)) 0=C6 ns:=by
 obtain⟨h1,h2⟩:=argBest_gt (λi=>ns.getD i 0) (ns.length - 1);have b:ns≠[]:=by intro z;rw[z]at h;simp at h
 have a:argBest (λi j=>decide (ns.getD i 0 > ns.getD j 0)) (ns.length - 1) < ns.length:=by lia
 refine Int.le_antisymm (RC ?_) ?_
 ·rw[YZ,Yp a];exact Qd _
 ·obtain⟨i,hi,e⟩:=List.mem_iff_getElem.mp (RD b);have:=h2 i (by lia);rw[<- e];have z:ns.getD i 0=ns[i]:=by rw[YZ,Yp hi];rfl
  rw[<- z];exact this
theorem gf(hc:X.calm=true):CallR X (.builtin "max") (λxs H Q=>∃(p:Addr)(ns:List Int),xs=[.ref p]/\SqL X.K H p (ns.map V.int)/\0 < ns.length/\Q (.int (C6 ns)) H):=by
 intro pins s σ H xs m Q I r h;obtain⟨p,ns,rfl,l,a,q⟩:=h;obtain⟨u,rfl,j⟩:=C1 r;cases j;obtain⟨f,r',pl,w⟩:=I.list l;have hl:=r'.length;rw[Yh]at hl;obtain⟨o,n,e,_⟩:=id pl
 refine call_max_walk (wpAny_pyIter_list pl.isList ⟨s.heap.objs.size,_,_,_,_,_,_,rfl,Walks.list (A:=X.A.in1) (I.ok.hd hc) _ p (Ys (Qo e)) f.toArray,
  ⟨⟨_,Qp _ rfl,rfl,rfl⟩,pl.isList.push _⟩,λb g=>?_,by rw[Yn,<- hl];exact a,CmpOf.ints_gt (λi=>ns.getD i 0) (λi v d=>MH r' d),λv h' tk d k=>?_⟩)
 ·rw[Qq];rcases Yo.mp g with c | c
  ·rw[c];exact Nat.lt_succ_self _
  ·rw[YA.mp c];exact Nat.lt_succ_of_lt (Qo e)
 ·obtain⟨t,rfl⟩:=MH r' d;refine⟨.int (C6 ns),H,I.kept (t':=tk) λb o e=>k b o (by simpa using Ys (Qo e)) (Qn _ e),⟨t,?_⟩,q⟩;rw[Yn,<- hl,f9 a]
def HP(ws:List W)(G:Hw):Option W:=match ws with
 | [w]=>((DY G w).bind E4).bind λns=>if 0 < ns.length then some (.int (C6 ns))else none
 | _=>none
theorem gj:UpC K (rF HP) (λxs H Q=>∃(p:Addr)(ns:List Int),xs=[.ref p]/\SqL K H p (ns.map V.int)/\0 < ns.length/\Q (.int (C6 ns)) H):=λn m G H Q t r q=>by
 obtain⟨w,e,k⟩:=C4 q;unfold HP at e;split at e
 ·obtain⟨ns,h,c⟩:=Qb.mp e;obtain⟨xs,f,d⟩:=Qb.mp h;split at c
  ·rename_i b;cases c;cases t with
   | cons j t =>
    cases t;obtain⟨a,l,rfl,rfl,_,g,i⟩:=HK r j f;have:=MI d i;subst this;exact⟨a,ns,rfl,SqL.of g,b,k _ H .refl (.int _) r⟩
  ·cases c
 ·cases e
theorem RE(hc:X.calm=true):Blt X (.builtin "max") (rF HP):=⟨⟨_,gf hc,gj⟩,FW⟩
structure Mth(X:Cx)(T:String)(name:Str)(id:String)(pre:W->Hw->Prop)(r:W->List W->Hw->Kw->Prop):Prop where
 pa:PlainAttrs T
 slot:Slot T name id
 ty:typeOf (.builtin id)=pure (.type "method_descriptor")
 ex:∃ r2,MtR X id r2/\∀(o:W)(ws:List W)(v:V)(vs:List V)(G:Hw)(H:Hp)(Q:VK),Tr X.K H v o->TrL X.K H vs ws->RelH X.K H G->r o ws G (dn X.K H Q)->r2 v vs H Q
 pr:∀(o:W)(v:V)(G:Hw)(H:Hp),Tr X.K H v o->RelH X.K H G->pre o G->tyV X.K T v H
 m:∀ o ws G(Q Q':Kw),(∀ w G',Q w G'->Q' w G')->r o ws G Q->r o ws G Q'
def gMt(pre:W->Hw->Prop)(r:W->List W->Hw->Kw->Prop)(go:GE)(gs:GA):GE:=λω G Q=>go ω G λo G1=>pre o G1/\gs ω G1 λws G2=>r o ws G2 Q
section
theorem CN{id:String}(M:Mth X T name id pre r)(a:attributeBase o name X.env (eval o X.env)=eval o X.env)(c:((backTo cpos (starEach (e::es) X.env)).all (λx=>!x.1)&&(backToKw cpos (keywordEach [] X.env)).all (λx=>x.1.isSome)&&decide ((e::es).length+([]:List Keyword).length+(if([]:List Keyword).isEmpty then 0 else 1) < 30))=true)(b:(apos.endLine==cpos.line)=true)(A:starEach (e::es) X.env=(false,eval e X.env)::starEach es X.env)(hplain:(backTo cpos (starEach es X.env)).any (·.1)=false)(i:Em X o go)(j:Am X (e::es) gs):
  Em X (.Call (.Attribute o name apos) (e::es) [] cpos) (gMt pre r go gs):=
 let⟨_,h1,h2⟩:=M.ex
 ⟨Bm (cF M.pa M.slot M.ty h1 i.p j.p a c b A hplain) λσ H Q⟨ω,G,k,t,q⟩=>⟨ω,G,k,t,i.m _ _ _ _ (λd G1 z v H1 s tv r1=>⟨M.pr d v G1 H1 tv r1 z.1,
   ω,G1,k.mono s,r1,j.m _ _ _ _ (λn G2 f B H2 l g u=>h2 d n v B G2 H2 Q (tv.mono l) g u (M.m _ _ _ _ _ (λw E y=>CC (s.trans l) y) f)) z.2⟩) q⟩,
  λω G Q D h q=>i.m _ _ _ _ (λd G1 z=>⟨z.1,j.m _ _ _ _ (λn G2 f=>M.m _ _ _ _ _ h f) z.2⟩) q⟩
end
def BF(o:W)(G:Hw):Prop:=∃ xs,DY G o=some xs
theorem RF(t:Tr K H v o)(r:RelH K H G)(h:BF o G):tyV K "list" v H:=by
 obtain⟨xs,e⟩:=h;obtain⟨a,c,rfl,_,_,b,_⟩:=HK r t e;exact .inl ⟨rfl,_,SqL.of b⟩
def E6(o:W)(G:Hw)(f:List W->Option (List W))(Q:Kw):Prop:=match o with
 | .ref a=>(match G a with | some (.lst xs)=>(match f xs with | some ys=>Q .non (put G a (.lst ys))| none=>False)| _=>False)
 | _=>False
theorem MN(q:E6 o G f Q):∃ a xs ys,o=.ref a/\G a=some (.lst xs)/\f xs=some ys/\Q .non (put G a (.lst ys)):=by
 unfold E6 at q;split at q
 ·split at q
  ·rename_i xs e;split at q
   ·rename_i ys b;exact⟨_,xs,ys,rfl,e,b,q⟩
   ·exact q.elim
  ·exact q.elim
 ·exact q.elim
theorem MO(e:G a=some (.lst xs))(b:f xs=some ys)(q:Q .non (put G a (.lst ys))):E6 (.ref a) G f Q:=by
 unfold E6;dsimp only;rw[e];dsimp only;rw[b];exact q
theorem RG(h:∀ w G',Q w G'->b w G')(q:E6 o G f Q):E6 o G f b:=by
 obtain⟨a,xs,ys,rfl,e,c,q⟩:=MN q;exact MO e c (h _ _ q)
def BH(o:W)(ws:List W)(G:Hw)(Q:Kw):Prop:=match ws with
 | [y]=>E6 o G (λxs=>if xs.length < sizeLine then some (xs++[y])else none) Q
 | _=>False
theorem HQ:Mth X "list" "append" "list.append" BF BH where
 pa:=PySem.F.plainAttrs_list
 slot:=PySem.F.slot_list_append
 ty:=PySem.F.type_list_append
 ex:=⟨_,cH,λo i v j G H Q tv d r q=>by
  unfold BH at q;split at q
  ·obtain⟨a,xs,ys,rfl,e,f,q⟩:=MN q;split at f
   ·rename_i b;cases f;cases tv;cases d with
    | cons ty t =>
     cases t;obtain⟨g,c,l⟩:=r a _ e;exact⟨a,g,_,rfl,rfl,c,by rw[l.length];exact b,q _ _ (Mono.lst c _) .non (r.chg c (l.append (.cons ty .nil)))⟩
   ·cases f
  ·exact q.elim⟩
 pr:=λo v G H t r h=>RF t r h
 m:=λo i G Q k h q=>by
  unfold BH at q ⊢;split at q
  ·exact RG h q
  ·exact q.elim
def FY(o:W)(ws:List W)(G:Hw)(Q:Kw):Prop:=match ws with
 | [y]=>E6 o G (λxs=>(DY G y).bind λzs=>if xs.length+zs.length<=sizeLine then some (xs++zs)else none) Q
 | _=>False
theorem RH:Mth X "list" "extend" "list.extend" BF FY where
 pa:=PySem.F.plainAttrs_list
 slot:=PySem.F.slot_list_extend
 ty:=PySem.F.type_list_extend
 ex:=⟨_,cJ,λo s v x G H Q tv i r q=>by
  unfold FY at q;split at q
  ·obtain⟨a,xs,ys,rfl,e,u,q⟩:=MN q;obtain⟨zs,k,d⟩:=Qb.mp u;split at d
   ·rename_i c;cases d;cases tv;cases i with
    | cons ty t =>
     cases t;obtain⟨p,g,l⟩:=r a _ e;obtain⟨b,f,rfl,_,_,n,j⟩:=HK r ty k;exact⟨a,b,p,f,rfl,rfl,g,n,by rw[l.length,j.length];exact c,q _ _ (Mono.lst g _) .non (r.chg g (l.append j))⟩
   ·cases d
  ·exact q.elim⟩
 pr:=λo v G H t r h=>RF t r h
 m:=λo s G Q w h q=>by
  unfold FY at q ⊢;split at q
  ·exact RG h q
  ·exact q.elim
def B3(C:Addr)(E:Addr->Hw->Prop)(gs:GA):GS:=λ_ ω G=>gs ω G λws G1=>ws.length<=sizeLine/\E C G1
section
theorem DB{Au:List Expr}(j:mg x=some (.ref C))(q:PySem.W.excIn K C bm b=true)(FB:ExcBaseFacts B b initId bm)(k:Gl (cxW P w K mg base N qual scope f cd A outer s H E) x)(d:starEach (a::Au) (cxW P w K mg base N qual scope f cd A outer s H E).env=(false,eval a (cxW P w K mg base N qual scope f cd A outer s H E).env)::starEach Au (cxW P w K mg base N qual scope f cd A outer s H E).env)(hplain:(backTo cpos (starEach Au (cxW P w K mg base N qual scope f cd A outer s H E).env)).any (·.1)=false)(hd:(x==("__debug__":Str))=false)(c:Am (cxW P w K mg base N qual scope f cd A outer s H E) (a::Au) gs):
  Sm (cxW P w K mg base N qual scope f cd A outer s H E) Pb (.Raise (some (.Call (.Name x i) (a::Au) [] cpos)) none pos) (B3 C (dnX K H E) gs):=by
 refine⟨λJ l pins g σ Hc D I h=>?_,λω G D v _ _ _ _ q=>q⟩;obtain⟨ω,G,o,r,F,e⟩:=h;exact c5 k j q FB c.p d hplain hd pins g σ Hc D I ⟨ω,G,o,r,c.m _ _ _ _ (λy G1 z u H1 n t r1=>⟨by rw[t.length];exact z.1,z.2 H1 ((Un.mono' I.base).trans n) r1⟩) e⟩
end
section
end
def tyN(w:W)(G:Hw):Option String:=match w with
 | .non=>some "NoneType"
 | .bl _=>some "bool"
 | .int _=>some "int"
 | .str _=>some "str"
 | .tup _=>some "tuple"
 | .rol _=>some "list"
 | .ref a=>(match G a with | some (.lst _)=>some "list" | _=>none)
def Ba(n T:String):Bool:=n==T||(n=="bool"&&T=="int")
theorem D1(b:n∈["NoneType","bool","int","str","tuple","list"])(a:T∈["tuple","list","str","int","bool","dict"]):PySem.W.kitOne K (.type n) (.type T)=some (Ba n T):=by
 simp only[Yo,YY,or_false]at b a;rcases b with rfl | rfl | rfl | rfl | rfl | rfl <;> rcases a with rfl | rfl | rfl | rfl | rfl | rfl <;> kernel_rfl
def A5(T:String)(ge:GE):GE:=λω G Q=>ge ω G λw G1=>match tyN w G1 with | some n=>Q (.bl (Ba n T)) G1 | none=>False
theorem gm(m:ge.M):GE.M (A5 T ge):=λω G Q a h q=>m _ _ _ _ (λw G1 z=>by
 cases e:tyN w G1 with
 | none=>rw[e]at z;exact z
 | some n=>rw[e]at z;exact h _ _ z) q
theorem gn{σ:St}(I:Inv X pins σ H s)(b:RelV v u)(t:Tr X.K H v w)(r:RelH X.K H G)(e:tyN w G=some n)(c:T∈["tuple","list","str","int","bool","dict"])(h:∀ tk,Q (.bool (Ba n T)) {s with toks:=tk}):wpAny (model X.prog X.w) X.A (call (.builtin "isinstance") [u,.type T]) Q E s:=by
 cases t with
 | non=>cases e;cases(show u=Value.none from b);exact PySem.W.kia_one PySem.W.kitx_none I.kIn True.intro (D1 (by simp) c) (λz=>nomatch z) h
 | bl y=>cases e;cases(show u=Value.bool y from b);exact PySem.W.kia_one PySem.W.kitx_bool I.kIn True.intro (D1 (by simp) c) (λz=>nomatch z) h
 | int i=>cases e;obtain⟨t,rfl⟩:=b;exact PySem.W.kia_one PySem.W.kitx_int I.kIn True.intro (D1 (by simp) c) (λz=>nomatch z) h
 | str y=>cases e;obtain⟨t,rfl⟩:=b;exact PySem.W.kia_one PySem.W.kitx_str I.kIn True.intro (D1 (by simp) c) (λz=>nomatch z) h
 | tup f l =>
  cases e;cases b;obtain⟨d,_,p,_⟩:=I.tuple f;obtain⟨o,h1,h2,_⟩:=p;exact PySem.W.kia_one PySem.W.kitx_tuple I.kIn ⟨o,h1,h2⟩ (D1 (by simp) c) (λz=>nomatch z) h
 | rol f l =>
  cases e;cases b;obtain⟨d,_,p,_⟩:=I.list f.sq;obtain⟨o,h1,h2,_⟩:=p.isList;exact PySem.W.kia_one PySem.W.kitx_list I.kIn ⟨o,h1,h2⟩ (D1 (by simp) c) (λz=>nomatch z) h
 | ref a =>
  unfold tyN at e;dsimp only at e;cases g:G a with
  | none=>rw[g]at e;cases e
  | some o =>
   rw[g]at e;cases o with
   | exc C=>cases e
   | ins C fs=>cases e
   | dct k=>cases e
   | lst xs =>
    cases e;cases b;obtain⟨m,j,_⟩:=r a _ g;obtain⟨d,_,p,_⟩:=I.list (SqL.of j);obtain⟨o,h1,h2,_⟩:=p.isList;exact PySem.W.kia_one PySem.W.kitx_list I.kIn ⟨o,h1,h2⟩ (D1 (by simp) c) (λz=>nomatch z) h
theorem RI:bootBuiltins "isinstance"=some (.builtin "isinstance"):=by decide +kernel
section
theorem HS(y:T∈["tuple","list","str","int","bool","dict"])(B:bootBuiltins c=some (.type T))(d:X.mg c=none)(g:X.mg "isinstance"=none)(j:Gl X "isinstance")(f:Gl X c)(A:c≠"__name__")(hd:(c==("__debug__":Str))=false)(o:starEach [e,.Name c pc] X.env=[(false,eval e X.env),(false,eval (.Name c pc) X.env)])(a:starEach [.Name c pc] X.env=[(false,eval (.Name c pc) X.env)])(h:Em X e ge):Em X (.Call (.Name "isinstance" p) [e,.Name c pc] [] pos) (A5 T ge):=by
 refine⟨λpins s σ H Q I i=>?_,gm h.m⟩;obtain⟨ω,G,F,r,q⟩:=i;have pa:PA X [e,.Name c pc] (Dv (up X.K ge) (Dv (tC (.ty T)) FQ)):=DW h.p (DW (Jn f d B rfl A hd) GN (by rw[a];rfl)) (by rw[o,a]);refine wpAny_Call_Name_kw (EZ I j g RI ?_ (by decide) (by decide));refine PyProof.Rows.callWith_builtin1 (thn (pa pos pins s σ H (λk H1=>∃ v w G1 n,k=[v,.ty T]/\Tr X.K H1 v w/\RelH X.K H1 G1/\tyN w G1=some n/\Q (.bl (Ba n T)) H1) I ?_) λJ L⟨k,H1,l,r1,v,w,G1,n,x,tv,E,b,qq⟩=>?_) (by rw[o,a]) (by rw[a];rfl)
 ·refine⟨ω,G,F,r,h.m _ _ _ _ (λw G1 z v H1 m t r1=>?_) q⟩;cases b:tyN w G1 with
  | none=>rw[b]at z;exact z.elim
  | some n=>rw[b]at z;exact⟨v,w,G1,n,rfl,t,r1,b,z _ H1 m (.bl _) r1⟩
 ·subst x;obtain⟨u,N,rfl,D,rt⟩:=Jr r1;cases rt;exact gn l D tv E b y λtk=>⟨.bl _,H1,l.tok tk,rfl,qq⟩
end
structure gp(K:PySem.W.Frag)(C:Addr):Prop where
 ga:PySem.W.findIn K (.ref C) "__getattribute__"=some (some (.builtin "BaseException.__getattribute__"))
 gh:PySem.W.findIn K (.ref C) "__getattr__"=some none
 cl:(PySem.W.clsIn K C).isSome=true
 fc:PySem.W.findIn K (.ref C) "__class__"=some (some (.builtin "object.__class__"))
 sp:PySem.W.specialIn K (.builtin "object.__class__") "__get__"=some (some (.builtin "getset_descriptor.__get__"))
 tk:PySem.W.takesIn K (.builtin "object.__class__")=some true
 mr:PySem.W.mroIn K C (.type "object")=some true
 mb:PySem.W.mroIn K C (.type "BaseException")=some true
end L3
namespace L3
open PySem PySem.W PySem.Spec PySem.Calls PyProof.Rows PySem.Builtin PySem.Builtin.ObjectAttr PySem.Builtin.Getset_descriptor
section
end
end L3
namespace L3
open PySem PySem.Spec PyProof.Rows L2
variable {K:PySem.W.Frag}{H:Hp}
def sQ(K:PySem.W.Frag)(cv:Value)(ge:GE):GE:=λω G Q=>ge ω G λw G1=>match w with
 | .ref a=>(match G1 a with | some (.exc C)=>∃ b,gp K C/\PySem.W.kitOne K (.ref C) cv=some b/\Q (.bl b) G1 | _=>False)
 | _=>False
section
end
theorem gq:FU K H1 (Itr 0 n) ((List.range n).map λi:Nat=>W.int i) gd where
 go:=λi H G m r g hi=>by show i < n;simpa using hi
 yld:=λi H G x H' m r g y hi=>by
  obtain⟨e,ex⟩:=y;subst ex;have a:i < n:=by simpa using hi
  refine Jy r e ⟨.int i,by simp[a],?_⟩;rw[Int.zero_add];exact .int _
 stop:=λH G m r g=>by show n<=_;simp
def D2(gs:GA):GI:=λω G R=>gs ω G λws G1=>match ws with
 | [.int j]=>-(2 ^ 62)<=j/\j < 2 ^ 62/\R ((List.range j.toNat).map λi:Nat=>W.int i) yes G1
 | _=>False
theorem gr(m:gs.M):GI.M (D2 gs):=λω G R b h q=>m _ _ _ _ (λa G1 z=>by
 split at z
 ·exact⟨z.1,z.2.1,h _ _ _ z.2.2⟩
 ·exact z.elim) q
theorem gw(e:X.mg "range"=none)(d:Gl X "range")(c:starEach [a] X.env=[(false,eval a X.env)])(b:Am X [a] gs):Im X tg (.Call (.Name "range" p) [a] [] pos) (D2 gs):=by
 refine⟨⟨_,a6 d e b.p c,λσ H ω G R h g r q k=>⟨ω,G,g,r,b.m _ _ _ _ (λj G1 z i H1 m t r1=>?_) q⟩⟩,gr b.m⟩;split at z
 ·cases t with
  | cons f t=>cases t;cases f;exact⟨_,rfl,z.1,z.2.1,k _ _ _ H1 _ z.2.2 m r1 trivial gq⟩
 ·exact z.elim
theorem Inv.turneds{σ:St}{fp:List Addr}(I:Inv X pins σ H s)(a:∀ b∈fp,Du X pins H b)(k:∀ b o,b∉fp->s.heap.get? b=some o->h'.get? b=some o):Inv X pins σ H {s with heap:=h',toks:=t'}:=by
 have d:∀ b u,H b=some u->b∉fp:=λb u e z=>by rw[(a b z).1]at e;cases e
 refine I.step (g':=s.gens) (d':=s.drawn) (ch:=fp) (λb f=>⟨(a b f).2.2.2.1,(a b f).2.1,(a b f).2.2.2.2.1,(a b f).2.2.2.2.2⟩) (λb o _ _ hc e _=>k b o hc e) (λb o _ _ hc e _=>⟨o.slots,k b o hc e⟩) (λ_ _ _ _ n=>n)
  (λb o hc e=>⟨o,k b o hc e⟩) (λ_ _ e=>e) (λ_ _ _ e=>e) (λb ps e=>⟨#[],by rw[e];simp⟩) (λm h=>?_) (λb u e=>?_) I.bare
 ·obtain⟨o,es,g,i,r⟩:=h;exact⟨o,es,g,k _ o (λz=>(a _ z).2.1 rfl) i,r⟩
 ·refine(I.hok b u e).stay (λc v hc q=>k c v ?_ q) (λ_ q=>q) λ_ _ q=>q;rcases hc with z | z
  ·rw[z];exact d b u e
  ·exact d c _ z
def rdL(G:Hw)(w:W):Option (List W):=match w with
 | .rol xs=>some xs
 | .ref a=>(match G a with | some (.lst xs)=>some xs | _=>none)
 | _=>none
theorem RJ(r:RelH K H G)(t:Tr K H v w)(e:rdL G w=some xs):∃ a vs,v=.ref a/\SqL K H a vs/\TrL K H vs xs:=by
 cases t with
 | rol h l=>cases e;exact⟨_,_,rfl,h.sq,l⟩
 | ref a =>
  unfold rdL at e;dsimp only at e;cases z:G a with
  | none=>rw[z]at e;cases e
  | some o =>
   rw[z]at e;cases o with
   | lst ys=>cases e;obtain⟨vs,d,c⟩:=r a _ z;exact⟨a,vs,rfl,SqL.of d,c⟩
   | exc C=>cases e
   | ins C fs=>cases e
   | dct b=>cases e
 | _=>cases e
def BV:List W->List W->List W
 | x::xs,y::ys=>.tup [x,y]::BV xs ys
 | _,_=>[]
theorem MP:∀(xs ys:List W),(BV xs ys).length=min xs.length ys.length
 | [],_=>by simp[BV]
 | _::_,[]=>by simp[BV]
 | _::xs,_::ys=>by simp only[BV,Yg,MP xs ys];lia
theorem RK:∀(xs ys:List W)(i:Nat){x y:W},xs[i]?=some x->ys[i]?=some y->(BV xs ys)[i]?=some (.tup [x,y])
 | [],_,_,_,_,h,_=>by simp at h
 | _::_,[],_,_,_,_,h=>by simp at h
 | a::xs,b::ys,0,x,y,h,h'=>by simp at h h';subst h;subst h';rfl
 | a::xs,b::ys,i+1,x,y,h,h'=>by
  have:=RK xs ys i (x:=x) (y:=y) (by simpa using h) (by simpa using h');simpa[BV]using this
theorem JL:bootBuiltins "len"=some (.builtin "len"):=by decide +kernel
theorem Er:bootBuiltins "all"=some (.builtin "all"):=by decide +kernel
theorem RL:bootBuiltins "sum"=some (.builtin "sum"):=by decide +kernel
theorem RM:bootBuiltins "max"=some (.builtin "max"):=by decide +kernel
theorem RN:bootBuiltins "list"=some (.type "list"):=by decide +kernel
theorem RP:bootBuiltins "tuple"=some (.type "tuple"):=by decide +kernel
theorem JM:bootBuiltins "int"=some (.type "int"):=by decide +kernel
theorem MQ:bootBuiltins "str"=some (.type "str"):=by decide +kernel
theorem RQ:bootBuiltins "bool"=some (.type "bool"):=by decide +kernel
section
variable {X:Cx}{p:Pos}
theorem gz(hi:X.N[i]?=some x)(a:seen X.env.scope x=true)(hd:(x==("__debug__":Str))=false)(hc:(x==("__classdict__":Str))=false):Em X (.Name x pos) (Ab i):=⟨da hi (Rj a) hd hc,c9⟩
theorem BW(d:X.N.Nodup)(hi:X.N[i]?=some x)(b:HH X.env.scope x=true)(c:swapsWith e (some (.Name x pos')) pos.line X.env=pure false)(a:Em X e ga):Sm X P (.Assign [.Name x pos'] e pos) (Aq i ga):=
 ⟨Q6 d hi (.inl (HI b)) a.m a.p c (.inr (HI b)),Mu a.m⟩
theorem gA(c:X.N.Nodup)(hi:X.N[n]?=some x)(b:HH X.env.scope x=true)(a:Em X e ga):Sm X P (.AugAssign (.Name x pos') .Add e pos) (CD n CF ga):=
 ⟨fD (OpR.or bo bJ) Ru fE c hi (.inl (HI b)) (.inr (HI b)) a.m a.p,fC Ru a.m⟩
def Glb(K:PySem.W.Frag)(mg:Str->Option Value)(x:Str)(w:W):Prop:=∃ v u,mg x=some u/\RelV v u/\∀ H,Tr K H v w
theorem E7(h:Glb X.K X.mg x w)(a:Gl X x)(hd:(x==("__debug__":Str))=false):Em X (.Name x pos) (gC w):=
 let⟨_,_,h1,h2,h3⟩:=h
 ⟨Q2 a h1 h2 h3 hd,GQ⟩
structure Fm(X:Cx)(ifs:List Expr)(g:GT):Prop where
 p:PFw X ifs g
 m:g.M
theorem BX:Fm X [] AX:=⟨eE,eD⟩
theorem gD(h:Tm X c gt):Fm X [c] gt:=⟨eF h.p,h.m⟩
theorem Cq(hc:X.calm=true)(B:Blk X Nc scope [] (λ_=>List.replicate Nc.length none))(g:∀ x,foldedSetIterable iter X.env x=pure x)(hi:Im X tg iter gi)(d:TgU X Nc scope tg e)(c:∀ C fp s H,Fm (cxB X Nc scope [] C fp s H) ifs gt)(b:∀ C fp s H,Em (cxB X Nc scope [] C fp s H) elt ge):Em X (.ListComp elt [⟨tg,iter,ifs,0⟩] scope pos) (AZ gi Nc.length e gt ge):=
 have a:gt.M:=(c 0 [] X.s₀ X.H₀).m
 have f:ge.M:=(b 0 [] X.s₀ X.H₀).m
 ⟨eI hc hi.p B d a (λC fp s H=>(c C fp s H).p) f (λC fp s H=>(b C fp s H).p) g,eB hi.m d.mono a f⟩
theorem Es:Ej X (λ_ _ _=>False):=(by rintro pins σ H s ev s' I ⟨e,C,H',c,F,b,ω,G,a,d,r,q⟩;exact q.elim)
theorem AM(a:Room k A):A.units+100 < cLine:=by have:=a.un;lia
end
def FZ:List (Str×Int)->Str->W
 | [],_=>.non
 |(x,i)::D,z=>if z=x then .int i else FZ D z
def MR(mg:Str->Option Value)(base:Heap)(x:Str)(D:List (Str×Int)):Prop:=∃ d,mg x=some (.ref d)/\KTD.TextTab base d (D.map λp=>(p.1,KTD.Dat.flat (.int p.2)))
theorem RS:∀{D:List (Str×Int)}{z:Str}{d:KTD.Dat},KTD.datumAt z (D.map λp=>(p.1,KTD.Dat.flat (.int p.2)))=some d->∃ i,d=.flat (.int i)/\FZ D z=.int i
 | [],_,_,h=>by cases h
 |(x,i)::D,z,d,h=>by
  have h':(if decide (z=x)=true then some (KTD.Dat.flat (.int i))else KTD.datumAt z (D.map λp=>(p.1,KTD.Dat.flat (.int p.2))))=some d:=h;unfold FZ;by_cases a:z=x
  ·rw[if_pos (YH a)]at h';cases h';exact⟨i,rfl,if_pos a⟩
  ·rw[if_neg (by simpa using a)]at h';rw[if_neg a];exact RS h'
theorem RT:∀{D:List (Str×Int)}{z:Str},KTD.datumAt z (D.map λp=>(p.1,KTD.Dat.flat (.int p.2)))=none->FZ D z=.non
 | [],_,_=>rfl
 |(x,i)::D,z,h=>by
  have h':(if decide (z=x)=true then some (KTD.Dat.flat (.int i))else KTD.datumAt z (D.map λp=>(p.1,KTD.Dat.flat (.int p.2))))=none:=h;unfold FZ;by_cases a:z=x
  ·rw[if_pos (YH a)]at h';cases h'
  ·rw[if_neg (by simpa using a)]at h';rw[if_neg a];exact RT h'
def E8(D:List (Str×Int))(gk:GE):GE:=λω G Q=>gk ω G λw G1=>match w with | .str z=>Q (FZ D z) G1 | _=>False
theorem gE(h:MR X.mg X.base x D)(Z:Gl X x)(hd:(x==("__debug__":Str))=false)(c:attributeBase (.Name x g) "get" X.env (eval (.Name x g) X.env)=eval (.Name x g) X.env)(f:((backTo cpos (starEach [e] X.env)).all (λx=>!x.1)&&(backToKw cpos (keywordEach [] X.env)).all (λx=>x.1.isSome)&&decide ([e].length+([]:List Keyword).length+(if([]:List Keyword).isEmpty then 0 else 1) < 30))=true)(b:(apos.endLine==cpos.line)=true)(A:starEach [e] X.env=(false,eval e X.env)::starEach [] X.env)(hplain:(backTo cpos (starEach [] X.env)).any (·.1)=false)(n:Em X e j):
  Em X (.Call (.Attribute (.Name x g) "get" apos) [e] [] cpos) (E8 D j):=by
 refine⟨λpins s σ H Q I⟨ω,G,S,r,q⟩=>?_,λω G Q Q' J q=>n.m _ _ _ _ (λw G1 z=>by cases w <;> first | exact J _ _ z | exact z) q⟩;obtain⟨d,hm,T⟩:=h;have here:KTD.Here X.base s.heap d (D.map λp=>(p.1,KTD.Dat.flat (.int p.2))):=⟨T,I.bk⟩;refine wpAny_Call_method_late c f b rfl (GJ I Z hm ⟨"dict","dict.get",PySem.F.plainAttrs_dict,PySem.F.slot_dict_get,PySem.F.type_dict_get,here.typeIs,here.noDict,?_⟩ hd);have pa:PA X [e] (Dv (up X.K j) FQ):=DW n.p GN A
 have o:=pa cpos pins s σ H (λB H1=>∃ z,B=[.str z]/\∀ v,Tr X.K H1 v (FZ D z)->Q v H1) I ⟨ω,G,S,r,n.m _ _ _ _ (λw G1 z v H1 m t r1=>by
  cases w with
  | str y=>exact⟨y,by rw[Q9 t],λv tv=>z v H1 m tv r1⟩
  | _=>exact z.elim) q⟩
 rw[A]at o ⊢;refine Calls.callWith_builtin (by show(false||(backTo cpos (starEach [] X.env)).any (·.1))=false;rw[hplain] <;> rfl) (Calls.evalArgs_plain ?_);refine thn o λus E k=>?_;obtain⟨B,H2,l,O,z,P,q2⟩:=k;subst P;obtain⟨u,rfl,L⟩:=C1 O;obtain⟨t,rfl⟩:=L;have a:KTD.Here X.base E.heap d (D.map λp=>(p.1,KTD.Dat.flat (.int p.2))):=⟨T,l.bk⟩;refine call_meetsIn PySem.F.slot_dict_get a.typeIs PySem.F.entry_dict_get (PySem.F.args_dict_get_2 _ _) (KTD.meets_get1 (h₀:=X.base) (D:=D.map λp=>(p.1,KTD.Dat.flat (.int p.2)))) ⟨a,λdd v N U=>?_,λR=>?_⟩
 ·obtain⟨i,rfl,Y⟩:=RS N;obtain⟨t2,rfl⟩:=PyProof.V.Flat.int_inv U;exact⟨.int i,H2,l.tok _,⟨_,rfl⟩,q2 _ (by rw[Y];exact .int i)⟩
 ·exact⟨.non,H2,l.tok _,rfl,q2 _ (by rw[RT R];exact .non)⟩
def Fn(K:PySem.W.Frag)(mg:Str->Option Value)(st:Stmt)(x:Str)(ps:List Str):Prop:=∃ f fd,mg x=some (.ref f)/\Fun K x x st f fd/\Binds K fd ps []
section
theorem mk0{st:Stmt}(Fx:Fn K mg st x ps)(i:ps.length=n)(S:Az N ps (Ak st))(e:sp.M)(len:∀ c G Q E,sp c G Q E->c.length=n)(u:∀{f:Addr}{cdv:Value}{A:Around}{outer:List Env}{s:Shared}{H:Hp}{E:XK},Room k (A.deeper (envOfC x (Ak st) s.heap.objs.size f cdv))->Ssm (cxW P w K mg base N x (Ak st) f cdv A outer s H E).nox (λB=>B=H) (AO st) g)(ok:∀ c G(Q:Kw)(E:Addr->Hw->Prop),Kw.C Q->sp c G Q E->g (Ax Q) (Bn N c) G):Df P w K mg base x (k+1) n sp:=by
 obtain⟨f,fd,h1,F,o⟩:=Fx;refine⟨⟨f,fd,ps,h1,F.kp,o,i,?_⟩,e⟩;obtain⟨O,R,kV,y,pm,L,cdv,ct,J,rfl,v,d⟩:=F.ex;refine GP v d S ((by rintro l H Q E ⟨c,G,t,r,q⟩;rw[t.length,i];exact len c G _ _ q)) λA outer s H l Q E I h=>?_;obtain⟨c,G,t,r,q⟩:=h;have D:=u (cdv:=cdv) (outer:=outer) (H:=H) (E:=E) I;refine⟨_,(D.p H rfl).nox,Bn N c,G,HE t,r,.refl,?_⟩;exact D.m _ _ (Ax (dn K H Q)) _ (λa b z σ H2 m T j=>z _ H2 m Tr.non j) (λa b z=>z) (λa b z=>z.elim) (λa b z=>z.elim) (ok c G _ _ HF q)
theorem mkX{st:Stmt}{g:(Addr->Hw->Prop)->GS}(Fx:Fn K mg st x ps)(i:ps.length=n)(S:Az N ps (Ak st))(e:sp.M)(len:∀ c G Q E,sp c G Q E->c.length=n)(u:∀{f:Addr}{cdv:Value}{A:Around}{outer:List Env}{s:Shared}{H:Hp}{E:XK},Room k (A.deeper (envOfC x (Ak st) s.heap.objs.size f cdv))->Ssm (cxW P w K mg base N x (Ak st) f cdv A outer s H E) (λB=>B=H) (AO st) (g (dnX K H E)))(ok:∀ c G(Q:Kw)(E:Addr->Hw->Prop),Kw.C Q->Xc E->sp c G Q E->g E (Ax Q) (Bn N c) G):Df P w K mg base x (k+1) n sp:=by
 obtain⟨f,fd,h1,F,o⟩:=Fx;refine⟨⟨f,fd,ps,h1,F.kp,o,i,?_⟩,e⟩;obtain⟨O,R,kV,y,pm,L,cdv,ct,J,rfl,v,d⟩:=F.ex;refine GP v d S ((by rintro l H Q E ⟨c,G,t,r,q⟩;rw[t.length,i];exact len c G _ _ q)) λA outer s H l Q E I h=>?_;obtain⟨c,G,t,r,q⟩:=h;have D:=u (cdv:=cdv) (outer:=outer) (H:=H) (E:=E) I;refine⟨_,D.p H rfl,Bn N c,G,HE t,r,.refl,?_⟩;exact D.m _ _ (Ax (dn K H Q)) _ (λa b z σ H2 m T j=>z _ H2 m Tr.non j) (λa b z=>z) (λa b z=>z.elim) (λa b z=>z.elim) (ok c G _ _ HF Q5 q)
end
end L3
namespace L3
open PySem PySem.Spec PyProof.Rows L2
def BN{α:Type}(n:Nat)(js:List Nat)(l:List (Option α)):List (Option α):=List.replicate n none++js.map λj=>(l[j]?).getD none
theorem MS{α:Type}{l:List (Option α)}:(BN n js l).length=n+js.length:=by simp[BN]
theorem RU{α:Type}{l:List (Option α)}{v:α}(h:(BN n js l)[i]?=some (some v)):∃ m j,i=n+m/\js[m]?=some j/\l[j]?=some (some v):=by
 unfold BN at h;by_cases hi:i < n
 ·rw[YJ (by simpa using hi),List.getElem?_replicate]at h;split at h <;> cases h
 ·rw[List.getElem?_append_right (by simpa using Nat.le_of_not_lt hi),List.length_replicate,YN]at h;cases a:js[i - n]? with
  | none=>rw[a]at h;cases h
  | some j =>
   rw[a]at h;refine⟨i - n,j,by lia,a,?_⟩;have h':(l[j]?).getD none=some v:=YE h;cases e:l[j]? with
   | none=>rw[e]at h';cases h'
   | some o=>rw[e]at h';exact Qh some h'
theorem gF{α:Type}{l:List (Option α)}{v:α}(h1:js[m]?=some j)(h2:l[j]?=some (some v)):(BN n js l)[n+m]?=some (some v):=by
 unfold BN;rw[List.getElem?_append_right (by simp),List.length_replicate,YN];have:n+m - n=m:=by lia
 rw[this,h1];show some ((l[j]?).getD none)=_;rw[h2];rfl
theorem TrSt.cap{K:PySem.W.Frag}(t:TrSt K H σ ω)(n:Nat)(js:List Nat):TrSt K H (BN n js σ) (BN n js ω):=by
 refine⟨by rw[MS,MS],λi w e=>?_⟩;obtain⟨m,j,rfl,h1,h2⟩:=RU e;obtain⟨v,a,r⟩:=t.get j w h2;exact⟨v,gF h1 a,r⟩
def Et(env:Env):List (Str×NameKind)->List (Str×Addr)->List (Str×Addr)
 | [],cs=>cs
 |(n,k)::r,cs=>Et env r (if k=.free then(n,(env.cells.lookup n).getD 0)::cs else cs)
theorem RV:∀(l:List (Str×NameKind))(cs:List (Str×Addr)),(∀ y∈l,y.2=.free->∃ c,env.cells.lookup y.1=some c)->
  (forIn l cs λ(x:Str×NameKind)r=>if(x.2==NameKind.free)=true then do let c <- cellOf env x.1;pure (ForInStep.yield ((x.1,c)::r))else pure (ForInStep.yield r):Sem (List (Str×Addr)))=pure (Et env l cs)
 | [],cs,_=>by simp[Et]
 |(n,k)::r,cs,h=>by
  have b:=λcs=>RV r cs λy d=>h y (Yd _ d);rw[List.forIn_cons];by_cases a:k=.free
  ·obtain⟨c,hc⟩:=h (n,k) Ye a;subst a;have e:cellOf env n=pure c:=by unfold cellOf;rw[hc]
   simp only[beq_self_eq_true,if_true,e,pure_bind,Et,hc,Option.getD_some];exact b _
  ·have:(k==NameKind.free)=false:=by simpa using a
   simp only[this,Yq,if_false,pure_bind,Et,a];exact b _
theorem RW:∀(l:List (Str×NameKind))(cs:List (Str×Addr)),(Et env l cs).lookup y=some c->cs.lookup y=some c\/((y,NameKind.free)∈l/\c=(env.cells.lookup y).getD 0)
 | [],cs,h=>.inl h
 |(n,k)::r,cs,h=>by
  rcases RW r _ h with q |⟨q1,q2⟩
  ·split at q
   ·rename_i b;subst b;rw[List.lookup_cons]at q;split at q
    ·rename_i e;have a:y=n:=beq_iff_eq.mp e;subst a;exact .inr ⟨Ye,(YE q).symm⟩
    ·exact .inl q
   ·exact .inl q
  ·exact .inr ⟨Yd _ q1,q2⟩
theorem RX:∀(l:List (Str×NameKind))(cs:List (Str×Addr)),(∃ c,cs.lookup y=some c)->∃ c,(Et env l cs).lookup y=some c
 | [],cs,h=>h
 |(n,k)::r,cs,h=>RX r _ (by
  split
  ·rw[List.lookup_cons];split
   ·exact⟨_,rfl⟩
   ·exact h
  ·exact h)
theorem RY:∀(l:List (Str×NameKind))(cs:List (Str×Addr)),(y,NameKind.free)∈l->∃ c,(Et env l cs).lookup y=some c
 | [],cs,h=>by cases h
 |(n,k)::r,cs,h=>by
  rcases Yo.mp h with h | h
  ·cases h;refine RX r _ ⟨(env.cells.lookup y).getD 0,?_⟩;rw[if_pos rfl,List.lookup_cons,beq_self_eq_true]
  ·exact RY r _ h
theorem RZ(nocell:∀ z∈scope.names,z.2≠.cell)(h:(relabel scope env).names.lookup y=some k)(b:k=.cell\/k=.free):(y,NameKind.free)∈scope.names:=by
 have m:=Mp h;unfold relabel at m;obtain⟨⟨n,c⟩,a,e⟩:=YC.mp m;dsimp only at e;split at e
 ·rename_i hc;cases e;simp only[YG,beq_iff_eq]at hc;rw[hc.1.1]at a;exact a
 ·cases e;rcases b with rfl | rfl
  ·exact Qk rfl (nocell _ a)
  ·exact a
theorem R1{env:Env}(a:env.scope.kind=.function):∀{names:List (Str×NameKind)}{x:Str},names.lookup x=some .free->env.kindOf x=some .cell->
  (names.map λ(n,k)=>if(k==NameKind.free&&env.scope.kind==.function&&env.kindOf n==some .cell)then(n,NameKind.cell)else(n,k)).lookup x=some .cell
 | [],_,h,_=>by cases h
 |(n,k)::r,x,h,d=>by
  rw[List.lookup_cons]at h;rw[Ym];split at h
  ·rename_i e;have g:x=n:=beq_iff_eq.mp e;subst g;cases h;have c:(NameKind.free==NameKind.free&&env.scope.kind==ScopeKind.function&&env.kindOf x==some NameKind.cell)=true:=by rw[a,d];rfl
   dsimp only;rw[if_pos c,List.lookup_cons,beq_self_eq_true]
  ·rename_i e;have i:=R1 a (names:=r) h d;rw[List.lookup_cons]
   have f:(x==(if(k==NameKind.free&&env.scope.kind==ScopeKind.function&&env.kindOf n==some NameKind.cell)=true then(n,NameKind.cell)else(n,k)).1)=false:=by
    split <;> exact e
   dsimp only at f ⊢;split
   ·rename_i b;rw[f]at b;cases b
   ·exact i
theorem HU(kind:scope.kind=.function)(names:∀ x∈scope.names,x.2=.local->scope.names.lookup x.1=some .local)(nocell:∀ y∈scope.names,y.2≠.cell)(s:∀ y∈scope.names,y.2=.free->y.1∈fr)(w:∀ y∈fr,scope.names.lookup y=some .free)(b:X.env.scope=scX)(f:scX.kind=.function)(g:X.env.cells=cellsFrom n scX.names [])(t:∀ y∈fr,scX.names.lookup y=some .cell)(r:js.map (λj=>X.N[j]?)=fr.map some):Blk X (own++fr) scope (Et X.env scope.names []) (BN own.length js):=by
 have d:∀ y∈fr,∃ c,X.env.cells.lookup y=some c:=λy a=>by
  rw[g];exact Mg (t y a)
 have p:js.length=fr.length:=by have:=Qh List.length r;simpa using this
 refine⟨?_,kind,names,nocell,λy c h=>?_,λy h=>?_,λσ i y v h1 h2 B=>?_,λσ=>by rw[MS,Yj,p]⟩
 ·have:=RV (env:=X.env) scope.names [] λy a k=>d _ (s y a k);unfold closureFor;simp only[bind_pure];exact this
 ·rcases RW _ _ h with q |⟨q1,q2⟩
  ·cases q
  ·obtain⟨D,e⟩:=d y (s _ q1 rfl);rw[e]at q2 ⊢;exact Qh some q2.symm
 ·refine RY _ _ ?_;rcases h with h | h
  ·exact RZ nocell h (.inl rfl)
  ·exact RZ nocell h (.inr rfl)
 ·obtain⟨m,j,rfl,u,A⟩:=RU h2;rw[List.getElem?_append_right (by lia)]at h1;have:own.length+m - own.length=m:=by lia
  rw[this]at h1;have a:y∈fr:=List.mem_of_getElem? h1;have q:=Qh (λl=>l[m]?) r;simp only[YN,u,h1,YD]at q;have o:X.env.scope.names.lookup y=some .cell:=by rw[b];exact t y a
  refine⟨.inl (R1 (by rw[b];exact f) (w y a) o),.inr (.inl o),(by rw[o];intro z;cases z),j,YE q,A⟩
def Cc(gi:GI)(n:Nat)(js:List Nat)(gg:GG)(gt:GT)(ge:GE):GE:=λω G Q=>gi ω G λws gd G1=>Bj gd gg gt ge (λys G2=>∀ p,G2 p=none->Q (.ref p) (put G2 p (.lst ys))) ws (BN n js ω) G1 []
theorem MT(c:gi.M)(mg:a.M)(b:gt.M)(e:ge.M):GE.M (Cc gi n js a gt ge):=λω G Q g h q=>
 c _ _ _ _ (λi f G1 z=>JA mg b e (λys G2 z p d=>h _ _ (z p d)) _ _ _ _ z) q
theorem R3{X:Cx}(F:∀(σ:St)(H:Hp)(ω:Sw)(G:Hw)(R:List W->(Hw->Prop)->Hw->Prop)(R0:It->Hp->Prop),TrSt X.K H σ ω->RelH X.K H G->gi ω G R->
   (∀ a gd G1 H1 J,R a gd G1->Mono X.K H H1->RelH X.K H1 G1->gd G1->FU X.K H1 J a gd->R0 J H1)->T σ H R0)(D:∀(x:V)(w:W)(σ:St)(ω:Sw)(H:Hp)(G:Hw)(Q:St->Hp->Prop),Tr X.K H x w->TrSt X.K H σ ω->RelH X.K H G->u w ω G (dnS X.K H Q)->g x σ H Q)(mg:u.M)(mt:gt.M)(me:ge.M)(σ:St)(H:Hp)(Q:VK)(h:up X.K (Cc gi n js u gt ge) σ H Q):
  Ju T (BN n js) g (upT X.K gt) (up X.K ge) σ H Q:=by
 obtain⟨ω,G,ts,r,q⟩:=h;refine F σ H ω G _ _ ts r q λa gd G1 H1 J z S r1 hgd L=>?_
 refine⟨λi m σ' H' Y=>m=a.length - i/\i<=a.length/\Mono X.K H1 H'/\∃ ω' l ys,TrSt X.K H' σ' ω'/\RelH X.K H' l/\TrL X.K H' Y ys/\Bj gd u gt ge (λys G2=>∀ p,G2 p=none->dn X.K H Q (.ref p) (put G2 p (.lst ys))) (a.drop i) ω' l ys,
  ⟨a.length,by simp,YU _,.refl,_,G1,[],(ts.mono S).cap n js,r1,.nil,by simpa using z⟩,?_⟩
 rintro i m σ' H' Y ⟨rfl,hle,j,ω',l,ys,O,r',tv,o⟩;have c:=Rf o;by_cases d:i < a.length
 ·have hw:∃ w,a[i]?=some w:=⟨a[i],by simp[d]⟩;obtain⟨w0,t⟩:=hw
  have ed:a.drop i=w0::a.drop (i+1):=by
   obtain⟨h',e'⟩:=YW.mp t;rw[<- e'];exact List.drop_eq_getElem_cons h'
  rw[ed]at o
  refine .inr ⟨L.go i H' l j r' c d,by rw[tv.length];exact o.2.1,λσ2 H2 s=>Mono X.K H1 H2/\∃ ω2 G2 v,TrSt X.K H2 σ2 ω2/\RelH X.K H2 G2/\TrL X.K H2 s v/\Bj gd u gt ge (λys G2=>∀ p,G2 p=none->dn X.K H Q (.ref p) (put G2 p (.lst ys))) (a.drop (i+1)) ω2 G2 v,
   (by rintro σ2 H2 s ⟨y1,y2⟩;exact⟨a.length -(i+1),by lia,rfl,d,y1,y2⟩),λx H2 y=>?_⟩
  obtain⟨I,ry,w,U,tw⟩:=L.yld i H' l x H2 j r' c y d;have j:=j.trans I;have tv:=tv.mono I;rw[t]at U;cases U;refine D x _ σ' ω' _ l _ tw (O.mono I) ry (mg _ _ _ _ _ (λω1 E z1 σ1 H3 A f r3=>?_) o.2.2);refine⟨ω1,E,f,r3,mt _ _ _ _ (λb Z z4 H4 k P=>?_) z1⟩;cases b with
  | true=>exact⟨ω1,Z,f.mono k,P,me _ _ _ _ (λy5 G5 z5 v5 H5 N t5 r5=>⟨((j.trans A).trans k).trans N,ω1,G5,_,(f.mono k).mono N,r5,(((tv.mono A).mono k).mono N).append (.cons t5 .nil),z5⟩) z4⟩
  | false=>exact⟨(j.trans A).trans k,ω1,Z,_,f.mono k,P,(tv.mono A).mono k,z4⟩
 ·have e:i=a.length:=by lia
  subst e;rw[List.drop_length]at o;exact .inl ⟨L.stop H' l j r' c,λp B=>o.2 p (r'.no B) _ _ ((S.trans j).trans (Mono.new B _)) (.ref p) (r'.new B tv)⟩
structure TgC(X:Cx)(Nc:List Str)(scope:Scope)(cl:List (Str×Addr))(tg:Expr)(gg:GG):Prop where
 ex:∃ g:TG,(∀ C fp s H,PG (cxB X Nc scope cl C fp s H) tg g)/\∀(x:V)(w:W)(σ:St)(ω:Sw)(H:Hp)(G:Hw)(Q:St->Hp->Prop),Tr X.K H x w->TrSt X.K H σ ω->RelH X.K H G->gg w ω G (dnS X.K H Q)->g x σ H Q
 mono:gg.M
theorem MU(c:Nc.Nodup)(hi:Nc[i]?=some x)(a:scope.names.lookup x=some .local):TgC X Nc scope cl (.Name x p) (gNm i) where
 ex:=⟨Di i,λC d s H=>Dj (X:=cxB X Nc scope cl C d s H) c hi (.inl (lookup_relabel_local a)) (.inr (lookup_relabel_local a)),λx w σ ω H G Q t b r q=>q _ H .refl (b.set i t) r⟩
 mono:=λ_ _ _ _ _ h q=>h _ _ q
theorem R4(hc:X.calm=true)(d:Nc.Nodup)(hi:Nc[i]?=some x)(e:scope.names.lookup x=some .local)(f:Nc[j]?=some y)(c:scope.names.lookup y=some .local):
  TgC X Nc scope cl (.Tuple [.Name x p,.Name y g] k pos) (Bi i j) where
 ex:=⟨Cl X.K 2 (BT (Di i) (BT (Di j) Ch)),λC m s H=>Jp (X:=cxB X Nc scope cl C m s H) hc (Eg (Dj d hi (.inl (lookup_relabel_local e)) (.inr (lookup_relabel_local e))) (Eg (Dj d f (.inl (lookup_relabel_local c)) (.inr (lookup_relabel_local c))) Jo)),
  λv w σ ω H G Q t n r q=>by
   unfold Bi at q;split at q
   ·rename_i a b;cases t with
    | tup h l =>
     cases l with
     | cons ta l =>
      cases l with
      | cons tb l =>
       cases l;exact⟨_,_,rfl,h,rfl,_,_,rfl,_,_,rfl,rfl,q _ H .refl ((n.set i ta).set j tb) r⟩
   ·exact q.elim⟩
 mono:=Rg
def F0(i j k:Nat):GG:=λw ω G Q=>match w with
 | .tup [a,b,c]=>Q (((ω.set i (some a)).set j (some b)).set k (some c)) G
 | _=>False
theorem gG:GG.M (F0 i j k):=λw ω G Q a h q=>by
 unfold F0 at q ⊢;split
 ·exact h _ _ q
 ·rename_i z;split at q
  ·exact(z _ _ _ rfl).elim
  ·exact q
theorem gH{K:PySem.W.Frag}(v:V)(w:W)(σ:St)(ω:Sw)(H:Hp)(G:Hw)(Q:St->Hp->Prop)(t:Tr K H v w)(ts:TrSt K H σ ω)(r:RelH K H G)(q:F0 i j k w ω G (dnS K H Q)):
  Cl K 3 (BT (Di i) (BT (Di j) (BT (Di k) Ch))) v σ H Q:=by
 unfold F0 at q;split at q
 ·cases t with
  | tup h l =>
   cases l with
   | cons ta l =>
    cases l with
    | cons tb l =>
     cases l with
     | cons tc l =>
      cases l;exact⟨_,_,rfl,h,rfl,_,_,rfl,_,_,rfl,_,_,rfl,rfl,q _ H .refl (((ts.set i ta).set j tb).set k tc) r⟩
 ·exact q.elim
section
theorem R5(hc:X.calm=true)(B:Blk X Nc scope cl (BN n js))(k:∀ x,foldedSetIterable iter X.env x=pure x)(hi:Im X tg iter gi)(c:TgC X Nc scope cl tg i)(h:∀ C fp s H,Fm (cxB X Nc scope cl C fp s H) ifs gt)(f:∀ C fp s H,Em (cxB X Nc scope cl C fp s H) elt ge):Em X (.ListComp elt [⟨tg,iter,ifs,0⟩] scope pos) (Cc gi n js i gt ge):=by
 have e:gt.M:=(h 0 [] X.s₀ X.H₀).m;have j:ge.M:=(f 0 [] X.s₀ X.H₀).m;refine⟨?_,MT hi.m c.mono e j⟩;obtain⟨l,b,hi⟩:=hi.p;obtain⟨g,a,d⟩:=c.ex;exact Bm (QW hc b B a (λC fp s H=>(h C fp s H).p) (λC fp s H=>(f C fp s H).p) k) (R3 hi d c.mono e j)
def MV(sc:Scope)(x:Str):Bool:=match sc.names.lookup x with | some .cell=>true | _=>false
theorem gI(h:MV a x=true):a.names.lookup x=some .cell:=by
 unfold MV at h;split at h
 ·assumption
 ·cases h
theorem MW(d:X.N.Nodup)(hi:X.N[i]?=some x)(f:MV X.env.scope x=true)(b:X.fn x=true)(c:swapsWith e (some (.Name x pos')) pos.line X.env=pure false)(a:Em X e ga):Sm X P (.Assign [.Name x pos'] e pos) (Aq i ga):=
 ⟨Q6 d hi (.inr (gI f)) a.m a.p c (.inl b),Mu a.m⟩
end
theorem gJ(hc:X.calm=true)(b:X.N.Nodup)(hi:X.N[i]?=some x)(l:Loc X.env.scope x)(e:X.fn x=true\/X.env.scope.names.lookup x=some .local)(d:X.N[j]?=some y)(g:Loc X.env.scope y)(c:X.fn y=true\/X.env.scope.names.lookup y=some .local)(h:X.N[k]?=some z)(m:Loc X.env.scope z)(a:X.fn z=true\/X.env.scope.names.lookup z=some .local):
  TgW X (.Tuple [.Name x p,.Name y f,.Name z p2] n pos) (F0 i j k) where
 ex:=⟨_,Jp hc (Eg (Dj b hi l e) (Eg (Dj b d g c) (Eg (Dj b h m a) Jo))),gH⟩
 mono:=gG
section
theorem gK{i:List Value}(m:IsTup s.heap t #[])(k:IsTup s.heap b i.toArray)(h1:Q (.ref b) s):wpAny (model prog w) A (binaryOp .Add (.ref t) (.ref b)) Q E s:=by
 obtain⟨⟨cls,o,data,l⟩,j,hc,n,hd⟩:=id m;obtain⟨⟨h,f,e,g⟩,d,a,n2,c⟩:=id k;simp only at hc hd a c;subst hc hd a c;exact concat_meets ⟨_,j,rfl⟩ ⟨_,d,rfl⟩ noFill_tuple_add seq_tuple_add PySem.F.slot_tuple_add PySem.F.entry_tuple_add (PySem.F.args_tuple_add_2 _ _) (tuple_addW0 t b #[] i.toArray n n2 o f l g rfl) ⟨j,d,h1⟩
end
def MX(K:PySem.W.Frag):R2:=λx y H Q=>∃ a b ys,x=.ref a/\y=.ref b/\SqT K H a []/\SqT K H b ys/\Q (.ref b) H
theorem gL:OpR X (binaryOp .Add) (MX X.K):=by
 intro pins s σ H x y v u Q I e i h;obtain⟨a,b,ys,rfl,rfl,g,d,q⟩:=h;cases e;cases i;obtain⟨f,r1,p1,_⟩:=I.tuple g;obtain⟨c,j,p2,_⟩:=I.tuple d;cases r1;exact gK p1 p2 ⟨.ref b,H,I,rfl,q⟩
def Ay:RW2:=λx y G Q=>match x,y with
 | .tup xs,.tup ys=>xs.length+ys.length<=sizeLine/\Q (.tup (xs++ys)) G
 | x,y=>Bz x y G Q
theorem MY:Ay (.tup xs) (.tup ys) G Q=(xs.length+ys.length<=sizeLine/\Q (.tup (xs++ys)) G):=rfl
theorem R6(a:¬((∃ xs,x=.tup xs)/\∃ ys,y=.tup ys)):Ay x y G Q=Bz x y G Q:=by
 cases x <;> cases y <;> first | rfl | exact Qk ⟨⟨_,rfl⟩,⟨_,rfl⟩⟩ a
theorem R7:RW2.M Ay:=λx y G Q b h q=>by
 by_cases a:(∃ xs,x=.tup xs)/\∃ ys,y=.tup ys
 ·obtain⟨⟨xs,rfl⟩,⟨ys,rfl⟩⟩:=a;exact⟨q.1,h _ _ q.2⟩
 ·rw[R6 a]at q ⊢;exact eJ _ _ _ _ _ h q
theorem gM:OpR X (binaryOp .Add) (λx y H Q=>((rI0 λi j=>.int (i+j)) x y H Q\/(∃ i j,x=.str i/\y=.str j/\i.length+j.length<=sizeLine/\Q (.str (i++j)) H)\/HC x y H Q)\/MX X.K x y H Q\/Mi X.K x y H Q):=OpR.or eK (OpR.or gL cn)
theorem gN{K:PySem.W.Frag}(x y:W)(v u:V)(G:Hw)(H:Hp)(Q:VK)(m:Tr K H v x)(ty:Tr K H u y)(r:RelH K H G)(q:Ay x y G (dn K H Q)):
  ((rI0 λi j=>.int (i+j)) v u H Q\/(∃ i j,v=.str i/\u=.str j/\i.length+j.length<=sizeLine/\Q (.str (i++j)) H)\/HC v u H Q)\/MX K v u H Q\/Mi K v u H Q:=by
 by_cases k:(∃ xs,x=.tup xs)/\∃ ys,y=.tup ys
 ·obtain⟨⟨xs,rfl⟩,⟨ys,rfl⟩⟩:=k;rw[MY]at q;cases m with
  | tup sa c =>
   cases ty with
   | tup g d =>
    rename_i a n b l;cases c with
    | nil=>exact .inr (.inl ⟨a,b,l,rfl,rfl,sa,g,by simpa using q.2 _ H .refl (.tup g d) r⟩)
    | cons h c =>
     refine .inr (.inr ⟨a,b,_,l,rfl,rfl,sa,g,by simp,?_,λe=>?_,λe p f=>?_⟩)
     ·rw[(TrL.cons h c).length,d.length];exact q.1
     ·subst e;cases d;have:=q.2 (.ref a) H .refl (by simpa using Tr.tup sa (.cons h c)) r;exact this
     ·exact q.2 _ _ (Mono.new f _) (.tup (SqT.of Ca) (((TrL.cons h c).append d).mono (Mono.new f _))) (r.mono0 f)
 ·refine .inl (eL x y v u G H Q m ty r ?_);rwa [R6 k]at q
theorem GW(c:Em X a ga)(d:Em X b gb):Em X (.BinOp a .Add b pos) (Ad Ay ga gb):=⟨GR gM R7 c.m d.m gN c.p d.p,Dy R7 c.m d.m⟩
end L3
namespace L3
open PySem PySem.Spec PyProof.Rows L2
variable {K:PySem.W.Frag}{H:Hp}
theorem TrP.lookup{α:Type}[BEq α]:∀{vs:List (α×V)}{a:List (α×W)}{f:α}{w:W},TrP K H vs a->a.lookup f=some w->∃ v,vs.lookup f=some v/\Tr K H v w
 | _,_,_,_,.nil,e=>by cases e
 | _,_,f,w,.cons (f:=g) r t,e=>by
  rw[List.lookup_cons]at e ⊢;cases b:f==g with
  | true=>rw[b]at e;cases e;exact⟨_,rfl,r⟩
  | false=>rw[b]at e;exact t.lookup e
theorem TrP.lookup0{α:Type}[BEq α]:∀{vs:List (α×V)}{a:List (α×W)}{f:α},TrP K H vs a->a.lookup f=none->vs.lookup f=none
 | _,_,_,.nil,e=>rfl
 | _,_,f,.cons (f:=g) r t,e=>by
  rw[List.lookup_cons]at e ⊢;cases b:f==g with
  | true=>rw[b]at e;cases e
  | false=>rw[b]at e;exact t.lookup0 e
theorem TrP.length{α:Type}:∀{vs:List (α×V)}{a:List (α×W)},TrP K H vs a->vs.length=a.length
 | _,_,.nil=>rfl
 | _,_,.cons _ t=>Qh (·+1) t.length
def Dk(f:Str)(v:W):List (Str×W)->List (Str×W)
 | []=>[(f,v)]
 |(g,x)::r=>if g=f then(g,v)::r else(g,x)::Dk f v r
theorem TrP.putF(q:Tr K H v w):∀{vs:List (Str×V)}{a:List (Str×W)},TrP K H vs a->TrP K H (L2.putF f v vs) (Dk f w a)
 | _,_,.nil=>.cons q .nil
 | _,_,.cons (f:=g) r t=>by
  unfold L2.putF Dk;by_cases h:g=f
  ·rw[if_pos h,if_pos h];exact .cons q t
  ·rw[if_neg h,if_neg h];exact .cons r (t.putF q)
section
variable {P:Hp->Prop}{f m:Str}{C:Addr}{ga gv:GE}{gs:GA}{ex:Xw}
def BI(C:Addr)(f:Str)(ga:GE):GE:=λω G Q=>ga ω G λx G1=>∃ a fs v,x=.ref a/\G1 a=some (.ins C fs)/\fs.lookup f=some v/\Q v G1
theorem gO(m:ga.M):GE.M (BI C f ga):=λω G Q c h q=>m _ _ _ _ ((by rintro x G1 ⟨a,fs,v,h1,h2,b,z⟩;exact⟨a,fs,v,h1,h2,b,h _ _ z⟩)) q
theorem Cd(c:Cls X.K C)(n:NoAttr X.K C f)(d:attributeBase e f X.env (eval e X.env)=eval e X.env)(b:Em X e ga):Em X (.Attribute e f pos) (BI C f ga):=by
 refine⟨Bm (bW b.p d) λσ H Q⟨ω,G,o,r,q⟩=>⟨ω,G,o,r,b.m _ _ _ _ (λx G1⟨a,fs,v,h1,h2,j,z⟩u H1 k t r1=>?_) q⟩,gO b.m⟩;subst h1;obtain⟨dx,i,h,l⟩:=r1 a _ h2;obtain⟨g,s,tv⟩:=l.lookup j;exact⟨a,C,dx,i,g,HG t,h,c,n,s,z _ H1 k tv r1⟩
def GX(C:Addr)(f:Str)(gv ga:GE):GS:=λD ω G=>gv ω G λy G1=>ga ω G1 λx G2=>∃ a fs,x=.ref a/\G2 a=some (.ins C fs)/\fs.length < 1000/\D.nx ω (put G2 a (.ins C (Dk f y fs)))
theorem gP(d:gv.M)(b:ga.M):GS.M (GX C f gv ga):=λω G D e h _ _ _ q=>d _ _ _ _ (λy G1 z=>b _ _ _ _ ((by rintro x G2 ⟨a,fs,h1,h2,c,z⟩;exact⟨a,fs,h1,h2,c,h _ _ z⟩)) z) q
theorem Mono.ins(a:H p=some (.ins C dx xs))(o:HO):Mono K H (upd H p o):=Mono.was a _ (λ_ z=>by cases z) (λ_ _ z=>by cases z)
theorem R8(c:Cls X.K C)(n:NoAttr X.K C f)(w:swapsWith value (some (.Attribute o f pos')) pos.line X.env=pure false)(e:Em X value gv)(h:Em X o ga):Sm X P (.Assign [.Attribute o f pos'] value pos) (GX C f gv ga):=by
 refine⟨λB I=>Dx (bX h.p e.p w) λD σ H⟨ω,G,i,r,F,q⟩=>⟨ω,G,i,r,e.m _ _ _ _ (λy G1 z v H1 g t r1=>⟨ω,G1,i.mono g,r1,h.m _ _ _ _ (λx G2⟨a,fs,h1,h2,A,z⟩u H2 b E j=>?_) z⟩) q⟩,gP e.m h.m⟩;subst h1;obtain⟨dx,l,d,s⟩:=j a _ h2;have k:Mono X.K H2 (upd H2 a (.ins C dx (L2.putF f v l))):=Mono.ins d _;exact⟨a,C,dx,l,HG E,d,c,n,by rw[s.length];exact A,z _ _ (((F.trans g).trans b).trans k) (((i.mono g).mono b).mono k) (j.chgI d ((TrP.putF (t.mono b) s)))⟩
def F1(C:Addr)(f:Str)(ga gv:GE):GS:=λD ω G=>ga ω G λx G1=>∃ a fs i,x=.ref a/\G1 a=some (.ins C fs)/\fs.lookup f=some (.int i)/\gv ω G1 λy G2=>∃ fs' j,y=.int j/\G2 a=some (.ins C fs')/\fs'.length < 1000/\
 D.nx ω (put G2 a (.ins C (Dk f (.int (i+j)) fs')))
theorem gQ(g:ga.M)(k:gv.M):GS.M (F1 C f ga gv):=λω G D l h _ _ _ q=>g _ _ _ _ ((by rintro x G1 ⟨a,fs,i,h1,h2,b,z⟩;exact⟨a,fs,i,h1,h2,b,k _ _ _ _ ((by rintro y G2 ⟨fs',j,c,d,e,z⟩;exact⟨fs',j,c,d,e,h _ _ z⟩)) z⟩)) q
theorem MZ(c:Cls X.K C)(n:NoAttr X.K C f)(h:Em X o ga)(s:Em X value gv):Sm X P (.AugAssign (.Attribute o f tpos) .Add value pos) (F1 C f ga gv):=by
 refine⟨λB U=>Dx (bY h.p s.p bZ) λD σ H⟨ω,G,l,r,O,q⟩=>⟨ω,G,l,r,h.m _ _ _ _ (λx G1⟨a,fs,i,h1,h2,R,z⟩u H1 g t r1=>?_) q⟩,gQ h.m s.m⟩;subst h1;obtain⟨dx,N,I,L⟩:=r1 a _ h2;obtain⟨Y,Q,tv⟩:=L.lookup R;cases tv;refine⟨a,C,dx,N,_,HG t,I,c,n,Q,ω,G1,l.mono g,r1,s.m _ _ _ _ (λy G2⟨fs',j,J,F,S,z⟩v H2 E T A=>?_) z⟩;subst J;cases T;obtain⟨b,d,k,e⟩:=A a _ F;have w:Mono X.K H2 (upd H2 a (.ins C b (L2.putF f (.int (i+j)) d))):=Mono.ins k _;exact⟨i,j,rfl,rfl,b,d,k,by rw[e.length];exact S,z _ _ (((O.trans g).trans E).trans w) (((l.mono g).mono E).mono w) (A.chgI k (e.putF (.int _)))⟩
structure DfM(P:Program)(w:World)(K:PySem.W.Frag)(mg:Str->Option Value)(base:Heap)(C:Addr)(m:Str)(k n:Nat)(sp:Spw):Prop where
 ex:∃(f:Addr)(fd:FuncData)(ps:List Str),Mf K C m f/\Binds K fd ps []/\ps.length=n/\FnOk P w K mg base (CXe P w) k f fd ps (C2 K sp)
 mono:sp.M
theorem R9{f:Addr}{σ:L2.St}(F:FnOk X.prog X.w X.K X.mg X.base CX k f fd ps sp)(i:Room k X.A)(c:Binds X.K fd ps [])(g:HD CX X Eσ)(I:Inv X pins σ H s)(r:Vals vs us)(h:sp vs H Q (Eσ σ)):wpAny (model X.prog X.w) X.A (call (.ref f) us) (EP X pins σ Q) X.xe s:=by
 have hl:(us++([]:List Value)).length=ps.length:=by rw[Yx,<- r.length];exact F.len _ _ _ _ h
 have b:=c s us I.kIn hl;rw[Yx]at b;refine wpAny_call (codeAny_mono (F.run X.A X.stack s H ⟨us,[]⟩ us vs Q (Eσ σ) i I.env0 b r h) λr s' a=>?_);cases r with
 | error e=>exact g pins σ H s e s' I a
 | ok d =>
  cases d with
  | ret u=>exact I.after a
  | next=>exact Qe a
  | brk=>exact Qe a
  | cont=>exact Qe a
def AN(C:Addr)(m:Str)(sp:Spw)(ex:Xw)(ga:GE)(gs:GA):GE:=λω G Q=>ga ω G λx G1=>∃ a fs,x=.ref a/\G1 a=some (.ins C fs)/\fs.lookup m=none/\gs ω G1 λws G2=>sp (x::ws) G2 Q (ex ω)
theorem Sa(b:sp.M)(d:ga.M)(mg:gs.M):GE.M (AN C m sp ex ga gs):=λω G Q e h q=>d _ _ _ _ ((by rintro x G1 ⟨a,fs,h1,h2,c,z⟩;exact⟨a,fs,h1,h2,c,mg _ _ _ _ (λf G2 z=>b _ _ _ _ _ _ h (λ_ _ z=>z) z) z⟩)) q
theorem BJ(c:Cls X.K C)(D:DfM X.prog X.w X.K X.mg X.base C m k n sp)(hr:Room k X.A)(Z:Ej X ex)(j:starEach (e::es) X.env=(false,eval e X.env)::starEach es X.env)(b:(backTo pos (starEach es X.env)).any (·.1)=false)(ht:eval (.Call (.Attribute o m apos) (e::es) [] pos) X.env=(do
   let ov <- eval o X.env
   standAt apos.atName
   let(f,first) <- holding [ov] (getMethod ov m pl)
   callWith pos f first (backTo pos (starEach (e::es) X.env)) (backToKw pos (keywordEach [] X.env))))(B:Em X o ga)(i:Am X (e::es) gs):Em X (.Call (.Attribute o m apos) (e::es) [] pos) (AN C m sp ex ga gs):=by
 refine⟨λpins s σ H Q I h=>?_,Sa D.mono B.m i.m⟩;obtain⟨ω,G,E,r,q⟩:=h;obtain⟨f,fd,ps,O,P,_,F⟩:=D.ex;refine PySem.W.methodCall_KW (pl:=pl) (thn (B.p pins s σ H (λx H1=>∃ a dx fs,x=.ref a/\H1 a=some (.ins C dx fs)/\fs.lookup m=none/\(upA X.K gs) σ H1 λvs H2=>C2 X.K sp (x::vs) H2 Q (upX X.K ex σ)) I ⟨ω,G,E,r,B.m _ _ _ _ (λx G1⟨a,fs,h1,h2,h3,z⟩u H1 g t r1=>?_) q⟩) λu Y⟨x,H1,J,U,a,dx,fs,d,R,l,q⟩=>?_) ht;rotate_left
 ·subst h1;obtain⟨dx,vs,T,tp⟩:=r1 a _ h2;refine⟨a,dx,vs,HG t,T,tp.lookup0 h3,ω,G1,E.mono g,r1,i.m _ _ _ _ (λws G2 z us H2 v y S=>?_) z⟩;refine⟨.ref a::ws,G2,.cons (t.mono v) y,S,D.mono _ _ _ _ _ _ (λw L z=>CC (g.trans v) z) (λC L z H3 m3 r3=>?_) z⟩;exact⟨C,ω,L,rfl,((E.mono g).mono v).mono m3,r3,z⟩
 ·subst d;obtain rfl:u=Value.ref a:=U;refine Qx J R c O l ?_;refine PySem.W.callWith_K (first:=[.ref a]) (h₀:=X.base) I.ok.mod.kin O.kp (thn (i.p pos pins Y σ H1 _ J q) λus s2⟨vs,H2,N,r,q2⟩=>⟨N.kIn,?_⟩) j b;exact R9 (us:=.ref a::us) (vs:=.ref a::vs) F hr P Z N (.cons rfl r) q2
theorem E9(c:Cls X.K C)(D:DfM X.prog X.w X.K X.mg X.base C m k n sp)(O:Room k X.A)(L:Ej X ex)(N:eval (.Call (.Attribute o m apos) [] [] pos) X.env=(do
   let ov <- eval o X.env
   standAt apos.atName
   let(f,first) <- holding [ov] (getMethod ov m pl)
   callWith pos f first (backTo pos (starEach [] X.env)) (backToKw pos (keywordEach [] X.env))))(e:Em X o ga):Em X (.Call (.Attribute o m apos) [] [] pos) (AN C m sp ex ga Ac):=by
 refine⟨λpins s σ H Q I h=>?_,Sa D.mono e.m Mt⟩;obtain⟨ω,G,v,r,q⟩:=h;obtain⟨f,fd,ps,j,y,_,F⟩:=D.ex;refine PySem.W.methodCall_KW (pl:=pl) (thn (e.p pins s σ H (λx H1=>∃ a dx fs,x=.ref a/\H1 a=some (.ins C dx fs)/\fs.lookup m=none/\C2 X.K sp [x] H1 Q (upX X.K ex σ)) I ⟨ω,G,v,r,e.m _ _ _ _ (λx G1⟨a,fs,h1,h2,S,z⟩u H1 g t r1=>?_) q⟩) λu Y⟨x,H1,d,J,a,dx,fs,b,B,l,q⟩=>?_) N;rotate_left
 ·subst h1;obtain⟨dx,vs,E,P⟩:=r1 a _ h2;refine⟨a,dx,vs,HG t,E,P.lookup0 S,[.ref a],G1,.cons t .nil,r1,D.mono _ _ _ _ _ _ (λw i z=>CC g z) (λC i z U T R=>?_) z⟩;exact⟨C,ω,i,rfl,(v.mono g).mono T,R,z⟩
 ·subst b;obtain rfl:u=Value.ref a:=J;refine Qx d B c j l ?_;exact PySem.W.callWith_K0 (first:=[.ref a]) d.kIn j.kp (R9 (us:=[.ref a]) (vs:=[.ref a]) F O y L d (.cons rfl .nil) q)
end
section
variable {P:Hp->Prop}{f:Str}{C:Addr}{gs:GA}{ex:Xw}
structure DfI(P:Program)(w:World)(K:PySem.W.Frag)(mg:Str->Option Value)(base:Heap)(x:Str)(C:Addr)(k n:Nat)(sp:Spw):Prop where
 ex:∃(f:Addr)(fd:FuncData)(ps:List Str),mg x=some (.ref C)/\Mk K C f/\Binds K fd ps []/\ps.length=n/\FnOk P w K mg base (CXe P w) k f fd ps (C2 K sp)
 mono:sp.M
def GY(C:Addr)(sp:Spw)(ex:Xw)(gs:GA):GE:=λω G Q=>gs ω G λws G1=>∀ x,G1 x=none->sp (.ref x::ws) (put G1 x (.ins C [])) (λv G2=>v=.non/\Q (.ref x) G2) (ex ω)
theorem gR(b:sp.M)(mg:gs.M):GE.M (GY C sp ex gs):=λω G Q c h q=>mg _ _ _ _ (λd G1 z x a=>b _ _ _ _ _ _ (λv G2 z=>⟨z.1,h _ _ z.2⟩) (λ_ _ z=>z) (z x a)) q
variable {H H2:Hp}{X:Cx}{o:Expr}{f:Str}{C:Addr} in
theorem gS{CX:CXT}{k:Nat}{f:Addr}{fd:FuncData}{ps:List Str}{sp:Sp}{Eσ:L2.St->XK}{pins:List (Addr×Obj)}{σ:L2.St}{H:Hp}{s:Shared}{Q:VK}{us:List Value}{vs:List V}(M:Mk X.K C f)(F:FnOk X.prog X.w X.K X.mg X.base CX k f fd ps sp)(o:Room (k+1) X.A)(i:Binds X.K fd ps [])(n:HD CX X Eσ)
  (I:Inv X pins σ H s) (r:Vals vs us)
  (h:∀ x dx,H x=none->H dx=none->dx≠x->sp (.ref x::vs) (upd (upd H dx (.own x)) x (.ins C dx [])) (λv H2=>v=.non/\Q (.ref x) H2) (Eσ σ)):
  wpAny (model X.prog X.w) X.A (call (.ref C) us) (EP X pins σ Q) X.xe s:=by
 have g:=h (s.heap.objs.size+1) s.heap.objs.size (I.hok.fresh (Nat.le_succ _)) (I.hok.fresh (Yr _)) (Ys (Nat.lt_succ_self _));have c:=Inv.made (C:=C) I;have d:Vals (V.ref (s.heap.objs.size+1)::vs) (Value.ref (s.heap.objs.size+1)::us):=.cons rfl r
 have hl:(Value.ref (s.heap.objs.size+1)::us++([]:List Value)).length=ps.length:=by
  have e:=d.length;rw[F.len _ _ _ _ g]at e;rw[Yx];exact e.symm
 have b:=i _ (Value.ref (s.heap.objs.size+1)::us) c.kIn hl;rw[Yx]at b
 refine wpAny_call (bQ (f:=f) I.kIn M.makes M.init (beq_iff_eq.mp M.fn) (codeAny_mono (F.run _ X.stack _ _ ⟨Value.ref (s.heap.objs.size+1)::us,[]⟩ (Value.ref (s.heap.objs.size+1)::us) _ _ (Eσ σ) (o.make C us [])
  (c.env0.make C us []) b d g) λr s' a=>?_))
 cases r with
 | error e=>exact n pins σ _ _ e s' c a
 | ok m =>
  cases m with
  | ret u =>
   obtain⟨v,H',l,j,ev,q3⟩:=c.after a;subst ev;exact⟨j,⟨V.ref (s.heap.objs.size+1),H',l,rfl,q3⟩⟩
  | next=>exact Qe a
  | brk=>exact Qe a
  | cont=>exact Qe a
theorem gT(D:DfI X.prog X.w X.K X.mg X.base x C k n sp)(U:Room (k+1) X.A)(hg:Gl X x)(T:Ej X ex)(u:(x==("__debug__":Str))=false)(Z:starEach (e::es) X.env=(false,eval e X.env)::starEach es X.env)(d:(backTo pos (starEach es X.env)).any (·.1)=false)(g:Am X (e::es) gs):Em X (.Call (.Name x p) (e::es) [] pos) (GY C sp ex gs):=by
 refine⟨λpins s σ H Q I h=>?_,gR D.mono g.m⟩;obtain⟨ω,G,O,r,q⟩:=h;obtain⟨f,fd,ps,hm,M,P,_,F⟩:=D.ex;refine wpAny_Call_Name_kw (GJ I hg hm ?_ u)
 refine PySem.W.callWith_K (h₀:=X.base) I.ok.mod.kin M.kp (thn (g.p pos pins s σ H (λl H1=>∀ x dx,H1 x=none->H1 dx=none->dx≠x->C2 X.K sp (.ref x::l) (upd (upd H1 dx (.own x)) x (.ins C dx [])) (λv H2=>v=.non/\Q (.ref x) H2) (upX X.K ex σ)) I
  ⟨ω,G,O,r,g.m _ _ _ _ (λY G1 z l H1 E y r1 x dx N a B=>?_) q⟩) (by rintro us s1 ⟨l,H1,J,r,q⟩;exact⟨J.kIn,gS M F U P T J r q⟩)) Z d
 have j:Mono X.K H1 (upd H1 dx (.own x)):=Mono.new a _;have i:(upd H1 dx (.own x)) x=none:=by rw[A9 (λe=>B e.symm)];exact N
 have b:Mono X.K (upd H1 dx (.own x)) (upd (upd H1 dx (.own x)) x (.ins C dx [])):=Mono.new i _;refine⟨.ref x::Y,put G1 x (.ins C []),.cons (.ref x) ((y.mono j).mono b),(r1.mono0 a).laid b ⟨dx,[],Ca,.nil⟩,D.mono _ _ _ _ _ _ (λw L z v R c t o=>?_) (λC L z R c o=>?_) (z x (r1.no N))⟩
 ·obtain⟨S,z⟩:=z;subst S;cases t;exact⟨rfl,z _ _ (((E.trans j).trans b).trans c) (.ref x) o⟩
 ·exact⟨C,ω,L,rfl,(((O.mono E).mono j).mono b).mono c,o,z⟩
end
def FnM(K:PySem.W.Frag)(C:Addr)(st:Stmt)(m qual:Str)(ps:List Str):Prop:=∃ f fd,Mf K C m f/\Fun K m qual st f fd/\Binds K fd ps []
def FnI(K:PySem.W.Frag)(mg:Str->Option Value)(x:Str)(C:Addr)(st:Stmt)(qual:Str)(ps:List Str):Prop:=∃ f fd,mg x=some (.ref C)/\Mk K C f/\Fun K "__init__" qual st f fd/\Binds K fd ps []
section
theorem JN{st:Stmt}(F:Fun K m qual st f fd)(v:ps.length=n)(S:Az N ps (Ak st))(len:∀ c G Q E,sp c G Q E->c.length=n)(l:∀{f:Addr}{cdv:Value}{A:Around}{outer:List Env}{s:Shared}{H:Hp}{E:XK},Room k (A.deeper (envOfC qual (Ak st) s.heap.objs.size f cdv))->Ssm (cxW P w K mg base N qual (Ak st) f cdv A outer s H E).nox (λB=>B=H) (AO st) g)(ok:∀ c G(Q:Kw)(E:Addr->Hw->Prop),Kw.C Q->sp c G Q E->g (Ax Q) (Bn N c) G):FnOk P w K mg base (CXe P w) (k+1) f fd ps (C2 K sp):=by
 obtain⟨I,J,kV,o,pm,y,cdv,ct,x,rfl,j,d⟩:=F.ex;refine GP j d S ((by rintro i H Q E ⟨c,G,t,r,q⟩;rw[t.length,v];exact len c G _ _ q)) λA outer s H i Q E u e=>?_;obtain⟨c,G,t,r,q⟩:=e;have D:=l (cdv:=cdv) (outer:=outer) (H:=H) (E:=E) u;refine⟨_,(D.p H rfl).nox,Bn N c,G,HE t,r,.refl,?_⟩;exact D.m _ _ (Ax (dn K H Q)) _ (λa b z σ H2 m L h=>z _ H2 m Tr.non h) (λa b z=>z) (λa b z=>z.elim) (λa b z=>z.elim) (ok c G _ _ HF q)
theorem gU{st:Stmt}{g:(Addr->Hw->Prop)->GS}(F:Fun K m qual st f fd)(v:ps.length=n)(S:Az N ps (Ak st))(len:∀ c G Q E,sp c G Q E->c.length=n)(l:∀{f:Addr}{cdv:Value}{A:Around}{outer:List Env}{s:Shared}{H:Hp}{E:XK},Room k (A.deeper (envOfC qual (Ak st) s.heap.objs.size f cdv))->Ssm (cxW P w K mg base N qual (Ak st) f cdv A outer s H E) (λB=>B=H) (AO st) (g (dnX K H E)))(ok:∀ c G(Q:Kw)(E:Addr->Hw->Prop),Kw.C Q->Xc E->sp c G Q E->g E (Ax Q) (Bn N c) G):FnOk P w K mg base (CXe P w) (k+1) f fd ps (C2 K sp):=by
 obtain⟨I,J,kV,o,pm,y,cdv,ct,x,rfl,j,d⟩:=F.ex;refine GP j d S ((by rintro i H Q E ⟨c,G,t,r,q⟩;rw[t.length,v];exact len c G _ _ q)) λA outer s H i Q E u e=>?_;obtain⟨c,G,t,r,q⟩:=e;have D:=l (cdv:=cdv) (outer:=outer) (H:=H) (E:=E) u;refine⟨_,D.p H rfl,Bn N c,G,HE t,r,.refl,?_⟩;exact D.m _ _ (Ax (dn K H Q)) _ (λa b z σ H2 m L h=>z _ H2 m Tr.non h) (λa b z=>z) (λa b z=>z.elim) (λa b z=>z.elim) (ok c G _ _ HF Q5 q)
theorem JO{st:Stmt}(Fx:FnM K C st m qual ps)(c:ps.length=n)(S:Az N ps (Ak st))(b:sp.M)(len:∀ a G Q E,sp a G Q E->a.length=n)(e:∀{f:Addr}{cdv:Value}{A:Around}{outer:List Env}{s:Shared}{H:Hp}{E:XK},Room k (A.deeper (envOfC qual (Ak st) s.heap.objs.size f cdv))->Ssm (cxW P w K mg base N qual (Ak st) f cdv A outer s H E).nox (λB=>B=H) (AO st) g)(ok:∀ a G(Q:Kw)(E:Addr->Hw->Prop),Kw.C Q->sp a G Q E->g (Ax Q) (Bn N a) G):DfM P w K mg base C m (k+1) n sp:=by
 obtain⟨f,fd,h1,F,d⟩:=Fx;exact⟨⟨f,fd,ps,h1,d,c,JN F c S len e ok⟩,b⟩
theorem Sb{st:Stmt}{g:(Addr->Hw->Prop)->GS}(Fx:FnM K C st m qual ps)(c:ps.length=n)(S:Az N ps (Ak st))(b:sp.M)(len:∀ a G Q E,sp a G Q E->a.length=n)(e:∀{f:Addr}{cdv:Value}{A:Around}{outer:List Env}{s:Shared}{H:Hp}{E:XK},Room k (A.deeper (envOfC qual (Ak st) s.heap.objs.size f cdv))->Ssm (cxW P w K mg base N qual (Ak st) f cdv A outer s H E) (λB=>B=H) (AO st) (g (dnX K H E)))(ok:∀ a G(Q:Kw)(E:Addr->Hw->Prop),Kw.C Q->Xc E->sp a G Q E->g E (Ax Q) (Bn N a) G):DfM P w K mg base C m (k+1) n sp:=by
 obtain⟨f,fd,h1,F,d⟩:=Fx;exact⟨⟨f,fd,ps,h1,d,c,gU F c S len e ok⟩,b⟩
theorem gW{st:Stmt}(Fx:FnI K mg x C st qual ps)(c:ps.length=n)(S:Az N ps (Ak st))(b:sp.M)(len:∀ a G Q E,sp a G Q E->a.length=n)(e:∀{f:Addr}{cdv:Value}{A:Around}{outer:List Env}{s:Shared}{H:Hp}{E:XK},Room k (A.deeper (envOfC qual (Ak st) s.heap.objs.size f cdv))->Ssm (cxW P w K mg base N qual (Ak st) f cdv A outer s H E).nox (λB=>B=H) (AO st) g)(ok:∀ a G(Q:Kw)(E:Addr->Hw->Prop),Kw.C Q->sp a G Q E->g (Ax Q) (Bn N a) G):DfI P w K mg base x C (k+1) n sp:=by
 obtain⟨f,fd,h,h1,F,d⟩:=Fx;exact⟨⟨f,fd,ps,h,h1,d,c,JN F c S len e ok⟩,b⟩
end
def isStr(o:W)(_:Hw):Prop:=∃ x,o=.str x
theorem Sd(t:Tr K H v o)(h:isStr o G):tyV K "str" v H:=by
 obtain⟨x,rfl⟩:=h;cases t;rfl
def HV(o:W)(ws:List W)(G:Hw)(Q:Kw):Prop:=match o,ws with
 | .str x,[.str y]=>Q (.bl (Txt.startswith x y)) G
 | .str x,[.str y,.int i]=>Q (.bl (Txt.startswith3 x y i)) G
 | _,_=>False
theorem Se(q:HV o a G Q):∃ x y,o=.str x/\((a=[.str y]/\Q (.bl (Txt.startswith x y)) G)\/∃ i,a=[.str y,.int i]/\Q (.bl (Txt.startswith3 x y i)) G):=by
 unfold HV at q;split at q
 ·exact⟨_,_,rfl,.inl ⟨rfl,q⟩⟩
 ·exact⟨_,_,rfl,.inr ⟨_,rfl,q⟩⟩
 ·exact q.elim
def gX:V->List V->Hp->VK->Prop:=λv vs H Q=>∃ x y,v=.str x/\((vs=[.str y]/\Q (.bl (Txt.startswith x y)) H)\/∃ i,vs=[.str y,.int i]/\Q (.bl (Txt.startswith3 x y i)) H)
theorem gY:MtR X "str.startswith" gX:=by
 intro pins s σ H x g v f Q I d c h;obtain⟨x,y,rfl,h⟩:=h;obtain⟨t,rfl⟩:=d;rcases h with⟨rfl,q⟩|⟨i,rfl,q⟩
 ·obtain⟨u,rfl,b⟩:=c.one;obtain⟨e,rfl⟩:=b;exact SC.startswith ⟨.bl _,H,I,rfl,q⟩
 ·obtain⟨u,j,rfl,b,a⟩:=Jr c;obtain⟨e,rfl⟩:=b;obtain⟨k,rfl⟩:=a;exact SC.startswith3 ⟨.bl _,H,I,rfl,q⟩
theorem Sf:Mth X "str" "startswith" "str.startswith" isStr HV where
 pa:=PySem.F.plainAttrs_str
 slot:=PySem.F.slot_str_startswith
 ty:=PySem.F.type_str_startswith
 ex:=⟨_,gY,λo c v f G H Q tv a r q=>by
  obtain⟨x,y,rfl,h⟩:=Se q;cases tv;rcases h with⟨rfl,q⟩|⟨i,rfl,q⟩
  ·cases a with
   | cons b a=>cases a;cases b;exact⟨x,y,rfl,.inl ⟨rfl,q _ H .refl (.bl _) r⟩⟩
  ·cases a with
   | cons b a =>
    cases a with
    | cons d a=>cases a;cases b;cases d;exact⟨x,y,rfl,.inr ⟨i,rfl,q _ H .refl (.bl _) r⟩⟩⟩
 pr:=λo v G H t r h=>Sd t h
 m:=λo c G Q e h q=>by
  obtain⟨x,y,rfl,z⟩:=Se q;rcases z with⟨rfl,z⟩|⟨i,rfl,z⟩
  ·exact h _ _ z
  ·exact h _ _ z
def F2:List W->Option (List Str)
 | []=>some []
 | .str x::ws=>(F2 ws).map (x::·)
 | _::_=>none
theorem Sh{s:Shared}:∀{vs:List V}{b:List W}{ys:List Str}{us:List Value},TrL K H vs b->F2 b=some ys->Vals vs us->StrsAre us ys
 | _,_,_,_,.nil,e,.nil=>by cases e;exact .nil
 | _,_,_,_,.cons (w:=w) r t,e,.cons c a=>by
  cases w with
  | str x =>
   unfold F2 at e;obtain⟨zs,d,rfl⟩:=YQ.mp e;cases r;obtain⟨tk,rfl⟩:=c;exact .cons x tk (Sh (s:=s) t d a)
  | _=>cases e
theorem Si(f:α->Str):∀ l:List α,F2 (l.map λa=>.str (f a))=some (l.map f)
 | []=>rfl
 | a::l=>by
  show(F2 (l.map λa=>.str (f a))).map (f a::·)=_;rw[Si f l];rfl
def Eu(o:W)(ws:List W)(G:Hw)(Q:Kw):Prop:=∃ x w xs ys,o=.str x/\ws=[w]/\rdL G w=some xs/\F2 xs=some ys/\(ys.map (·.length)).sum+ys.length*x.length<=16777216/\Q (.str (Txt.join x ys)) G
def gZ(K:PySem.W.Frag):V->List V->Hp->VK->Prop:=λv vs H Q=>∃ x a us ws ys,v=.str x/\vs=[.ref a]/\SqL K H a us/\TrL K H us ws/\F2 ws=some ys/\(ys.map (·.length)).sum+ys.length*x.length<=16777216/\Q (.str (Txt.join x ys)) H
theorem g5:MtR X "str.join" (gZ X.K):=by
 intro pins s σ H x j v i Q I c b h;obtain⟨x,a,g,l,ys,rfl,rfl,sq,t,e,hw,q⟩:=h;obtain⟨tk,rfl⟩:=c;obtain⟨u,rfl,d⟩:=b.one;cases d;obtain⟨f,r,pl,_⟩:=I.list sq;refine join_list pl.isList ?_ hw λt' k=>⟨.str _,H,I.tok k,⟨t',rfl⟩,q⟩;have:=Sh (s:=s) t e r;simpa using this
theorem Sj:Mth X "str" "join" "str.join" isStr Eu where
 pa:=PySem.F.plainAttrs_str
 slot:=PySem.F.slot_str_join
 ty:=PySem.F.type_str_join
 ex:=⟨_,g5,λo i v l G H Q tv b r q=>by
  obtain⟨x,w,xs,ys,rfl,rfl,d,c,hw,q⟩:=q;cases tv;cases b with
  | cons k b =>
   cases b;obtain⟨a,e,rfl,sq,tl⟩:=RJ r k d;exact⟨x,a,e,xs,ys,rfl,rfl,sq,tl,c,hw,q _ H .refl (.str _) r⟩⟩
 pr:=λo v G H t r h=>Sd t h
 m:=(by rintro o i G Q n h ⟨x,w,xs,ys,h1,h2,f,g,j,q⟩;exact⟨x,w,xs,ys,h1,h2,f,g,j,h _ _ q⟩)
end L3
namespace HT
open PySem PySem.Spec PyProof.Rows
section
theorem getItem_tuple_whole{lo:Option Int}(a:IsTup s.heap t items)(i:s.heap.IsSliceOf f vl g .none)(pl:IsPart vl lo)(k:IsPart g hi)(hw:sIx items.size 0 lo=0/\sIx items.size items.size hi=items.size)(h:Q (.ref t) s):wpAny (model prog w) A (getItem (.ref t) (.ref f)) Q E s:=by
 obtain⟨os,c,e,j⟩:=id i;have d:s.TypeIs (.ref f) "slice":=⟨os,c,e⟩;unfold getItem
 try with_reducible refine wpAny_holding ?_
 first | refine Ql (Qm ?_)| skip
 refine Ql (wpAny_sequenceKey a.typeIs (by decide) ?_)
 refine Ql (wpAny_callSpecial?_slot (name:=Str.ofString "__getitem__") a.typeIs PyProof.Rows.slot_tuple_getitem
  (wpAny_call_entry PyProof.Rows.slot_tuple_getitem a.typeIs entry_tuple_getitem ?_ (args_tuple_getitem _ _)))
 show wpAny _ _ (Builtin.Tuple.tupleItemsOf (.ref t) >>=_) _ _ s;refine Ql (tupleItemsOf_ a ?_);refine Ql (wpAny_typeOf d ?_);rw[if_pos (by decide)];refine Ql (QI i pl k ?_)
 have b:(((sIx items.size 0 lo:Nat):Int)==0&&(1:Int)==1&&(sIx items.size items.size hi - sIx items.size 0 lo)==items.size)=true:=by
  rw[hw.1,hw.2];simp
 show wpAny _ _ (if(((sIx items.size 0 lo:Nat):Int)==0&&(1:Int)==1&&(sIx items.size items.size hi - sIx items.size 0 lo)==items.size)=true then _ else _) _ _ s;rw[if_pos b];have l:=a.typeIs;unfold Builtin.Tuple.tupleIsExact
 repeat (any_goals (first | assumption | wp_step))
 exact⟨_,rfl,Qm h⟩
end
end HT
namespace L3
open PySem PySem.Spec PyProof.Rows L2
variable {K:PySem.W.Frag}{H:Hp}
def Sk(K:PySem.W.Frag):V->Option Int->Option Int->Hp->VK->Prop:=λx lo hi H Q=>∃ a xs,x=.ref a/\SqT K H a xs/\(HT.sIx xs.length 0 lo=0/\HT.sIx xs.length xs.length hi=xs.length)/\Q (.ref a) H
theorem g6:SlR X (Sk X.K):=by
 intro pins s σ H x v vl j lo hi k Q I f e pl i h;obtain⟨a,xs,rfl,g,hw,q⟩:=h;cases f;obtain⟨c,r,d,l⟩:=I.tuple g;have b:c.toArray.size=xs.length:=by rw[Yn];exact r.length.symm
 refine⟨"tuple",_,PyProof.Rows.slot_tuple_getitem.lookup,d.typeIs,?_⟩;exact HT.getItem_tuple_whole d e pl i (by rw[b];exact hw) ⟨.ref a,H,I,rfl,q⟩
def Sl:V->Option Int->Option Int->Hp->VK->Prop:=λx lo hi H Q=>∃ z,x=.str z/\z.length<=sizeLine/\Q (.str (Txt.slice z lo hi)) H
theorem g7:SlR X Sl:=by
 intro pins s σ H x v vl o lo hi p Q I m g pl f h;obtain⟨z,rfl,e,q⟩:=h;obtain⟨t,rfl⟩:=m;obtain⟨os,a,b,c⟩:=id g;refine⟨"str",_,F.slot_str_getitem.lookup,typeIs_str _ _ _,?_⟩;have d:∀ t' k,EP X pins σ Q (.str (Txt.slice z lo hi) t') {s with toks:=k}:=λt' k=>⟨.str _,H,I.tok k,⟨t',rfl⟩,q⟩;cases pl with
 | none =>
  cases f with
  | none=>exact wpAny_getItem_str_slice (l:=none) (u:=none) (st:=none) ⟨os,a,b,c⟩ rfl (post_val_or_str ⟨Yt (Txt.slice_le z _ _) e,d⟩)
  | int j u=>exact wpAny_getItem_str_slice (l:=none) (u:=some (j,u)) (st:=none) ⟨os,a,b,c⟩ rfl (post_val_or_str ⟨Yt (Txt.slice_le z _ _) e,d⟩)
 | int i u =>
  cases f with
  | none=>exact wpAny_getItem_str_slice (l:=some (i,u)) (u:=none) (st:=none) ⟨os,a,b,c⟩ rfl (post_val_or_str ⟨Yt (Txt.slice_le z _ _) e,d⟩)
  | int j n=>exact wpAny_getItem_str_slice (l:=some (i,u)) (u:=some (j,n)) (st:=none) ⟨os,a,b,c⟩ rfl (post_val_or_str ⟨Yt (Txt.slice_le z _ _) e,d⟩)
def slA(w:W)(lo hi:Option Int)(G:Hw)(Q:Kw):Prop:=match w with
 | .tup xs=>Q (.tup (Cm xs lo hi)) G
 | .str z=>z.length<=sizeLine/\Q (.str (Txt.slice z lo hi)) G
 | w=>slW w lo hi G Q
theorem Sn{lo:Option Int}(h:∀ w G',Q w G'->c w G')(q:slA w lo hi G Q):slA w lo hi G c:=by
 cases w with
 | tup xs=>exact h _ _ q
 | str z=>exact⟨q.1,h _ _ q.2⟩
 | non=>exact Qe q
 | bl b=>exact Qe q
 | int i=>exact Qe q
 | rol xs=>exact JG (w:=.rol xs) (lo:=lo) (hi:=hi) (G:=G) h q
 | ref a=>exact JG (w:=.ref a) (lo:=lo) (hi:=hi) (G:=G) h q
theorem g8{lo:Option Int}(t:Tr K H v w)(r:RelH K H G)(q:slA w lo hi G (dn K H Q)):((Mh K v lo hi H Q\/Mo K v lo hi H Q)\/Sk K v lo hi H Q)\/Sl v lo hi H Q:=by
 cases t with
 | tup h l =>
  rename_i a d c;by_cases hw:HT.sIx c.length 0 lo=0/\HT.sIx c.length c.length hi=c.length
  ·refine .inl (.inr ⟨a,d,rfl,h,by rw[l.length];exact hw,?_⟩);refine q _ H .refl ?_ r;have e:Cm c lo hi=c:=by unfold Cm;rw[hw.1,hw.2];simp
   rw[e];exact .tup h l
  ·exact .inl (.inl (JH (.tup h l) r ⟨hw,q⟩))
 | str z=>exact .inr ⟨z,rfl,q.1,q.2 _ H .refl (.str _) r⟩
 | non=>exact Qe q
 | bl b=>exact Qe q
 | int i=>exact Qe q
 | rol h l=>exact .inl (.inl (JH (.rol h l) r q))
 | ref a=>exact .inl (.inl (JH (.ref a) r q))
section
variable {ga:GE}
def B4(ga:GE)(gl gh:GO):GE:=λω G Q=>ga ω G λw G1=>gl ω G1 λlo G2=>gh ω G2 λhi G3=>slA w lo hi G3 Q
theorem M0{lo:Option Expr}(f:Em X e ga)(hl:Om X lo j)(b:Om X hi n):Em X (.Subscript e (.Slice lo hi none p2) pos) (B4 ga j n):=
 ⟨Bm (QJ (SlR.or (SlR.or (SlR.or QL QO) g6) g7) f.p hl.p b.p) λσ H Q⟨ω,G,i,r,q⟩=>⟨ω,G,i,r,f.m _ _ _ _ (λw G1 z v H1 d t r1=>⟨ω,G1,i.mono d,r1,hl.m _ _ _ _ (λl G2 c H2 a s=>
   ⟨ω,G2,(i.mono d).mono a,s,b.m _ _ _ _ (λh o g A k x=>g8 ((t.mono a).mono k) x (Sn (λw B z=>CC ((d.trans a).trans k) z) g)) c⟩) z⟩) q⟩,
  λω G Q y h q=>f.m _ _ _ _ (λw G1 z=>hl.m _ _ _ _ (λl G2 c=>b.m _ _ _ _ (λu o g=>Sn h g) c) z) q⟩
end
theorem StrsAre.len:∀{vs:List Value}{ys:List Str},StrsAre vs ys->vs.length=ys.length
 | _,_,.nil=>rfl
 | _,_,.cons _ _ r=>Qh (·+1) (StrsAre.len r)
section
end
def Cr:RW2:=λx y G Q=>match x,y with
 | .int i,.int j=>CMul i j/\Q (.int (i*j)) G
 | .str x,.int n=>MulOk x n/\Q (.str (Txt.mul x n)) G
 | .ref a,.int k=>(match G a with
  | some (.lst xs)=>-(2 ^ 63)<=k/\k < 2 ^ 63/\xs.length*k.toNat<=sizeLine/\∀ p,G p=none->Q (.ref p) (put G p (.lst (List.replicate k.toNat xs).flatten))
  | _=>False)
 | _,_=>False
theorem So:RW2.M Cr:=λx y G Q c h q=>by
 cases x <;> cases y <;> first | exact q | exact⟨q.1,h _ _ q.2⟩| skip
 rename_i a k;unfold Cr at q ⊢;dsimp only at q ⊢;cases e:G a with
 | none=>rw[e]at q;exact q
 | some o =>
  rw[e]at q;cases o <;> first | exact q | exact⟨q.1,q.2.1,q.2.2.1,λp b=>h _ _ (q.2.2.2 p b)⟩
def Sq:R2:=λx y H Q=>∃ z n,x=.str z/\y=.int n/\MulOk z n/\Q (.str (Txt.mul z n)) H
theorem g9:OpR X (binaryOp .Mult) Sq:=by
 intro pins s σ H x y v u Q I b a h;obtain⟨z,n,rfl,rfl,ok,q⟩:=h;obtain⟨t,rfl⟩:=b;obtain⟨c,rfl⟩:=a;exact SB.mul ok λt' k=>⟨.str _,H,I.tok k,⟨t',rfl⟩,q⟩
theorem TrL.rep(t:TrL K H vs a):∀ k:Nat,TrL K H (List.replicate k vs).flatten (List.replicate k a).flatten
 | 0=>.nil
 | k+1=>by
  rw[List.replicate_succ,List.replicate_succ,List.flatten_cons,List.flatten_cons];exact t.append (t.rep k)
theorem hA(x y:W)(v u:V)(G:Hw)(H:Hp)(Q:VK)(h:Tr K H v x)(ty:Tr K H u y)(r:RelH K H G)(q:Cr x y G (dn K H Q)):(rI CMul λi j=>.int (i*j)) v u H Q\/Sq v u H Q\/QS v u H Q:=by
 cases h with
 | int i=>cases ty <;> first | exact q.elim | exact .inl ⟨_,_,rfl,rfl,q.1,q.2 _ H .refl (.int _) r⟩
 | str z=>cases ty <;> first | exact q.elim | exact .inr (.inl ⟨_,_,rfl,rfl,q.1,q.2 _ H .refl (.str _) r⟩)
 | ref a =>
  cases ty <;> try exact q.elim
  unfold Cr at q;dsimp only at q;cases c:G a with
  | none=>rw[c]at q;exact q.elim
  | some g =>
   rw[c]at q;cases g <;> try exact q.elim
   obtain⟨f,e,d⟩:=r a _ c;exact .inr (.inr ⟨a,_,f,rfl,rfl,e,q.1,q.2.1,by rw[d.length];exact q.2.2.1,λp b=>q.2.2.2 p (r.no b) _ _ (Mono.new b _) (.ref p) (r.new b (d.rep _))⟩)
 | _=>exact q.elim
theorem Sr(c:Em X a ga)(d:Em X b gb):Em X (.BinOp a .Mult b pos) (Ad Cr ga gb):=⟨GR (OpR.or bh (OpR.or g9 cM)) So c.m d.m hA c.p d.p,Dy So c.m d.m⟩
def hD(K:PySem.W.Frag)(tl:TE):TI:=λσ H R=>tl σ H λx H1=>(∃ a,x=.ref a/\(∃ xs,SqL K H1 a xs)/\R (Itl K a) H1)\/(∃ a,x=.ref a/\(∃ xs,SqT K H1 a xs)/\R (Itt K a) H1)
theorem hE(hl:PE X l tl):PI X tg l (hD X.K tl):=by
 intro pins s σ H R I h;refine thn (hl pins s σ H _ I h) λv c i=>?_;obtain⟨x,H1,d,r1,q1⟩:=i;rcases q1 with⟨a,e,⟨xs,j⟩,q⟩|⟨a,e,⟨xs,j⟩,q⟩
 ·subst e;cases r1;obtain⟨f,k,p,m⟩:=d.list j;refine wpAny_pyIter_list p.isList ?_;refine⟨c.heap.objs.size,[c.heap.objs.size],_,_,H1,rfl,d.kept (t':=c.toks) λb o e=>Qn _ e,P5 a _,⟨_,Qp _ rfl,rfl,rfl⟩,λb g=>?_,q⟩;have e:b=c.heap.objs.size:=by simpa using g
  subst e;walk_at "pl"
 ·subst e;cases r1;obtain⟨f,k,p,m⟩:=d.tuple j;refine wpAny_pyIter_tuple (show c.heap.IsTuple a f.toArray from p) ?_;refine⟨c.heap.objs.size,[c.heap.objs.size],_,_,H1,rfl,d.kept (t':=c.toks) λb o e=>Qn _ e,P6 a _,⟨_,Qp _ rfl,rfl,rfl⟩,λb g=>?_,q⟩;have e:b=c.heap.objs.size:=by simpa using g
  subst e;walk_at "pl"
def DC(ga:GE):GI:=λω G R=>ga ω G λw G1=>match w with
 | .tup ws=>R ws yes G1
 | .rol ws=>R ws yes G1
 | .ref a=>match G1 a with | some (.lst ws)=>R ws (holds a ws) G1 | _=>False
 | _=>False
theorem hF(m:ga.M):GI.M (DC ga):=λω G R c h q=>m _ _ _ _ (λw G1 z=>by
 cases w with
 | tup b=>exact h _ _ _ z
 | rol b=>exact h _ _ _ z
 | ref a =>
  dsimp only at z ⊢;cases e:G1 a with
  | none=>rw[e]at z;exact z
  | some o =>
   rw[e]at z;cases o <;> first | exact h _ _ _ z | exact z
 | _=>exact z) q
theorem hG(hl:Em X l ga):Im X tg l (DC ga):=by
 refine⟨⟨_,hE hl.p,λσ H ω G R i g r q k=>⟨ω,G,g,r,hl.m _ _ _ _ (λw G1 z v H1 m t r1=>?_) q⟩⟩,hF hl.m⟩;cases t with
 | tup h l=>exact .inr ⟨_,rfl,⟨_,h⟩,k _ _ _ H1 _ z m r1 trivial (Rb h l)⟩
 | rol h l=>exact .inl ⟨_,rfl,⟨_,h.sq⟩,k _ _ _ H1 _ z m r1 trivial (Jz λH2 G2 b _ _=>⟨_,(b.rol _ _ h).sq,l.mono b⟩)⟩
 | ref a =>
  dsimp only at z;cases e:G1 a with
  | none=>rw[e]at z;exact z.elim
  | some o =>
   rw[e]at z;cases o with
   | lst j =>
    obtain⟨c,f,n⟩:=r1 a _ e;exact .inl ⟨a,rfl,⟨c,SqL.of f⟩,k _ _ _ H1 _ z m r1 e (Jz λH2 G2 b d g2=>let⟨c,e2,t2⟩:=d a _ g2;⟨c,SqL.of e2,t2⟩)⟩
   | _=>exact z.elim
 | _=>exact z.elim
theorem M1(F:X.N.Nodup)(f:X.N[i]?=some x)(L:HH X.env.scope x=true)(l:swapsWith (.ListComp elt [⟨tg,iter,ifs,0⟩] scope pos) (some (.Name x pos')) a.line X.env=pure true)(hc:X.calm=true)(B:Blk X Nc scope cl (BN n js))(I:∀ x,foldedSetIterable iter X.env x=pure x)(hi:Im X tg iter gi)(b:TgC X Nc scope cl tg y)(u:∀ C fp s H,Fm (cxB X Nc scope cl C fp s H) ifs gt)(A:∀ C fp s H,Em (cxB X Nc scope cl C fp s H) elt ge):
  Sm X P (.Assign [.Name x pos'] (.ListComp elt [⟨tg,iter,ifs,0⟩] scope pos) a) (Aq i (Cc gi n js y gt ge)):=by
 have e:gt.M:=(u 0 [] X.s₀ X.H₀).m;have d:ge.M:=(A 0 [] X.s₀ X.H₀).m;refine⟨λR O=>?_,Mu (MT hi.m b.mono e d)⟩;obtain⟨Q,j,c⟩:=hi.p;obtain⟨g,o,h⟩:=b.ex;refine Dx (cX (tt:=upT X.K gt) (te:=up X.K ge) F f (HI L) l hc j B o (λC fp s H=>(u C fp s H).p) (λC fp s H=>(A C fp s H).p) I) λD σ H k=>?_;obtain⟨ω,G,E,r,J,q⟩:=k;refine R3 c h b.mono e d σ H _ ⟨ω,G,E,r,MT hi.m b.mono e d _ _ _ _ (λw G1 z v H1 m t r1=>?_) q⟩;exact z _ H1 (J.trans m) ((E.mono m).set i t) r1
section
variable {H:Hp}{X:Cx}{f:Addr}{x:Str}{pos:Pos}{e:Expr} in
theorem hH{E:Value->Shared->Prop}{pins:List (Addr×Obj)}{s:Shared}{σ:St}{H:Hp}{i:Nat}{x:Str}{v:V}{pos:Pos}{Q:Value->Shared->Prop}(I:Inv X pins σ H s)(g:X.N[i]?=some x)(j:Vis X.env.scope x)(e:σ[i]?=some (some v))(hd:(x==("__debug__":Str))=false)(f:(x==("__classdict__":Str))=false)
  (b:∀ u,RelV v u->Q u s):wpAny (model X.prog X.w) X.A (eval (.Name x pos) X.env) Q E s:=by
 obtain⟨m,k,hl⟩:=I.loc;obtain⟨u,r,l⟩:=hl i x v g e j;rcases l with⟨d,h⟩|⟨d,c,hc,a⟩
 ·exact wpAny_Name (wpAny_loadName_local I.ok.kind d k h (b u r)) hd
 ·rcases d with d | d
  ·exact wpAny_Name (wpAny_loadName_cell I.ok.kind d hc a (b u r)) hd
  ·exact wpAny_Name (wpAny_loadName_free I.ok.kind d hc a (b u r) f) hd
theorem hI{Eσ:St->XK}{i:Nat}(F:FnOk X.prog X.w X.K X.mg X.base CX k f fd ps sp)(D:Room k X.A)(B:X.N[i]?=some x)(E:Vis X.env.scope x)(J:PySem.W.keepIn X.K (.ref f)=true)(o:Binds X.K fd ps [])(L:HD CX X Eσ)(z:PA X (e::es) t)(j:(x==("__debug__":Str))=false)(l:(x==("__classdict__":Str))=false)(G:starEach (e::es) X.env=(false,eval e X.env)::starEach es X.env)(d:(backTo pos (starEach es X.env)).any (·.1)=false):
  PE X (.Call (.Name x p) (e::es) [] pos) (λσ H Q=>σ[i]?=some (some (.ref f))/\QY sp [] Eσ t σ H Q):=by
 intro pins s σ H Q I ⟨hi,h⟩;refine wpAny_Call_Name_kw (hH I B E hi j l λu y=>?_);cases y;refine PySem.W.callWith_K (h₀:=X.base) I.ok.mod.kin J (thn (z pos pins s σ H _ I h) λa g⟨n,H1,b,r,q⟩=>⟨b.kIn,?_⟩) G d;have m:Vals (n++[]) (a++[]):=r.append .nil;have hl:(a++[]).length=ps.length:=by rw[<- m.length];exact F.len _ _ _ _ q
 refine wpAny_call (codeAny_mono (F.run X.A X.stack g H1 ⟨a,[]⟩ (a++[]) (n++[]) Q (Eσ σ) D b.env0 (o g a b.kIn hl) m q) λr s' c=>?_);cases r with
 | error e=>exact L pins σ H1 g e s' b c
 | ok v =>
  cases v with
  | ret u=>exact b.after c
  | next=>exact Qe c
  | brk=>exact Qe c
  | cont=>exact Qe c
end
def fAt(mg:Str->Option Value)(x:Str):Addr:=match mg x with | some (.ref f)=>f | _=>0
theorem Ss(h:mg x=some (.ref f)):fAt mg x=f:=by unfold fAt;rw[h]
section
variable {gs:GA}{ex:Xw}
def DD(i:Nat)(f:Addr)(sp:Spw)(ex:Xw)(gs:GA):GE:=λω G Q=>ω[i]?=some (some (.ref f))/\gs ω G λws G1=>sp ws G1 Q (ex ω)
theorem hJ(m:sp.M)(a:gs.M):GE.M (DD i f sp ex gs):=λω G Q b h q=>⟨q.1,a _ _ _ _ (λc G1 q1=>m _ _ _ _ _ _ h (λ_ _ z=>z) q1) q.2⟩
theorem hL(D:Df X.prog X.w X.K X.mg X.base y k n sp)(E:Room k X.A)(B:X.N[i]?=some x)(L:Vis X.env.scope x)(u:Ej X ex)(o:gs.M)(s:PAw X (e::es) gs)(c:(x==("__debug__":Str))=false)(g:(x==("__classdict__":Str))=false)(O:starEach (e::es) X.env=(false,eval e X.env)::starEach es X.env)(a:(backTo pos (starEach es X.env)).any (·.1)=false):
  PEw X (.Call (.Name x p) (e::es) [] pos) (DD i (fAt X.mg y) sp ex gs):=by
 obtain⟨f,fd,ps,P,R,m,_,F⟩:=D.ex;rw[Ss P];refine Bm (hI F E B L R m u s c g O a) λσ H Q b=>?_;obtain⟨ω,G,h,r,q0,q⟩:=b;obtain⟨v,ev,tv⟩:=h.get i _ q0;cases tv;refine⟨ev,ω,G,h,r,o _ _ _ _ (λJ G1 q1 S H1 j d r1=>?_) q⟩;refine⟨J,G1,by rw[Yx];exact d,r1,D.mono _ _ _ _ _ _ (λw l z=>CC j z) (λC l z H2 I t=>?_) q1⟩;exact⟨C,ω,l,rfl,(h.mono j).mono I,t,z⟩
theorem Su(D:Df X.prog X.w X.K X.mg X.base y k n sp)(j:Room k X.A)(hi:place X.N x=some i)(h:seen X.env.scope x=true)(g:Ej X ex)(c:(x==("__debug__":Str))=false)(b:(x==("__classdict__":Str))=false)(f:starEach (e::es) X.env=(false,eval e X.env)::starEach es X.env)(a:(backTo pos (starEach es X.env)).any (·.1)=false)(d:Am X (e::es) gs):Em X (.Call (.Name x p) (e::es) [] pos) (DD i (fAt X.mg y) sp ex gs):=⟨hL D j (eO hi) (Rj h) g d.m d.p c b f a,hJ D.mono d.m⟩
theorem JP(D:Df X.prog X.w X.K X.mg X.base x k n sp)(b:Gl X x)(hd:(x==("__debug__":Str))=false):Em X (.Name x pos) (gC (.ref (fAt X.mg x))):=by
 obtain⟨f,fd,ps,a,d,c,_,F⟩:=D.ex;rw[Ss a];exact⟨Q2 (v:=.ref f) b a rfl (λH=>.ref f) hd,GQ⟩
end
end L3
namespace L3
open PySem PySem.Spec PyProof.Rows L2
theorem hR{t:SetTable}(h1:t.place.size=n)(h2:t.dummies=#[])(a:n<=t.mask):t.fits n=true:=by
 unfold SetTable.fits SetTable.fill;rw[h2,h1];simp;exact a
section
end
section
end
section
structure Bare(led:Bool)(n:Nat)(t:SetTable):Prop where
 pl:t.place=#[]
 dm:t.dummies=#[]
 cv:Tb.cover (t.mask+1)=true
 rm:n<=t.mask
 ld:t.led=led
theorem Bare.fits(B:Bare led n t):t.fits 0=true:=hR (by rw[B.pl];rfl) B.dm (YU _)
end
section
theorem SS.ty{s:Shared}(S:SS w s.heap a ks):s.TypeIs (.ref a) "set":=by
 obtain⟨o,es,d,t,c,b,_⟩:=S;exact⟨o,c,b.1⟩
theorem SS.new{s:Shared}(S:SS w s.heap a ks)(o:Obj):SS w (s.heap.push o) a ks:=S.kept λ_ e=>Qn _ e
theorem SS.lt{s:Shared}(S:SS w s.heap a ks):a < s.heap.objs.size:=by
 obtain⟨o,es,c,t,b,_⟩:=S;exact Qo b
theorem SS.same(S:SS w h a ks)(d:a≠b)(c:Heap.SameBut b h h'):SS w h' a ks:=S.kept λo e=>by rw[c.2 a d];exact e
end
section
variable {w:World}
abbrev Itr(first:Value)(i:Nat)(a:Addr)(n ep:Nat):Obj:={cls:=.type "set_iterator",data:=.fields #[first,.int i 0,.ref a,.int n 0,.int ep 0]}
inductive Md(w:World)(a T:Addr)(es:Array (Int×Value))(ep:Nat)(t:SetTable)(l:List (Int×Value))(h:Heap):Value->Nat->Prop where
 | drawn {ps:List Nat} {oT:Obj} {c i:Nat}:h.get? T=some oT->oT.data=.seq (ps.map λp:Nat=>rawInt p).toArray c->ps.length=l.length->(∀(j p:Nat),ps[j]?=some p->∃ e,es[p]?=some e/\l[j]?=some e)->Md w a T es ep t l h (.ref T) i
 | text {k i:Nat}:bt w=true->l=(pickOrder (w.params.setOrder a ep) es).toList->Md w a T es ep t l h (.int k 0) i
 | few {k i:Nat}:bt w=false->t.led=true->es.size<=1->l=es.toList->(i=0->k=0)->(∀ j:Nat,i=1->t.place[0]?=some j->k=j+1)->Md w a T es ep t l h (.int k 0) i
theorem Md.at(M:Md w a T es d t l h v i)(k:∀ o,h.get? T=some o->h'.get? T=some o):Md w a T es d t l h' v i:=by
 cases M with
 | drawn h1 h2 b c=>exact .drawn (k _ h1) h2 b c
 | text h1 h2=>exact .text h1 h2
 | few h1 h2 b c e f=>exact .few h1 h2 b c e f
end
section
end
section
end
theorem hW{α:Type}{es:Array α}:∀{ys:List Nat},(∀ p∈ys,p < es.size)->(ys.filterMap (es[·]?)).length=ys.length/\∀(j p:Nat),ys[j]?=some p->∃ e,es[p]?=some e/\(ys.filterMap (es[·]?))[j]?=some e
 | [],_=>⟨rfl,λj p h=>by simp at h⟩
 | y::ys,h=>by
  have b:es[y]?=some (es[y]'(h y Ye)):=Array.getElem?_eq_getElem _;obtain⟨h1,h2⟩:=hW (ys:=ys) λp c=>h p (Yd _ c);rw[List.filterMap_cons,b];refine⟨by simp[h1],λj p a=>?_⟩;cases j with
  | zero =>
   simp only[Yb,Option.some.injEq]at a;subst a;exact⟨_,b,rfl⟩
  | succ j =>
   simp only[Yc]at a ⊢;exact h2 j p a
section
end
section
end
end L3
namespace L3
open PySem PySem.Spec PyProof.Rows L2
section
end
end L3
namespace L3
open PySem PySem.Spec PyProof.Rows L2
def Fa{α:Type}(kvs:List (Key×α))(x:Str)(d:α):α:=((kvs.find? λy=>decide (y.1=Sum.inr x)).map (·.2)).getD d
theorem M2{α:Type}{v d:α}{a:List (Key×α)}:Fa ((k,v)::a) x d=if k=Sum.inr x then v else Fa a x d:=by
 unfold Fa;rw[List.find?_cons];by_cases h:k=Sum.inr x
 ·simp[h]
 ·simp[h]
theorem Sv(c:RelV d r):∀{a:List (Key×V)}{vs:List (Key×Value)},KV a vs->RelV (Fa a x d) ((valueAt vs (Sum.inr x)).getD r)
 | _,_,.nil=>c
 |(k,v)::a,(g,i)::vs,.cons ⟨e,f⟩ t=>by
  have b:=Sv (x:=x) c t;cases(show k=g from e);rw[M2];unfold valueAt at b ⊢;rw[List.find?_cons];by_cases h:k=Sum.inr x
  ·simp[h];exact f
  ·simp[h];exact b
theorem Sx{K:PySem.W.Frag}(b:Tr K H d w):∀{vs:List (Key×V)}{a:List (Key×W)},TrP K H vs a->Tr K H (Fa vs x d) (Fa a x w)
 | _,_,.nil=>b
 |(k,v)::vs,(_,u)::a,.cons tv t=>by
  rw[M2,M2];split
  ·exact tv
  ·exact Sx b t
def hX(o:W)(ws:List W)(G:Hw)(Q:Kw):Prop:=∃ p kvs x d,o=.ref p/\ws=[.str x,d]/\G p=some (.dct kvs)/\Q (Fa kvs x d) G
def M3(o:W)(G:Hw):Prop:=∃ p kvs,o=.ref p/\G p=some (.dct kvs)
theorem hY:MtR X "dict.get" (λv vs H Q=>∃ p a x d,v=.ref p/\vs=[.str x,d]/\H p=some (.dK a)/\Q (Fa a x d) H):=by
 intro pins s σ H x vs v j Q I i g h;obtain⟨p,a,x,d,rfl,rfl,f,q⟩:=h;cases i;cases g with
 | cons r1 t =>
  cases t with
  | cons e t =>
   cases t;obtain⟨t,rfl⟩:=r1;obtain⟨z,hd,vs,b,c⟩:a.length<=sizeLine/\(p==sysModules)=false/\∃ vs,KV a vs/\s.heap.DictOf (CA X.prog X.w) p vs:=I.hok p _ f;refine call_meetsIn PySem.F.slot_dict_get c.typeIs PySem.F.entry_dict_get (PySem.F.args_dict_get_3 _ _ _) (meets_dict_get_default (CA X.prog X.w) p (k:=Sum.inr x) (by simp[CA,GF,Value.isStrOf]) hd _) ⟨_,c.mapOf,?_⟩;exact⟨_,H,I.tok _,Sv e b,q⟩
theorem Sy:Mth X "dict" "get" "dict.get" M3 hX where
 pa:=PySem.F.plainAttrs_dict
 slot:=PySem.F.slot_dict_get
 ty:=PySem.F.type_dict_get
 ex:=⟨_,hY,λo i v n G H Q tv f r q=>by
  obtain⟨p,a,x,d,rfl,rfl,e,q⟩:=q;cases tv;cases f with
  | cons k t =>
   cases t with
   | cons j t =>
    cases t;cases k;obtain⟨c,b,l⟩:=r p _ e;exact⟨p,c,x,_,rfl,rfl,b,q _ _ .refl (Sx j l) r⟩⟩
 pr:=λo v G H t r h=>by
  obtain⟨p,a,rfl,e⟩:=h;cases t;obtain⟨c,b,l⟩:=r p _ e;exact .inr (.inr (.inl ⟨rfl,.inl ⟨c,b⟩⟩))
 m:=(by rintro o i G Q s h ⟨p,a,x,d,h1,h2,g,q⟩;exact⟨p,a,x,d,h1,h2,g,h _ _ q⟩)
section
end
end L3
namespace L3
open PySem PySem.Spec PyProof.Rows L2
variable {K:PySem.W.Frag}{H H':Hp}
section
theorem hZ(u:s.heap.IsTupleIter a l i)(v:s.heap.IsTuple l xs)(f:xs[i]?=some x)(e:∀ h',h'.IsTupleIter a l (i+1)->Heap.SameBut a s.heap h'->Q x {s with heap:=h'}):
  wpAny (model prog w) A (Builtin.SmallTypes.nextOf (.ref a)) Q E s:=by
 obtain⟨k,c,g,b⟩:=id u;obtain⟨h,el,_,j,d⟩:=v;unfold Builtin.SmallTypes.nextOf;refine Ql (wpAny_callSpecial?_slot (name:=Str.ofString "__next__") u.typeIs PySem.F.slot_tuple_iterator_next (wpAny_call_entry PySem.F.slot_tuple_iterator_next u.typeIs PySem.F.entry_tuple_iterator_next ?_ (PySem.F.args_tuple_iterator_next_1 _)));refine Ql (m:=field (.ref a) 0) (wpAny_field c b (x:=.ref l) rfl ?_);show wpAny (model prog w) _ (if(Value.ref l==Value.none)=true then _ else _) _ E s;rw[if_neg (show ¬ ((Value.ref l==Value.none)=true)from YT)];refine Ql (m:=field (.ref a) 1) (wpAny_field c b (x:=.int i 0) rfl ?_);refine Ql (m:=seqItems? (.ref l)) (wpAny_seqItems el d ?_);simp only[Int.toNat_natCast];rw[f];refine Ql (wpAny_setField c b (by simp) (Qm ⟨x,rfl,Qm (e _ ⟨_,Heap.get?_update_self _ c (Obj.isFreed_of_fields (Obj.data_mapFields b _)),(Obj.cls_mapFields ..).trans g,?_⟩ (Qr ..))⟩));rw[Obj.data_mapFields b];simp[rawInt]
theorem ia(f:A.handled=none)(u:s.heap.IsTupleIter b l i)(v:s.heap.IsTuple l xs)(h:xs[i]?=none)(j:∀ h' e,Heap.ExtBut b s.heap h'->(∃ o,h'.get? e=some o/\o.cls=.type "StopIteration")->E (.ref e) {s with heap:=h'}):wpAny (model prog w) A (Builtin.SmallTypes.nextOf (.ref b)) Q E s:=by
 obtain⟨p,d,q,c⟩:=id u;obtain⟨k,el,_,n,g⟩:=v;unfold Builtin.SmallTypes.nextOf;refine Ql (wpAny_callSpecial?_slot (name:=Str.ofString "__next__") u.typeIs PySem.F.slot_tuple_iterator_next (wpAny_call_entry PySem.F.slot_tuple_iterator_next u.typeIs PySem.F.entry_tuple_iterator_next ?_ (PySem.F.args_tuple_iterator_next_1 _)));refine Ql (m:=field (.ref b) 0) (wpAny_field d c (x:=.ref l) rfl ?_);show wpAny (model prog w) _ (if(Value.ref l==Value.none)=true then _ else _) _ E s;rw[if_neg (show ¬ ((Value.ref l==Value.none)=true)from YT)];refine Ql (m:=field (.ref b) 1) (wpAny_field d c (x:=.int i 0) rfl ?_);refine Ql (m:=seqItems? (.ref l)) (wpAny_seqItems el g ?_);simp only[Int.toNat_natCast];rw[h];refine Ql (wpAny_rule (Ql (wpAny_setField d c (by simp) ?_)));refine Ql (m:=newExc (.type "StopIteration") []) ?_;simp only[newExc,newTuple];refine Ql (wpAny_newObj_type ?_ (by size_fits));refine Ql (m:=firstArgMember _ _) (wpAny_of_eq (a:=Value.none) (by first | rfl |(simp only[firstArgMember];rfl)) (wpAny_newObj_type ?_ (by size_fits)));simp only[raiseNew];refine Ql (wpAny_handled ?_);rw[show A.in1.handled=none from f];refine Ql (Qm (wpAny_throw ?_));exact j _ _ (((Qr ..).extBut.push _).push _) ⟨_,Qp _ rfl,rfl⟩
theorem tat{h h':Heap}(x:h.IsTupleIter a t i)(k:∀ o,h.get? a=some o->h'.get? a=some o):h'.IsTupleIter a t i:=by
 obtain⟨o,e,r⟩:=x;exact⟨o,k o e,r⟩
def itN(t:Bool):String:=bif t then "tuple_iterator" else "list_iterator"
def ItX(t:Bool)(h:Heap)(a l:Addr)(i:Nat):Prop:=∃ o,h.get? a=some o/\o.cls=.type (itN t)/\o.data=.fields #[.ref l,.int i 0]
def SqH(t:Bool)(h:Heap)(l:Addr)(xs:Array Value):Prop:=match t with | true=>h.IsTuple l xs | false=>h.IsList l xs
theorem ItX.at(x:ItX t h a l i)(k:∀ o,h.get? a=some o->h'.get? a=some o):ItX t h' a l i:=by
 obtain⟨o,e,r⟩:=x;exact⟨o,k o e,r⟩
theorem ItX.extBut(x:ItX t h a l i)(k:Heap.ExtBut b h h')(n:a≠b):ItX t h' a l i:=x.at λo e=>k a o n e
theorem SqH.at(x:SqH t h l xs)(k:∀ o,h.get? l=some o->h'.get? l=some o):SqH t h' l xs:=by
 cases t
 ·obtain⟨o,e,r⟩:=x;exact⟨o,k o e,r⟩
 ·obtain⟨o,e,r⟩:=x;exact⟨o,k o e,r⟩
theorem SqH.extBut(x:SqH t h l xs)(k:Heap.ExtBut b h h')(n:l≠b):SqH t h' l xs:=x.at λo e=>k l o n e
theorem SqH.lt(x:SqH t h l xs):l < h.objs.size:=by
 cases t
 ·obtain⟨o,e,r⟩:=x;exact Qo e
 ·obtain⟨o,e,r⟩:=x;exact Qo e
theorem M4(u:ItX t s.heap a l i)(v:SqH t s.heap l xs)(b:xs[i]?=some x)(c:∀ h',ItX t h' a l (i+1)->Heap.SameBut a s.heap h'->Q x {s with heap:=h'}):
  wpAny (model prog w) A (Builtin.SmallTypes.nextOf (.ref a)) Q E s:=by
 cases t
 ·exact wpAny_nextOf_list_item u v b c
 ·exact hZ u v b c
theorem Sz(d:A.handled=none)(u:ItX t s.heap a l i)(v:SqH t s.heap l xs)(b:xs[i]?=none)(c:∀ h' e,Heap.ExtBut a s.heap h'->(∃ o,h'.get? e=some o/\o.cls=.type "StopIteration")->E (.ref e) {s with heap:=h'}):wpAny (model prog w) A (Builtin.SmallTypes.nextOf (.ref a)) Q E s:=by
 cases t
 ·exact wpAny_nextOf_list_end d u v b c
 ·exact ia d u v b c
theorem SA(v:SqH t s.heap l xs)(a:Q (.ref s.heap.objs.size) {s with heap:=s.heap.push {cls:=.type (itN t),data:=.fields #[.ref l,.int 0 0]}}):wpAny (model prog w) A (pyIter (.ref l)) Q E s:=by
 cases t
 ·exact wpAny_pyIter_list v a
 ·exact wpAny_pyIter_tuple v a
theorem ib{TI TO:Addr}{Q:Value->Shared->Prop}(D:ZipApart z TI TO i1 i2 I F)(L:IsZip s.heap z TI TO .none)(S:IsPair s.heap TI (.ref i1) (.ref i2))(Y:IsPair s.heap TO a b)(u1:ItX t1 s.heap i1 I k1)(u2:ItX t2 s.heap i2 F k2)(v1:SqH t1 s.heap I xs)(v2:SqH t2 s.heap F ys)(hx:xs[k1]?=some x)(hy:ys[k2]?=some y)(hQ:∀ h',IsZip h' z TI TO (rawInt s.heap.objs.size)->IsPair h' TO x y->ItX t1 h' i1 I (k1+1)->ItX t2 h' i2 F (k2+1)->IsPair h' s.heap.objs.size x y->(∀ c o,c≠z->c≠TO->c≠i1->c≠i2->s.heap.get? c=some o->h'.get? c=some o)->Q (.ref s.heap.objs.size) {s with heap:=h'}):
  wpAny (model prog w) A (Builtin.«zip.__next__» ⟨[.ref z],[]⟩) (λU s'=>∃ v,U=.done (.ret v)/\Q v s') E s:=by
 refine Ql (m:=field (.ref z) 2) (wpAny_field L rfl (x:=.bool false) rfl ?_);refine Ql (m:=field (.ref z) 3) (wpAny_field L rfl (x:=.ref TI) rfl (Ql (m:=seqItems? (.ref TI)) (wpAny_seqItems S rfl ?_)));refine Ql (m:=Builtin.SmallTypes.ownedTupleIsFree (.ref z)) ?_;unfold Builtin.SmallTypes.ownedTupleIsFree;refine Ql (m:=field (.ref z) 0) (wpAny_field L rfl (x:=.none) rfl (Qm ?_));simp only[if_true];refine Ql (wpAny_rule (Ql (wpAny_field L rfl (x:=.ref TO) rfl (Ql (wpAny_setField_rec L (by simp) λP l f=>?_)))));replace l:IsZip P z TI TO .ellipsis:=l;refine Ql ?_;simp only[List.zipIdx_cons,List.zipIdx_nil,List.forIn_cons,List.forIn_nil];refine Ql (Ql (wpAny_onRaise ?_));refine Ql (m:=Builtin.SmallTypes.nextOf (.ref i1)) ?_;refine M4 (u1.extBut f.extBut D.i1z) (v1.extBut f.extBut D.l1z) hx λG w1 h=>Qm ?_;have hTO₂:IsPair G TO a b:=h.extBut _ _ D.TOi1 (f.extBut _ _ D.TOz Y);refine Ql (wpAny_seqItems hTO₂ rfl (Ql (wpAny_updateSeq_pair hTO₂ λJ hTO₃ g=>?_)));replace hTO₃:IsPair J TO x b:=hTO₃;refine Ql (wpAny_letGo (Qm ?_));refine Ql (Ql (wpAny_onRaise ?_));refine Ql (m:=Builtin.SmallTypes.nextOf (.ref i2)) ?_;refine M4 (((u2.extBut f.extBut D.i2z).extBut h.extBut D.i12.symm).extBut g.extBut D.TOi2.symm) (((v2.extBut f.extBut D.l2z).extBut h.extBut D.l2i1).extBut g.extBut D.l2TO) hy λK w2 i=>Qm ?_;have hTO₄:IsPair K TO x b:=i.extBut _ _ D.TOi2 hTO₃;refine Ql (wpAny_seqItems hTO₄ rfl (Ql (wpAny_updateSeq_pair hTO₄ λd hTO₅ j=>?_)));replace hTO₅:IsPair d TO x y:=hTO₅;refine Ql (wpAny_letGo (Qm (Qm ?_)));refine Ql (wpAny_seqItems hTO₅ rfl (Ql (wpAny_newTuple ?_ (by show(2:Nat)<=sizeLine;decide))));have H:d.objs.size=s.heap.objs.size:=by rw[j.1,i.1,g.1,h.1,f.1]
 have q:IsZip d z TI TO .ellipsis:=j.extBut _ _ D.TOz.symm (i.extBut _ _ D.i2z.symm (g.extBut _ _ D.TOz.symm (h.extBut _ _ D.i1z.symm l)));have T:ItX t1 d i1 I (k1+1):=((w1.extBut g.extBut D.TOi1.symm).extBut i.extBut D.i12).extBut j.extBut D.TOi1.symm;have X:ItX t2 d i2 F (k2+1):=w2.extBut j.extBut D.TOi2.symm;refine Ql (m:=Builtin.SmallTypes.ownedTupleHandOut (.ref z) (.ref d.objs.size)) ?_;unfold Builtin.SmallTypes.ownedTupleHandOut;have B:IsZip (d.push {cls:=.type "tuple",data:=.seq #[x,y]}) z TI TO .ellipsis:=Qn _ q;refine Ql (wpAny_setField_rec B (by simp) λN n t=>?_);replace n:IsZip N z TI TO (rawInt d.objs.size):=n;refine wpAny_setField_rec n (by simp) λp k r=>?_;replace k:IsZip p z TI TO (rawInt d.objs.size):=k;have R:d.objs.size≠z:=Nat.ne_of_gt (Qo q);have u:∀ c o,c≠z->d.get? c=some o->p.get? c=some o:=λc o O e=>r.extBut _ _ O (t.extBut _ _ O (Qn _ e));have hT₈:IsPair p d.objs.size x y:=r.extBut _ _ R (t.extBut _ _ R (Qp _ rfl));rw[H]at k hT₈;refine Qm ⟨_,rfl,(?_:Q (.ref d.objs.size) _)⟩;rw[H];exact hQ p k (u _ _ D.TOz hTO₅) (T.at λo e=>u _ o D.i1z e) (X.at λo e=>u _ o D.i2z e) hT₈ λc o O Z c3 c4 e=>u c o O (j.extBut _ _ Z (i.extBut _ _ c4 (g.extBut _ _ Z (h.extBut _ _ c3 (f.extBut _ _ O e)))))
theorem ic{TI TO:Addr}(T:A.handled=none)(D:ZipApart z TI TO i1 i2 N I)(F:IsZip s.heap z TI TO .none)(L:IsPair s.heap TI (.ref i1) (.ref i2))(R:IsPair s.heap TO a b)(U:ItX t1 s.heap i1 N k1)(u2:ItX t2 s.heap i2 I k2)(X:SqH t1 s.heap N xs)(v2:SqH t2 s.heap I ys)(v:xs[k1]?=none\/ys[k2]?=none)(Y:∀ h' e,(∀ c o,c≠z->c≠TO->c≠i1->c≠i2->s.heap.get? c=some o->h'.get? c=some o)->(∃ o,h'.get? e=some o/\o.cls=.type "StopIteration")->E (.ref e) {s with heap:=h'}):wpAny (model prog w) A (Builtin.«zip.__next__» ⟨[.ref z],[]⟩) Q E s:=by
 refine Ql (m:=field (.ref z) 2) (wpAny_field F rfl (x:=.bool false) rfl ?_);refine Ql (m:=field (.ref z) 3) (wpAny_field F rfl (x:=.ref TI) rfl (Ql (m:=seqItems? (.ref TI)) (wpAny_seqItems L rfl ?_)));refine Ql (m:=Builtin.SmallTypes.ownedTupleIsFree (.ref z)) ?_;unfold Builtin.SmallTypes.ownedTupleIsFree;refine Ql (m:=field (.ref z) 0) (wpAny_field F rfl (x:=.none) rfl (Qm ?_));simp only[if_true];refine Ql (wpAny_rule (Ql (wpAny_field F rfl (x:=.ref TO) rfl (Ql (wpAny_setField_rec F (by simp) λH h d=>?_)))));replace h:IsZip H z TI TO .ellipsis:=h;refine Ql ?_;simp only[List.zipIdx_cons,List.zipIdx_nil,List.forIn_cons,List.forIn_nil];refine Ql (Ql (wpAny_onRaise ?_));refine Ql (m:=Builtin.SmallTypes.nextOf (.ref i1)) ?_;cases S:xs[k1]? with
 | none =>
  refine Sz T (U.extBut d.extBut D.i1z) (X.extBut d.extBut D.l1z) S λk e f O=>?_;obtain⟨J,i,n⟩:=O;have r:IsZip k z TI TO .ellipsis:=f _ _ D.i1z.symm h;have u:e≠z:=λq=>by subst q;rw[r]at i;cases i;simp at n
  exact wpAny_setField_rec r (by simp) λt _ g=>Y t e (λc o G _ K _ q=>g.extBut _ _ G (f _ _ K (d.extBut _ _ G q))) ⟨J,g.extBut _ _ u i,n⟩
 | some x =>
  have Z:ys[k2]?=none:=by
   rcases v with q | q
   ·rw[S]at q;cases q
   ·exact q
  refine M4 (U.extBut d.extBut D.i1z) (X.extBut d.extBut D.l1z) S λk w1 f=>Qm ?_;have hTO₂:IsPair k TO a b:=f.extBut _ _ D.TOi1 (d.extBut _ _ D.TOz R);refine Ql (wpAny_seqItems hTO₂ rfl (Ql (wpAny_updateSeq_pair hTO₂ λt hTO₃ g=>?_)));refine Ql (wpAny_letGo (Qm ?_));refine Ql (Ql (wpAny_onRaise ?_));refine Ql (m:=Builtin.SmallTypes.nextOf (.ref i2)) ?_;refine Sz T (((u2.extBut d.extBut D.i2z).extBut f.extBut D.i12.symm).extBut g.extBut D.TOi2.symm) (((v2.extBut d.extBut D.l2z).extBut f.extBut D.l2i1).extBut g.extBut D.l2TO) Z λy e l P=>?_;obtain⟨J,i,n⟩:=P;have j:IsZip y z TI TO .ellipsis:=l _ _ D.i2z.symm (g.extBut _ _ D.TOz.symm (f.extBut _ _ D.i1z.symm h));have u:e≠z:=λq=>by subst q;rw[j]at i;cases i;simp at n
  exact wpAny_setField_rec j (by simp) λB _ p=>Y B e (λc o G c2 K c4 q=>p.extBut _ _ G (l _ _ c4 (g.extBut _ _ c2 (f.extBut _ _ K (d.extBut _ _ G q))))) ⟨J,p.extBut _ _ u i,n⟩
abbrev zX1(t1:Bool)(h:Heap)(l1:Addr):Heap:=h.push {cls:=.type (itN t1),data:=.fields #[.ref l1,.int 0 0]}
abbrev zX2(t1 t2:Bool)(h:Heap)(l1 l2:Addr):Heap:=(zX1 t1 h l1).push {cls:=.type (itN t2),data:=.fields #[.ref l2,.int 0 0]}
abbrev zX3(t1 t2:Bool)(h:Heap)(l1 l2:Addr):Heap:=(zX2 t1 t2 h l1 l2).push {cls:=.type "tuple",data:=.seq #[.ref h.objs.size,.ref (zX1 t1 h l1).objs.size]}
abbrev zX4(t1 t2:Bool)(h:Heap)(l1 l2:Addr):Heap:=(zX3 t1 t2 h l1 l2).push {cls:=.type "tuple",data:=.seq #[.none,.none]}
abbrev zX5(t1 t2:Bool)(h:Heap)(l1 l2:Addr):Heap:=(zX4 t1 t2 h l1 l2).push {cls:=.type "zip",data:=.fields #[.none,.bool false,.bool false,.ref (zX2 t1 t2 h l1 l2).objs.size,.ref (zX3 t1 t2 h l1 l2).objs.size]}
theorem ie(t1 t2:Bool)(a b:Addr)(xs ys:Array Value):Meets (Builtin.«zip.__new__» ⟨[.type "zip",.ref a,.ref b],[]⟩) (λ_ R s=>SqH t1 s.heap a xs/\SqH t2 s.heap b ys/\R (.ok (.ret (.ref (zX4 t1 t2 s.heap a b).objs.size))) {s with heap:=zX5 t1 t2 s.heap a b}):=
 .of_wp λprog w A R s h=>by
  obtain⟨i,g,d,tk,os⟩:=s;obtain⟨k,l,h⟩:=h;have j:=sub_zip;have c:SqH t1 (Shared.heap ⟨i,g,d,tk,os⟩) a xs:=k;have f:SqH t2 (Shared.heap ⟨i.push {cls:=.type (itN t1),data:=.fields #[.ref a,.int 0 0]},g,d,tk,os⟩) b ys:=l.at λ_ e=>Qn _ e;wp_walk using SA c,SA f;exact⟨_,rfl,h⟩
theorem ig{s:Shared}(k:SqH t1 s.heap a xs)(l:SqH t2 s.heap b ys)(h:∀ h',IsZip h' (s.heap.objs.size+4) (s.heap.objs.size+2) (s.heap.objs.size+3) .none->IsPair h' (s.heap.objs.size+2) (.ref s.heap.objs.size) (.ref (s.heap.objs.size+1))->IsPair h' (s.heap.objs.size+3) .none .none->ItX t1 h' s.heap.objs.size a 0->ItX t2 h' (s.heap.objs.size+1) b 0->h'.objs.size=s.heap.objs.size+5->(∀ c o,s.heap.get? c=some o->h'.get? c=some o)->Q (.ref (s.heap.objs.size+4)) {s with heap:=h'}):
  wpAny (model prog w) A (call (.type "zip") [.ref a,.ref b]) Q E s:=by
 refine callType_new PySem.F.called_zip (by decide) (PySem.F.typeCall_zip_2 _ _) (PySem.F.newCall_zip_2 _ _) (λobj=>PySem.F.args_object_init_3 obj _ _) PySem.F.entry_zip_new (ie t1 t2 a b xs ys) ⟨k,l,?_⟩;have g:(zX1 t1 s.heap a).objs.size=s.heap.objs.size+1:=Qq ..;have d:(zX2 t1 t2 s.heap a b).objs.size=s.heap.objs.size+2:=by rw[Qq,g]
 have f:(zX3 t1 t2 s.heap a b).objs.size=s.heap.objs.size+3:=by rw[Qq,d]
 have i:(zX4 t1 t2 s.heap a b).objs.size=s.heap.objs.size+4:=by rw[Qq,f]
 have j:(zX5 t1 t2 s.heap a b).objs.size=s.heap.objs.size+5:=by rw[Qq,i]
 have e:(zX5 t1 t2 s.heap a b).get? (zX4 t1 t2 s.heap a b).objs.size=some _:=Qp _ rfl;have g4:(zX5 t1 t2 s.heap a b).get? (zX3 t1 t2 s.heap a b).objs.size=some _:=Qn _ (Qp _ rfl);have g3:(zX5 t1 t2 s.heap a b).get? (zX2 t1 t2 s.heap a b).objs.size=some _:=Qn _ (Qn _ (Qp _ rfl));have g2:(zX5 t1 t2 s.heap a b).get? (zX1 t1 s.heap a).objs.size=some _:=Qn _ (Qn _ (Qn _ (Qp _ rfl)));have g1:(zX5 t1 t2 s.heap a b).get? s.heap.objs.size=some _:=Qn _ (Qn _ (Qn _ (Qn _ (Qp _ rfl))));rw[d,f,i]at e;rw[g,d]at g3;rw[f]at g4;rw[g]at g2;rw[i];exact⟨⟨_,e,rfl⟩,h _ e g3 g4 ⟨_,g1,rfl,rfl⟩ ⟨_,g2,rfl,rfl⟩ j λc o x=>Qn _ (Qn _ (Qn _ (Qn _ (Qn _ x))))⟩
end
def SqX(t:Bool)(K:PySem.W.Frag)(H:Hp)(a:Addr)(xs:List V):Prop:=match t with | true=>SqT K H a xs | false=>SqL K H a xs
theorem GZ{σ:St}(I:Inv X pins σ H s)(h:SqX t X.K H a xs):∃ b:List Value,Vals xs b/\SqH t s.heap a b.toArray:=by
 cases t
 ·obtain⟨b,r,p,_⟩:=I.list h;exact⟨b,r,p.isList⟩
 ·obtain⟨b,r,p,_⟩:=I.tuple h;exact⟨b,r,p⟩
theorem SD{σ:St}(I:Inv X pins σ H s)(h:SqX t X.K H a xs)(h':SqX t X.K H a ys):xs=ys:=by
 cases t
 ·exact I.list_inj h h'
 ·exact I.tuple_inj h h'
def SE(t1 t2:Bool)(K:PySem.W.Frag)(l1 l2:Addr):It :=
 ⟨λi H=>∃ xs ys,SqX t1 K H l1 xs/\SqX t2 K H l2 ys/\i < xs.length/\i < ys.length,
  λi H v H'=>∃ T x y,H T=none/\v=.ref T/\H'=upd H T (.tup [x,y])/\∀ xs ys,SqX t1 K H l1 xs->SqX t2 K H l2 ys->xs[i]?=some x/\ys[i]?=some y,
  λi H=>∃ xs ys,SqX t1 K H l1 xs/\SqX t2 K H l2 ys/\i=min xs.length ys.length⟩
theorem ii{TI TO:Addr}(D:ZipApart z TI TO i1 i2 Z Y):
  Eh P w K (.Tuple O k tpos) (SE t1 t2 K Z Y) [z,TI,TO,i1,i2] z (λi h=>IsZip h z TI TO .none/\IsPair h TI (.ref i1) (.ref i2)/\(∃ a b,IsPair h TO a b)/\ItX t1 h i1 Z i/\ItX t2 h i2 Y i):=
 have obj:∀{i h},(IsZip h z TI TO .none/\IsPair h TI (.ref i1) (.ref i2)/\(∃ a b,IsPair h TO a b)/\ItX t1 h i1 Z i/\ItX t2 h i2 Y i)->∀ b∈[z,TI,TO,i1,i2],∃ o,h.get? b=some o/\∀ v,o.data≠.cell v:=λst b d=>by
  obtain⟨n,f,⟨a,c,g⟩,⟨o1,e1,_,d1⟩,⟨o2,e2,_,d2⟩⟩:=st;simp only[Yo,YY,or_false]at d;rcases d with rfl | rfl | rfl | rfl | rfl
  ·exact⟨_,n,λv z=>by cases z⟩
  ·exact⟨_,f,λv z=>by cases z⟩
  ·exact⟨_,g,λv z=>by cases z⟩
  ·exact⟨o1,e1,λv z=>by rw[d1]at z;cases z⟩
  ·exact⟨o2,e2,λv z=>by rw[d2]at z;cases z⟩
 {mem:=by simp
  obj:=λi h st=>obj st
  keep:=λi h h' st J=>by
   obtain⟨n,f,⟨a,c,g⟩,h1,h2⟩:=st;exact⟨J z (by simp) _ n,J TI (by simp) _ f,⟨a,c,J TO (by simp) _ g⟩,h1.at λo e=>J i1 (by simp) o e,h2.at λo e=>J i2 (by simp) o e⟩
  item:=by
   intro X hP hw hK hc i pins s σ H E I S st hg;have ob:=obj st;subst hP hw hK;obtain⟨xs,ys,hx,U,hix,hiy⟩:=hg;obtain⟨r,r1,B⟩:=GZ I hx;obtain⟨t,r2,u⟩:=GZ I U;obtain⟨n,f,⟨a,b,g⟩,h1,h2⟩:=st;have L:s.TypeIs (.ref z) "zip":=⟨_,n,rfl⟩;have gx:xs[i]?=some xs[i]:=Yp hix;have gy:ys[i]?=some ys[i]:=Yp hiy;obtain⟨u1,q1,rv1⟩:=r1.get gx;obtain⟨u2,q2,rv2⟩:=r2.get gy;unfold pyNext;refine Ql (wpAny_attempt (wpAny_callSpecial?_slot (name:=Str.ofString "__next__") L PySem.F.slot_zip_next (wpAny_call_entry PySem.F.slot_zip_next L PySem.F.entry_zip_next (ib D n f g h1 h2 B u (x:=u1) (y:=u2) (by simpa using q1) (by simpa using q2) λh' a1 a2 a3 a4 a5 hk=>Qm ?_) (PySem.F.args_zip_next_1 _))));refine⟨_,rfl,wpAny_letOwnedTupleGo_zip a1 λh2 hz' j=>?_⟩;have lt:∀{b:Addr}{o:Obj},s.heap.get? b=some o->b≠s.heap.objs.size:=λe=>Ys (Qo e);have l:∀ b,b∉[z,TI,TO,i1,i2]->b≠z/\b≠TO/\b≠i1/\b≠i2:=λb d=>⟨λe=>d (by simp[e]),λe=>d (by simp[e]),λe=>d (by simp[e]),λe=>d (by simp[e])⟩;have I1:Inv X pins σ H {s with heap:=h2}:=Inv.turneds (t':=s.toks) I S λb o d e=>j.extBut _ _ (l b d).1 (hk b o (l b d).1 (l b d).2.1 (l b d).2.2.1 (l b d).2.2.2 e);have G:H s.heap.objs.size=none:=I.hok.fresh (Yr _);have hTz:s.heap.objs.size≠z:=YV (lt n)
   have I2:Inv X pins σ (upd H s.heap.objs.size (.tup [xs[i],ys[i]])) {s with heap:=h2}:=by
    refine I1.track G ?_ (λx c e=>?_) (λp hp=>?_) ?_ ⟨by show 2<=sizeLine;decide,[u1,u2],.cons rv1 (.cons rv2 .nil),⟨_,j.extBut _ _ hTz a5,rfl,rfl,_,rfl⟩⟩
    ·obtain⟨m,⟨o,es,ep,R,_⟩,_⟩:=I.loc;exact YV (lt R)
    ·obtain⟨v,o,R,_⟩:=I.cell x c e;exact lt R
    ·exact lt (I.pin p hp).1
    ·cases e:X.s₀.heap.get? s.heap.objs.size with
     | none=>rfl
     | some o=>exact Qk (Yu (Qo e) I.sz) (YK _)
   refine⟨.ref s.heap.objs.size,_,I2,rfl,⟨_,_,_,G,rfl,rfl,λxs' ys' hx' hy'=>?_⟩,⟨hz',j.extBut _ _ D.TIz (hk _ _ D.TIz D.TITO D.TIi1 D.TIi2 f),⟨_,_,j.extBut _ _ D.TOz a2⟩,a3.extBut j.extBut D.i1z,a4.extBut j.extBut D.i2z⟩,λb d=>?_⟩
   ·rw[SD I hx' hx,SD I hy' U];exact⟨gx,gy⟩
   ·obtain⟨o,e,_⟩:=ob b d;rw[A9 (lt e)];exact(S b d).1
  done:=by
   intro X hP hw hK hc i pins s σ H E I S st hg;subst hP hw hK;obtain⟨xs,ys,hx,U,hi⟩:=hg;obtain⟨r,r1,B⟩:=GZ I hx;obtain⟨t,r2,u⟩:=GZ I U;have n1:=r1.length;have n2:=r2.length;obtain⟨n,f,⟨a,b,g⟩,h1,h2⟩:=st;have L:s.TypeIs (.ref z) "zip":=⟨_,n,rfl⟩
   have N:r.toArray[i]?=none\/t.toArray[i]?=none:=by
    rcases Nat.le_total xs.length ys.length with q | q
    ·exact .inl (Array.getElem?_eq_none (by simp only[Yn];lia))
    ·exact .inr (Array.getElem?_eq_none (by simp only[Yn];lia))
   unfold pyNext;refine Ql (wpAny_attempt (wpAny_callSpecial?_slot (name:=Str.ofString "__next__") L PySem.F.slot_zip_next (wpAny_call_entry PySem.F.slot_zip_next L PySem.F.entry_zip_next (ic (I.ok.hd hc) D n f g h1 h2 B u N λh' e hk he=>?_) (PySem.F.args_zip_next_1 _))));obtain⟨o,R,hc⟩:=he;exact Ql (wpAny_isInstance (T:="StopIteration") (b:=true) ⟨o,R,hc⟩ isSubtype_stop (Qm ⟨rfl,Inv.turneds (t':=s.toks) I S λb o d e=>hk b o (λe=>d (by simp[e])) (λe=>d (by simp[e])) (λe=>d (by simp[e])) (λe=>d (by simp[e])) e⟩))
  self:=λA i s Q E st h=>wpAny_pyIter_zip st.1 h}
def ij(t1 t2:Bool)(K:PySem.W.Frag)(ta:TA):TI:=λσ H R=>ta σ H λvs H1=>∃ a b xs ys,vs=[.ref a,.ref b]/\SqX t1 K H1 a xs/\SqX t2 K H1 b ys/\R (SE t1 t2 K a b) H1
theorem ik(G:Gl X "zip")(J:X.mg "zip"=none)(D:PA X [a,b] ta)(F:starEach [a,b] X.env=[(false,eval a X.env),(false,eval b X.env)])(g:starEach [b] X.env=[(false,eval b X.env)]):
  PI X (.Tuple j k tpos) (.Call (.Name "zip" p) [a,b] [] pos) (ij t1 t2 X.K ta):=by
 intro pins s σ H R I h;refine Call_ (EZ I G J boot_zip (Qc (thn (D pos pins s σ H _ I h) λP w o=>?_) (by rw[F,g]) (by rw[g];rfl)));obtain⟨S,H1,i,r1,q1⟩:=o;obtain⟨Q,O,xs,ys,e,L,B,q⟩:=q1;subst e;obtain⟨u,T,rfl,A,n⟩:=Jr r1;cases A;cases n;obtain⟨x,_,f⟩:=GZ i L;obtain⟨y,_,c⟩:=GZ i B;refine ig f c λh' z l t r m E N=>wpAny_pyIter_zip z ?_;refine⟨_,_,_,_,H1,rfl,i.kept (t':=w.toks) N,ii (zipApart_new f.lt c.lt),⟨z,l,⟨_,_,t⟩,r,m⟩,λb v=>?_,q⟩
 have d:w.heap.objs.size<=b:=by
  simp only[Yo,YY,or_false]at v;rcases v with rfl | rfl | rfl | rfl | rfl
  ·exact YX _ 4
  ·exact YX _ 2
  ·exact YX _ 3
  ·exact Yr _
  ·exact YX _ 1
 exact i.fpOk d (i.hok.fresh d)
theorem il(t:Tr K H v (.tup xs)):∃ a vs,v=.ref a/\SqT K H a vs/\TrL K H vs xs:=by
 cases t with
 | tup h l=>exact⟨_,_,rfl,h,l⟩
def rdX(t:Bool)(G:Hw)(x:W):Option (List W):=match t,x with | true,.tup xs=>some xs | true,_=>none | false,x=>rdL G x
theorem JQ(r:RelH K H G)(b:Tr K H v x)(e:rdX t G x=some xs):∃ a vs,v=.ref a/\SqX t K H a vs/\TrL K H vs xs:=by
 cases t
 ·exact RJ r b e
 ·unfold rdX at e;split at e
  ·cases e;exact il b
  ·cases e
  ·rename_i h;cases h
def SF(t1 t2:Bool)(gs:GA):GI:=λω G R=>gs ω G λws G1=>∃ x y xs ys,ws=[x,y]/\rdX t1 G1 x=some xs/\rdX t2 G1 y=some ys/\R (BV xs ys) (λG=>rdX t1 G x=some xs/\rdX t2 G y=some ys) G1
theorem im(m:gs.M):GI.M (SF t1 t2 gs):=λω G R d h q=>m _ _ _ _ ((by rintro c G1 ⟨x,y,xs,ys,e,b,a,z⟩;exact⟨x,y,xs,ys,e,b,a,h _ _ _ z⟩)) q
theorem SG(t1 t2:Bool)(hm:X.mg "zip"=none)(hg:Gl X "zip")(hs:starEach [a,b] X.env=[(false,eval a X.env),(false,eval b X.env)])(F:starEach [b] X.env=[(false,eval b X.env)])(B:Am X [a,b] gs):
  Im X (.Tuple s k tpos) (.Call (.Name "zip" p) [a,b] [] pos) (SF t1 t2 gs):=by
 refine⟨⟨_,ik (t1:=t1) (t2:=t2) hg hm B.p hs F,λσ H ω G R R0 ts r q Y=>⟨ω,G,ts,r,B.m _ _ _ _ (λws G1 z vs H1 m t r1=>?_) q⟩⟩,im B.m⟩;obtain⟨x,y,xs,ys,rfl,L,O,z⟩:=z;cases t with
 | cons P t =>
  cases t with
  | cons ty t =>
   cases t;obtain⟨Q,I,rfl,E,l1⟩:=JQ r1 P L;obtain⟨S,u,rfl,J,l2⟩:=JQ r1 ty O
   have two:∀{e h},Mono X.K H1 e->RelH X.K e h->(rdX t1 h x=some xs/\rdX t2 h y=some ys)->∃ c d,SqX t1 X.K e Q c/\TrL X.K e c xs/\SqX t2 X.K e S d/\TrL X.K e d ys:=λ{e h}g f g3=>by
    obtain⟨b1,c,e3,o,n⟩:=JQ f (P.mono g) g3.1;obtain⟨b2,d,U,j,l⟩:=JQ f (ty.mono g) g3.2;cases e3;cases U;exact⟨c,d,o,n,j,l⟩
   refine⟨Q,S,I,u,rfl,E,J,Y _ _ _ H1 _ z m r1 ⟨L,O⟩ ⟨λi e h g f g3 hi=>?_,λi e h v H4 g f g3 Z hi=>?_,λe h g f g3=>?_⟩⟩
   ·obtain⟨c,d,o,n,j,l⟩:=two g f g3;rw[MP]at hi;exact⟨c,d,o,j,by rw[n.length];lia,by rw[l.length];lia⟩
   ·obtain⟨c,d,o,n,j,l⟩:=two g f g3;obtain⟨T,v1,v2,N,rfl,rfl,hv⟩:=Z;obtain⟨g1,g2⟩:=hv _ _ o j;obtain⟨w1,q1,A⟩:=n.get' g1;obtain⟨w2,q2,D⟩:=l.get' g2;have w:Mono X.K e (upd e T (.tup [v1,v2])):=Mono.new N _;exact⟨w,f.mono0 N,_,RK _ _ i q1 q2,.tup (SqT.of Ca) (.cons (A.mono w) (.cons (D.mono w) .nil))⟩
   ·obtain⟨c,d,o,n,j,l⟩:=two g f g3;exact⟨c,d,o,j,by rw[MP,n.length,l.length]⟩
theorem SH(h:Im X tg e gi)(m:GI.M a)(i:∀ ω G R,a ω G R->gi ω G R):Im X tg e a:=by
 obtain⟨⟨d,p,f⟩,_⟩:=h;exact⟨⟨d,p,λσ H ω G R b g r q c=>f σ H ω G R b g r (i _ _ _ q) c⟩,m⟩
def F3(gs:GA):GI:=λω G R=>gs ω G λws G1=>∃ xs ys,ws=[.tup xs,.tup ys]/\R (BV xs ys) yes G1
theorem io(m:gs.M):GI.M (F3 gs):=λω G R b h q=>m _ _ _ _ ((by rintro a G1 ⟨xs,ys,e,z⟩;exact⟨xs,ys,e,h _ _ _ z⟩)) q
theorem M5(h:X.mg "zip"=none)(g:Gl X "zip")(f:starEach [a,b] X.env=[(false,eval a X.env),(false,eval b X.env)])(d:starEach [b] X.env=[(false,eval b X.env)])(e:Am X [a,b] gs):
  Im X (.Tuple c k tpos) (.Call (.Name "zip" p) [a,b] [] pos) (F3 gs):=
 SH (SG true true h g f d e) (io e.m) λω G R q=>e.m _ _ _ _ (by
  rintro i G1 ⟨xs,ys,rfl,z⟩;refine⟨_,_,xs,ys,rfl,rfl,rfl,?_⟩;rw[show(λG=>rdX true G (.tup xs)=some xs/\rdX true G (.tup ys)=some ys)=yes from funext λ_=>propext ⟨λ_=>trivial,λ_=>⟨rfl,rfl⟩⟩];exact z) q
def C7(gs:GA):GI:=λω G R=>gs ω G λws G1=>match ws with
 | [x,y]=>(match rdL G1 x,rdL G1 y with
  | some xs,some ys=>R (BV xs ys) (λG=>rdL G x=some xs/\rdL G y=some ys) G1
  | _,_=>False)
 | _=>False
theorem SI{gs:GA}{R:List W->(Hw->Prop)->Hw->Prop}(z:match a with
 | [x,y]=>(match rdL G1 x,rdL G1 y with
  | some xs,some ys=>R (BV xs ys) (λG=>rdL G x=some xs/\rdL G y=some ys) G1
  | _,_=>False)
 | _=>False):∃ x y xs ys,a=[x,y]/\rdL G1 x=some xs/\rdL G1 y=some ys/\R (BV xs ys) (λG=>rdL G x=some xs/\rdL G y=some ys) G1:=by
 split at z
 ·rename_i x y;split at z
  ·rename_i xs ys c b;exact⟨x,y,xs,ys,rfl,c,b,z⟩
  ·exact z.elim
 ·exact z.elim
theorem ip(m:gs.M):GI.M (C7 gs):=λω G R d h q=>m _ _ _ _ (λc G1 z=>by
 obtain⟨x,y,xs,ys,rfl,b,a,z⟩:=SI (gs:=gs) z;dsimp only;rw[b,a];exact h _ _ _ z) q
theorem iq(i:X.mg "zip"=none)(h:Gl X "zip")(g:starEach [a,b] X.env=[(false,eval a X.env),(false,eval b X.env)])(d:starEach [b] X.env=[(false,eval b X.env)])(e:Am X [a,b] gs):
  Im X (.Tuple c k tpos) (.Call (.Name "zip" p) [a,b] [] pos) (C7 gs):=
 SH (SG false false i h g d e) (ip e.m) λω G R q=>e.m _ _ _ _ (by
  intro l G1 z;obtain⟨x,y,xs,ys,rfl,f,j,z⟩:=SI (gs:=gs) z;exact⟨x,y,xs,ys,rfl,f,j,z⟩) q
end L3
namespace L3
open PySem PySem.Spec PyProof.Rows L2
abbrev F4(h:Heap)(T:Addr)(a b c:Value):Prop:=h.get? T=some {cls:=.type "tuple",data:=.seq #[a,b,c]}
section
def St3(n l1 l2 l3:Nat)(f0:Value)(i:Nat)(h:Heap):Prop:=IsZip h (n+5) (n+3) (n+4) f0/\F4 h (n+3) (.ref n) (.ref (n+1)) (.ref (n+2))/\(∃ a b c,F4 h (n+4) a b c)/\h.IsListIter n l1 i/\h.IsListIter (n+1) l2 i/\h.IsListIter (n+2) l3 i
end
end L3
namespace L3
open PySem PySem.Spec PyProof.Rows L2
variable {K:PySem.W.Frag}{H:Hp}
section
theorem St3.at(st:St3 n l m g j i h)(k:∀(c:Nat)o,n<=c->c<=n+5->h.get? c=some o->h'.get? c=some o):St3 n l m g j i h':=by
 obtain⟨r,d,⟨a,b,c,f⟩,q,s,p⟩:=st;exact⟨k _ _ (by lia) (by lia) r,k _ _ (by lia) (by lia) d,⟨a,b,c,k _ _ (by lia) (by lia) f⟩,q.at λo e=>k _ o (by lia) (by lia) e,s.at λo e=>k _ o (by lia) (by lia) e,p.at λo e=>k _ o (by lia) (by lia) e⟩
end
def F5(w:W):Bool:=match w with | .non=>true | _=>false
def isF(neg:Bool)(x y:W)(_:Hw):Option W:=match y with | .non=>some (.bl (F5 x != neg))| _=>none
theorem ir(t:Tr K H v x):decide (v=.non)=F5 x:=by cases t <;> rfl
theorem iu(t:Tr K H u .non):u=.non:=by cases t;rfl
theorem iw(neg:Bool)(x y:W)(v u:V)(G:Hw)(H:Hp)(Q:VK)(b:Tr K H v x)(ty:Tr K H u y)(r:RelH K H G)(q:Ae (isF neg) x y G (dn K H Q)):u=.non/\Q (.bl (F5 x != neg)) H:=by
 obtain⟨w,e,a⟩:=C4 q;cases y with
 | non=>cases e;exact⟨iu ty,a _ H .refl (.bl _) r⟩
 | _=>cases e
theorem ix:Cop X .Is (Ae (isF false)):=⟨⟨_,bA,λx y v u G H Q a ty r q=>by
 obtain⟨h1,h2⟩:=iw false x y v u G H Q a ty r q;refine⟨h1,?_⟩;rw[ir a];simpa using h2⟩,Ek⟩
section
def St3T(n l1 l2 l3:Nat)(f0:Value)(i:Nat)(h:Heap):Prop:=IsZip h (n+5) (n+3) (n+4) f0/\F4 h (n+3) (.ref n) (.ref (n+1)) (.ref (n+2))/\(∃ a b c,F4 h (n+4) a b c)/\h.IsTupleIter n l1 i/\h.IsTupleIter (n+1) l2 i/\h.IsTupleIter (n+2) l3 i
theorem St3T.at(st:St3T n l m g j i h)(k:∀(c:Nat)o,n<=c->c<=n+5->h.get? c=some o->h'.get? c=some o):St3T n l m g j i h':=by
 obtain⟨r,d,⟨a,b,c,f⟩,q,s,p⟩:=st;exact⟨k _ _ (by lia) (by lia) r,k _ _ (by lia) (by lia) d,⟨a,b,c,k _ _ (by lia) (by lia) f⟩,tat q λo e=>k _ o (by lia) (by lia) e,tat s λo e=>k _ o (by lia) (by lia) e,tat p λo e=>k _ o (by lia) (by lia) e⟩
end
section
end
def M6(K:PySem.W.Frag)(mg:Str->Option Value)(base:Heap)(x:Str)(D:List (Str×List Str)):Prop:=∃ d,mg x=some (.ref d)/\KTD.TabOf (λss v=>∃ a,v=.ref a/\∀ H:Hp,SqT K H a (ss.map V.str)) base d D
theorem SJ(H:Hp):∀ ss:List Str,TrL K H (ss.map V.str) (ss.map W.str)
 | []=>.nil
 | s::ss=>.cons (.str _) (SJ H ss)
theorem iy(X:K.In h)(G:h.Ns mainGlobals mg)(B:K.In base)(e:PySem.W.nsIn K mainGlobals x=some (some (.ref d)))(l:K.lookup d=some o)(hd:(d==sysModules)=false)(c:o.ExactDict)(f:o.data=.dict es b)(g:KTD.Rows (λss v=>∃ a,v=.ref a/\∀ H:Hp,SqT K H a (ss.map V.str)) es.toList D):M6 K mg base x D :=
 ⟨d,PySem.W.mg_of X G e,hd,o,es,b,B _ _ l,c,f,g⟩
theorem CG{ts:List (Str×Tok)}{dd:Option Addr}(h1:e.key=.str x t)(h2:e.val=.ref a)(l:K.lookup a=some ⟨.type "tuple",none,.seq ((ts.map λp=>Value.str p.1 p.2).toArray) n,d⟩)(f:ts.length<=1000)(r:KTD.Rows (λss v=>∃ a,v=.ref a/\∀ H:Hp,SqT K H a (ss.map V.str)) es D):KTD.Rows (λss v=>∃ a,v=.ref a/\∀ H:Hp,SqT K H a (ss.map V.str)) (e::es) ((x,ts.map (·.1))::D):=by
 refine .cons h1 ⟨a,h2,λH=>.inr ⟨_,_,n,l,rfl,rfl,rfl,?_,?_⟩⟩ r
 ·simp only[Yn,Yh];exact Yt f (by decide)
 ·have c:∀ ts:List (Str×Tok),Vals ((ts.map (·.1)).map V.str) (ts.map λp=>Value.str p.1 p.2):=λts=>by
   induction ts with
   | nil=>exact .nil
   | cons p ts b=>exact .cons ⟨p.2,rfl⟩ b
  simpa using c ts
end L3
namespace L3
open PySem PySem.Spec PyProof.Rows L2
abbrev iz(h:Heap)(z TI TO:Addr)(f0:Value)(b:Bool):Prop:=h.get? z=some {cls:=.type "zip",dict:=none,data:=.fields #[f0,.bool b,.bool false,.ref TI,.ref TO],slots:=#[]}
section
def Hd3(n l1 l2 l3 i:Nat)(h:Heap):Prop:=(∃(T:Nat)(o:Obj)(b:Bool),iz h (n+5) (n+3) (n+4) (rawInt T) b/\h.get? T=some o/\(T < n\/n+5 < T))/\F4 h (n+3) (.ref n) (.ref (n+1)) (.ref (n+2))/\h.IsListIter n l1 i/\h.IsListIter (n+1) l2 i/\h.IsListIter (n+2) l3 i
def Cm3(n l1 l2 l3 i:Nat)(h:Heap):Prop:=(i=0/\St3 n l1 l2 l3 .none 0 h)\/Hd3 n l1 l2 l3 i h
theorem Cm3.zip(st:Cm3 n a c e i h):∃ o,h.get? (n+5)=some o/\o.cls=.type "zip":=by
 rcases st with⟨_,st⟩| st
 ·exact⟨_,st.1,rfl⟩
 ·obtain⟨⟨T,o,b,d,_⟩,_⟩:=st;exact⟨_,d,rfl⟩
end
section
end
end L3
namespace L3
open PySem PySem.Spec PyProof.Rows L2
section
def St3M(n l1 l2 l3:Nat)(f0:Value)(i:Nat)(h:Heap):Prop:=IsZip h (n+5) (n+3) (n+4) f0/\F4 h (n+3) (.ref n) (.ref (n+1)) (.ref (n+2))/\(∃ a b c,F4 h (n+4) a b c)/\h.IsListIter n l1 i/\h.IsTupleIter (n+1) l2 i/\h.IsTupleIter (n+2) l3 i
theorem St3M.at(st:St3M n l m g j i h)(k:∀(c:Nat)o,n<=c->c<=n+5->h.get? c=some o->h'.get? c=some o):St3M n l m g j i h':=by
 obtain⟨r,d,⟨a,b,c,f⟩,q,s,p⟩:=st;exact⟨k _ _ (by lia) (by lia) r,k _ _ (by lia) (by lia) d,⟨a,b,c,k _ _ (by lia) (by lia) f⟩,q.at λo e=>k _ o (by lia) (by lia) e,tat s λo e=>k _ o (by lia) (by lia) e,tat p λo e=>k _ o (by lia) (by lia) e⟩
end
end L3
namespace L3
open PySem PySem.Spec PyProof.Rows L2
end L3
namespace L3
open PySem PySem.Spec PyProof.Rows L2
variable {H:Hp}
def atT{α:Type}(kvs:List (Key×α))(x:Str):Option α:=(kvs.find? λy=>decide (y.1=Sum.inr x)).map (·.2)
theorem M7{α:Type}{v:α}{a:List (Key×α)}:atT ((k,v)::a) x=if k=Sum.inr x then some v else atT a x:=by
 unfold atT;rw[List.find?_cons];by_cases h:k=Sum.inr x
 ·simp[h]
 ·simp[h]
theorem SK:∀{a:List (Key×V)}{vs:List (Key×Value)},KV a vs->(atT a x=none/\valueAt vs (Sum.inr x)=none)\/∃ v u,atT a x=some v/\valueAt vs (Sum.inr x)=some u/\RelV v u
 | _,_,.nil=>.inl ⟨rfl,rfl⟩
 |(k,v)::a,(f,d)::vs,.cons ⟨e,c⟩ t=>by
  have b:=SK (x:=x) t;cases(show k=f from e);rw[M7];unfold valueAt at b ⊢;rw[List.find?_cons];by_cases h:k=Sum.inr x
  ·simp only[h,if_true,decide_true];exact .inr ⟨v,d,rfl,rfl,c⟩
  ·simp only[h,if_false,decide_false];exact b
theorem SL{K:PySem.W.Frag}:∀{vs:List (Key×V)}{a:List (Key×W)},TrP K H vs a->(atT vs x=none/\atT a x=none)\/∃ v w,atT vs x=some v/\atT a x=some w/\Tr K H v w
 | _,_,.nil=>.inl ⟨rfl,rfl⟩
 |(k,v)::vs,(_,u)::a,.cons tv t=>by
  rw[M7,M7];by_cases h:k=Sum.inr x
  ·rw[if_pos h,if_pos h];exact .inr ⟨_,_,rfl,rfl,tv⟩
  ·rw[if_neg h,if_neg h];exact SL t
def inK(neg:Bool)(x y:W)(G:Hw):Option W:=match x,y with
 | .str z,.ref p=>(match G p with | some (.dct kvs)=>some (.bl ((atT kvs z).isSome != neg))| _=>none)
 | _,_=>none
def SM:R2:=λx y H Q=>∃ p kvs z v,x=.ref p/\y=.str z/\H p=some (.dK kvs)/\atT kvs z=some v/\Q v H
theorem iA:IxR X SM:=by
 intro value slice pins s σ H x y v u Q I l m h j;obtain⟨p,a,z,v,rfl,rfl,g,b,q⟩:=h;cases l;obtain⟨t,rfl⟩:=m;obtain⟨_,hd,d,e,f⟩:a.length<=sizeLine/\(p==sysModules)=false/\∃ d,KV a d/\s.heap.DictOf (CA X.prog X.w) p d:=I.hok p _ g;rcases SK (x:=z) e with⟨c,_⟩|⟨o,u,c,n,i⟩
 ·rw[c]at b;cases b
 ·rw[c]at b;cases b;refine subscriptTail_builtinR (x:=u) f.typeIs PySem.F.slot_dict_getitem.lookup ?_ j;exact wpAny_getItem_of (knd:=CA X.prog X.w) (k:=Sum.inr z) (Q:=λr s'=>r=u/\EP X pins σ Q r s') (by simp[CA,GF,Value.isStrOf]) f.mapOf n ⟨rfl,_,H,I.tok _,i,q⟩
def ixK(x y:W)(G:Hw):Option W:=match x,y with
 | .ref p,.str z=>(match G p with | some (.dct kvs)=>atT kvs z | _=>none)
 | _,_=>none
theorem iB{K:PySem.W.Frag}(x y:W)(v u:V)(G:Hw)(H:Hp)(Q:VK)(i:Tr K H v x)(ty:Tr K H u y)(r:RelH K H G)(q:Ae ixK x y G (dn K H Q)):SM v u H Q:=by
 obtain⟨w,e,h⟩:=C4 q;unfold ixK at e;split at e
 ·rename_i p z;split at e
  ·rename_i g f;cases i;cases ty;obtain⟨d,c,l⟩:=r p _ f;rcases SL (x:=z) l with⟨_,a⟩|⟨v,u,a,b,tv⟩
   ·rw[a]at e;cases e
   ·rw[b]at e;cases e;exact⟨p,d,z,v,rfl,rfl,c,a,h _ H .refl tv r⟩
  ·cases e
 ·cases e
theorem SN(e:Js b)(d:Em X a ga)(c:Em X b gb):Em X (.Subscript a b pos) (Ad (Ae ixK) ga gb):=⟨Q3 iA Ek d.m c.m iB d.p c.p e,Dy Ek d.m c.m⟩
def D3{α:Type}(kvs:List (Key×α))(k:Key)(v:α):List (Key×α):=if kvs.any (λkv=>decide (kv.1=k))then kvs.map (λkv=>if kv.1=k then(kv.1,v)else kv)else kvs++[(k,v)]
theorem iC{α:Type}(a:List (Key×α))(k:Key)(v:α):(D3 a k v).length<=a.length+1:=by unfold D3;split <;> simp
theorem SO:∀{a:List (Key×V)}{vs:List (Key×Value)},KV a vs->a.any (λkv=>decide (kv.1=k))=vs.any (λkv=>decide (kv.1=k))
 | _,_,.nil=>rfl
 | _,_,.cons ⟨e,_⟩ t=>by rw[List.any_cons,List.any_cons,SO t,e]
theorem SQ(r:RelV v u):∀{c:List (Key×V)}{vs:List (Key×Value)},KV c vs->KV (c.map λkv=>if kv.1=k then(kv.1,v)else kv) (vs.map λkv=>if kv.1=k then(kv.1,u)else kv)
 | _,_,.nil=>.nil
 |(a,x)::_,(b,y)::_,.cons ⟨e,d⟩ t=>by
  cases(show a=b from e);rw[Ym,Ym];refine .cons ?_ (SQ r t);by_cases h:a=k
  ·rw[if_pos h,if_pos h];exact⟨rfl,r⟩
  ·rw[if_neg h,if_neg h];exact⟨rfl,d⟩
theorem SR(r:RelV v u):∀{a:List (Key×V)}{vs:List (Key×Value)},KV a vs->KV (a++[(k,v)]) (vs++[(k,u)])
 | _,_,.nil=>.cons ⟨rfl,r⟩ .nil
 | _,_,.cons h t=>.cons h (SR r t)
theorem iD(r:RelV v u)(h:KV a vs):KV (D3 a k v) (stored vs k u):=by
 unfold D3 stored;rw[SO h];split
 ·exact SQ r h
 ·exact SR r h
theorem ST{K:PySem.W.Frag}:∀{vs:List (Key×V)}{a:List (Key×W)},TrP K H vs a->vs.any (λkv=>decide (kv.1=k))=a.any (λkv=>decide (kv.1=k))
 | _,_,.nil=>rfl
 | _,_,.cons _ t=>by rw[List.any_cons,List.any_cons,ST t]
theorem M8{K:PySem.W.Frag}(r:Tr K H v w):∀{vs:List (Key×V)}{b:List (Key×W)},TrP K H vs b->TrP K H (vs.map λkv=>if kv.1=k then(kv.1,v)else kv) (b.map λkv=>if kv.1=k then(kv.1,w)else kv)
 | _,_,.nil=>.nil
 |(a,x)::_,(_,y)::_,.cons tv t=>by
  rw[Ym,Ym];by_cases h:a=k
  ·simp only[h,if_true];exact .cons r (M8 r t)
  ·simp only[h,if_false];exact .cons tv (M8 r t)
theorem SU{K:PySem.W.Frag}(r:Tr K H v w):∀{vs:List (Key×V)}{a:List (Key×W)},TrP K H vs a->TrP K H (vs++[(k,v)]) (a++[(k,w)])
 | _,_,.nil=>.cons r .nil
 | _,_,.cons h t=>.cons h (SU r t)
theorem iE{K:PySem.W.Frag}(r:Tr K H v w)(h:TrP K H vs a):TrP K H (D3 vs k v) (D3 a k w):=by
 unfold D3;rw[ST h];split
 ·exact M8 r h
 ·exact SU r h
theorem M9{K:PySem.W.Frag}:∀{vs:List (Key×V)}{a:List (Key×W)},TrP K H vs a->vs.length=a.length
 | _,_,.nil=>rfl
 | _,_,.cons _ t=>by rw[Yg,Yg,M9 t]
end L3
namespace L3
open PySem PySem.Spec PyProof.Rows L2
section
end
def D4(g:GE):GE:=λω G Q=>g ω G λx G1=>∃ i,x=.int i/\Q (.int (-i)) G1
theorem iF(m:g.M):GE.M (D4 g):=λω G Q a h q=>m _ _ _ _ (by rintro x G1 ⟨i,e,z⟩;exact⟨i,e,h _ _ z⟩) q
theorem Na(h:Em X a g):Em X (.UnaryOp .USub a pos) (D4 g):=
 ⟨Bm (be bp h.p) λσ H Q⟨ω,G,b,r,q⟩=>⟨ω,G,b,r,h.m _ _ _ _ (λx G1 z v H1 m t r1=>by
  obtain⟨i,rfl,z⟩:=z;cases t;exact⟨_,rfl,z _ _ m (.int _) r1⟩) q⟩,iF h.m⟩
end L3
namespace L3
open PySem PySem.Spec PyProof.Rows L2
section
end
end L3
namespace L3
open PySem PySem.Spec PyProof.Rows L2
def ev{α:Type}(lt:Nat->Nat->Bool)(n:Nat):PySem.W.KasT α->Option α
 | .ret a=>some a
 | .ask i j k=>if i≠j/\i < n/\j < n then ev lt n (k (lt i j))else none
section
end
end L3
namespace L3
open PySem PySem.Spec PyProof.Rows L2
end L3
namespace L3
open PySem PySem.Spec PyProof.Rows L2
section
end
section
end
end L3
namespace L3
open PySem PySem.Spec PyProof.Rows L2
end L3
namespace L3
open PySem PySem.Spec PyProof.Rows L2
section
end
section
end
end L3
namespace L3
open PySem PySem.Spec PyProof.Rows L2
section
end
end L3
namespace L3
open PySem PySem.Spec PyProof.Rows L2
section
end
end L3
namespace L3
open PySem PySem.Spec PyProof.Rows L2
variable {H H':Hp}
section
end
def D5:Nat->List W->List W
 | _,[]=>[]
 | i,x::xs=>.tup [.int i,x]::D5 (i+1) xs
theorem Nb:∀(i:Nat)(xs:List W),(D5 i xs).length=xs.length
 | _,[]=>rfl
 | i,x::xs=>by simp only[D5,Yg,Nb (i+1) xs]
theorem SV:∀(j:Nat)(xs:List W)(i:Nat){x:W},xs[i]?=some x->(D5 j xs)[i]?=some (.tup [.int ((j+i:Nat):Int),x])
 | _,[],_,_,h=>by simp at h
 | j,a::xs,0,x,h=>by simp at h;subst h;rfl
 | j,a::xs,i+1,x,h=>by
  have:=SV (j+1) xs i (x:=x) (by simpa using h);rw[show j+1+i=j+(i+1) by lia]at this;simpa[D5]using this
def prs(X:Cx)(pos:Pos):List (Option Expr)->List Expr->List (Sem Value×Sem Value)
 | some k::ks,v::vs=>(eval k X.env,do let x <- eval v X.env;standAt pos;pure x)::prs X pos ks vs
 | _,_=>[]
def KVs:List Str->List V->List (Value×Value)->Prop
 | [],[],[]=>True
 | k::ks,v::vs,p::ps=>(∃ t,p.1=.str k t)/\RelV v p.2/\KVs ks vs ps
 | _,_,_=>False
def PD(X:Cx)(pos:Pos)(kes:List (Option Expr))(ves:List Expr)(ks:List Str)(t:TA):Prop :=
 ∀(pins:List (Addr×Obj))(s:Shared)(σ:St)(H:Hp)(Q:List V->Hp->Prop),Inv X pins σ H s->t σ H Q->wpAny (model X.prog X.w) X.A (evalPairs (prs X pos kes ves)) (λps s'=>∃ vs H',Inv X pins σ H' s'/\KVs ks vs ps/\Q vs H') X.xe s
theorem iG:PD X pos [] [] [] FQ:=λ_ _ _ H Q I h=>evalPairs_nil ⟨[],H,I,trivial,h⟩
theorem iH(y:PE X f (tC (.str k)))(w:PE X v te)(n:PD X pos c b ks t):PD X pos (some f::c) (v::b) (k::ks) (Dv te t):=by
 intro pins s σ H Q I h;refine evalPairs_cons (thn (y pins s σ H (λu H'=>u=.str k/\H'=H) I ⟨rfl,rfl⟩) λa l d=>?_);obtain⟨D,H1,o,z,rfl,rfl⟩:=d;refine Ql (thn (w pins l σ _ _ o h) λx g e=>Ql (wpAny_standAt (Qm ?_)));obtain⟨r,H2,m,j,q2⟩:=e;exact thn (n pins g σ H2 _ m q2) (by rintro ps B ⟨p,i,A,q,q3⟩;exact⟨r::p,i,A,⟨z,j,q⟩,q3⟩)
theorem SW(h:PD X pos b a ks t)(i:∀ σ H Q,t' σ H Q->t σ H Q):PD X pos b a ks t':=λpins s σ H Q I q=>h pins s σ H Q I (i σ H Q q)
def kvW{α:Type}:List Str->List α->List (Key×α)
 | k::ks,v::vs=>(Sum.inr k,v)::kvW ks vs
 | _,_=>[]
theorem KVs.len:∀{ks:List Str}{vs:List V}{ps:List (Value×Value)},KVs ks vs ps->vs.length=ks.length/\ps.length=ks.length
 | [],[],[],_=>⟨rfl,rfl⟩
 | k::ks,v::vs,p::ps,h=>by
  obtain⟨a,b⟩:=KVs.len h.2.2;simp only[Yg];lia
theorem SX{α:Type}:∀{ks:List Str}{vs:List α},(kvW ks vs).length<=ks.length
 | [],vs=>by cases vs <;> exact Yr _
 | k::ks,[]=>YU _
 | k::ks,v::vs=>by have:=SX (ks:=ks) (vs:=vs);simp only[kvW,Yg];lia
theorem KVs.carries:∀{ks:List Str}{vs:List V}{ps:List (Value×Value)},KVs ks vs ps->Carries (CA P w) ps (kvW ks (ps.map (·.2)))
 | [],[],[],_=>trivial
 | k::ks,v::vs,(a,x)::ps,h=>by
  obtain⟨⟨t,e⟩,_,h⟩:=h;have b:a=.str k t:=e;subst b;exact⟨Z7 _ _ _ _,rfl,h.carries⟩
theorem KVs.kv:∀{ks:List Str}{vs:List V}{ps:List (Value×Value)},KVs ks vs ps->KV (kvW ks vs) (kvW ks (ps.map (·.2)))
 | [],[],[],_=>.nil
 | k::ks,v::vs,(a,x)::ps,h=>.cons ⟨rfl,h.2.1⟩ h.2.2.kv
theorem iI{k:Key}{v:Value}(h:∀ y∈a,y.1≠k):stored a k v=a++[(k,v)]:=by
 unfold stored;rw[if_neg];intro z;obtain⟨y,b,e⟩:=List.any_eq_true.mp z;exact h y b (Qi e)
theorem SY:∀(ks:List Str)(vs:List Value)(a:List (Key×Value)),ks.Nodup->(∀ y∈a,∀ k∈ks,y.1≠Sum.inr k)->merged a (kvW ks vs)=a++kvW ks vs
 | [],vs,a,_,_=>by cases vs <;> simp[kvW,merged]
 | k::ks,[],a,_,_=>by simp[kvW,merged]
 | k::ks,v::vs,a,f,d=>by
  obtain⟨n1,n2⟩:=YR.mp f;show merged (stored a (Sum.inr k) v) (kvW ks vs)=a++(Sum.inr k,v)::kvW ks vs;rw[iI λy b=>d y b k Ye,SY ks vs _ n2 λy b j c=>?_,Yv]
  ·rfl
  ·rcases Yz.mp b with b | b
   ·exact d y b j (Yd _ c)
   ·rw[YA.mp b];intro e;exact n1 (by rw[Sum.inr.inj e];exact c)
def iJ(ks:List Str)(t:TA):TE:=λσ H Q=>t σ H λvs H1=>ks.Nodup/\∀ l,H1 l=none->Q (.ref l) (upd H1 l (.dK (kvW ks vs)))
theorem iK(j:(evalEachOpt d X.env).zip ((evalEach a X.env).map λv=>do let x <- v;standAt pos;pure x)=(prs X pos d a).map λp=>(some p.1,p.2))(L:prs X pos d a≠[])(hl:(prs X pos d a).length<=15)(k:ks.length<=15)(f:PD X pos d a ks t):PE X (.Dict d a pos) (iJ ks t):=by
 intro pins s σ H Q I h;have l:∀ b:Addr,s.heap.objs.size<=b->H b=none:=λb g=>I.hok.fresh g;refine wpAny_Dict_pairs (knd:=CA X.prog X.w) j L hl ?_;have n:(s.heap.push {cls:=.type "dict",data:=.dict #[]}).get? s.heap.objs.size=some {cls:=.type "dict",data:=.dict #[]}:=Qp _ rfl;have y:Inv X pins σ H {s with heap:=s.heap.push {cls:=.type "dict",data:=.dict #[]}}:=I.kept (t':=s.toks) λb u e=>Qn _ e
 have K:Inv X (pins++[(s.heap.objs.size,{cls:=.type "dict",data:=.dict #[]})]) σ H {s with heap:=s.heap.push {cls:=.type "dict",data:=.dict #[]}}:=y.pins_of λp f=>by
  rcases Yz.mp f with z | z
  ·exact y.pin p (YL _ z)
  ·rw[YA.mp z];exact⟨n,l _ (Yr _),Nat.ne_of_gt I.lt,I.nofs (Yr _),λv z=>by cases z⟩
 refine thn (f _ _ σ H _ K h) λps i r=>?_;obtain⟨J,F,A,kv,G,q⟩:=r;have pd:=A.pin (s.heap.objs.size,{cls:=.type "dict",data:=.dict #[]}) (by simp);refine⟨kvW ks (ps.map (·.2)),kv.carries,⟨_,#[],0,pd.1,⟨rfl,rfl,rfl⟩,rfl,λ_ N=>by simp at N,Pairs.nil,List.nodup_nil⟩,λh' B P=>?_⟩;rw[SY ks _ [] G (λ_ D=>by cases D),Yw]at B;have E:=A.unpinned
 have big:sysModules < s.heap.objs.size:=by
  have h:mainGlobals < s.heap.objs.size:=(I.mod.glob.keeps I.bk).lt;exact Nat.lt_trans (by decide) h
 have O:Inv X pins σ F {i with heap:=h',toks:=i.toks+ps.length}:=by
  refine E.turned (t':=i.toks+ps.length) (λb o g e=>(P.2 b g).trans e) pd.2.1 pd.2.2.1 (.inr I.sz) (λx c e=>?_) λp f=>?_
  ·obtain⟨v,o,m,_⟩:=I.cell x c e;exact Ys (Qo m)
  ·exact Ys (Qo (I.pin p f).1)
 refine⟨.ref s.heap.objs.size,_,O.track (o:=.dK (kvW ks J)) pd.2.1 pd.2.2.1 (λx c e=>?_) (λp f=>Ys (Qo (I.pin p f).1)) ?_ ⟨Yt SX (Yt k (by decide)),by simpa using Nat.ne_of_gt big,_,kv.kv,B⟩,rfl,q _ pd.2.1⟩
 ·obtain⟨v,o,m,_⟩:=I.cell x c e;exact Ys (Qo m)
 ·cases e:X.s₀.heap.get? s.heap.objs.size with
  | none=>rfl
  | some o=>exact Qk (Yu (Qo e) I.sz) (YK _)
structure Pm(X:Cx)(pos:Pos)(kes:List (Option Expr))(ves:List Expr)(ks:List Str)(g:GA):Prop where
 p:PD X pos kes ves ks (upA X.K g)
 m:g.M
theorem Nd:Pm X pos [] [] [] Ac:=⟨SW iG (by rintro σ H Q ⟨ω,G,a,r,q⟩;exact q [] H .refl .nil r),Mt⟩
theorem F6{j}(d:Em X v ga)(e:Pm X pos b a ks gs):Pm X pos (some (.Constant (.str k) j kp)::b) (v::a) (k::ks) (Aa ga gs):=
 ⟨SW (iH P3 d.p e.p) (by rintro σ H Q ⟨ω,G,h,r,q⟩;exact⟨ω,G,h,r,d.m _ _ _ _ (λx G1 q1 v H1 g l r1=>⟨ω,G1,h.mono g,r1,e.m _ _ _ _ (λxs G2 q2 n H2 f c i=>q2 _ H2 (g.trans f) (.cons (l.mono f) c) i) q1⟩) q⟩),Q4 d.m e.m⟩
def Ex(ks:List Str)(gs:GA):GE:=λω G Q=>gs ω G λws G1=>ks.Nodup/\∀ l,G1 l=none->Q (.ref l) (put G1 l (.dct (kvW ks ws)))
theorem iL(m:gs.M):GE.M (Ex ks gs):=λω G Q a h q=>m _ _ _ _ (by rintro b G1 ⟨e,z⟩;exact⟨e,λl hl=>h _ _ (z l hl)⟩) q
theorem SZ{K:PySem.W.Frag}:∀{ks:List Str}{vs:List V}{b:List W},TrL K H vs b->TrP K H (kvW ks vs) (kvW ks b)
 | [],_,_,t=>by cases t <;> exact .nil
 | k::ks,_,_,.nil=>.nil
 | k::ks,_,_,.cons a t=>.cons a (SZ t)
theorem Nf(c:(evalEachOpt b X.env).zip ((evalEach a X.env).map λv=>do let x <- v;standAt pos;pure x)=(prs X pos b a).map λp=>(some p.1,p.2))(i:prs X pos b a≠[])(hl:(prs X pos b a).length<=15)(e:ks.length<=15)(d:Pm X pos b a ks gs):Em X (.Dict b a pos) (Ex ks gs):=by
 refine⟨Bm (iK c i hl e d.p) λσ H Q⟨ω,G,h,r,q⟩=>⟨ω,G,h,r,d.m _ _ _ _ (λk G1 z j H1 g tv r1=>?_) q⟩,iL d.m⟩;obtain⟨f,z⟩:=z;exact⟨f,λl hl=>z l (r1.no hl) _ _ (g.trans (Mono.new hl _)) (.ref l) (RelH.laid r1 (Mono.new hl _) ⟨_,Ca,SZ (tv.mono (Mono.new hl _))⟩)⟩
section
theorem iM{δ:Type}{R:δ->Value->Prop}{D:List (Str×δ)}(T:KTD.TabOf R h₀ a D)(m:∀ b o,h₀.get? b=some o->s.heap.get? b=some o)(h1:∀ d v,KTD.datumAt k D=some d->R d v->Q (some v) {s with toks:=s.toks+1})(h2:KTD.datumAt k D=none->Q none {s with toks:=s.toks+1}):wpAny (model prog w) A (dictGet a (.str k tk)) Q E s:=by
 obtain⟨_,o,es,p,f,hc,hd,h⟩:=T;have f:=m _ _ f;unfold dictGet
 try with_reducible refine wpAny_holding ?_
 refine Ql (wpAny_pyHash_str (Ql (KTD.kt_dictFind_strs (s:={s with toks:=s.toks+1}) f hd (by obtain⟨l⟩:=es;simpa using h.exact) ?_)))
 have c:Q (findBy (λk v=>v.isStr k) es k) {s with toks:=s.toks+1}:=by
  have j:findBy (λk v=>v.isStr k) es k=(es.toList.find? λe=>e.key.isStr k).map (·.val):=by
   obtain⟨l⟩:=es;simp[findBy]
  rw[j];cases g:KTD.datumAt k D with
  | none=>rw[h.find_none g];exact h2 g
  | some d=>obtain⟨v,e,n⟩:=h.find_some g;rw[e];exact h1 d v g n
 rw[findBy_of_findIdx?]at c;cases hi:es.findIdx? λe=>e.key.isStr k with
 | none=>rw[hi]at c;exact Qm c
 | some i=>rw[hi]at c;exact Ql (wpAny_dictEntries (s:={s with toks:=s.toks+1}) f hd (Qm c))
variable {prog:Program}{w:World}{s:Shared} in
theorem iN{δ:Type}{R:δ->Value->Prop}{h₀:Heap}{a:Addr}{D:List (Str×δ)}{k:Str}{tk:Tok}:MeetsIn prog w (Builtin.«dict.get» ⟨[.ref a,.str k tk],[]⟩) (λ_ Z s=>(KTD.TabOf R h₀ a D/\∀ b o,h₀.get? b=some o->s.heap.get? b=some o)/\(∀ d v,KTD.datumAt k D=some d->R d v->Z (.ok (.ret v)) {s with toks:=s.toks+1})/\(KTD.datumAt k D=none->Z (.ok (.ret .none)) {s with toks:=s.toks+1})):=
 .of_wp λA Z s⟨⟨T,g⟩,h1,h2⟩=>by
  show wpAny _ _ (dictGet a (.str k tk) >>=_) _ _ s;refine Ql (iM T g (λd v c f=>Qm ⟨v,rfl,h1 d v c f⟩) λe=>?_);show wpAny _ _ (Builtin.Dict.missed a (.str k tk) >>=_) _ _ _;exact Ql (wpAny_missed_other T.1 (Qm ⟨.none,rfl,h2 e⟩))
end
def D6(D:List (Str×List Str))(z:Str):W:=match KTD.datumAt z D with | some ss=>.tup (ss.map W.str)| none=>.non
def JR(D:List (Str×List Str))(gk:GE):GE:=λω G Q=>gk ω G λw G1=>match w with | .str z=>Q (D6 D z) G1 | _=>False
theorem iO(h:M6 X.K X.mg X.base x D)(Z:Gl X x)(hd:(x==("__debug__":Str))=false)(c:attributeBase (.Name x i) "get" X.env (eval (.Name x i) X.env)=eval (.Name x i) X.env)(f:((backTo cpos (starEach [e] X.env)).all (λx=>!x.1)&&(backToKw cpos (keywordEach [] X.env)).all (λx=>x.1.isSome)&&decide ([e].length+([]:List Keyword).length+(if([]:List Keyword).isEmpty then 0 else 1) < 30))=true)(a:(apos.endLine==cpos.line)=true)(E:starEach [e] X.env=(false,eval e X.env)::starEach [] X.env)(hplain:(backTo cpos (starEach [] X.env)).any (·.1)=false)(g:Em X e k):
  Em X (.Call (.Attribute (.Name x i) "get" apos) [e] [] cpos) (JR D k):=by
 refine⟨λpins s σ H Q I⟨ω,G,ts,r,q⟩=>?_,λω G Q Q' L q=>g.m _ _ _ _ (λw G1 z=>by cases w <;> first | exact L _ _ z | exact z) q⟩;obtain⟨d,hm,T⟩:=h
 have ty:∀{s:Shared},(∀ b o,X.base.get? b=some o->s.heap.get? b=some o)->s.TypeIs (.ref d) "dict":=λg=>by
  obtain⟨_,o,_,_,n,hc,_⟩:=T;exact⟨o,g _ _ n,hc.1⟩
 have nd:∀ b,Value.ref d=.ref b->∃ A,s.heap.get? b=some A/\A.dict=none:=λb e=>by
  injection e with e;subst e;obtain⟨_,o,_,_,n,hc,_⟩:=T;exact⟨o,I.bk _ _ n,hc.2.1⟩
 refine wpAny_Call_method_late c f a rfl (GJ I Z hm ⟨"dict","dict.get",PySem.F.plainAttrs_dict,PySem.F.slot_dict_get,PySem.F.type_dict_get,ty I.bk,nd,?_⟩ hd);have pa:PA X [e] (Dv (up X.K k) FQ):=DW g.p GN E
 have B:=pa cpos pins s σ H (λJ H1=>∃ z,J=[.str z]/\∀ v,Tr X.K H1 v (D6 D z)->Q v H1) I ⟨ω,G,ts,r,g.m _ _ _ _ (λw G1 z v H1 m t r1=>by
  cases w with
  | str y=>exact⟨y,by rw[Q9 t],λv tv=>z v H1 m tv r1⟩
  | _=>exact z.elim) q⟩
 rw[E]at B ⊢;refine Calls.callWith_builtin (by show(false||(backTo cpos (starEach [] X.env)).any (·.1))=false;rw[hplain] <;> rfl) (Calls.evalArgs_plain ?_);refine thn B λus s2 l=>?_;obtain⟨J,H2,j,R,z,S,q2⟩:=l;subst S;obtain⟨u,rfl,O⟩:=C1 R;obtain⟨t,rfl⟩:=O;refine call_meetsIn PySem.F.slot_dict_get (ty j.bk) PySem.F.entry_dict_get (PySem.F.args_dict_get_2 _ _) (iN (h₀:=X.base) (D:=D)) ⟨⟨T,j.bk⟩,λN v P Y=>?_,λU=>?_⟩
 ·obtain⟨b,rfl,hq⟩:=Y;exact⟨.ref b,H2,j.tok _,rfl,q2 _ (by unfold D6;rw[P];exact .tup (hq H2) (SJ H2 N))⟩
 ·exact⟨.non,H2,j.tok _,rfl,q2 _ (by unfold D6;rw[U];exact .non)⟩
end L3
namespace L3
open PySem PySem.Spec PyProof.Rows L2
end L3
namespace L3
open PySem PySem.Spec PyProof.Rows L2
end L3
namespace L3
open PySem PySem.Spec PyProof.Rows L2
end L3
namespace L2
open PySem PySem.Spec PyProof.Rows
end L2
namespace L3
open PySem PySem.Spec PyProof.Rows L2
end L3
namespace L3
open PySem PySem.Spec PyProof.Rows L2
theorem iP{j p1 p2 pos}(hc:c.length<=1000)(h:PE X e t):PE X (.JoinedStr [.Constant (.str c) j p1,.FormattedValue e 114 none p2] pos) (λσ H Q=>t σ H λv H1=>∃ z,v=.str z/\(reprText z).length<=1000/\∀ y,Q (.str y) H1):=by
 have big:∀{n:Nat},n<=3000->n<=sizeLine:=λh=>Yt h (by decide);intro pins s σ H Q I q;refine wpAny_JoinedStr (Joins_cons (Calls.Constant_str ?_));have g:∀ y:Str,(Str.empty++y).length=y.length:=λy=>by rw[Str.length_append];exact Nat.zero_add _
 refine⟨c,_,rfl,by rw[g];exact big (by lia),Joins_cons (wpAny_FormattedValue_repr (thn (h pins _ σ H _ (I.tok _) q) ?_))⟩;rintro v l ⟨x,H1,i,r1,z,rfl,m,q1⟩;obtain⟨tk,rfl⟩:=r1;refine wpAny_pyReprObj_str ?_ (big (by lia))
 have b:∀(tk:Tok)(f:Shared),Inv X pins σ H1 f->∃ y t,Value.str (reprText z) tk=Value.str y t/\(Str.empty++c++y).length<=sizeLine/\Joins (model X.prog X.w) X.A X.xe (evalEach [] X.env) (Str.empty++c++y) (λd a=>d.length<=sizeLine/\EP X pins σ Q (Value.str d a.toks) {a with toks:=a.toks+1}) f:=λtk f k=>by
  have hl:(Str.empty++c++reprText z).length<=sizeLine:=by rw[Str.length_append,g];exact big (by lia)
  exact⟨_,_,rfl,hl,Joins_nil ⟨hl,.str _,H1,k.tok _,⟨_,rfl⟩,q1 _⟩⟩
 exact wpAny_formatField_str (b _ _ (i.tok _)) (b _ _ ((i.tok _).tok _)) (big (by lia))
def gFR(g:GE):GE:=λω G Q=>g ω G λw G1=>∃ z,w=.str z/\(reprText z).length<=1000/\∀ y,Q (.str y) G1
theorem iQ(m:g.M):GE.M (gFR g):=λω G Q a h q=>m _ _ _ _ (by rintro x G1 ⟨z,e,l,k⟩;exact⟨z,e,l,λy=>h _ _ (k y)⟩) q
theorem iR{j p1 p2 pos}(hc:c.length<=1000)(h:Em X a g):Em X (.JoinedStr [.Constant (.str c) j p1,.FormattedValue a 114 none p2] pos) (gFR g):=
 ⟨Bm (iP hc h.p) λσ H Q⟨ω,G,b,r,q⟩=>⟨ω,G,b,r,h.m _ _ _ _ (λx G1 z v H1 m t r1=>by
  obtain⟨y,rfl,l,z⟩:=z;cases t;exact⟨_,rfl,l,λy=>z y _ _ m (.str _) r1⟩) q⟩,iQ h.m⟩
def Dl{α:Type}:List (Key×α)->List (Key×α)->List (Key×α)
 | d,[]=>d
 | d,kv::r=>Dl (D3 d kv.1 kv.2) r
theorem S0{α:Type}:∀(r d:List (Key×α)),(Dl d r).length<=d.length+r.length
 | [],d=>Yr _
 | kv::r,d=>by
  have h1:=S0 r (D3 d kv.1 kv.2);have h2:=iC d kv.1 kv.2;show(Dl (D3 d kv.1 kv.2) r).length<=d.length+(r.length+1);lia
theorem S1:∀{d:List (Key×V)}{us:List (Key×Value)},KV d us->∀{c:List (Key×V)}{vs:List (Key×Value)},KV c vs->KV (Dl c d) (merged vs us)
 | _,_,.nil,_,_,h=>h
 |(a,x)::d,(b,y)::us,.cons ⟨e,f⟩ t,c,vs,h=>by
  cases(show a=b from e);exact S1 t (iD f h)
theorem S2{K:PySem.W.Frag}:∀{c:List (Key×V)}{us:List (Key×W)},TrP K H c us->∀{b:List (Key×V)}{vs:List (Key×W)},TrP K H b vs->TrP K H (Dl b c) (Dl vs us)
 | _,_,.nil,_,_,h=>h
 |(a,x)::c,(_,y)::us,.cons tv t,b,vs,h=>S2 t (iE tv h)
def S3(o:W)(ws:List W)(G:Hw)(Q:Kw):Prop:=∃ p q kvs ms,o=.ref p/\ws=[.ref q]/\p≠q/\G p=some (.dct kvs)/\G q=some (.dct ms)/\kvs.length+ms.length<=sizeLine/\Q .non (put G p (.dct (Dl kvs ms)))
theorem iS:MtR X "dict.update" (λv vs H Q=>∃ p q a c,v=.ref p/\vs=[.ref q]/\p≠q/\H p=some (.dK a)/\H q=some (.dK c)/\a.length+c.length<=sizeLine/\Q .non (upd H p (.dK (Dl a c)))):=by
 intro pins s σ H x vs v l Q I y B h;obtain⟨p,q0,a,c,rfl,rfl,k,m,D,hl,q⟩:=h;cases y;obtain⟨u,rfl,t⟩:=B.one;cases t;obtain⟨_,hd,vs,g,n⟩:a.length<=sizeLine/\(p==sysModules)=false/\∃ vs,KV a vs/\s.heap.DictOf (CA X.prog X.w) p vs:=I.hok p _ m;obtain⟨_,j,l,d,i⟩:c.length<=sizeLine/\(q0==sysModules)=false/\∃ vs,KV c vs/\s.heap.DictOf (CA X.prog X.w) q0 vs:=I.hok q0 _ D;have J:=Paired.length g;have G:=Paired.length d;refine call_meetsIn PySem.F.slot_dict_update n.typeIs PySem.F.entry_dict_update (PySem.F.args_dict_update_2 _ _) (meets_dict_update (CA X.prog X.w) p q0 k j) ⟨vs,l,n,i,by lia,λh' f _ E=>?_⟩;have A:∃ o,h'.get? p=some o:=by obtain⟨o,_,_,z,_⟩:=f;exact⟨o,z⟩
 refine⟨.non,_,I.write (t':=s.toks) (x:=p) (e:=p) (o:=.dK (Dl a c)) (by rw[m];trivial) (.inl rfl) (λb w r e=>(E.2 b r).trans e) A ?_,rfl,q⟩;have:=S0 c a;exact⟨by lia,hd,_,S1 d g,f⟩
theorem S4:Mth X "dict" "update" "dict.update" M3 S3 where
 pa:=PySem.F.plainAttrs_dict
 slot:=PySem.F.slot_dict_update
 ty:=PySem.F.type_dict_update
 ex:=⟨_,iS,λo x v c G H Q tv d r q=>by
  obtain⟨p,q0,a,b,rfl,rfl,e,n,k,hl,q⟩:=q;cases tv;cases d with
  | cons B t =>
   cases t;cases B;obtain⟨g,f,l⟩:=r p _ n;obtain⟨c,j,i⟩:=r q0 _ k;have m:Mono X.K H (upd H p (.dK (Dl g c))):=Mono.was f _ (λ_ z=>by cases z) (λ_ _ z=>by cases z);exact⟨p,q0,g,c,rfl,rfl,e,f,j,by rw[M9 l,M9 i];exact hl,q _ _ m .non (RelH.laid (u:=.dct (Dl a b)) r m ⟨_,Ca,(S2 i l).mono m⟩)⟩⟩
 pr:=Sy.pr
 m:=(by rintro o x G Q D h ⟨p,q0,a,b,h1,h2,s,w,y,A,q⟩;exact⟨p,q0,a,b,h1,h2,s,w,y,A,h _ _ q⟩)
end L3
namespace L3
open PySem PySem.Spec PyProof.Rows L2
end L3
namespace L3
open PySem PySem.Spec PyProof.Rows L2
def F7(ws:List W)(_:Hw):Option W:=match ws with | [.int i]=>if decide (-(10 ^ 30) < i/\i < 10 ^ 30)=true then some (.str (Str.ofString (toString i)))else none | _=>none
theorem iT:CallR X (.type "str") (λxs H Q=>∃ i:Int,xs=[.int i]/\(-(10 ^ 30) < i/\i < 10 ^ 30)/\Q (.str (Str.ofString (toString i))) H):=by
 intro pins s σ H xs a Q I r h;obtain⟨i,rfl,hi,q⟩:=h;obtain⟨u,rfl,t,rfl⟩:=C1 r;have e:(10:Int) ^ 30=1000000000000000000000000000000:=by decide
 refine P.str_of_int (shown_abs (N:=1000000000000000000000000000000) (by split <;> lia) (by decide +kernel)) ⟨.str _,H,I.tok _,⟨_,rfl⟩,q⟩
variable {K:PySem.W.Frag}{H:Hp} in
theorem iU:UpC K (rF F7) (λxs H Q=>∃ i:Int,xs=[.int i]/\(-(10 ^ 30) < i/\i < 10 ^ 30)/\Q (.str (Str.ofString (toString i))) H):=λd c G H Q t r q=>by
 obtain⟨w,e,a⟩:=C4 q;unfold F7 at e;split at e
 ·split at e
  ·rename_i hi;cases e;cases t with
   | cons b t =>
    cases t;cases b;exact⟨_,rfl,Qi hi,a _ H .refl (.str _) r⟩
  ·cases e
 ·cases e
theorem iV:Blt X (.type "str") (rF F7):=⟨⟨_,iT,iU⟩,FW⟩
def DE(ws:List W)(_:Hw):Option W:=match ws with | [.str x]=>if x.length<=640 then(PySem.intText? x).map W.int else none | _=>none
theorem iW:CallR X (.type "int") (λxs H Q=>∃ x n,xs=[.str x]/\x.length<=640/\PySem.intText? x=some n/\Q (.int n) H):=by
 intro pins s σ H xs b Q I r h;obtain⟨x,n,rfl,hl,a,q⟩:=h;obtain⟨u,rfl,t,rfl⟩:=C1 r;exact PySem.W.KIN.call_text a hl ⟨.int n,H,I.tok _,⟨_,rfl⟩,q⟩
variable {K:PySem.W.Frag}{H:Hp} in
theorem iX:UpC K (rF DE) (λxs H Q=>∃ x n,xs=[.str x]/\x.length<=640/\PySem.intText? x=some n/\Q (.int n) H):=λf d G H Q t r q=>by
 obtain⟨w,e,b⟩:=C4 q;unfold DE at e;split at e
 ·split at e
  ·rename_i hl;obtain⟨n,c,e⟩:=YQ.mp e;cases e;cases t with
   | cons a t =>
    cases t;cases a;exact⟨_,n,rfl,hl,c,b _ H .refl (.int _) r⟩
  ·cases e
 ·cases e
theorem iY:Blt X (.type "int") (rF DE):=⟨⟨_,iW,iX⟩,FW⟩
end L3
namespace L3
open PySem PySem.Spec PyProof.Rows L2
variable {K:PySem.W.Frag}{H H':Hp}
def Ng(T U V9:String)(ge:GE):GE:=λω G Q=>ge ω G λw G1=>match tyN w G1 with | some n=>Q (.bl (Ba n T||Ba n U||Ba n V9)) G1 | none=>False
theorem iZ(m:ge.M):GE.M (Ng T U V9 ge):=λω G Q a h q=>m _ _ _ _ (λw G1 z=>by
 cases e:tyN w G1 with
 | none=>rw[e]at z;exact z
 | some n=>rw[e]at z;exact h _ _ z) q
theorem F8(a:n∈["NoneType","bool","int","str","tuple","list"])(b:T∈["tuple","list","str","int","bool","dict"])(c:U∈["tuple","list","str","int","bool","dict"])(d:V9∈["tuple","list","str","int","bool","dict"]):PySem.W.kitAny K (.type n) [.type T,.type U,.type V9]=some (Ba n T||Ba n U||Ba n V9):=by
 unfold PySem.W.kitAny PySem.W.kitAny PySem.W.kitAny PySem.W.kitAny;rw[D1 a b,D1 a c,D1 a d];cases Ba n T <;> cases Ba n U <;> cases Ba n V9 <;> rfl
theorem i9{σ:St}(I:Inv X pins σ H s)(c:RelV v u)(t:Tr X.K H v w)(r:RelH X.K H G)(e:tyN w G=some n)(d:T∈["tuple","list","str","int","bool","dict"])(f:U∈["tuple","list","str","int","bool","dict"])(g:V9∈["tuple","list","str","int","bool","dict"])(b:s.heap.get? q=some ⟨.type "tuple",dd,.seq [Value.type T,.type U,.type V9].toArray F,B⟩)(h:∀ tk,Q (.bool (Ba n T||Ba n U||Ba n V9)) {s with toks:=tk}):wpAny (model X.prog X.w) X.A (call (.builtin "isinstance") [u,.ref q]) Q E s:=by
 cases t with
 | non=>cases e;cases(show u=Value.none from c);exact PySem.W.kia_tup PySem.W.kitx_none I.kIn True.intro b (F8 (by simp) d f g) (λz=>nomatch z) h
 | bl y=>cases e;cases(show u=Value.bool y from c);exact PySem.W.kia_tup PySem.W.kitx_bool I.kIn True.intro b (F8 (by simp) d f g) (λz=>nomatch z) h
 | int i=>cases e;obtain⟨t,rfl⟩:=c;exact PySem.W.kia_tup PySem.W.kitx_int I.kIn True.intro b (F8 (by simp) d f g) (λz=>nomatch z) h
 | str y=>cases e;obtain⟨t,rfl⟩:=c;exact PySem.W.kia_tup PySem.W.kitx_str I.kIn True.intro b (F8 (by simp) d f g) (λz=>nomatch z) h
 | tup k l =>
  cases e;cases c;obtain⟨j,_,p,_⟩:=I.tuple k;obtain⟨o,h1,h2,_⟩:=p;exact PySem.W.kia_tup PySem.W.kitx_tuple I.kIn ⟨o,h1,h2⟩ b (F8 (by simp) d f g) (λz=>nomatch z) h
 | rol k l =>
  cases e;cases c;obtain⟨j,_,p,_⟩:=I.list k.sq;obtain⟨o,h1,h2,_⟩:=p.isList;exact PySem.W.kia_tup PySem.W.kitx_list I.kIn ⟨o,h1,h2⟩ b (F8 (by simp) d f g) (λz=>nomatch z) h
 | ref a =>
  unfold tyN at e;dsimp only at e;cases m:G a with
  | none=>rw[m]at e;cases e
  | some o =>
   rw[m]at e;cases o with
   | exc C=>cases e
   | ins C fs=>cases e
   | dct D=>cases e
   | lst xs =>
    cases e;cases c;obtain⟨J,x,_⟩:=r a _ m;obtain⟨j,_,p,_⟩:=I.list (SqL.of x);obtain⟨o,h1,h2,_⟩:=p.isList;exact PySem.W.kia_tup PySem.W.kitx_list I.kIn ⟨o,h1,h2⟩ b (F8 (by simp) d f g) (λz=>nomatch z) h
section
theorem jd(hT:T∈["tuple","list","str","int","bool","dict"])(hU:U∈["tuple","list","str","int","bool","dict"])(hV:V9∈["tuple","list","str","int","bool","dict"])(hv:bootBuiltins c=some (.type T))(hw:bootBuiltins d=some (.type U))(hx:bootBuiltins f=some (.type V9))(A:X.mg c=none)(R:X.mg d=none)(D:X.mg f=none)(F:X.mg "isinstance"=none)(P:Gl X "isinstance")(E:Gl X c)(L:Gl X d)(B:Gl X f)(hn:c≠"__name__")(Y:d≠"__name__")(J:f≠"__name__")(hd:(c==("__debug__":Str))=false)(S:(d==("__debug__":Str))=false)(y:(f==("__debug__":Str))=false)(he:starEach [e,.Tuple [.Name c pc,.Name d pd,.Name f pf] k1 pt] X.env=[(false,eval e X.env),(false,eval (.Tuple [.Name c pc,.Name d pd,.Name f pf] k1 pt) X.env)])(a:starEach [.Tuple [.Name c pc,.Name d pd,.Name f pf] k1 pt] X.env=[(false,eval (.Tuple [.Name c pc,.Name d pd,.Name f pf] k1 pt) X.env)])(x:starEach [.Name c pc,.Name d pd,.Name f pf] X.env=[(false,eval (.Name c pc) X.env),(false,eval (.Name d pd) X.env),(false,eval (.Name f pf) X.env)])(j:starEach [.Name d pd,.Name f pf] X.env=[(false,eval (.Name d pd) X.env),(false,eval (.Name f pf) X.env)])(k:starEach [.Name f pf] X.env=[(false,eval (.Name f pf) X.env)])(h:Em X e ge):Em X (.Call (.Name "isinstance" p) [e,.Tuple [.Name c pc,.Name d pd,.Name f pf] k1 pt] [] pos) (Ng T U V9 ge):=by
 refine⟨λpins s σ H Q I N=>?_,iZ h.m⟩;obtain⟨ω,G,ts,r,q⟩:=N
 have pa:PA X [e,.Tuple [.Name c pc,.Name d pd,.Name f pf] k1 pt] (Dv (up X.K ge) (Dv (QA (Dv (tC (.ty T)) (Dv (tC (.ty U)) (Dv (tC (.ty V9)) FQ)))) FQ)):=
  DW h.p (DW (QB (DW (Jn E A hv rfl hn hd) (DW (Jn L R hw rfl Y S) (DW (Jn B D hx rfl J y) GN (by rw[k];rfl)) (by rw[j,k])) (by rw[x,j]))) GN (by rw[a];rfl)) (by rw[he,a])
 refine wpAny_Call_Name_kw (EZ I P F RI ?_ (by decide) (by decide));refine PyProof.Rows.callWith_builtin1 (thn (pa pos pins s σ H (λZ H1=>∃ v w G1 n i,Z=[v,.ref i]/\H1 i=some (.tup [.ty T,.ty U,.ty V9])/\Tr X.K H1 v w/\RelH X.K H1 G1/\tyN w G1=some n/\Q (.bl (Ba n T||Ba n U||Ba n V9)) H1) I ?_) λus s1⟨Z,H1,O,r1,v,w,G1,n,i,e1,ht,tv,rr,g,qq⟩=>?_) (by rw[he,a]) (by rw[a];rfl)
 ·refine⟨ω,G,ts,r,h.m _ _ _ _ (λw G1 z v H1 m t r1=>?_) q⟩;cases g:tyN w G1 with
  | none=>rw[g]at z;exact z.elim
  | some n =>
   rw[g]at z;exact⟨(Qzz 3),λi l=>⟨v,w,G1,n,i,rfl,Ca,t.mono (Mono.new l _),r1.mono0 l,g,z _ _ (m.trans (Mono.new l _)) (.bl _) (r1.mono0 l)⟩⟩
 ·subst e1;obtain⟨u,u2,rfl,rv,rt⟩:=Jr r1;cases rt;obtain⟨its,b,⟨o,h1,h2,nn,h3⟩,_⟩:=O.tuple (SqT.of ht);cases b with
  | cons q1 b =>
  cases b with
  | cons q2 b =>
  cases b with
  | cons q3 b =>
  cases b;cases q1;cases q2;cases q3;obtain⟨oc,od,odt,osl⟩:=o;dsimp only at h2 h3;subst h2;subst h3;exact i9 O rv tv rr g hT hU hV h1 λtk=>⟨.bl _,H1,O.tok tk,rfl,qq⟩
end
section
theorem je{items}(a:s.heap.IsTupleIter b t i)(f:s.heap.IsTuple t items)(h:items[i]?=some x)(g:∀ h',h'.IsTupleIter b t (i+1)->Heap.SameBut b s.heap h'->Q x {s with heap:=h'}):wpAny (model prog w) A (Builtin.SmallTypes.nextOf (.ref b)) Q E s:=by
 obtain⟨o,c,hc,hd⟩:=id a;obtain⟨j,d,_,k,e⟩:=f;unfold Builtin.SmallTypes.nextOf;refine Ql (wpAny_callSpecial?_slot (name:=Str.ofString "__next__") a.typeIs F.slot_tuple_iterator_next (wpAny_call_entry F.slot_tuple_iterator_next a.typeIs F.entry_tuple_iterator_next ?_ (F.args_tuple_iterator_next_1 _)));show wpAny _ _ (field (.ref b) 0 >>=_) _ _ s;refine Ql (wpAny_field c hd (x:=.ref t) rfl ?_);show wpAny _ _ (if(Value.ref t==Value.none)=true then _ else _) _ _ s;rw[if_neg (show ¬ ((Value.ref t==Value.none)=true)from YT)];show wpAny _ _ (field (.ref b) 1 >>=_) _ _ s;refine Ql (wpAny_field c hd (x:=.int i 0) rfl ?_);show wpAny _ _ (seqItems? (.ref t) >>=_) _ _ s;refine Ql (wpAny_seqItems d e ?_);simp only[Int.toNat_natCast,h];refine Ql (wpAny_setField c hd (by simp) (Qm ⟨x,rfl,Qm (g _ ?_ (Qr ..))⟩));exact⟨_,Heap.get?_update_self _ c (Obj.isFreed_of_fields (Obj.data_mapFields hd _)),(Obj.cls_mapFields ..).trans hc,by rw[Obj.data_mapFields hd];simp[rawInt]⟩
theorem jj{items}(h:A.handled=none)(b:s.heap.IsTupleIter c t i)(j:s.heap.IsTuple t items)(k:items[i]?=none)(l:∀ h' e,Heap.ExtBut c s.heap h'->(∃ o,h'.get? e=some o/\o.cls=.type "StopIteration")->E (.ref e) {s with heap:=h'}):wpAny (model prog w) A (Builtin.SmallTypes.nextOf (.ref c)) Q E s:=by
 obtain⟨o,g,hc,hd⟩:=id b;obtain⟨n,d,_,p,f⟩:=j;unfold Builtin.SmallTypes.nextOf;refine Ql (wpAny_callSpecial?_slot (name:=Str.ofString "__next__") b.typeIs F.slot_tuple_iterator_next (wpAny_call_entry F.slot_tuple_iterator_next b.typeIs F.entry_tuple_iterator_next ?_ (F.args_tuple_iterator_next_1 _)));show wpAny _ _ (field (.ref c) 0 >>=_) _ _ s;refine Ql (wpAny_field g hd (x:=.ref t) rfl ?_);show wpAny _ _ (if(Value.ref t==Value.none)=true then _ else _) _ _ s;rw[if_neg (show ¬ ((Value.ref t==Value.none)=true)from YT)];show wpAny _ _ (field (.ref c) 1 >>=_) _ _ s;refine Ql (wpAny_field g hd (x:=.int i 0) rfl ?_);show wpAny _ _ (seqItems? (.ref t) >>=_) _ _ s;refine Ql (wpAny_seqItems d f ?_);simp only[Int.toNat_natCast,k];refine Ql (wpAny_rule (Ql (wpAny_setField g hd (by simp) ?_)));show wpAny _ _ (newExc (.type "StopIteration") [] >>=_) _ _ _;refine Ql ?_;simp only[newExc,newTuple];refine Ql (wpAny_newObj_type ?_ (by size_fits));refine Ql (m:=firstArgMember _ _) (wpAny_of_eq (a:=Value.none) (by first | rfl |(simp only[firstArgMember];rfl)) ?_);refine wpAny_newObj_type ?_ (by size_fits);simp only[raiseNew];refine Ql (wpAny_handled ?_)
 first | rw[show A.in1.handled=none from h]| rw[h]
 refine Ql (Qm (wpAny_throw ?_));exact l _ _ (((Qr ..).extBut.push _).push _) ⟨_,Qp _ rfl,rfl⟩
abbrev HX(t:Addr):Obj:={cls:=.type "tuple_iterator",data:=.fields #[.ref t,.int 0 0]}
abbrev Nh(z:Addr):Obj:={cls:=.type "enumerate",data:=.fields #[.none,.bool false,.ref z,rawInt 0,.none,.none]}
theorem jk(t:Addr)(o:Obj)(items:Array Value):
  Meets (Builtin.«enumerate.__new__» ⟨[.type "enumerate",.ref t],[]⟩) (λ_ R s=>(s.heap.get? t=some o/\s.heap.IsTuple t items)/\
   R (.ok (.ret (.ref (s.heap.push (HX t)).objs.size))) {s with heap:=(s.heap.push (HX t)).push (Nh s.heap.objs.size)}):=
 .of_wp λprog w A R s h=>by
  obtain⟨e,g,d,tk,os⟩:=s;obtain⟨⟨hl,a⟩,h⟩:=h;have b:=sub_enumerate;wp_walk using AutoSeq1.wpAny_loadPart' hl;refine wpAny_stack_any λst=>Qm ?_;split
  ·rename_i c _ _ _ _ _;cases(c==Value.type "enumerate")
   ·wp_walk using AutoSeq1.wpAny_loadPart' hl,wpAny_pyIter_tuple a;exact⟨_,rfl,h⟩
   ·wp_walk using AutoSeq1.wpAny_loadPart' hl,wpAny_pyIter_tuple a;exact⟨_,rfl,h⟩
  ·wp_walk using AutoSeq1.wpAny_loadPart' hl,wpAny_pyIter_tuple a;exact⟨_,rfl,h⟩
theorem jp{s:Shared}(d:s.heap.IsTuple t items)(h:∀ h',IsEnum h' (s.heap.objs.size+1) s.heap.objs.size 0 .none->h'.IsTupleIter s.heap.objs.size t 0->h'.objs.size=s.heap.objs.size+2->
   (∀ b o,s.heap.get? b=some o->h'.get? b=some o)->Q (.ref (s.heap.objs.size+1)) {s with heap:=h'}):wpAny (model prog w) A (call (.type "enumerate") [.ref t]) Q E s:=by
 obtain⟨o,hl,_⟩:=id d;refine callType_new F.called_enumerate (by decide) (F.typeCall_enumerate_1 _) (F.newCall_enumerate_1 _) (λobj=>F.args_object_init_2 obj _) F.entry_enumerate_new (jk t o items) ⟨⟨hl,d⟩,?_⟩;have a:(s.heap.push (HX t)).objs.size=s.heap.objs.size+1:=Qq ..;show _/\_;rw[a]
 have c:IsEnum ((s.heap.push (HX t)).push (Nh s.heap.objs.size)) (s.heap.objs.size+1) s.heap.objs.size 0 .none:=by
  have:=Qp (s.heap.push (HX t)) (o:=Nh s.heap.objs.size) rfl;rw[a]at this;exact this
 exact⟨⟨_,c,rfl⟩,h _ c ⟨_,Qn _ (Qp _ rfl),rfl,rfl⟩ (by rw[Qq,a]) λb o x=>Qn _ (Qn _ x)⟩
theorem ju{i:Nat}{Q:Value->Shared->Prop}(Z:IsEnum s.heap e a i old)(X:s.heap.IsTupleIter a l i)(hl:s.heap.IsTuple l items)(hx:items[i]?=some x)(p:e≠a)(hQ:∀ h',IsEnumOut h' e a ((i:Int)+1) x s.heap.objs.size->h'.IsTupleIter a l (i+1)->
   h'.get? s.heap.objs.size=some {cls:=.type "tuple",data:=.seq #[.int i s.toks,x]}->h'.objs.size=s.heap.objs.size+1->
   (∀ b o,b≠e->b≠a->s.heap.get? b=some o->h'.get? b=some o)->Q (.ref s.heap.objs.size) {s with heap:=h',toks:=s.toks+1}):
  wpAny (model prog w) A (Builtin.«enumerate.__next__» ⟨[.ref e],[]⟩) (λT s'=>∃ v,T=.done (.ret v)/\Q v s') E s:=by
 obtain⟨y,g,d,tk,os⟩:=s;show wpAny _ _ (field (.ref e) 2 >>=_) _ _ _;refine Ql (wpAny_field Z rfl (x:=.ref a) rfl ?_);refine Ql (je X hl hx λh1 F f=>?_);replace f:Heap.SameBut a y h1:=f;have u:IsEnum h1 e a i old:=(f.2 e p).trans Z;show wpAny _ _ (field (.ref e) 3 >>=_) _ _ ⟨h1,g,d,tk,os⟩;refine Ql (wpAny_field u rfl (x:=rawInt i) rfl ?_);show wpAny _ _ (field (.ref e) 4 >>=_) _ _ ⟨h1,g,d,tk,os⟩;refine Ql (wpAny_field u rfl (x:=.none) rfl ?_);show wpAny _ _ (mkInt i >>=_) _ _ ⟨h1,g,d,tk,os⟩;refine Ql (wpAny_mkInt ?_);show wpAny _ _ (setField (.ref e) 3 (rawInt ((i:Int)+1)) >>=_) _ _ ⟨h1,g,d,tk+1,os⟩;refine Ql (wpAny_setField_rec u (by simp) λh2 B k=>?_);replace k:Heap.SameBut e h1 h2:=k;replace B:IsEnum h2 e a ((i:Int)+1) old:=B;show wpAny _ _ (setField (.ref e) 4 .none >>=_) _ _ ⟨h2,g,d,tk+1,os⟩;refine Ql (wpAny_setField_rec B (by simp) λJ t j=>?_);replace j:Heap.SameBut e h2 J:=j;replace t:IsEnum J e a ((i:Int)+1) old:=t;show wpAny _ _ (newTuple [.int i tk,x] >>=_) _ _ ⟨J,g,d,tk+1,os⟩;refine Ql (wpAny_newTuple ?_);have D:IsEnum (J.push {cls:=.type "tuple",data:=.seq #[.int i tk,x]}) e a ((i:Int)+1) old:=Qn _ t;generalize q:J.push {cls:=.type "tuple",data:=.seq #[.int i tk,x]}=h4 at D;have z:J.objs.size=y.objs.size:=by rw[j.1,k.1,f.1]
 have I:e < y.objs.size:=Qo Z;have Y:h4.get? y.objs.size=some {cls:=.type "tuple",data:=.seq #[.int i tk,x]}:=by rw[<- q,<- z];exact Qp _ rfl
 have U:h4.objs.size=y.objs.size+1:=by rw[<- q,Qq,z]
 have R:∀ b o,b≠e->b≠a->y.get? b=some o->h4.get? b=some o:=λb o c K P=>by
  rw[<- q];exact Qn _ (j.extBut b o c (k.extBut b o c (f.extBut b o K P)))
 have N:h4.IsTupleIter a l (i+1):=by
  rw[<- q];obtain⟨o,ho,r⟩:=(F.extBut k.extBut (YV p)).extBut j.extBut (YV p);exact⟨o,Qn _ ho,r⟩
 show wpAny _ _ (Builtin.SmallTypes.ownedTupleIsFree (.ref e) >>=_) _ _ ⟨h4,g,d,tk+1,os⟩;rw[z];clear q t j B k u f F z J h2 h1;refine Ql ?_;unfold Builtin.SmallTypes.ownedTupleIsFree;refine Ql (wpAny_field D rfl (x:=.none) rfl (Qm ?_));simp only[if_true];refine Ql (wpAny_rule ?_);refine Ql (wpAny_field D rfl (x:=old) rfl ?_);refine Ql (wpAny_setField_rec D (by simp) λO L m=>?_);replace m:Heap.SameBut e h4 O:=m;replace L:IsEnum O e a ((i:Int)+1) x:=L;show wpAny _ _ (Builtin.SmallTypes.ownedTupleHandOut (.ref e) (.ref y.objs.size) >>=_) _ _ ⟨O,g,d,tk+1,os⟩;refine Ql ?_;unfold Builtin.SmallTypes.ownedTupleHandOut;refine Ql (wpAny_setField_rec L (by simp) λh6 H h=>?_);replace h:Heap.SameBut e O h6:=h;replace H:IsEnumOut h6 e a ((i:Int)+1) x y.objs.size:=H;refine wpAny_setField_rec H (by simp) λS G n=>?_;replace n:Heap.SameBut e h6 S:=n;replace G:IsEnumOut S e a ((i:Int)+1) x y.objs.size:=G;refine Ql (wpAny_letGo (Qm ⟨_,rfl,hQ S G ?_ ?_ ?_ ?_⟩))
 ·exact((N.extBut m.extBut (YV p)).extBut h.extBut (YV p)).extBut n.extBut (YV p)
 ·exact n.extBut _ _ (Nat.ne_of_gt I) (h.extBut _ _ (Nat.ne_of_gt I) (m.extBut _ _ (Nat.ne_of_gt I) Y))
 ·rw[n.1,h.1,m.1,U]
 ·exact λb o c K P=>n.extBut b o c (h.extBut b o c (m.extBut b o c (R b o c K P)))
theorem jx{i:Nat}(j:IsEnum s.heap e f i old)(g:s.heap.IsTupleIter f l i)(hl:s.heap.IsTuple l items)(p:items[i]?=some x)(h:e≠f)(n:∀ h',IsEnumOut h' e f ((i:Int)+1) x s.heap.objs.size->h'.IsTupleIter f l (i+1)->
   h'.get? s.heap.objs.size=some {cls:=.type "tuple",data:=.seq #[.int i s.toks,x]}->h'.objs.size=s.heap.objs.size+1->
   (∀ b o,b≠e->b≠f->s.heap.get? b=some o->h'.get? b=some o)->Q (some (.ref s.heap.objs.size)) {s with heap:=h',toks:=s.toks+1}):wpAny (model prog w) A (pyNext (.ref e)) Q E s:=by
 have m:s.TypeIs (.ref e) "enumerate":=⟨_,j,rfl⟩;unfold pyNext;exact Ql (wpAny_attempt (wpAny_callSpecial?_slot (name:=Str.ofString "__next__") m F.slot_enumerate_next (wpAny_call_entry F.slot_enumerate_next m F.entry_enumerate_next (ju j g hl p h λh' a b c d k=>Qm (n h' a b c d k)) (F.args_enumerate_next_1 _))))
theorem jz{i:Nat}(j:A.handled=none)(g:IsEnum s.heap e a i old)(d:s.heap.IsTupleIter a l i)(hl:s.heap.IsTuple l items)(m:items[i]?=none)(k:∀ h',Heap.ExtBut a s.heap h'->Q none {s with heap:=h'}):wpAny (model prog w) A (pyNext (.ref e)) Q E s:=by
 have h:s.TypeIs (.ref e) "enumerate":=⟨_,g,rfl⟩;unfold pyNext;refine Ql (wpAny_attempt (wpAny_callSpecial?_slot (name:=Str.ofString "__next__") h F.slot_enumerate_next (wpAny_call_entry F.slot_enumerate_next h F.entry_enumerate_next ?_ (F.args_enumerate_next_1 _))));show wpAny _ _ (field (.ref e) 2 >>=_) _ _ _;refine Ql (wpAny_field g rfl (x:=.ref a) rfl ?_);refine Ql (jj j d hl m λh' x c f=>?_);obtain⟨o,n,hc⟩:=f;refine Ql (wpAny_isInstance (T:="StopIteration") (b:=true) ⟨o,n,hc⟩ isSubtype_stop ?_);exact Qm (k _ c)
end
def S5(K:PySem.W.Frag)(l:Addr):It :=
 ⟨λi H=>∃ xs,SqT K H l xs/\i < xs.length,
  λi H v H'=>∃ T x,H T=none/\v=.ref T/\H'=upd H T (.tup [.int i,x])/\∀ xs,SqT K H l xs->xs[i]?=some x,
  λi H=>∃ xs,SqT K H l xs/\i=xs.length⟩
theorem jB(n1:e≠r)(n2:l≠e)(n3:l≠r):
  Eh P w K (.Tuple y k tpos) (S5 K l) [e,r] e (λi h=>(∃ old,IsEnum h e r i old)/\h.IsTupleIter r l i) where
 mem:=by simp
 obj:=λi h st b a=>by
  obtain⟨⟨old,d⟩,⟨o1,L,_,d1⟩⟩:=st;simp only[Yo,YY,or_false]at a;rcases a with rfl | rfl
  ·exact⟨_,d,λv z=>by cases z⟩
  ·exact⟨o1,L,λv z=>by rw[d1]at z;cases z⟩
 keep:=λi h h' st kk=>by
  obtain⟨⟨old,d⟩,h1⟩:=st;exact⟨⟨old,kk e (by simp) _ d⟩,h1.at λo x=>kk r (by simp) o x⟩
 item:=by
  intro X F hw R hc i pins s σ H E I B st U;subst F hw R;obtain⟨xs,D,J⟩:=U;obtain⟨u,r1,g,z1⟩:=I.tuple D;have q1:=r1.length;obtain⟨⟨old,d⟩,h1⟩:=st;have gx:xs[i]?=some xs[i]:=Yp J;obtain⟨N,g1,G⟩:=r1.get gx;refine jx d h1 g (x:=N) (by simpa using g1) n1 λh' hO hI' hT hsz Y=>⟨.ref s.heap.objs.size,rfl,?_⟩;refine wpAny_letOwnedTupleGo_enum hO λn S j=>?_;have lt:∀{b:Addr}{o:Obj},s.heap.get? b=some o->b≠s.heap.objs.size:=λx q=>Qk (Qo x) (by rw[q];exact YK _);have ne:s.heap.objs.size≠e:=λq=>lt d q.symm;have I1:Inv X pins σ H {s with heap:=n,toks:=s.toks+1}:=Inv.turneds I B λb o a x=>j.extBut b o (λq=>a (by simp[q])) (Y b o (λq=>a (by simp[q])) (λq=>a (by simp[q])) x);have t:H s.heap.objs.size=none:=I.hok.fresh (Yr _);have f:TupP n s.heap.objs.size #[.int i s.toks,N]:=⟨_,j.extBut _ _ ne hT,rfl,rfl,_,rfl⟩
  have I2:Inv X pins σ (upd H s.heap.objs.size (.tup [.int i,xs[i]])) {s with heap:=n,toks:=s.toks+1}:=by
   refine I1.track t ?_ (λx c z=>?_) (λp hp=>?_) ?_ ⟨by show 2<=sizeLine;decide,[.int i s.toks,N],.cons ⟨_,rfl⟩ (.cons G .nil),f⟩
   ·obtain⟨m,⟨o,es,ep,T,_⟩,_⟩:=I.loc;exact YV (lt T)
   ·obtain⟨v,o,T,_⟩:=I.cell x c z;exact lt T
   ·exact lt (I.pin p hp).1
   ·cases z:X.s₀.heap.get? s.heap.objs.size with
    | none=>rfl
    | some o=>exact Qk (Yu (Qo z) I.sz) (YK _)
  refine⟨.ref s.heap.objs.size,_,I2,rfl,⟨s.heap.objs.size,_,t,rfl,rfl,λxs' Z=>?_⟩,⟨⟨_,S⟩,hI'.extBut j.extBut (YV n1)⟩,λb a=>?_⟩
  ·rw[I.tuple_inj Z D];exact gx
  ·have O:=(B b a).1
   have:b≠s.heap.objs.size:=by
    obtain⟨o1,L,_⟩:=h1;simp only[Yo,YY,or_false]at a;rcases a with rfl | rfl
    ·exact lt d
    ·exact lt L
   rw[A9 this];exact O
 done:=by
  intro X F hw R hc i pins s σ H E I B st U;subst F hw R;obtain⟨xs,D,rfl⟩:=U;obtain⟨u,r1,g,z1⟩:=I.tuple D;have q1:=r1.length;obtain⟨⟨old,d⟩,h1⟩:=st;refine jz (I.ok.hd hc) d h1 g (by simp;lia) λh' Y=>⟨rfl,?_⟩;exact Inv.turneds (t':=s.toks) I B λb o a x=>Y b o (λq=>a (by simp[q])) x
 self:=λA i s Q E st h=>by
  obtain⟨⟨old,d⟩,_⟩:=st;exact wpAny_pyIter_enum d h
def jF(K:PySem.W.Frag)(ta:TA):TI:=λσ H R=>ta σ H λvs H1=>∃ a xs,vs=[.ref a]/\SqT K H1 a xs/\R (S5 K a) H1
theorem jH(z:Gl X "enumerate")(A:X.mg "enumerate"=none)(v:PA X [a] ta)(y:starEach [a] X.env=[(false,eval a X.env)]):
  PI X (.Tuple f k tpos) (.Call (.Name "enumerate" p) [a] [] pos) (jF X.K ta):=by
 intro pins s σ H R I h;refine Call_ (EZ I z A boot_enumerate (Qc (thn (v pos pins s σ H _ I h) λE i l=>?_) (by rw[y];rfl) rfl));obtain⟨F,H1,g,r1,q1⟩:=l;obtain⟨x,xs,e,B,q⟩:=q1;subst e;obtain⟨u,rfl,t⟩:=C1 r1;cases t;obtain⟨n,_,d,_⟩:=g.tuple B;have r:x < i.heap.objs.size:=by obtain⟨_,e,_⟩:=d;exact Qo e
 refine jp d λh' o j w D=>wpAny_pyIter_enum o ?_;refine⟨_,_,_,_,H1,rfl,g.kept (t':=i.toks) D,jB (Nat.succ_ne_self _) (Ys (Nat.lt_succ_of_lt r)) (Ys r),⟨⟨_,o⟩,j⟩,λb m=>?_,q⟩
 have c:i.heap.objs.size<=b:=by
  simp only[Yo,YY,or_false]at m;rcases m with rfl | rfl
  ·exact YX _ 1
  ·exact Yr _
 exact g.fpOk c (g.hok.fresh c)
def Fb(gs:GA):GI:=λω G R=>gs ω G λws G1=>∃ xs,ws=[.tup xs]/\R (D5 0 xs) (λ_=>True) G1
theorem jM(m:gs.M):GI.M (Fb gs):=λω G R b h q=>m _ _ _ _ (λa G1 z=>by
 obtain⟨xs,rfl,z⟩:=z;exact⟨xs,rfl,h _ _ _ z⟩) q
theorem S6(P:X.mg "enumerate"=none)(Q:Gl X "enumerate")(L:starEach [a] X.env=[(false,eval a X.env)])(u:Am X [a] gs):
  Im X (.Tuple e k tpos) (.Call (.Name "enumerate" p) [a] [] pos) (Fb gs):=by
 refine⟨⟨_,jH Q P u.p L,λσ H ω G R R0 S r q F=>⟨ω,G,S,r,u.m _ _ _ _ (λZ G1 z x H1 m t r1=>?_) q⟩⟩,jM u.m⟩;obtain⟨xs,rfl,z⟩:=z
 have n:∀{H:Hp}{v:V},Tr X.K H v (.tup xs)->∃ a x,v=.ref a/\SqT X.K H a x/\TrL X.K H x xs:=λt=>by
  cases t with
  | tup h l=>exact⟨_,_,rfl,h,l⟩
 cases t with
 | cons o t =>
  cases t;obtain⟨O,A,rfl,w,Y⟩:=n o;refine⟨O,A,rfl,w,F _ _ _ H1 _ z m r1 trivial ⟨λi j B g y g3 hi=>?_,λi j B v U g y g3 I hi=>?_,λj B g y g3=>?_⟩⟩
  ·obtain⟨b1,b,c,f,d⟩:=n (o.mono g);cases c;rw[Nb]at hi;exact⟨b,f,by rw[d.length];lia⟩
  ·obtain⟨b1,b,c,f,d⟩:=n (o.mono g);cases c;obtain⟨T,J,E,rfl,rfl,N⟩:=I;have g1:=N _ f;obtain⟨w1,q1,s⟩:=d.get' g1;have D:Mono X.K j (upd j T (.tup [.int i,J])):=Mono.new E _;have g2:=SV 0 xs i q1;rw[Nat.zero_add]at g2;exact⟨D,y.mono0 E,_,g2,.tup (SqT.of Ca) (.cons (.int _) (.cons (s.mono D) .nil))⟩
  ·obtain⟨b1,b,c,f,d⟩:=n (o.mono g);cases c;exact⟨b,f,by rw[Nb,d.length]⟩
end L3
namespace L3
open PySem PySem.Spec PyProof.Rows L2
section
variable {α:Type}
theorem Bx:atI (x::xs) 0=some x:=CB (j:=0) (xs:=x::xs) rfl
theorem B5:atI (x::y::xs) 1=some y:=CB (j:=1) (xs:=x::y::xs) rfl
theorem CO:atI (x::y::z::xs) 2=some z:=CB (j:=2) (xs:=x::y::z::xs) rfl
end
theorem An:opt (some w) f=f w:=rfl
theorem AE(h:G p=none):Sub G (put G p o):=Sub.refl.put h
theorem C8(s:Sub G G')(h:G' p=none):Sub G (put G' p o):=s.trans (AE h)
theorem AR:put (put G p o) p o'=put G p o':=by
 funext b;unfold put;split <;> rfl
theorem CP(h:G p=some (.lst xs)):DY G (.ref p)=some xs:=by unfold DY;dsimp only;rw[h]
theorem Ni(h:G p=some (.lst xs)):DZ G (.ref p)=some xs:=by unfold DZ;dsimp only;rw[h]
theorem Nj(h:G p=some (.lst xs)):rdL G (.ref p)=some xs:=by unfold rdL;dsimp only;rw[h]
theorem F9(h:G p=some (.lst xs)):ixW (.ref p) (.int i) G=atI xs i:=by unfold ixW;dsimp only;rw[h]
theorem Fc:∀ bs:List Bool,DA (bs.map W.bl)=some bs
 | []=>rfl
 | b::bs=>by show(DA (bs.map W.bl)).map (b::·)=_;rw[Fc bs];rfl
theorem Nk:∀ bs:List Int,E4 (bs.map W.int)=some bs
 | []=>rfl
 | b::bs=>by show(E4 (bs.map W.int)).map (b::·)=_;rw[Nk bs];rfl
theorem S7:∀ bs:List Str,FX (bs.map W.str)=some (bs.map V.str)
 | []=>rfl
 | b::bs=>by show(HL (.str b)).bind (λv=>(FX (bs.map W.str)).map (v::·))=_;rw[S7 bs];rfl
theorem S8(s:Str):∀ bs:List Str,inV (.str s) (bs.map V.str)=bs.any (·==s)
 | []=>rfl
 | b::bs=>by
  show(eqV (.str b) (.str s)||inV (.str s) (bs.map V.str))=_;rw[S8 s bs];rfl
theorem Ga(a:gd G):∀(b:List W)(o:Option W)(ys:List W),(∀ x∈b,∀ Q:Kw,Q (f x) G->ge [some x] G Q)->
  ys.length+b.length<=sizeLine->R (ys++b.map f) G->Bj gd (gNm 0) AX ge R b [o] G ys
 | [],o,ys,_,_,r=>⟨a,by simpa using r⟩
 | x::b,o,ys,h,hl,r=>by
  walk_at "pi";show ge [some x] G λy c=>Bj gd (gNm 0) AX ge R b [some x] c (ys++[y]);refine h x Ye _ (Ga a b (some x) (ys++[f x]) (λy d=>h y (Yd _ d)) ?_ ?_)
  ·simp only[Yj,Yg,Yi]at hl ⊢;lia
  ·simpa[Yv]using r
theorem S9{f:W->W->W}(a:gd G):∀(b:List (W×W))(o o':Option W)(ys:List W),(∀ x∈b,∀ Q:Kw,Q (f x.1 x.2) G->ge [some x.1,some x.2] G Q)->
  ys.length+b.length<=sizeLine->R (ys++b.map λx=>f x.1 x.2) G->Bj gd (Bi 0 1) AX ge R (b.map λx=>W.tup [x.1,x.2]) [o,o'] G ys
 | [],o,o',ys,_,_,r=>⟨a,by simpa using r⟩
 | x::b,o,o',ys,h,hl,r=>by
  walk_at "pi";show ge [some x.1,some x.2] G λy c=>Bj gd (Bi 0 1) AX ge R (b.map λx=>W.tup [x.1,x.2]) [some x.1,some x.2] c (ys++[y]);refine h x Ye _ (S9 a b (some x.1) (some x.2) (ys++[f x.1 x.2]) (λy d=>h y (Yd _ d)) ?_ ?_)
  ·simp only[Yj,Yg,Yi]at hl ⊢;lia
  ·simpa[Yv]using r
theorem Ta:∀(xs ys:List W),BV xs ys=(xs.zip ys).map λx=>W.tup [x.1,x.2]
 | [],_=>by simp[BV]
 | _::_,[]=>by simp[BV]
 | x::xs,y::ys=>by simp[BV,Ta xs ys]
def spR{α:Type}(A:α->List W->Hw->Prop)(f:α->W):Spw:=λws G Q _=>∃ x,A x ws G/\Q (f x) G
theorem A6{α:Type}{A:α->List W->Hw->Prop}{f:α->W}:Spw.M (spR A f):=(by rintro b G Q a E c h _ ⟨x,h1,q⟩;exact⟨x,h1,h _ _ q⟩)
def spL{α:Type}(A:α->List W->Hw->Prop)(f:α->List W):Spw:=λws G Q _=>∃ x,A x ws G/\∀ p,G p=none->Q (.ref p) (put G p (.lst (f x)))
theorem JS{α:Type}{A:α->List W->Hw->Prop}{f:α->List W}:Spw.M (spL A f):=(by rintro c G Q b E d h _ ⟨x,h1,q⟩;exact⟨x,h1,λp a=>h _ _ (q p a)⟩)
theorem Gb{α:Type}(xs:List α):Cm xs (some 1) none=xs.drop 1:=by
 have e:HT.sIx xs.length 0 (some 1)=min 1 xs.length:=HT.sIx_nat xs.length 0 1;unfold Cm;rw[e,HT.sIx_none];cases xs with
 | nil=>rfl
 | cons x xs =>
  have a:min 1 (x::xs).length=1:=by simp only[Yg];lia
  rw[a];show(xs.take ((xs.length+1) - 1))=xs;rw[Nat.add_sub_cancel,List.take_length]
theorem HY{α:Type}(x:α)(xs:List α):¬ (HT.sIx (x::xs).length 0 (some 1)=0/\HT.sIx (x::xs).length (x::xs).length none=(x::xs).length):=by
 have e:HT.sIx (x::xs).length 0 (some 1)=min 1 (x::xs).length:=HT.sIx_nat (x::xs).length 0 1;intro h;have:=h.1;rw[e]at this;simp only[Yg]at this;lia
theorem jO{lo:Option Int}(h:G p=some (.lst xs))(q:∀ p1,G p1=none->Q (.ref p1) (put G p1 (.lst (Cm xs lo hi)))):slW (.ref p) lo hi G Q:=by
 unfold slW;dsimp only;rw[h];exact q
theorem DG{G:Hw}(h:G p=some o)(h':G q=none):p≠q:=by intro e;rw[e,h']at h;cases h
theorem Ce(h:n<=100000):n<=sizeLine:=Yt h (by decide)
theorem C9(h:n<=100000):n < sizeLine:=Nat.lt_of_le_of_lt h (by decide)
section
theorem ok0{K:PySem.W.Frag}{st:Stmt}(F:Fun K x x st f fd)(S:Az N ps (Ak st))(len:∀ c G Q E,sp c G Q E->c.length=ps.length)(l:∀{f:Addr}{cdv:Value}{A:Around}{outer:List Env}{s:Shared}{H:Hp}{E:XK},Room k (A.deeper (envOfC x (Ak st) s.heap.objs.size f cdv))->Ssm (cxW P w K mg base N x (Ak st) f cdv A outer s H E).nox (λB=>B=H) (AO st) g)(ok:∀ c G(Q:Kw)(E:Addr->Hw->Prop),Kw.C Q->sp c G Q E->g (Ax Q) (Bn N c) G):FnOk P w K mg base (CXe P w) (k+1) f fd ps (C2 K sp):=by
 obtain⟨y,I,kV,n,pm,v,cdv,ct,u,rfl,j,d⟩:=F.ex;refine GP j d S ((by rintro i H Q E ⟨c,G,t,r,q⟩;rw[t.length];exact len c G _ _ q)) λA outer s H i Q E o e=>?_;obtain⟨c,G,t,r,q⟩:=e;have D:=l (cdv:=cdv) (outer:=outer) (H:=H) (E:=E) o;refine⟨_,(D.p H rfl).nox,Bn N c,G,HE t,r,.refl,?_⟩;exact D.m _ _ (Ax (dn K H Q)) _ (λa b z σ H2 m J h=>z _ H2 m Tr.non h) (λa b z=>z) (λa b z=>z.elim) (λa b z=>z.elim) (ok c G _ _ HF q)
end
def JT:Spw:=λws _ Q _=>∃ ns:List Int,ws=[.rol (ns.map W.int)]/\ns.length<=63/\∀ G',Q (.bl true) G'
theorem Tc{K:PySem.W.Frag}:∀ ns:List Int,TrL K H (ns.map V.int) (ns.map W.int)
 | []=>.nil
 | n::ns=>.cons (.int n) (Tc ns)
theorem jR{K:PySem.W.Frag}{ns:List Int}(hl:ns.length<=63)(c:Jt H)(d:SqL K H a (ns.map V.int)):C2 K JT [.ref a] H (λv _=>v=.bl true) (λ_ _ _=>False):=by
 have b:RoL K H a (ns.map V.int):=by
  rcases d with(h |⟨o,h⟩)| h
  ·rcases c a with z |⟨o,xs,z⟩
   ·rw[z]at h;cases h
   ·rw[z]at h;cases h
  ·exact .inl ⟨o,h⟩
  ·exact .inr h
 exact⟨[.rol (ns.map W.int)],λ_=>none,.cons (.rol b (Tc ns)) .nil,(λa o e=>by cases e),ns,rfl,hl,λf v H' m t r=>FR t⟩
theorem jS(h:CXe P w [] H s (λ_ _ _=>False) e s'):False:=by
 obtain⟨_,_,_,_,_,q⟩:=h;exact q
section
variable {K:PySem.W.Frag}{h:Heap}{mg:Str->Option Value}(X:K.In h)(G:h.Ns mainGlobals mg)
include X G
theorem jU{st:Stmt}{h:Value}{kV:Value}(g:PySem.W.nsIn K mainGlobals x=some (some (.ref f)))(l:K.lookup f=some ⟨h,i,.func (PySem.W.fnOf x x (BS st) (AO st) (Ak st) .none kV a pm d cdv ct),e⟩)(c:PySem.W.codeIn K cdv x=true)(k:PySem.W.keepIn K (.ref f)=true)(b:∀(kV a pm:Value)(d:Option Addr)(cdv ct:Value)(us:List Value),us.length=ps.length->bindArgs (PySem.W.fnOf x x (BS st) (AO st) (Ak st) .none kV a pm d cdv ct) ⟨us,[]⟩=pure (ps.zip us)):Fn K mg st x ps :=
 ⟨f,_,PySem.W.mg_of X G g,QU l c k,(QU l c k).binds b⟩
theorem Gc(e:PySem.W.nsIn K mainGlobals x=some (some (.int i t))):Glb K mg x (.int i):=⟨.int i,.int i t,PySem.W.mg_of X G e,⟨t,rfl⟩,λH=>.int i⟩
theorem j0{ts:List (Str×Tok)}{dd:Option Addr}(e:PySem.W.nsIn K mainGlobals x=some (some (.ref d)))(l:K.lookup d=some ⟨.type "tuple",none,.seq ((ts.map λp=>Value.str p.1 p.2).toArray) n,f⟩)(g:ts.length<=1000):
  Glb K mg x (.tup (ts.map λp=>.str p.1)):=by
 have b:∀ ts:List (Str×Tok),Vals (ts.map λp=>V.str p.1) (ts.map λp=>Value.str p.1 p.2):=λts=>by
  induction ts with
  | nil=>exact .nil
  | cons p ts a=>exact .cons ⟨p.2,rfl⟩ a
 have c:∀(H:Hp)(ts:List (Str×Tok)),TrL K H (ts.map λp=>V.str p.1) (ts.map λp=>W.str p.1):=λH ts=>by
  induction ts with
  | nil=>exact .nil
  | cons p ts a=>exact .cons (.str _) a
 refine⟨.ref d,.ref d,PySem.W.mg_of X G e,rfl,λH=>.tup (.inr ⟨_,_,n,l,rfl,rfl,rfl,?_,by simpa using b ts⟩) (c H ts)⟩;simp only[Yn,Yh];exact Yt g (by decide)
end
theorem j2{K:PySem.W.Frag}(X:K.In h)(G:h.Ns mainGlobals mg)(B:K.In base)(e:PySem.W.nsIn K mainGlobals x=some (some (.ref d)))(l:K.lookup d=some o)(hd:(d==sysModules)=false)(f:o.ExactDict)(c:o.data=.dict es a)(b:KTD.Rows (KTD.Dat.At base) es.toList (D.map λp=>(p.1,KTD.Dat.flat (.int p.2)))):MR mg base x D :=
 ⟨d,PySem.W.mg_of X G e,hd,o,es,a,B _ _ l,f,c,b⟩
theorem j7{l:PySem.W.OpenLaw}{K:Params->PySem.W.Frag}(j:Room k callerA)(m:l.most=some 63)(b:d.params.defaults=[])(i:∀(w:World)(h:Heap),YP w h->(K w.params).In h)(F:∀(w:World)(mg:Str->Option Value)(c:Addr)(h:Heap),(K w.params).In h->h.Ns mainGlobals mg->mg d.name=some (.ref c)->
   ∃ fd:FuncData,(∀(s:Shared)(u:Value),BindsTo s fd ⟨[u],[]⟩ [("script",u)])/\∀ base:Heap,(K w.params).In base->base.Ns mainGlobals mg->FnOk l.prog w (K w.params) mg base (CXe l.prog w) k c fd ["script"] (C2 (K w.params) JT)):
  PySem.W.WalkO q loose XP YP l.row.toRowW d [] (λf vs=>PySem.call f vs):=
 L2.cR (n:=63) (k:=k) (x:="script") (CX:=λw=>CXe l.prog w) (sp:=λw=>C2 (K w.params) JT) m (by decide) b j i F (λw H a ns hl g o=>jR hl g o) λw H s e s' z=>jS z
theorem ln0{us:List Value}(h:us.length=0):us=[]:=List.length_eq_zero_iff.mp h
theorem ln1{us:List Value}(h:us.length=n+1):∃ a r,us=a::r/\r.length=n:=by
 cases us with
 | nil=>cases h
 | cons a r=>exact⟨a,r,rfl,Nat.succ.inj h⟩
end L3
namespace KY
open PySem L2 L3
mutual
inductive Kd where
 | any | num | truth
 | to (a b:Kd)| box (a:Kd)| row (fs:Fs) (o:Bool)
inductive Fs where
 | nil | cons (n:Str) (m:Bool) (k:Kd) (r:Fs)
end
def Cs(m:Bool):Str:=if m then "must" else "may"
mutual
def Kd.enc:Kd->W
 | .any=>.tup [.str "any"]
 | .num=>.tup [.str "num"]
 | .truth=>.tup [.str "truth"]
 | .to a b=>.tup [.str "to",a.enc,b.enc]
 | .box a=>.tup [.str "box",a.enc]
 | .row fs o=>.tup [.str "row",.tup fs.enc,.bl o]
def Fs.enc:Fs->List W
 | .nil=>[]
 | .cons n m k r=>.tup [.str n,.str (Cs m),k.enc]::r.enc
end
def Fs.kinds:Fs->List Kd
 | .nil=>[]
 | .cons _ _ k r=>k::r.kinds
def Fs.names:Fs->List Str
 | .nil=>[]
 | .cons n _ _ r=>n::r.names
def Kd.kids:Kd->List Kd
 | .to a b=>[a,b]
 | .box a=>[a]
 | .row fs _=>fs.kinds
 | _=>[]
mutual
def Kd.cnt:Kd->Nat
 | .to a b=>1+(a.cnt+b.cnt)
 | .box a=>1+a.cnt
 | .row fs _=>1+fs.cnt
 | _=>1
def Fs.cnt:Fs->Nat
 | .nil=>0
 | .cons _ _ k r=>k.cnt+r.cnt
end
mutual
def Kd.dp:Kd->Nat
 | .to a b=>1+max a.dp b.dp
 | .box a=>1+a.dp
 | .row fs _=>1+fs.dp
 | _=>1
def Fs.dp:Fs->Nat
 | .nil=>0
 | .cons _ _ k r=>max k.dp r.dp
end
mutual
def Kd.all:Kd->List Kd
 | .to a b=>.to a b::(a.all++b.all)
 | .box a=>.box a::a.all
 | .row fs o=>.row fs o::fs.all
 | .any=>[.any]
 | .num=>[.num]
 | .truth=>[.truth]
def Fs.all:Fs->List Kd
 | .nil=>[]
 | .cons _ _ k r=>k.all++r.all
end
def BO:List Kd->Nat
 | []=>0
 | k::r=>k.cnt+BO r
def dpL:List Kd->Nat
 | []=>0
 | k::r=>max k.dp (dpL r)
theorem Nl:∀ fs:Fs,fs.cnt=BO fs.kinds
 | .nil=>rfl
 | .cons _ _ k r=>by show k.cnt+r.cnt=k.cnt+BO r.kinds;rw[Nl r]
theorem Td:∀ fs:Fs,fs.dp=dpL fs.kinds
 | .nil=>rfl
 | .cons _ _ k r=>by show max k.dp r.dp=max k.dp (dpL r.kinds);rw[Td r]
theorem Nm(k:Kd):k.cnt=1+BO k.kids:=by
 cases k with
 | to a b=>show 1+(a.cnt+b.cnt)=1+(a.cnt+(b.cnt+0));lia
 | box a=>show 1+a.cnt=1+(a.cnt+0);lia
 | row fs o=>show 1+fs.cnt=1+BO fs.kinds;rw[Nl]
 | _=>rfl
theorem Nn(k:Kd):k.dp=1+dpL k.kids:=by
 cases k with
 | to a b=>show 1+max a.dp b.dp=1+max a.dp (max b.dp 0);lia
 | box a=>show 1+a.dp=1+max a.dp 0;lia
 | row fs o=>show 1+fs.dp=1+dpL fs.kinds;rw[Td]
 | _=>rfl
theorem Tf:∀(l m:List Kd),BO (l++m)=BO l+BO m
 | [],m=>by simp[BO]
 | k::l,m=>by show k.cnt+BO (l++m)=k.cnt+BO l+BO m;rw[Tf l m];lia
theorem Tg:∀(l m:List Kd),dpL (l++m)=max (dpL l) (dpL m)
 | [],m=>by simp[dpL]
 | k::l,m=>by show max k.dp (dpL (l++m))=max (max k.dp (dpL l)) (dpL m);rw[Tg l m];lia
theorem Th(k:Kd):1<=k.cnt:=by rw[Nm];lia
theorem Np(k:Kd):1<=k.dp:=by rw[Nn];lia
theorem Ti:∀ l:List Kd,BO l=l.length+BO (l.flatMap Kd.kids)
 | []=>rfl
 | k::l=>by
  show k.cnt+BO l=(l.length+1)+BO ((k::l).flatMap Kd.kids);rw[Qa,Tf,Ti l,Nm k];lia
theorem Tj:∀ l:List Kd,l≠[]->dpL l=1+dpL (l.flatMap Kd.kids)
 | [],h=>Qk rfl h
 | [k],_=>by
  show max k.dp 0=1+dpL ([k].flatMap Kd.kids);rw[Qa,List.flatMap_nil,Yx,Nn];lia
 | k::a::l,_=>by
  have b:=Tj (a::l) (by simp);show max k.dp (dpL (a::l))=1+dpL ((k::a::l).flatMap Kd.kids);rw[Qa,Tg,b,Nn k];lia
theorem Tl:∀ l:List Kd,l.length<=BO l
 | []=>Yr _
 | k::l=>by have:=Tl l;have:=Th k;show l.length+1<=k.cnt+BO l;lia
theorem Tn:∀{l:List Kd}{k:Kd},k∈l->k.cnt<=BO l
 | a::l,k,h=>by
  show k.cnt<=a.cnt+BO l;walk_at "pk"
  ·lia
  ·have:=Tn h;lia
theorem GU:∀{l:List Kd}{k:Kd},k∈l->k.dp<=dpL l
 | a::l,k,h=>by
  show k.dp<=max a.dp (dpL l);walk_at "pk"
  ·lia
  ·have:=GU h;lia
theorem To:∀ fs:Fs,fs.enc.length=fs.kinds.length
 | .nil=>rfl
 | .cons _ _ k r=>by show r.enc.length+1=r.kinds.length+1;rw[To r]
def Kd.unk:Kd->Bool
 | .any=>true
 | .row _ o=>o
 | _=>false
def Kd.fb:Kd->Bool
 | .to _ _=>true
 | .box _=>true
 | _=>false
def Kd.known(k:Kd):Bool:=!(k.all.any Kd.unk)
def Kd.data(k:Kd):Bool:=!(k.all.any Kd.fb)
def Kd.hd:Kd->Str
 | .any=>"any"
 | .num=>"num"
 | .truth=>"truth"
 | .to _ _=>"to"
 | .box _=>"box"
 | .row _ _=>"row"
def Kd.own:Kd->List Str
 | .row _ o=>if o then["row","open"]else["row"]
 | k=>[k.hd]
def G0(z:Str):Bool:=!AS z "a"&&!AS "z" z
def AA(n:Str):Bool:=decide (1<=n.length)&&decide (n.length<=8)&&n.cps.toList.all λc=>G0 ⟨#[c]⟩
def By:List Str->Bool
 | a::b::r=>AS a b&&By (b::r)
 | _=>true
mutual
def Kd.ok:Kd->Bool
 | .to a b=>a.ok&&b.ok
 | .box a=>a.ok
 | .row fs _=>By fs.names&&fs.ok
 | _=>true
def Fs.ok:Fs->Bool
 | .nil=>true
 | .cons n _ k r=>AA n&&k.ok&&r.ok
end
theorem Tp:∀{fs:Fs},fs.ok=true->∀ c∈fs.kinds,c.ok=true
 | .nil,_,c,hc=>by cases hc
 | .cons n m k r,h,c,hc=>by
  have h':(AA n&&k.ok&&r.ok)=true:=h;walk_at "pc";rcases Yo.mp hc with rfl | hc
  ·exact h'.1.2
  ·exact Tp h'.2 c hc
theorem j8{k:Kd}(h:k.ok=true):∀ c∈k.kids,c.ok=true:=by
 intro c hc;cases k with
 | to a b =>
  have h':(a.ok&&b.ok)=true:=h;walk_at "pc";have d:c=a\/c=b:=by simpa[Kd.kids]using hc
  rcases d with rfl | rfl
  ·exact h'.1
  ·exact h'.2
 | box a=>have d:c=a:=by simpa[Kd.kids]using hc
          subst d;exact h
 | row fs o =>
  have h':(By fs.names&&fs.ok)=true:=h;walk_at "pc";exact Tp h'.2 c hc
 | _=>cases hc
theorem Cf(n:Bool)(i j:Int)(G:Hw):eqF n (.int i) (.int j) G=some (.bl ((i==j) != n)):=rfl
theorem BD(n:Bool)(i j:Str)(G:Hw):eqF n (.str i) (.str j) G=some (.bl ((i==j) != n)):=rfl
theorem DH(n:Bool)(i j:Bool)(G:Hw):eqF n (.bl i) (.bl j) G=some (.bl ((i==j) != n)):=rfl
open PySem PySem.Spec PyProof.Rows L2 L3
abbrev Nq:Stmt:=top 18
abbrev Nr:Stmt:=top 19
abbrev Nt:Stmt:=top 17
abbrev Nu:Stmt:=top 16
abbrev Nv:Stmt:=top 15
abbrev Nw:Stmt:=top 14
abbrev Nx:Stmt:=top 13
abbrev Ny:Stmt:=top 12
abbrev JU:Stmt:=top 11
abbrev Nz:Stmt:=top 10
abbrev NA:Stmt:=top 39
abbrev NC:Stmt:=top 40
abbrev ND:Stmt:=top 43
abbrev NE:Stmt:=top 45
abbrev NF:Stmt:=top 44
abbrev NG:Stmt:=top 42
abbrev NH:Stmt:=top 41
abbrev NI:Stmt:=top 38
abbrev HZ:Stmt:=top 37
abbrev NJ:Stmt:=top 59
abbrev NK:Stmt:=top 60
abbrev NM:Stmt:=top 61
abbrev NO:Stmt:=top 62
abbrev NP:Stmt:=top 63
abbrev NQ:Stmt:=top 64
abbrev NR:Stmt:=top 65
abbrev NS:Stmt:=top 66
abbrev NT:Stmt:=top 67
abbrev JV:Stmt:=top 68
abbrev JW:Stmt:=top 69
abbrev NU:Stmt:=top 70
abbrev NV:Stmt:=top 71
abbrev NW:Stmt:=top 72
abbrev NX:Stmt:=top 73
abbrev H9:Stmt:=Br (top 21) 0
abbrev Ia:Stmt:=Br (top 21) 1
abbrev Ib:Stmt:=Br (top 21) 2
abbrev Gd:Stmt:=Br (top 21) 3
abbrev Ge:Stmt:=Br (top 21) 4
abbrev Ic:Stmt:=Br (top 21) 5
abbrev Ie:Stmt:=Br (top 21) 6
abbrev Ig:Stmt:=top 26
abbrev Ih:Stmt:=top 27
abbrev Ii:Stmt:=top 28
abbrev Ij:Stmt:=top 29
abbrev Ik:Stmt:=top 30
abbrev Il:Stmt:=top 54
abbrev Io:Stmt:=top 55
abbrev Iq:Stmt:=top 56
abbrev Ir:Stmt:=top 57
abbrev Iu:Stmt:=top 53
abbrev NY:Stmt:=top 49
abbrev Iv:Stmt:=top 52
abbrev Iw:Stmt:=top 48
abbrev NZ:Stmt:=top 23
abbrev JX:Stmt:=top 24
abbrev N0:Stmt:=top 25
abbrev N1:Stmt:=top 51
abbrev N2:Stmt:=top 50
abbrev Iy:Stmt:=top 47
abbrev N3:Stmt:=top 74
abbrev JY:Stmt:=top 75
abbrev N4:Stmt:=top 76
abbrev N5:Stmt:=top 77
abbrev Ha:Stmt:=top 78
def Tq:List (Str×Int):=[("any",1),("num",1),("truth",1),("to",3),("box",2),("row",3)]
def AK:List (Str×List Str):=[("num",["number"]),("truth",["truth"]),("name",["name"]),("fun",["name","kind","term"]),("call",["term","term"]),("rec",["fields"]),("get",["term","name"]),("or",["term","name","term"]),("if",["term","term","term"]),("plus",["term","term"]),("less",["term","term"]),("new",["term"]),("read",["term"]),("write",["term","term"]),("as",["term","kind"])]
structure Adr where
 CastError:Addr
 NoTerm:Addr
 BadNote:Addr
 Reader:Addr
structure Fns(K:PySem.W.Frag)(mg:Str->Option Value):Prop where
 j9:Fn K mg Nq "is_small_letter" ["sign"]
 ka:Fn K mg Nr "names_rise" ["names"]
 kd:Fn K mg Nt "is_name" ["thing"]
 ke:Fn K mg Nu "is_field" ["thing"]
 kf:Fn K mg Nv "are_fields" ["thing"]
 kg:Fn K mg Nw "has_form" ["thing"]
 kh:Fn K mg Nx "kinds_within" ["kind"]
 ki:Fn K mg Ny "layer_within" ["layer","things_within"]
 kj:Fn K mg JU "is_made_of" ["thing","is_formed","things_within","most","deepest"]
 kl:Fn K mg Nz "is_kind" ["thing"]
 km:Fn K mg NA "form_of" ["word"]
 kn:Fn K mg NC "parts_of" ["term"]
 ko:Fn K mg ND "is_number" ["thing"]
 kq:Fn K mg NE "is_term_field" ["thing"]
 kr:Fn K mg NF "are_term_fields" ["thing"]
 kt:Fn K mg NG "is_of_sort" ["thing","sort"]
 ku:Fn K mg NH "has_term_form" ["thing"]
 kx:Fn K mg NI "is_term" ["thing"]
 ky:Fn K mg HZ "check_term" ["thing"]
 kz:Fn K mg NJ "_law_cell_at" ["script","k"]
 kA:Fn K mg NK "_law_whole" ["found"]
 kB:Fn K mg NM "_law_state" ["script","k"]
 kC:Fn K mg NO "_law_choice" ["state","many"]
 kD:Fn K mg NP "_law_told_kind" ["state"]
 kE:Fn K mg NQ "_law_function" ["state","deep","names","want"]
 kF:Fn K mg NR "_law_record" ["state","deep","names","want"]
 kG:Fn K mg NS "_law_made" ["state","deep","names","want"]
 kH:Fn K mg NT "_law_leaf" ["state","want"]
 kI:Fn K mg JV "_law_first" ["state","deep","names","head","want"]
 Ts:Fn K mg JW "_law_term" ["state","deep","names","want"]
 Tt:Fn K mg NU "_law_count" ["term"]
 Tu:Fn K mg NV "_law_deep" ["term"]
 kJ:Fn K mg NW "_law_parts" ["term"]
 kK:Fn K mg NX "_law_drawn_term" ["script","k"]
 Tv:Fn K mg Ig "kind_from" ["reader","depth"]
 Tw:Fn K mg Ih "function_from" ["reader","depth"]
 Tz:Fn K mg Ii "box_from" ["reader","depth"]
 TC:Fn K mg Ij "row_from" ["reader","depth"]
 kL:Fn K mg Ik "field_from" ["reader","depth"]
 kM:Fn K mg Il "number_from" ["reader"]
 kN:Fn K mg Io "truth_from" ["reader"]
 kO:Fn K mg Iq "fields_from" ["reader","depth"]
 kP:Fn K mg Ir "term_field_from" ["reader","depth"]
 TD:Fn K mg Iu "thing_from" ["reader","sort","depth"]
 kQ:Fn K mg NY "gap_ahead_of" ["place","word"]
 TF:Fn K mg Iv "term_from" ["reader","depth"]
 kR:Fn K mg Iw "term_read" ["text"]
 TH:Fn K mg NZ "written" ["kind"]
 kS:Fn K mg JX "row_written" ["row"]
 kT:Fn K mg N0 "field_written" ["field"]
 kU:Fn K mg N1 "thing_written" ["thing","sort"]
 TJ:Fn K mg N2 "term_written" ["term"]
 kW:Fn K mg Iy "term_shown" ["term"]
 TK:Fn K mg N3 "_law_kind_text" ["kind"]
 TL:Fn K mg JY "_law_text" ["term"]
 TN:Fn K mg N4 "_law_is_term" ["found"]
 TQ:Fn K mg N5 "_law_same" ["one","other"]
 kX:Fn K mg Ha "law" ["script"]
structure Bls(mg:Str->Option Value):Prop where
 Ey:mg "all"=none
 TR:mg "bool"=none
 TU:mg "enumerate"=none
 JZ:mg "int"=none
 Hb:mg "isinstance"=none
 J0:mg "len"=none
 TV:mg "list"=none
 TX:mg "max"=none
 kY:mg "range"=none
 N6:mg "str"=none
 TY:mg "sum"=none
 TZ:mg "tuple"=none
 J1:mg "zip"=none
structure Tx(K:PySem.W.Frag)(mg:Str->Option Value)(base:Heap)(a:Adr):Prop extends Fns K mg,Bls mg where
 kZ:mg "CastError"=some (.ref a.CastError)
 T1:mg "NoTerm"=some (.ref a.NoTerm)
 DI:mg "BadNote"=some (.ref a.BadNote)
 k6:mg "Reader"=some (.ref a.Reader)
 DJ:PySem.W.excIn K a.BadNote [.type "ValueError",.type "Exception",.type "BaseException",.type "object"] "ValueError.__new__"=true
 T2:PySem.W.excIn K a.NoTerm [.type "ValueError",.type "Exception",.type "BaseException",.type "object"] "ValueError.__new__"=true
 T3:Glb K mg "MARKS" (.tup [(.str "must"),(.str "may")])
 T4:Glb K mg "MOST_DEPTH" (.int 8)
 T5:Glb K mg "MOST_FIGURES" (.int 20)
 T6:Glb K mg "MOST_KINDS" (.int 40)
 T7:Glb K mg "MOST_LETTERS" (.int 8)
 T8:Glb K mg "MOST_NUMBER" (.int 99999999999999999999)
 T9:Glb K mg "MOST_TERMS" (.int 40)
 Ua:Glb K mg "MOST_TERM_DEPTH" (.int 10)
 Ub:MR mg base "LENGTHS" Tq
 Uc:M6 K mg base "FORMS" AK
 AF:Cls K a.Reader
 B6:NoAttr K a.Reader "place"
 CQ:NoAttr K a.Reader "text"
 J2:FnI K mg "Reader" a.Reader H9 "Reader.__init__" ["self","text"]
 J3:FnM K a.Reader Ia "sees" "Reader.sees" ["self","piece"]
 J4:FnM K a.Reader Ib "takes" "Reader.takes" ["self","piece"]
 J5:FnM K a.Reader Gd "wants" "Reader.wants" ["self","piece"]
 J6:FnM K a.Reader Ge "wants_end" "Reader.wants_end" ["self"]
 J7:FnM K a.Reader Ic "word" "Reader.word" ["self"]
 J8:FnM K a.Reader Ie "figures" "Reader.figures" ["self"]
def Dn(P:Program)(w:World)(K:PySem.W.Frag)(mg:Str->Option Value)(base:Heap)(N:List Str)(x:Str)(st:Stmt)(k:Nat)(g:GS):Prop:=∀{f:Addr}{cdv:Value}{A:Around}{outer:List Env}{s:Shared}{H:Hp}{E:XK},Room k (A.deeper (envOfC x (Ak st) s.heap.objs.size f cdv))->Ssm (cxW P w K mg base N x (Ak st) f cdv A outer s H E).nox (λB=>B=H) (AO st) g
theorem mk0{K:PySem.W.Frag}{st:Stmt}(Fx:Fn K mg st x ps)(c:ps.length=n)(S:Az N ps (Ak st))(b:sp.M)(len:∀ a G Q E,sp a G Q E->a.length=n)(d:Dn P w K mg base N x st k g)(ok:∀ a G(Q:Kw)(E:Addr->Hw->Prop),Kw.C Q->sp a G Q E->g (Ax Q) (Bn N a) G):Df P w K mg base x (k+1) n sp:=L3.mk0 Fx c S b len d ok
set_option hygiene false in
local macro_rules | `(tactic| walk_at "s") => `(tactic| exact ⟨rfl, rfl, rfl, by decide +kernel, rfl, by decide +kernel, by decide +kernel⟩)
set_option hygiene false in
local macro_rules | `(tactic| walk_at "c") => `(tactic| first | exact fO hu | exact fP hu | exact fQ | exact fR | exact fM | exact JI | exact fN | exact HM | exact ix | exact cop_isn | exact cop_inT hu | exact cop_nInT hu | exact cop_nInU hu | exact cop_isB | exact cop_isT | exact cop_geS | exact cop_inN hu | exact cop_inK | exact cop_ninK | exact cop_inS)
set_option hygiene false in
local macro_rules | `(tactic| walk_at "b") => `(tactic| first | refine Co Er (Eo rfl) rfl T.Ey (by decide) rfl rfl rfl ?_ | refine HN JM (fZ) rfl T.JZ (by decide) rfl rfl rfl ?_ | refine Co JL (JK) rfl T.J0 (by decide) rfl rfl rfl ?_ | refine HN RN (fV) rfl T.TV (by decide) rfl rfl rfl ?_ | refine Co RM (RE rfl) rfl T.TX (by decide) rfl rfl rfl ?_ | refine HN MQ (iV) rfl T.N6 (by decide) rfl rfl rfl ?_ | refine Co RL (RB rfl) rfl T.TY (by decide) rfl rfl rfl ?_ | refine HN RP (fX) rfl T.TZ (by decide) rfl rfl rfl ?_ | refine HN JM (iY) rfl T.JZ (by decide) rfl rfl rfl ?_ | refine HS (T := "tuple") (by decide) RP T.TZ T.Hb rfl rfl (by decide) rfl rfl rfl ?_ | refine HS (T := "list") (by decide) RN T.TV T.Hb rfl rfl (by decide) rfl rfl rfl ?_ | refine HS (T := "str") (by decide) MQ T.N6 T.Hb rfl rfl (by decide) rfl rfl rfl ?_ | refine HS (T := "int") (by decide) JM T.JZ T.Hb rfl rfl (by decide) rfl rfl rfl ?_ | refine HS (T := "bool") (by decide) RQ T.TR T.Hb rfl rfl (by decide) rfl rfl rfl ?_ | refine gE T.Ub rfl rfl rfl rfl rfl rfl rfl ?_ | refine CN HQ rfl rfl rfl rfl rfl ?_ ?_ | refine CN RH rfl rfl rfl rfl rfl ?_ ?_ | refine CN Sf rfl rfl rfl rfl rfl ?_ ?_ | refine CN Sj rfl rfl rfl rfl rfl ?_ ?_ | refine CN S4 rfl rfl rfl rfl rfl ?_ ?_ | refine CN Sy rfl rfl rfl rfl rfl ?_ ?_ | exact E7 T.T3 rfl rfl | exact E7 T.T4 rfl rfl | exact E7 T.T5 rfl rfl | exact E7 T.T6 rfl rfl | exact E7 T.T7 rfl rfl | exact E7 T.T8 rfl rfl | exact E7 T.T9 rfl rfl | exact E7 T.Ua rfl rfl)
set_option hygiene false in
local macro_rules | `(tactic| walk_at "v") => `(tactic| (first | (show Am _ _ _; first | exact Bk | refine AT rfl ?_ ?_) | (show Em _ _ _; first | exact gz rfl rfl rfl rfl | exact E2 | exact E3 | refine JD (fun _ _ => rfl) ?_ ?_ | refine Bo (by assumption) (hr.mono (by assumption)) rfl Es rfl rfl rfl ?_ | refine Mz ?_ | refine MA ?_ | exact eP | refine fS (by walk_at "c") rfl ?_ ?_ | refine GW ?_ ?_ | refine eR ?_ ?_ | refine eT ?_ ?_ | refine em_mul ?_ ?_ | refine Sr ?_ ?_ | refine eS ?_ ?_ | refine eU ?_ ?_ | walk_at "b" | exact eQ | refine MD ?_ ?_ ?_ | refine MC ?_ ?_ | refine eV ?_ ?_ | refine MB ?_ | refine eW ?_ | refine em_add ?_ ?_ | refine M0 ?_ ?_ ?_ | refine fK ?_ ?_ ?_ | refine Rz (by walk_at "c") (by walk_at "c") rfl ?_ ?_ ?_ | refine SN (fun _ _ => rfl) ?_ ?_ | exact em_dict0 | refine em_sortI rfl T.n_sorted rfl rfl rfl rfl ?_ | refine em_sortUD rfl T.n_sorted T.n_set rfl rfl rfl rfl rfl ?_ ?_) | (show Tm _ _ _; first | refine JJ (by walk_at "c") rfl ?_ ?_ | refine FV ?_ | refine ME ?_ | refine Cw (fun _ => rfl) ?_ | refine RA (by walk_at "c") (by walk_at "c") rfl ?_ ?_ ?_) | (show Ssm _ _ _ _; first | refine Aw ?_ ?_ | exact Bf | refine AD ?_) | (show Sm _ _ _ _; first | refine A3 ?_ | refine BW hN rfl rfl rfl ?_ | refine Bg ?_ ?_ ?_ | refine B2 rfl ?_ | refine HJ PassesOwn.never rfl (fun _ => rfl) ?_ ?_ ?_ | refine GV PassesOwn.never ?_ ?_ | refine gA hN rfl rfl ?_ | refine fI (fun _ => rfl) rfl rfl rfl ?_ ?_ ?_ | refine sm_asg rfl rfl rfl ?_ ?_ | refine MW hN rfl rfl rfl rfl ?_ | exact sm_pass | exact sm_never | refine sm_setK (fun _ => rfl) rfl rfl rfl ?_ ?_ ?_) | (show Wm _ _ _; first | refine MG ?_ ?_ | refine eY ?_ ?_ | refine MF ?_ | refine eX ?_) | (show Im _ _ _ _; first | refine hG ?_ | refine eZ (fun _ _ => rfl) ?_ | refine gw T.kY rfl rfl ?_) | (show Om _ _ _; first | exact fJ | refine ML ?_) | (show Fm _ _ _; first | exact BX | refine gD ?_) | exact Rc hN rfl (.inl rfl) (.inr rfl) | exact gJ rfl hN rfl (.inl rfl) (.inr rfl) rfl (.inl rfl) (.inr rfl) rfl (.inl rfl) (.inr rfl) | exact Re rfl hN rfl (.inl rfl) (.inr rfl) rfl (.inl rfl) (.inr rfl) | exact Re rfl hN rfl (.inr rfl) (.inl rfl) rfl (.inl rfl) (.inr rfl) | exact Rc hN rfl (.inr rfl) (.inl rfl)) <;> walk_at "v")
set_option hygiene false in
local macro_rules | `(tactic| walk_at "z") => `(tactic| (intro f cdv A outer s H E hr; have hu := AM hr; walk_at "v"))
variable {P:Program}{w:World}{K:PySem.W.Frag}{mg:Str->Option Value}{a:Adr}
abbrev Ud:List Str:=["sign"]
theorem Ue:Az Ud ["sign"] (Ak Nq):=by walk_at "s"
def Ug:GS:=(Ai (BM (AU (λi j=>decide (i<=j)) (λa b=>!AS b a)) (AU (λi j=>decide (i<=j)) (λa b=>!AS b a)) (gC (.str "a")) (Ab 0) (gC (.str "z"))))
theorem k7(T:Tx K mg base a):Dn P w K mg base Ud "is_small_letter" Nq k (Ug):=by
 have hN:=Ue.nd;walk_at "z"
abbrev Uh:List Str:=["names"]
theorem Ui:Az Uh ["names"] (Ak Nr):=by walk_at "s"
def Uj:GS:=(Ai (gB (rF BG) (Aa (AZ (C7 (Aa (Ab 0) (Aa (gSl (Ab 0) (Bl (gC (.int 1))) Bu) Ac))) 2 (Bi 0 1) AX (Ad (AU (λi j=>decide (i < j)) AS) (Ab 0) (Ab 1))) Ac)))
theorem k8(T:Tx K mg base a):Dn P w K mg base Uh "names_rise" Nr k (Uj):=λ{f cdv A outer s H E}hr=>
 have hu:=AM hr
 have hN:=Ui.nd
 (AD (A3 (Co Er (Eo rfl) rfl T.Ey (by decide) rfl rfl rfl (AT rfl (Cq (Nc:=["one","other"]) rfl (Cj rfl (by decide +kernel) (by decide +kernel)) (λ_=>rfl) (iq T.J1 rfl rfl rfl (by walk_at "v")) (JB (i:=0) (j:=1) rfl (by decide) rfl rfl rfl rfl) (λC fp s1 H1=>BX) (λC fp s1 H1=>(by walk_at "v"))) Bk))))
abbrev Uk:List Str:=["thing"]
theorem Ul:Az Uk ["thing"] (Ak Nt):=by walk_at "s"
def Um(Ez:Spw):GS:=(Af (gIf (gOr (gNt (AB (A5 "str" (Ab 0)))) (gNt (gTB (BM (AU (λi j=>decide (i<=j)) (λa b=>!AS b a)) (AU (λi j=>decide (i<=j)) (λa b=>!AS b a)) (gC (.int 1)) (gB (rF AL) (Aa (Ab 0) Ac)) (gC (.int 8)))))) (Ai (gC (.bl false))) Aj) (Ai (gB (rF BG) (Aa (AZ (AY (Ab 0)) 1 (gNm 0) AX (Ah Ez XF (Aa (Ab 0) Ac))) Ac))))
theorem Uo(T:Tx K mg base a)(Up:Df P w K mg base "is_small_letter" EA 1 Ez)(Uq:EA<=k):Dn P w K mg base Uk "is_name" Nt k (Um Ez):=λ{f cdv A outer s H E}hr=>
 have hu:=AM hr
 have hN:=Ul.nd
 (Aw (by walk_at "v") (AD (A3 (Co Er (Eo rfl) rfl T.Ey (by decide) rfl rfl rfl (AT rfl (Cq (Nc:=["sign"]) rfl (Cj rfl (by decide +kernel) (by decide +kernel)) (λ_=>rfl) (by walk_at "v") (C3 (i:=0) (by decide) rfl rfl) (λC fp s1 H1=>BX) (λC fp s1 H1=>(by walk_at "v"))) Bk)))))
abbrev Ur:List Str:=["thing"]
theorem Us:Az Ur ["thing"] (Ak Nu):=by walk_at "s"
def Ut(CS:Spw):GS:=(Af (gIf (gOr (gNt (AB (A5 "tuple" (Ab 0)))) (gTB (Ad (Ae (eqF true)) (gB (rF AL) (Aa (Ab 0) Ac)) (gC (.int 3))))) (Ai (gC (.bl false))) Aj) (Ai (BE (Ah CS XF (Aa (Ad (Ae ixW) (Ab 0) (gC (.int 0))) Ac)) (Ad (Ae (inF false)) (Ad (Ae ixW) (Ab 0) (gC (.int 1))) (gC (.tup [(.str "must"),(.str "may")]))))))
theorem la(T:Tx K mg base a)(Uu:Df P w K mg base "is_name" Dm 1 CS)(Uv:Dm<=k):Dn P w K mg base Ur "is_field" Nu k (Ut CS):=by
 have hN:=Us.nd;walk_at "z"
abbrev Uw:List Str:=["thing"]
theorem Ux:Az Uw ["thing"] (Ak Nv):=by walk_at "s"
def Uy(J9:Spw)(EB:Spw):GS:=(Af (gIf (gNt (AB (A5 "tuple" (Ab 0)))) (Ai (gC (.bl false))) Aj) (Ai (BE (gB (rF BG) (Aa (AZ (AY (Ab 0)) 1 (gNm 0) AX (Ah J9 XF (Aa (Ab 0) Ac))) Ac)) (Ah EB XF (Aa (AZ (AY (Ab 0)) 1 (gNm 0) AX (Ad (Ae ixW) (Ab 0) (gC (.int 0)))) Ac)))))
theorem lb(T:Tx K mg base a)(sR:Df P w K mg base "is_field" Ka 1 J9)(sS:Ka<=k)(N7:Df P w K mg base "names_rise" Fe 1 EB)(N8:Fe<=k):Dn P w K mg base Uw "are_fields" Nv k (Uy J9 EB):=λ{f cdv A outer s H E}hr=>
 have hu:=AM hr
 have hN:=Ux.nd
 (Aw (by walk_at "v") (AD (A3 (MC (Co Er (Eo rfl) rfl T.Ey (by decide) rfl rfl rfl (AT rfl (Cq (Nc:=["part"]) rfl (Cj rfl (by decide +kernel) (by decide +kernel)) (λ_=>rfl) (by walk_at "v") (C3 (i:=0) (by decide) rfl rfl) (λC fp s1 H1=>BX) (λC fp s1 H1=>(by walk_at "v"))) Bk)) (MB (Bo N7 (hr.mono N8) rfl Es rfl rfl rfl (AT rfl (Cq (Nc:=["part"]) rfl (Cj rfl (by decide +kernel) (by decide +kernel)) (λ_=>rfl) (by walk_at "v") (C3 (i:=0) (by decide) rfl rfl) (λC fp s1 H1=>BX) (λC fp s1 H1=>(by walk_at "v"))) Bk)))))))
local macro_rules | `(tactic| walk_at "rd") => `(tactic| ((try dsimp only [Af,gIf,Ai,Aq,AC,Aj,Ab,gC,Ad,gTB,AB,gNt,Bp,gOr,BE,CL,CM,BB,Ao,Av,Aa,Ac,Ah,gB,rF,Ae,A5,gMt,CD,BM,AU,A0,AI,Bz,CF,gSl,Bl,Bu,AZ,AY,C7,Ax,Bn,List.map_cons,List.map_nil,List.length_cons,List.length_nil,List.cons_append,List.nil_append,List.getElem?_cons_zero,List.getElem?_cons_succ,List.set_cons_zero,List.set_cons_succ,List.replicate,A8,tyN,An,Bx,B5,CO,ixW,Cf,BD,DH,AL,BL,BG,List.getElem?_nil]); (try simp only [Af,gIf,Ai,Aq,AC,Aj,Ab,gC,Ad,gTB,AB,gNt,Bp,gOr,BE,CL,CM,BB,Ao,Av,Aa,Ac,Ah,gB,rF,Ae,A5,gMt,CD,BM,AU,A0,AI,Bz,CF,gSl,Bl,Bu,AZ,AY,C7,Ax,Bn,List.map_cons,List.map_nil,List.length_cons,List.length_nil,List.cons_append,List.nil_append,List.getElem?_cons_zero,List.getElem?_cons_succ,List.set_cons_zero,List.set_cons_succ,List.replicate,A8,tyN,An,Bx,B5,CO,ixW,Cf,BD,DH,AL,BL,BG,List.getElem?_nil])))
abbrev lc:Spw:=spR (λ(z:Str)ws _=>ws=[.str z]) λz=>.bl (G0 z)
theorem EA(T:Tx K mg base a):Df P w K mg base "is_small_letter" 1 1 lc:=by
 refine mk0 T.j9 rfl Ue A6 ((by rintro b G Q E ⟨z,e,_⟩;rw[e];rfl)) (k7 T) λb G Q E c q=>?_;obtain⟨z,rfl,q⟩:=q;unfold Ug;walk_at "rd";dsimp only at q;unfold G0 at q;refine BK (λh=>?_) (λh=>?_)
 ·rw[h]at q;simpa using q
 ·rw[Bool.eq_false_iff.mpr h]at q;simpa using q
theorem Uz:∀ ns:List Str,By ns=((ns.zip (ns.drop 1)).map λx=>AS x.1 x.2).all id
 | []=>rfl
 | [_]=>rfl
 | a::b::r=>by
  show(AS a b&&By (b::r))=_;rw[Uz (b::r)];rfl
abbrev lf:Spw:=spR (λ(ns:List Str)ws G=>∃ p,ws=[.ref p]/\G p=some (.lst (ns.map W.str))/\ns.length<=1000) λns=>.bl (By ns)
def ltW(x y:W):W:=match x,y with | .str a,.str b=>.bl (AS a b)| _,_=>.non
theorem Fe(T:Tx K mg base a):Df P w K mg base "names_rise" 1 1 lf:=by
 refine mk0 T.ka rfl Ui A6 ((by rintro l G Q E ⟨ns,⟨p,e,_⟩,_⟩;rw[e];rfl)) (k8 T) λl G Q E m q=>?_;obtain⟨ns,⟨p,rfl,c,hl⟩,q⟩:=q;unfold Uj;walk_at "rd";refine jO c λp1 h1=>?_;have d:=DG c h1;have b:rdL (put G p1 (.lst (Cm (ns.map W.str) (some 1) none))) (.ref p)=some (ns.map W.str):=Nj (by rw[A2 d];exact c);have g:rdL (put G p1 (.lst (Cm (ns.map W.str) (some 1) none))) (.ref p1)=some (Cm (ns.map W.str) (some 1) none):=Nj Ap;simp only[b,g];rw[Gb,<- List.map_drop,Ta,List.zip_map,YB];have i:((λx:W×W=>W.tup [x.1,x.2])∘Prod.map W.str W.str)=(λx:W×W=>W.tup [x.1,x.2])∘λx:Str×Str=>(W.str x.1,W.str x.2):=rfl;rw[i,<- YB];refine S9 (f:=ltW) ⟨by rw[Gb,<- List.map_drop]at b;exact b,by rw[Gb,<- List.map_drop]at g;exact g⟩ _ none none [] (λx k n j=>?_) ?_ ?_
 ·obtain⟨y,o,rfl⟩:=YC.mp k;exact j
 ·rw[Yh,List.length_zip];exact Ce (by simp only[Yi];lia)
 ·intro p2 h2;rw[YB];have h:((λx:W×W=>ltW x.1 x.2)∘λx:Str×Str=>(W.str x.1,W.str x.2))=W.bl∘λx:Str×Str=>AS x.1 x.2:=rfl;rw[h,<- YB,Yw];simp only[CP Ap,Option.bind_some,Fc,YD,An];rw[<- Uz];exact m _ _ _ (C8 (AE h1) h2) q
def orS(s1 s2:Spw):Spw:=λws G Q E=>s1 ws G Q E\/s2 ws G Q E
theorem lg{a:Spw}(h1:b.M)(h2:a.M):Spw.M (orS b a):=λe G Q c E d h h' q=>q.elim (λq=>.inl (h1 _ _ _ _ _ _ h h' q)) (λq=>.inr (h2 _ _ _ _ _ _ h h' q))
theorem mk2{st:Stmt}(Fx:Fn K mg st x ps)(g:ps.length=n)(S:Az N ps (Ak st))(u:e.M)(I:d.M)(z:∀ a G Q E,e a G Q E->a.length=n)(p:∀ a G Q E,d a G Q E->a.length=n)(D:Dn P w K mg base N x st k g1)(J:Dn P w K mg base N x st k g2)(v:∀ a G(Q:Kw)(E:Addr->Hw->Prop),Kw.C Q->e a G Q E->g1 (Ax Q) (Bn N a) G)(y:∀ a G(Q:Kw)(E:Addr->Hw->Prop),Kw.C Q->d a G Q E->g2 (Ax Q) (Bn N a) G):Df P w K mg base x (k+1) n (orS e d):=by
 obtain⟨f,fd,h1,F,L⟩:=Fx;have A:=JN (P:=P) (w:=w) (base:=base) F g S z D v;have B:=JN (P:=P) (w:=w) (base:=base) F g S p J y;refine⟨⟨f,fd,_,h1,F.kp,L,g,⟨λc H Q E⟨a,G,t,r,q⟩=>?_,λo outer s H b i c Q E j m h l⟨a,G,t,r,q⟩=>?_⟩⟩,lg u I⟩
 ·rcases q with q | q
  ·exact A.len c H Q E ⟨a,G,t,r,q⟩
  ·exact B.len c H Q E ⟨a,G,t,r,q⟩
 ·rcases q with q | q
  ·exact A.run o outer s H b i c Q E j m h l ⟨a,G,t,r,q⟩
  ·exact B.run o outer s H b i c Q E j m h l ⟨a,G,t,r,q⟩
abbrev lh:Spw:=spR (λ(i:Int)ws _=>ws=[.int i]) λ_=>.bl false
abbrev li:Spw:=spR (λ(z:Str)ws _=>ws=[.str z]/\z.length<=100000) λz=>.bl (AA z)
def UA(x:W):W:=match x with | .str z=>.bl (G0 z)| _=>.non
theorem Dm(T:Tx K mg base a):Df P w K mg base "is_name" 2 1 (orS li lh):=by
 refine mk2 T.kd rfl Ul A6 A6 (by rintro g G Q E ⟨z,⟨e,_⟩,_⟩;rw[e];rfl) (by rintro g G Q E ⟨z,e,_⟩;rw[e];rfl) (Uo T (EA T) (Yr _)) (Uo T (EA T) (Yr _)) (λg G Q E l q=>?_) (λg G Q E l q=>by obtain⟨i,rfl,q⟩:=q;exact Eq.mpr (by kernel_rfl) q);obtain⟨z,⟨rfl,k⟩,q⟩:=q;unfold Um;walk_at "rd";have h:z.length<=sizeLine:=Ce k;have b1:Ba "str" "str"=true:=by decide
 simp only[b1,h,if_true,An,YF,Yq,if_false];unfold AA at q;by_cases h1:1<=z.length
 ·by_cases j:z.length<=8
  ·have b:(1:Int)<=(z.length:Int):=by lia
   have d:(z.length:Int)<=8:=by lia
   simp only[b,d,decide_true,if_true,YF,Yq,if_false];refine Ga (f:=UA) trivial (FT z) none [] (λx o s r=>?_) ?_ ?_
   ·obtain⟨c,hc,rfl⟩:=YC.mp o;exact⟨_,rfl,r⟩
   ·rw[FT,Yh];exact Ce (by show 0+z.cps.toList.length<=100000;rw[Nat.zero_add];simpa[Str.length]using k)
   ·intro p n
    have m:(FT z).map UA=(z.cps.toList.map λc=>G0 ⟨#[c]⟩).map W.bl:=by
     unfold FT;rw[YB,YB];rfl
    rw[Yw,m];simp only[CP Ap,Option.bind_some,Fc,YD,An];rw[List.all_map];simp only[h1,j,decide_true,Bool.true_and]at q;exact l _ _ _ (AE n) q
  ·have b:(1:Int)<=(z.length:Int):=by lia
   have d:¬ (z.length:Int)<=8:=by lia
   simp only[h1,j,decide_true,decide_false,Bool.true_and,Bool.false_and]at q;simp only[b,d,decide_true,decide_false,if_true,YM,Yq,if_false];exact q
 ·have b:¬ (1:Int)<=(z.length:Int):=by lia
  simp only[h1,decide_false,Bool.false_and]at q;simp only[b,decide_false,if_true,YM,Yq,if_false];exact q
set_option hygiene false in
set_option hygiene false in
set_option hygiene false in
set_option hygiene false in
set_option hygiene false in
abbrev UB:List Str:=["thing"]
theorem UC:Az UB ["thing"] (Ak Nw):=by walk_at "s"
def UD(Kb:Spw):GS:=(Af (gIf (gOr (gNt (AB (A5 "tuple" (Ab 0)))) (gOr (gTB (Ad (Ae (eqF false)) (gB (rF AL) (Aa (Ab 0) Ac)) (gC (.int 0)))) (gNt (AB (A5 "str" (Ad (Ae ixW) (Ab 0) (gC (.int 0)))))))) (Ai (gC (.bl false))) Aj) (Af (gIf (gTB (Ad (Ae (eqF true)) (gB (rF AL) (Aa (Ab 0) Ac)) (E8 Tq (Ad (Ae ixW) (Ab 0) (gC (.int 0)))))) (Ai (gC (.bl false))) Aj) (Ai (CL (Ad (Ae (eqF true)) (Ad (Ae ixW) (Ab 0) (gC (.int 0))) (gC (.str "row"))) (BE (Ah Kb XF (Aa (Ad (Ae ixW) (Ab 0) (gC (.int 1))) Ac)) (A5 "bool" (Ad (Ae ixW) (Ab 0) (gC (.int 2)))))))))
theorem lj(T:Tx K mg base a)(sT:Df P w K mg base "are_fields" Kc 1 Kb)(sU:Kc<=k):Dn P w K mg base UB "has_form" Nw k (UD Kb):=by
 have hN:=UC.nd;walk_at "z"
abbrev UE:List Str:=["kind"]
theorem UF:Az UE ["kind"] (Ak Nx):=by walk_at "s"
def UG:GS:=(Af (gIf (gTB (Ad (Ae (eqF false)) (Ad (Ae ixW) (Ab 0) (gC (.int 0))) (gC (.str "row")))) (Ai (AZ (AY (Ad (Ae ixW) (Ab 0) (gC (.int 1)))) 1 (gNm 0) AX (Ad (Ae ixW) (Ab 0) (gC (.int 2))))) Aj) (Ai (gB (Ep) (Aa (gSl (Ab 0) (Bl (gC (.int 1))) Bu) Ac))))
theorem ll(T:Tx K mg base a):Dn P w K mg base UE "kinds_within" Nx k (UG):=λ{f cdv A outer s H E}hr=>
 have hu:=AM hr
 have hN:=UF.nd
 (Aw (Bg (by walk_at "v") (AD (A3 (Cq (Nc:=["field"]) rfl (Cj rfl (by decide +kernel) (by decide +kernel)) (λ_=>rfl) (by walk_at "v") (C3 (i:=0) (by decide) rfl rfl) (λC fp s1 H1=>BX) (λC fp s1 H1=>(by walk_at "v"))))) Bf) (by walk_at "v"))
abbrev UH:List Str:=["layer","things_within","found","thing"]
theorem UI:Az UH ["layer","things_within"] (Ak Ny):=by walk_at "s"
def lm(mg:Str->Option Value)(nm:Str)(sp_fn:Spw):GS:=(Af (Aq 2 (Av Ac)) (Af (BC (AY (Ab 0)) (gNm 3) (AC (gMt BF FY (Ab 2) (Aa (DD 1 (fAt mg nm) sp_fn XF (Aa (Ab 3) Ac)) Ac)))) (Ai (Ab 2))))
theorem lp(T:Tx K mg base a)(D_fn:Df P w K mg base nm k_fn 1 sp_fn)(h_fn:k_fn<=k):Dn P w K mg base UH "layer_within" Ny k (lm mg nm sp_fn):=λ{f cdv A outer s H E}hr=>
 have hu:=AM hr
 have hN:=UI.nd
 (Aw (by walk_at "v") (Aw (HJ PassesOwn.never rfl (λ_=>rfl) (by walk_at "v") (by walk_at "v") (AD (B2 rfl (CN RH rfl rfl rfl rfl rfl (by walk_at "v") (AT rfl (Su (i:=1) D_fn (hr.mono h_fn) rfl rfl Es rfl rfl rfl rfl (by walk_at "v")) Bk))))) (by walk_at "v")))
abbrev UJ:List Str:=["thing","is_formed","things_within","most","deepest","layer","count","depth"]
theorem UK:Az UJ ["thing","is_formed","things_within","most","deepest"] (Ak JU):=by walk_at "s"
def lq(mg:Str->Option Value)(nm:Str)(sp_fn:Spw)(Ke:Spw):GS:=(Af (Aq 5 (Av (Aa (Ab 0) Ac))) (Af (Aq 6 (gC (.int 0))) (Af (Aq 7 (gC (.int 0))) (Af (E5 (gTB (Ad (A0 λi j=>decide (j < i)) (gB (rF AL) (Aa (Ab 5) Ac)) (gC (.int 0)))) (Af (CD 6 CF (gB (rF AL) (Aa (Ab 5) Ac))) (Af (CD 7 CF (gC (.int 1))) (Af (gIf (gOr (gTB (Ad (A0 λi j=>decide (j < i)) (Ab 6) (Ab 3))) (gTB (Ad (A0 λi j=>decide (j < i)) (Ab 7) (Ab 4)))) (Ai (gC (.bl false))) Aj) (Af (gIf (gNt (AB (gB (rF BG) (Aa (Cc (AY (Ab 5)) 1 [1] (gNm 0) AX (DD 1 (fAt mg nm) sp_fn XF (Aa (Ab 0) Ac))) Ac)))) (Ai (gC (.bl false))) Aj) (Aq 5 (Ah Ke XF (Aa (Ab 5) (Aa (Ab 2) Ac))))))))) (Ai (gC (.bl true)))))))
theorem lr(T:Tx K mg base a)(D_fn:Df P w K mg base nm k_fn 1 sp_fn)(h_fn:k_fn<=k)(sV:Df P w K mg base "layer_within" Kf 2 Ke)(sW:Kf<=k):Dn P w K mg base UJ "is_made_of" JU k (lq mg nm sp_fn Ke):=λ{f cdv A outer s H E}hr=>
 have hu:=AM hr
 have hN:=UK.nd
 (Aw (by walk_at "v") (Aw (by walk_at "v") (Aw (by walk_at "v") (Aw (GV PassesOwn.never (by walk_at "v") (Aw (by walk_at "v") (Aw (by walk_at "v") (Aw (by walk_at "v") (Aw (Bg (FV (Cw (λ_=>rfl) (Co Er (Eo rfl) rfl T.Ey (by decide) rfl rfl rfl (AT rfl (R5 rfl (HU (own:=["part"]) (fr:=["is_formed"]) (js:=[1]) (scX:=Ak JU) (n:=s.heap.objs.size+1) rfl (by decide +kernel) (by decide +kernel) (by decide +kernel) (by decide +kernel) rfl rfl rfl (by decide +kernel) rfl) (λ_=>rfl) (by walk_at "v") (MU (i:=0) (by decide) rfl rfl) (λC fp s1 H1=>BX) (λC fp s1 H1=>(Su (i:=1) D_fn (hr.mono h_fn) rfl rfl Es rfl rfl rfl rfl (by walk_at "v")))) Bk)))) (by walk_at "v") Bf) (by walk_at "v")))))) (by walk_at "v")))))
abbrev UL:List Str:=["thing"]
theorem UM:Az UL ["thing"] (Ak Nz):=by walk_at "s"
def ls(mg:Str->Option Value)(N9:Spw)(Oa:Spw)(EC:Spw):GS:=(Ai (Ah EC XF (Aa (Ab 0) (Aa (gC (.ref (fAt mg "has_form"))) (Aa (gC (.ref (fAt mg "kinds_within"))) (Aa (gC (.int 40)) (Aa (gC (.int 8)) Ac)))))))
theorem lu(T:Tx K mg base a)(lv:Df P w K mg base "has_form" Iz 1 N9)(sX:Iz<=k)(lw:Df P w K mg base "kinds_within" IA 1 Oa)(sY:IA<=k)(Ob:Df P w K mg base "is_made_of" Ff 5 EC)(Oc:Ff<=k):Dn P w K mg base UL "is_kind" Nz k (ls mg N9 Oa EC):=λ{f cdv A outer s H E}hr=>
 have hu:=AM hr
 have hN:=UM.nd
 (AD (A3 (Bo Ob (hr.mono Oc) rfl Es rfl rfl rfl (AT rfl (by walk_at "v") (AT rfl (JP lv rfl rfl) (AT rfl (JP lw rfl rfl) (by walk_at "v")))))))
local macro_rules | `(tactic| walk_at "rd") => `(tactic| ((try dsimp only [Af,gIf,Ai,Aq,AC,Aj,Ab,gC,Ad,gTB,AB,gNt,Bp,gOr,BE,CL,CM,BB,Ao,Av,Aa,Ac,Ah,gB,rF,Ae,A5,gMt,CD,En,BM,AU,A0,AI,Bz,CF,gSl,Bl,Bu,AZ,AY,C7,D2,BC,E8,Ck,Ax,Bn,List.map_cons,List.map_nil,List.length_cons,List.length_nil,List.cons_append,List.nil_append,List.getElem?_cons_zero,List.getElem?_cons_succ,List.set_cons_zero,List.set_cons_succ,List.replicate,A8,tyN,An,Bx,B5,CO,ixW,Cf,BD,DH,AL,BL,BG,Cp,C5,List.getElem?_nil]); (try simp only [Af,gIf,Ai,Aq,AC,Aj,Ab,gC,Ad,gTB,AB,gNt,Bp,gOr,BE,CL,CM,BB,Ao,Av,Aa,Ac,Ah,gB,rF,Ae,A5,gMt,CD,En,BM,AU,A0,AI,Bz,CF,gSl,Bl,Bu,AZ,AY,C7,D2,BC,E8,Ck,Ax,Bn,List.map_cons,List.map_nil,List.length_cons,List.length_nil,List.cons_append,List.nil_append,List.getElem?_cons_zero,List.getElem?_cons_succ,List.set_cons_zero,List.set_cons_succ,List.replicate,A8,tyN,An,Bx,B5,CO,ixW,Cf,BD,DH,AL,BL,BG,Cp,C5,List.getElem?_nil])))
abbrev lx:Spw:=spR (λ(x:Str×Bool×W)ws _=>ws=[.tup [.str x.1,.str (Cs x.2.1),x.2.2]]/\AA x.1=true) λ_=>.bl true
theorem DL(h:AA n=true):n.length<=8:=by
 unfold AA at h;simp only[YG,YO]at h;exact h.1.2
theorem ly(b:Bool)(G:Hw):inF false (.str (Cs b)) (.tup [.str "must",.str "may"]) G=some (.bl true):=by cases b <;> kernel_rfl
theorem Ka(T:Tx K mg base a):Df P w K mg base "is_field" 3 1 lx:=by
 refine mk0 T.ke rfl Us A6 ((by rintro d G Q E ⟨x,⟨e,_⟩,_⟩;rw[e];rfl)) (la T (Dm T) (Yr _)) λd G Q E f q=>?_;obtain⟨⟨n,b,k⟩,⟨rfl,c⟩,q⟩:=q;have hl:n.length<=8:=DL c;dsimp only at q c;unfold Ut;walk_at "rd";have b1:Ba "tuple" "tuple"=true:=by decide
 simp only[b1,YF,Yq,if_false];refine .inl ⟨n,⟨rfl,by lia⟩,?_⟩;dsimp only;rw[c];simp only[if_true,ly,An];exact q
theorem lz(k:Kd):∃ xs,k.enc=.tup (.str k.hd::xs):=by cases k <;> exact⟨_,rfl⟩
abbrev lA:Spw:=spR (λ(fs:Fs)ws _=>ws=[.tup fs.enc]/\fs.ok=true/\By fs.names=true/\fs.cnt<=1000) λ_=>.bl true
def Od(x:W):W:=match x with | .tup (n::_)=>n | _=>.non
theorem Oe:∀{fs:Fs}{x:W},fs.ok=true->x∈fs.enc->∃ n b k,x=.tup [.str n,.str (Cs b),k]/\AA n=true
 | .nil,x,_,h=>by cases h
 | .cons n m k r,x,a,h=>by
  have h':(AA n&&k.ok&&r.ok)=true:=a;walk_at "pc";walk_at "pk"
  ·exact⟨n,m,k.enc,rfl,h'.1.1⟩
  ·exact Oe h'.2 h
theorem UN:∀ fs:Fs,fs.enc.map Od=fs.names.map W.str
 | .nil=>rfl
 | .cons n m k r=>by show W.str n::r.enc.map Od=W.str n::r.names.map W.str;rw[UN r]
theorem UO:∀ fs:Fs,fs.names.length=fs.enc.length
 | .nil=>rfl
 | .cons n m k r=>by show r.names.length+1=r.enc.length+1;rw[UO r]
theorem UP(fs:Fs):fs.enc.length<=fs.cnt:=by rw[To,Nl];exact Tl _
theorem Kc(T:Tx K mg base a):Df P w K mg base "are_fields" 4 1 lA:=by
 refine mk0 T.kf rfl Ux A6 ((by rintro o G Q E ⟨x,⟨e,_⟩,_⟩;rw[e];rfl)) (lb T (Ka T) (Yr _) (Fe T) (by lia)) λo G Q E s q=>?_;obtain⟨fs,⟨rfl,j,r,hc⟩,q⟩:=q;have hl:=UP fs;unfold Uy;walk_at "rd";have b1:Ba "tuple" "tuple"=true:=by decide
 simp only[b1,YF,Yq,if_false];refine Ga (f:=λ_=>.bl true) trivial fs.enc none [] (λx d i h=>?_) (by simp only[Yi];exact Ce (by lia)) ?_
 ·obtain⟨n,b,k,rfl,l⟩:=Oe j d;exact⟨⟨n,b,k⟩,⟨rfl,l⟩,h⟩
 ·intro p m;rw[Yw,show(λ_:W=>W.bl true)=W.bl∘(λ_=>true)from rfl,<- YB];simp only[CP Ap,Option.bind_some,Fc,YD,An];have c:(fs.enc.map λ_=>true).all id=true:=by simp
  rw[c];simp only[if_true];refine Ga (f:=Od) trivial fs.enc none [] (λx d i h=>?_) (by simp only[Yi];exact Ce (by lia)) ?_
  ·obtain⟨n,b,k,rfl,l⟩:=Oe j d;show Ad (Ae ixW) (Ab 0) (gC (.int 0)) [some (W.tup [.str n,.str (Cs b),k])] _ i;exact h
  ·intro p2 g;rw[Yw,UN];refine⟨fs.names,⟨p2,rfl,Ap,by rw[UO];lia⟩,?_⟩;dsimp only;rw[r];exact s _ _ _ (C8 (AE m) g) q
def noK(x:W):Prop:=x=.tup [.str "nun"]\/x=.tup [.str "num",.int 1]
def KFm(x:W)(b:Bool):Prop:=(∃ k:Kd,x=k.enc/\k.ok=true/\k.cnt<=1000/\b=true)\/(noK x/\b=false)
abbrev lB:Spw:=spR (λ(x:W×Bool)ws _=>ws=[x.1]/\KFm x.1 x.2) λx=>.bl x.2
theorem Iz(T:Tx K mg base a):Df P w K mg base "has_form" 5 1 lB:=by
 refine mk0 T.kg rfl UC A6 ((by rintro c G Q E ⟨x,⟨e,_⟩,_⟩;rw[e];rfl)) (lj T (Kc T) (Yr _)) λc G Q E i q=>?_;walk_at "po";rcases h with⟨k,rfl,f,hc,rfl⟩|⟨rfl | rfl,rfl⟩;rotate_left
 ·exact Eq.mpr (by kernel_rfl) q
 ·exact Eq.mpr (by kernel_rfl) q
 have b1:Ba "tuple" "tuple"=true:=by decide
 have b2:Ba "bool" "bool"=true:=by decide
 have g:Ba "str" "str"=true:=by decide
 unfold UD;cases k with
 | any =>
  exact Eq.mpr (by kernel_rfl) q
 | num =>
  exact Eq.mpr (by kernel_rfl) q
 | truth =>
  exact Eq.mpr (by kernel_rfl) q
 | to x y =>
  exact Eq.mpr (by kernel_rfl) q
 | box x =>
  exact Eq.mpr (by kernel_rfl) q
 | row fs o =>
  have h':(By fs.names&&fs.ok)=true:=f;walk_at "pc";have d:1+fs.cnt<=1000:=hc;simp only[Kd.enc];walk_at "rd";simp only[b1,g,YF,Yq,if_false];refine⟨fs,⟨rfl,h'.2,h'.1,by lia⟩,?_⟩;simp only[if_true,b2];exact q
def Of(x:W):W:=match x with | .tup [_,_,k]=>k | _=>.non
theorem UQ:∀ fs:Fs,fs.enc.map Of=fs.kinds.map Kd.enc
 | .nil=>rfl
 | .cons n m k r=>by show k.enc::r.enc.map Of=k.enc::r.kinds.map Kd.enc;rw[UQ r]
theorem UR:∀{fs:Fs}{x:W},x∈fs.enc->∃ n b k,x=.tup [.str n,.str (Cs b),k]
 | .nil,x,h=>by cases h
 | .cons n m k r,x,h=>by
  walk_at "pk"
  ·exact⟨n,m,k.enc,rfl⟩
  ·exact UR h
abbrev lC:Spw:=spL (λ(k:Kd)ws _=>ws=[k.enc]/\k.cnt<=20000) λk=>k.kids.map Kd.enc
theorem IA(T:Tx K mg base a):Df P w K mg base "kinds_within" 1 1 lC:=by
 refine mk0 T.kh rfl UF JS ((by rintro g G Q E ⟨x,⟨e,_⟩,_⟩;rw[e];rfl)) (ll T) λg G Q E j q=>?_;obtain⟨k,⟨rfl,hc⟩,q⟩:=q;unfold UG;cases k with
 | row fs o =>
  have h:1+fs.cnt<=20000:=hc;have hl:=UP fs;simp only[Kd.enc];walk_at "rd";refine Ga (f:=Of) trivial fs.enc none [] (λx d c i=>?_) (by simp only[Yi];exact Ce (by lia)) ?_
  ·obtain⟨n,b,k,rfl⟩:=UR d;show Ad (Ae ixW) (Ab 0) (gC (.int 2)) [some (W.tup [.str n,.str (Cs b),k])] _ c;exact i
  ·rw[Yw,UQ];exact q
 | any=>exact And.intro (HY _ _) q
 | num=>exact And.intro (HY _ _) q
 | truth=>exact And.intro (HY _ _) q
 | to x y=>exact And.intro (HY _ _) q
 | box x=>exact And.intro (HY _ _) q
theorem lD(b:G p=some (.lst xs))(a:G r=some (.lst zs))(hl:xs.length+zs.length<=sizeLine)(q:Q .non (put G p (.lst (xs++zs)))):FY (.ref p) [.ref r] G Q:=by
 unfold FY;refine MO b ?_ q;rw[CP a,Option.bind_some,if_pos hl]
theorem DM(h:G p=some (.lst xs)):BF (.ref p) G:=⟨xs,CP h⟩
local macro_rules | `(tactic| walk_at "rd") => `(tactic| ((try dsimp only [Af,gIf,Ai,Aq,AC,Aj,Ab,gC,Ad,gTB,AB,gNt,Bp,gOr,BE,CL,CM,BB,Ao,Av,Aa,Ac,Ah,gB,rF,Ae,A5,gMt,CD,En,BM,AU,A0,AI,Bz,CF,gSl,Bl,Bu,AZ,AY,C7,D2,BC,E8,Ck,DD,Cc,BN,Ax,Bn,List.map_cons,List.map_nil,List.length_cons,List.length_nil,List.cons_append,List.nil_append,List.getElem?_cons_zero,List.getElem?_cons_succ,List.set_cons_zero,List.set_cons_succ,List.replicate,A8,tyN,An,Bx,B5,CO,ixW,Cf,BD,DH,AL,BL,BG,Cp,C5,List.getElem?_nil]); (try simp only [Af,gIf,Ai,Aq,AC,Aj,Ab,gC,Ad,gTB,AB,gNt,Bp,gOr,BE,CL,CM,BB,Ao,Av,Aa,Ac,Ah,gB,rF,Ae,A5,gMt,CD,En,BM,AU,A0,AI,Bz,CF,gSl,Bl,Bu,AZ,AY,C7,D2,BC,E8,Ck,DD,Cc,BN,Ax,Bn,List.map_cons,List.map_nil,List.length_cons,List.length_nil,List.cons_append,List.nil_append,List.getElem?_cons_zero,List.getElem?_cons_succ,List.set_cons_zero,List.set_cons_succ,List.replicate,A8,tyN,An,Bx,B5,CO,ixW,Cf,BD,DH,AL,BL,BG,Cp,C5,List.getElem?_nil])))
inductive Al{α:Type}(F:W->α->Prop):List W->List α->Prop
 | nil:Al F [] []
 | cons {x:W} {y:α} {l:List W} {m:List α}:F x y->Al F l m->Al F (x::l) (y::m)
theorem Al.map{α β:Type}{F:W->α->Prop}{e:β->W}{f:β->α}:∀{l:List β},(∀ x∈l,F (e x) (f x))->Al F (l.map e) (l.map f)
 | [],_=>.nil
 | x::_,h=>.cons (h x Ye) (Al.map λy a=>h y (Yd _ a))
theorem Al.len{α:Type}{F:W->α->Prop}{m:List α}(h:Al F l m):m.length=l.length:=by
 induction h with
 | nil=>rfl
 | cons _ _ a=>rw[Yg,Yg,a]
abbrev US(sp:Spw)(F:W->Bool->Prop):Prop:=∀ x b G Q E,F x b->Q (.bl b) G->sp [x] G Q E
abbrev Og(sp:Spw)(F:W->List W->Prop):Prop:=∀ x ps G Q E,F x ps->(∀ r,G r=none->Q (.ref r) (put G r (.lst ps)))->sp [x] G Q E
theorem lE(j:p≠q0)(q:Og sp F)(t:Al F l c):∀(o:Option W)(G:Hw)(a:List W),a.length+c.flatten.length<=20000->G p=some (.lst a)->G q0=some (.lst items)->
  (∀ o' G',G' p=some (.lst (a++c.flatten))->(∀ b,b≠p->∀ u,G b=some u->G' b=some u)->D.nx [some k0,some (.ref i),some (.ref p),o'] G')->
  BU (holds q0 items) (gNm 3) (AC (gMt BF FY (Ab 2) (Aa (DD 1 i sp XF (Aa (Ab 3) Ac)) Ac))) D l [some k0,some (.ref i),some (.ref p),o] G:=by
 induction t with
 | nil=>exact λo G a _ e f d=>⟨f,d o G (by rw[List.flatten_nil,Yx];exact e) λ_ _ _ h=>h⟩
 | @cons x ps l c h t n =>
  intro o G a hl e f d;rw[List.flatten_cons,Yj]at hl;refine⟨f,DM e,rfl,q _ _ _ _ _ h λr g=>?_⟩;simp only[Ac];refine lD (by rw[A2 (DG e g)];exact e) Ap (Ce (by lia)) ?_;refine n (some x) _ (a++ps) (by rw[Yj];lia) Ap (by rw[A2 (YV j),A2 (DG f g)];exact f) λo' G' h1 h2=>?_;refine d o' G' (by rw[h1,List.flatten_cons,Yv]) λb k u m=>h2 b k u ?_;rw[A2 k,A2 (DG m g)];exact m
abbrev lF(mg:Str->Option Value)(nm:Str)(F:W->List W->Prop):Spw:=spL (λ(x:List W×List (List W))ws G=>∃ p,ws=[.ref p,.ref (fAt mg nm)]/\G p=some (.lst x.1)/\Al F x.1 x.2/\x.2.flatten.length<=20000) λx=>x.2.flatten
theorem lG{a:GG}{Au:GS}(h1:ω[i]?=some (some (.ref p)))(h:G p=some (.lst xs))(q:BU (holds p xs) a gb {D with nx:=Au D} xs ω G):Af (BC (AY (Ab i)) a gb) Au D ω G:=by
 unfold Af BC AY Ab;rw[h1];dsimp only;rw[h];exact q
theorem Kf(T:Tx K mg base a)(D:Df P w K mg base nm j 1 sp)(n:Og sp F):Df P w K mg base "layer_within" (j+1) 2 (lF mg nm F):=by
 refine mk0 T.ki rfl UI JS ((by rintro m G Q E ⟨x,⟨p,e,_⟩,_⟩;rw[e];rfl)) (lp T D (Yr _)) λm G Q E o q=>?_;obtain⟨⟨l,k⟩,⟨q0,rfl,i,hl,s⟩,q⟩:=q;refine And.intro (Qzz 0) λp g=>?_;have h:p≠q0:=YV (DG i g);have c:put G p (.lst []) q0=some (.lst l):=AE g _ _ i;dsimp only;show Af (BC _ _ _) _ (Ax Q) [some (.ref q0),some (.ref (fAt mg nm)),some (.ref p),none] _;refine lG rfl c ?_;refine lE h n hl none _ [] (by rw[Yi];lia) Ap c λo' r h1 h2=>?_;refine o _ _ _ (λb u f=>?_) (q p g);by_cases d:b=p
 ·subst d;rw[Ap]at f;cases f;exact h1
 ·rw[A2 d]at f;exact h2 b d u (by rw[A2 d];exact f)
theorem Oh{α:Type}{enc f:α->W}{cst:Sw}(a:gd G):∀(l:List α)(o:Option W)(ys:List W),(∀ x∈l,∀ Q:Kw,Q (f x) G->ge (some (enc x)::cst) G Q)->
  ys.length+l.length<=sizeLine->R (ys++l.map f) G->Bj gd (gNm 0) AX ge R (l.map enc) (o::cst) G ys
 | [],o,ys,_,_,r=>⟨a,by simpa using r⟩
 | x::l,o,ys,h,hl,r=>by
  walk_at "pi";show ge (some (enc x)::cst) G λy b=>Bj gd (gNm 0) AX ge R (l.map enc) (some (enc x)::cst) b (ys++[y]);refine h x Ye _ (Oh a l (some (enc x)) (ys++[f x]) (λy c=>h y (Yd _ c)) ?_ ?_)
  ·simp only[Yj,Yg,Yi]at hl ⊢;lia
  ·simpa[Yv]using r
inductive Md(F:W->Bool->Prop)(L:W->List W->Prop)(mo de:Nat):Nat->Nat->Nat->List W->Bool->Prop
 | nil {c d:Nat}:Md F L mo de 0 c d [] true
 | big {c d:Nat} {x:W} {l:List W}:l.length < 1000->mo < c+(l.length+1)\/de < d+1->Md F L mo de 0 c d (x::l) false
 | bad {c d:Nat} {x:W} {l:List W} {bs:List Bool}:l.length < 1000->c+(l.length+1)<=mo->d+1<=de->Al F (x::l) bs->bs.all id=false->Md F L mo de 0 c d (x::l) false
 | step {n c d:Nat} {x:W} {l:List W} {bs:List Bool} {pss:List (List W)} {b:Bool}:l.length < 1000->c+(l.length+1)<=mo->d+1<=de->Al F (x::l) bs->bs.all id=true->Al L (x::l) pss->pss.flatten.length<=20000->Md F L mo de n (c+(l.length+1)) (d+1) pss.flatten b->Md F L mo de (n+1) c d (x::l) b
theorem UT(e:US sp F)(a:gd G)(t:Al F l bs):∀(o:Option W)(cs:List Bool),cs.length+bs.length<=1000->R ((cs++bs).map W.bl) G->
  Bj gd (gNm 0) AX (DD 1 c sp XF (Aa (Ab 0) Ac)) R l [o,some (.ref c)] G (cs.map W.bl):=by
 induction t with
 | nil=>exact λo cs _ r=>⟨a,by rw[Yx]at r;exact r⟩
 | @cons x b l bs h t d =>
  intro o cs hl r;rw[Yg]at hl;refine⟨a,by rw[Yh];exact C9 (by lia),rfl,e _ _ _ _ _ h ?_⟩;have z:=d (some x) (cs++[b]) (by rw[Yj];exact(show cs.length+1+bs.length<=1000 by lia)) (by rw[Yv];exact r);rw[Yy]at z;exact z
abbrev lH(mg:Str->Option Value)(n1 n2:Str)(F:W->Bool->Prop)(L:W->List W->Prop)(mo de:Nat):Spw:=spR (λ(x:W×Bool)ws _=>ws=[x.1,.ref (fAt mg n1),.ref (fAt mg n2),.int mo,.int de]/\∃ n,Md F L mo de n 0 0 [x.1] x.2) λx=>.bl x.2
theorem Ff(T:Tx K mg base a)(U:Df P w K mg base n1 j 1 I)(O:Df P w K mg base n2 i 1 H)(hi:i < j)(A:US I F)(Y:Og H L):Df P w K mg base "is_made_of" (j+1) 5 (lH mg n1 n2 F L mo de):=by
 refine mk0 T.kj rfl UK A6 ((by rintro S G Q E ⟨x,⟨e,_⟩,_⟩;rw[e];rfl)) (lr T U (Yr _) (Kf T O Y) hi) λS G Q E r q=>?_;obtain⟨⟨x,b⟩,⟨rfl,n,s⟩,q⟩:=q;dsimp only at s q;refine And.intro (Qzz 1) λp N=>?_;refine Exists.intro (λm ω D=>∃(l:List W)(p:Addr)(c d:Nat),ω=[some x,some (.ref (fAt mg n1)),some (.ref (fAt mg n2)),some (.int mo),some (.int de),some (.ref p),some (.int c),some (.int d)]/\D p=some (.lst l)/\Sub G D/\Md F L mo de m c d l b) ⟨⟨n,[x],p,0,0,rfl,Ap,AE N,s⟩,?_⟩;rintro m ω G1 ⟨l,p,c,d,rfl,hl,k,s⟩;walk_at "rd";simp only[hl,An];have z:∀(y:W)(l:List W),decide ((0:Int) <((y::l).length:Nat))=true:=λy l=>YH (by rw[Yg];lia);cases s with
 | nil=>exact r _ _ _ k q
 | @big _ _ y l B h =>
  rw[if_pos (z y l)];by_cases g:(mo:Int) < c+((y::l).length:Nat)
  ·rw[if_pos (YH g),if_pos trivial];exact r _ _ _ k q
  ·rw[Yg]at g;rw[Yg,if_neg (by rw[YO];exact g),if_pos (YH (by lia))];exact r _ _ _ k q
 | @bad _ _ y l bs B h1 h2 o t =>
  rw[if_pos (z y l),if_neg (by rw[YO,Yg];lia),if_neg (by rw[YO];lia)];refine UT A hl o none [] (by rw[o.len,Yg,Yi];lia) λp1 f=>?_;simp only[Yw,CP Ap,Option.bind_some,Fc,YD,An,t,YM,if_true];exact r _ _ _ (C8 k f) q
 | @step n _ _ y l bs v _ B h1 h2 o t J X R =>
  rw[if_pos (z y l),if_neg (by rw[YO,Yg];lia),if_neg (by rw[YO];lia)];refine UT A hl o none [] (by rw[o.len,Yg,Yi];lia) λp1 f=>?_;simp only[Yw,CP Ap,Option.bind_some,Fc,YD,An,t,YF,Yq,if_false];refine⟨(y::l,v),⟨p,rfl,AE f _ _ hl,J,X⟩,λp2 u=>⟨n,Nat.lt_succ_self n,_,p2,_,_,?_,Ap,C8 (C8 k f) u,R⟩⟩;simp only[Yg,Int.natCast_add,Int.natCast_one]
theorem Oi{α:Type}{enc:α->W}{kids:α->List α}{cl a:List α->Nat}{ok:α->Prop}(f:∀ l,cl l=l.length+cl (l.flatMap kids))(r:∀ l,l≠[]->a l=1+a (l.flatMap kids))(p:cl []=0)(s:a []=0)(h:∀ x,ok x->F (enc x) true/\L (enc x) ((kids x).map enc)/\∀ y∈kids x,ok y):∀(n:Nat)(l:List α)(c d:Nat),a l<=n->(∀ x∈l,ok x)->cl l<=1000->c<=mo->d<=de->∃ m,Md F L mo de m c d (l.map enc) (decide (c+cl l<=mo/\d+a l<=de))
 | _,[],c,d,_,_,_,hc,hd=>⟨0,by
  rw[YH (show c+cl []<=mo/\d+a []<=de by rw[p,s];exact⟨hc,hd⟩)];exact .nil⟩
 | n,x::l,c,d,j,o,hl,hc,hd=>by
  have h1:=f (x::l);have h2:=r (x::l) (by simp);have u:=f ((x::l).flatMap kids);have e:(l.map enc).length=l.length:=Yh _;rw[Yg]at h1;by_cases g:mo < c+(l.length+1)\/de < d+1
  ·rw[Qj (by lia)];exact⟨0,.big (by lia) (by rw[e];exact g)⟩
  ·match n,j with
   | 0,j=>lia
   | n+1,j =>
   obtain⟨m,q⟩:=Oi (mo:=mo) (de:=de) f r p s h n ((x::l).flatMap kids) (c+(l.length+1)) (d+1) (by lia) (λy i=>by obtain⟨z,b,i⟩:=List.mem_flatMap.mp i;exact(h z (o z b)).2.2 y i) (by lia) (by lia) (by lia);rw[show decide (c+(l.length+1)+cl ((x::l).flatMap kids)<=mo/\d+1+a ((x::l).flatMap kids)<=de)=decide (c+cl (x::l)<=mo/\d+a (x::l)<=de) by rw[decide_eq_decide];lia]at q;have t:((x::l).map λk=>(kids k).map enc).flatten=((x::l).flatMap kids).map enc:=by rw[List.map_flatMap];rfl
   refine⟨m+1,Md.step (bs:=(x::l).map λ_=>true) (by lia) (by rw[e];lia) (by lia) (Al.map (l:=x::l) (e:=enc) λz b=>(h z (o z b)).1) (by simp) (Al.map (l:=x::l) (e:=enc) λz b=>(h z (o z b)).2.1) ?_ ?_⟩
   ·rw[t,Yh];lia
   ·rw[t,e];exact q
def BP(k:Kd):Bool:=decide (k.cnt<=40/\k.dp<=8)
def KLs(x:W)(ps:List W):Prop:=∃ k:Kd,x=k.enc/\k.cnt<=20000/\ps=k.kids.map Kd.enc
def KB(x:W)(b:Bool):Prop:=(∃ k:Kd,x=k.enc/\k.ok=true/\k.cnt<=1000/\b=BP k)\/(noK x/\b=false)
theorem lI(h:KB x b):∃ m,Md KFm KLs 40 8 m 0 0 [x] b:=by
 rcases h with⟨k,rfl,d,hc,rfl⟩|⟨h,rfl⟩
 ·have z:=Oi (F:=KFm) (L:=KLs) (mo:=40) (de:=8) (ok:=λk:Kd=>k.ok=true/\k.cnt<=1000) Ti Tj rfl rfl (λk h=>⟨.inl ⟨k,rfl,h.1,h.2,rfl⟩,⟨k,rfl,by have:=h.2;lia,rfl⟩,λy a=>⟨j8 h.1 y a,by have:=h.2;have:=Nm k;have:=Tn a;lia⟩⟩) k.dp [k] 0 0 (by show max k.dp 0<=_;lia) (λx c=>by rw[YA.mp c];exact⟨d,hc⟩) (by show k.cnt+0<=_;lia) (by decide) (by decide);rw[show decide (0+BO [k]<=40/\0+dpL [k]<=8)=BP k by unfold BP;rw[decide_eq_decide];show 0+(k.cnt+0)<=40/\0+max k.dp 0<=8↔_;lia]at z;exact z
 ·exact⟨0,.bad (bs:=[false]) (by decide) (by decide) (by decide) (.cons (.inr ⟨h,rfl⟩) .nil) rfl⟩
abbrev lJ:Spw:=spR (λ(x:W×Bool)ws _=>ws=[x.1]/\KB x.1 x.2) λx=>.bl x.2
theorem Kg(T:Tx K mg base a):Df P w K mg base "is_kind" 7 1 lJ:=by
 refine mk0 T.kl rfl UM A6 ((by rintro c G Q E ⟨x,⟨e,_⟩,_⟩;rw[e];rfl)) (lu T (Iz T) (by lia) (IA T) (by lia) (Ff T (F:=KFm) (L:=KLs) (mo:=40) (de:=8) (Iz T) (IA T) (by lia) (λx b G Q E h q=>⟨(x,b),⟨rfl,h⟩,q⟩) (λx ps G Q E⟨k,e,hc,d⟩q=>⟨k,⟨by rw[e],hc⟩,by rw[d]at q;exact q⟩)) (Yr _)) λc G Q E f q=>?_;walk_at "po";exact Exists.intro (x,b) ⟨⟨rfl,lI h⟩,q⟩
set_option hygiene false in
set_option hygiene false in
set_option hygiene false in
set_option hygiene false in
set_option hygiene false in
abbrev UU:List Str:=["self","text"]
theorem UV:Az UU ["self","text"] (Ak H9):=by walk_at "s"
def UW(K:PySem.W.Frag)(a:Adr):GS:=(Af (GX a.Reader "text" (Ab 1) (Ab 0)) (GX a.Reader "place" (gC (.int 0)) (Ab 0)))
theorem lK(T:Tx K mg base a):Dn P w K mg base UU "Reader.__init__" H9 k (UW K a):=λ{f cdv A outer s H E}hr=>
 have hu:=AM hr
 have hN:=UV.nd
 (Aw (R8 T.AF T.CQ rfl (by walk_at "v") (by walk_at "v")) (AD (R8 T.AF T.B6 rfl E2 (by walk_at "v"))))
abbrev UX:List Str:=["self","piece"]
theorem UY:Az UX ["self","piece"] (Ak Ia):=by walk_at "s"
def UZ(K:PySem.W.Frag)(a:Adr):GS:=(Ai (gMt isStr HV (BI a.Reader "text" (Ab 0)) (Aa (Ab 1) (Aa (BI a.Reader "place" (Ab 0)) Ac))))
theorem lL(T:Tx K mg base a):Dn P w K mg base UX "Reader.sees" Ia k (UZ K a):=λ{f cdv A outer s H E}hr=>
 have hu:=AM hr
 have hN:=UY.nd
 (AD (A3 (CN Sf rfl rfl rfl rfl rfl (Cd T.AF T.CQ rfl (by walk_at "v")) (AT rfl (by walk_at "v") (AT rfl (Cd T.AF T.B6 rfl (by walk_at "v")) Bk)))))
abbrev U0:List Str:=["self","piece"]
theorem U1:Az U0 ["self","piece"] (Ak Ib):=by walk_at "s"
def U2(K:PySem.W.Frag)(a:Adr)(ED:Spw):GS:=(Af (gIf (gNt (AB (AN a.Reader "sees" ED XF (Ab 0) (Aa (Ab 1) Ac)))) (Ai (gC (.bl false))) Aj) (Af (F1 a.Reader "place" (Ab 0) (gB (rF AL) (Aa (Ab 1) Ac))) (Ai (gC (.bl true)))))
theorem lM(T:Tx K mg base a)(Oj:DfM P w K mg base a.Reader "sees" k_Reader_sees 2 ED)(h_Reader_sees:k_Reader_sees<=k):Dn P w K mg base U0 "Reader.takes" Ib k (U2 K a ED):=λ{f cdv A outer s H E}hr=>
 have hu:=AM hr
 have hN:=U1.nd
 (Aw (Bg (FV (Cw (λ_=>rfl) (BJ T.AF Oj (hr.mono h_Reader_sees) Es rfl rfl rfl (by walk_at "v") (by walk_at "v")))) (by walk_at "v") Bf) (Aw (MZ T.AF T.B6 (by walk_at "v") (by walk_at "v")) (by walk_at "v")))
abbrev U3:List Str:=["self","piece"]
theorem U4:Az U3 ["self","piece"] (Ak Gd):=by walk_at "s"
def Ol(K:PySem.W.Frag)(a:Adr)(Bb:Spw)(E:Addr->Hw->Prop):GS:=(gIf (gNt (AB (AN a.Reader "takes" Bb (λ_=>E) (Ab 0) (Aa (Ab 1) Ac)))) (B3 a.BadNote E (Aa (gFR (Ab 1)) Ac)) Aj)
theorem lN(T:Tx K mg base a)(CH:DfM P w K mg base a.Reader "takes" k_Reader_takes 2 Bb)(h_Reader_takes:k_Reader_takes<=k)(hr:Room k (A.deeper (envOfC "Reader.wants" (Ak Gd) s.heap.objs.size f cdv))):Ssm (cxW P w K mg base U3 "Reader.wants" (Ak Gd) f cdv A outer s H E) (λB=>B=H) (AO Gd) (Ol K a Bb (dnX K H E)):=
 have hu:=AM hr
 have hN:=U4.nd
 (AD (Bg (FV (Cw (λ_=>rfl) (BJ T.AF CH (hr.mono h_Reader_takes) AH rfl rfl rfl (by walk_at "v") (by walk_at "v")))) (AD (DB T.DI T.DJ PySem.F.excBase_ValueError rfl rfl rfl rfl (AT rfl (iR (by decide +kernel) (by walk_at "v")) Bk))) Bf))
abbrev U5:List Str:=["self"]
theorem U6:Az U5 ["self"] (Ak Ge):=by walk_at "s"
def On(K:PySem.W.Frag)(a:Adr)(E:Addr->Hw->Prop):GS:=(gIf (gTB (Ad (AU (λi j=>decide (i < j)) AS) (BI a.Reader "place" (Ab 0)) (gB (rF AL) (Aa (BI a.Reader "text" (Ab 0)) Ac)))) (B3 a.BadNote E (Aa (gC (.str "there is more text than is wanted")) Ac)) Aj)
theorem lO(T:Tx K mg base a)(hr:Room k (A.deeper (envOfC "Reader.wants_end" (Ak Ge) s.heap.objs.size f cdv))):Ssm (cxW P w K mg base U5 "Reader.wants_end" (Ak Ge) f cdv A outer s H E) (λB=>B=H) (AO Ge) (On K a (dnX K H E)):=
 have hu:=AM hr
 have hN:=U6.nd
 (AD (Bg (JJ JI rfl (Cd T.AF T.B6 rfl (by walk_at "v")) (Co JL (JK) rfl T.J0 (by decide) rfl rfl rfl (AT rfl (Cd T.AF T.CQ rfl (by walk_at "v")) Bk))) (AD (DB T.DI T.DJ PySem.F.excBase_ValueError rfl rfl rfl rfl (by walk_at "v"))) Bf))
abbrev U7:List Str:=["self","start"]
theorem Oo:Az U7 ["self"] (Ak Ic):=by walk_at "s"
def U8(K:PySem.W.Frag)(a:Adr)(Ez:Spw):GS:=(Af (Aq 1 (BI a.Reader "place" (Ab 0))) (Af (E5 (Bp (gTB (Ad (AU (λi j=>decide (i < j)) AS) (BI a.Reader "place" (Ab 0)) (gB (rF AL) (Aa (BI a.Reader "text" (Ab 0)) Ac)))) (AB (Ah Ez XF (Aa (Ad (Ae ixW) (BI a.Reader "text" (Ab 0)) (BI a.Reader "place" (Ab 0))) Ac)))) (F1 a.Reader "place" (Ab 0) (gC (.int 1)))) (Ai (B4 (BI a.Reader "text" (Ab 0)) (Bl (Ab 1)) (Bl (BI a.Reader "place" (Ab 0)))))))
theorem lP(T:Tx K mg base a){EA:Nat}(Up:Df P w K mg base "is_small_letter" EA 1 Ez)(Uq:EA<=k):Dn P w K mg base U7 "Reader.word" Ic k (U8 K a Ez):=λ{f cdv A outer s H E}hr=>
 have hu:=AM hr
 have hN:=Oo.nd
 (Aw (BW (i:=1) Oo.nd rfl rfl rfl (Cd T.AF T.B6 rfl (by walk_at "v"))) (Aw (GV PassesOwn.never (ME (MG (JJ JI rfl (Cd T.AF T.B6 rfl (by walk_at "v")) (Co JL (JK) rfl T.J0 (by decide) rfl rfl rfl (AT rfl (Cd T.AF T.CQ rfl (by walk_at "v")) Bk))) (MF (Cw (λ_=>rfl) (Bo Up (hr.mono Uq) rfl Es rfl rfl rfl (AT rfl (JD (λ_ _=>rfl) (Cd T.AF T.CQ rfl (by walk_at "v")) (Cd T.AF T.B6 rfl (by walk_at "v"))) Bk)))))) (AD (MZ T.AF T.B6 (by walk_at "v") E2))) (AD (A3 (M0 (Cd T.AF T.CQ rfl (by walk_at "v")) (by walk_at "v") (ML (Cd T.AF T.B6 rfl (by walk_at "v"))))))))
abbrev U9:List Str:=["self","start"]
theorem Oq:Az U9 ["self"] (Ak Ie):=by walk_at "s"
def Va(K:PySem.W.Frag)(a:Adr):GS:=(Af (Aq 1 (BI a.Reader "place" (Ab 0))) (Af (E5 (Bp (gTB (Ad (AU (λi j=>decide (i < j)) AS) (BI a.Reader "place" (Ab 0)) (gB (rF AL) (Aa (BI a.Reader "text" (Ab 0)) Ac)))) (gTB (BM (AU (λi j=>decide (i<=j)) (λa b=>!AS b a)) (AU (λi j=>decide (i<=j)) (λa b=>!AS b a)) (gC (.str "0")) (Ad (Ae ixW) (BI a.Reader "text" (Ab 0)) (BI a.Reader "place" (Ab 0))) (gC (.str "9"))))) (F1 a.Reader "place" (Ab 0) (gC (.int 1)))) (Ai (B4 (BI a.Reader "text" (Ab 0)) (Bl (Ab 1)) (Bl (BI a.Reader "place" (Ab 0)))))))
theorem lQ(T:Tx K mg base a):Dn P w K mg base U9 "Reader.figures" Ie k (Va K a):=λ{f cdv A outer s H E}hr=>
 have hu:=AM hr
 have hN:=Oq.nd
 (Aw (BW (i:=1) Oq.nd rfl rfl rfl (Cd T.AF T.B6 rfl (by walk_at "v"))) (Aw (GV PassesOwn.never (ME (MG (JJ JI rfl (Cd T.AF T.B6 rfl (by walk_at "v")) (Co JL (JK) rfl T.J0 (by decide) rfl rfl rfl (AT rfl (Cd T.AF T.CQ rfl (by walk_at "v")) Bk))) (MF (RA HM HM rfl E3 (JD (λ_ _=>rfl) (Cd T.AF T.CQ rfl (by walk_at "v")) (Cd T.AF T.B6 rfl (by walk_at "v"))) E3)))) (AD (MZ T.AF T.B6 (by walk_at "v") E2))) (AD (A3 (M0 (Cd T.AF T.CQ rfl (by walk_at "v")) (by walk_at "v") (ML (Cd T.AF T.B6 rfl (by walk_at "v"))))))))
theorem Fg:Ay (.str x) (.str y) G Q=(x.length+y.length<=sizeLine/\Q (.str (x++y)) G):=rfl
theorem Hd:Ay (.int i) (.int j) G Q=Q (.int (i+j)) G:=rfl
def rdr(C:Addr)(T:Str)(i:Nat):HW:=.ins C [("text",.str T),("place",.int i)]
theorem lR:(("place":Str)==("text":Str))=false:=by decide +kernel
theorem Vb:¬ (("text":Str)=("place":Str)):=by decide +kernel
theorem FM:List.lookup ("text":Str) ([("text",x),("place",y)]:List (Str×W))=some x:=by rw[List.lookup_cons,beq_self_eq_true]
theorem Dh:List.lookup ("place":Str) ([("text",x),("place",y)]:List (Str×W))=some y:=by rw[List.lookup_cons,lR,List.lookup_cons,beq_self_eq_true]
theorem Ot:Dk "place" z [("text",x),("place",y)]=([("text",x),("place",z)]:List (Str×W)):=by
 unfold Dk;rw[if_neg Vb];unfold Dk;rw[if_pos rfl]
local macro_rules | `(tactic| walk_at "rd") => `(tactic| ((try dsimp only [BI,GX,F1,AN,GY,B4,Cc,DC,Fg,Hd,MY,BN,FM,Dh,Af,gIf,Ai,Aq,AC,Aj,Ab,gC,Ad,gTB,AB,gNt,Bp,gOr,BE,CL,CM,BB,Ao,Av,Aa,Ac,Ah,gB,rF,Ae,A5,gMt,CD,BM,AU,A0,AI,Bz,CF,gSl,Bl,Bu,AZ,AY,C7,Ax,Bn,List.map_cons,List.map_nil,List.length_cons,List.length_nil,List.cons_append,List.nil_append,List.getElem?_cons_zero,List.getElem?_cons_succ,List.set_cons_zero,List.set_cons_succ,List.replicate,A8,tyN,An,Bx,B5,CO,ixW,eqF,eqW,AL,BL,BG,List.getElem?_nil]); (try simp only [BI,GX,F1,AN,GY,B4,Cc,DC,Fg,Hd,MY,BN,FM,Dh,Af,gIf,Ai,Aq,AC,Aj,Ab,gC,Ad,gTB,AB,gNt,Bp,gOr,BE,CL,CM,BB,Ao,Av,Aa,Ac,Ah,gB,rF,Ae,A5,gMt,CD,BM,AU,A0,AI,Bz,CF,gSl,Bl,Bu,AZ,AY,C7,Ax,Bn,List.map_cons,List.map_nil,List.length_cons,List.length_nil,List.cons_append,List.nil_append,List.getElem?_cons_zero,List.getElem?_cons_succ,List.set_cons_zero,List.set_cons_succ,List.replicate,A8,tyN,An,Bx,B5,CO,ixW,eqF,eqW,AL,BL,BG,List.getElem?_nil])))
def Vc(a:Adr):Spw:=λws G Q _=>∃(r:Addr)(T:Str),ws=[.ref r,.str T]/\G r=some (.ins a.Reader [])/\Q .non (put G r (rdr a.Reader T 0))
theorem lS:Spw.M (Vc a):=λc G Q b E d h _⟨r,T,h1,h2,q⟩=>⟨r,T,h1,h2,h _ _ q⟩
theorem lT(T:Tx K mg base a):DfI P w K mg base "Reader" a.Reader 1 2 (Vc a):=by
 refine gW T.J2 rfl UV lS (λb G Q E⟨r,T,e,_⟩=>by rw[e];rfl) (lK (k:=0) T) λb G Q E c q=>?_;obtain⟨r,T,rfl,h,q⟩:=q;unfold UW;walk_at "rd";refine⟨r,[],rfl,h,by decide,r,_,rfl,Ap,Yu (show 1 < 2 by decide) (by decide),?_⟩;rw[AR]
 have e:Dk "place" (.int 0) (Dk "text" (.str T) [])=([("text",.str T),("place",.int 0)]:List (Str×W)):=by
  show Dk "place" (.int 0) [("text",.str T)]=_;unfold Dk;rw[if_neg Vb];rfl
 rw[e];exact q
def D7(T:Str)(i:Nat)(p:Str):Bool:=Txt.startswith3 T p i
def Kh(a:Adr):Spw:=λws G Q _=>∃(r:Addr)(T:Str)(i:Nat)(p:Str),ws=[.ref r,.str p]/\G r=some (rdr a.Reader T i)/\T.length<=90000/\p.length<=100/\
 (D7 T i p=true->Q (.bl true) (put G r (rdr a.Reader T (i+p.length))))/\(D7 T i p=false->Q (.bl false) G)
theorem lU:Spw.M (Kh a):=λf G Q d E e h _⟨r,T,i,p,h1,h2,b,c,q1,q2⟩=>⟨r,T,i,p,h1,h2,b,c,λz=>h _ _ (q1 z),λz=>h _ _ (q2 z)⟩
theorem Do(h:n<=90000):n<=sizeLine:=Yt h (by decide)
def Ou(a:Adr):Spw:=λws G Q _=>∃(r:Addr)(T:Str)(i:Nat)(p:Str),ws=[.ref r,.str p]/\G r=some (rdr a.Reader T i)/\Q (.bl (D7 T i p)) G
theorem lV:Spw.M (Ou a):=λc G Q b E d h _⟨r,T,i,p,h1,h2,q⟩=>⟨r,T,i,p,h1,h2,h _ _ q⟩
theorem Vd(T:Tx K mg base a):DfM P w K mg base a.Reader "sees" 1 2 (Ou a):=by
 refine JO T.J3 rfl UY lV (λb G Q E⟨r,T,i,p,e,_⟩=>by rw[e];rfl) (lL (k:=0) T) λb G Q E c q=>?_;obtain⟨r,T,i,p,rfl,h,q⟩:=q;unfold UZ;walk_at "rd";refine⟨r,_,_,rfl,h,FM,⟨T,rfl⟩,r,_,_,rfl,h,Dh,?_⟩;unfold HV;exact q
theorem EE{C:Addr}{i:Nat}(h1:(m==("text":Str))=false)(h2:(m==("place":Str))=false):List.lookup m ([("text",W.str T),("place",W.int i)]:List (Str×W))=none:=by rw[List.lookup_cons,h1,List.lookup_cons,h2];rfl
theorem Gf(T:Tx K mg base a):DfM P w K mg base a.Reader "takes" 2 2 (Kh a):=by
 refine JO T.J4 rfl U1 lU (λc G Q E⟨r,T,i,p,e,_⟩=>by rw[e];rfl) (lM (k:=1) T (Vd T) (Yr _)) λc G Q E g q=>?_;obtain⟨r,T,i,p,rfl,h,f,d,q1,q2⟩:=q;unfold U2;walk_at "rd";refine⟨r,_,rfl,h,EE (C:=r) (by decide +kernel) (by decide +kernel),r,T,i,p,rfl,h,?_⟩;dsimp only;cases b:D7 T i p with
 | false=>simp only[YM,if_true];exact q2 b
 | true =>
  simp only[YF,Yq,if_false];refine⟨r,_,i,rfl,h,Dh,?_⟩;rw[if_pos (Do (by lia))];simp only[An];refine⟨_,_,rfl,h,by simp,?_⟩;rw[Ot];exact q1 b
def IB(a:Adr):Spw:=λws G Q E=>∃(r:Addr)(T:Str)(i:Nat)(p:Str),ws=[.ref r,.str p]/\G r=some (rdr a.Reader T i)/\T.length<=90000/\p.length<=100/\(reprText p).length<=1000/\(D7 T i p=true->Q .non (put G r (rdr a.Reader T (i+p.length))))/\(D7 T i p=false->E a.BadNote G)
theorem lW:Spw.M (IB a):=λg G Q e E f h h'⟨r,T,i,p,h1,h2,b,c,d,q,q2⟩=>⟨r,T,i,p,h1,h2,b,c,d,λz=>h _ _ (q z),λz=>h' _ _ (q2 z)⟩
theorem Gg(T:Tx K mg base a):DfM P w K mg base a.Reader "wants" 3 2 (IB a):=by
 refine Sb (k:=2) T.J5 rfl U4 lW (λd G Q E⟨r,T,i,p,e,_⟩=>by rw[e];rfl) (g:=λE=>Ol K a _ E) (lN (k:=2) T (Gf T) (Yr _)) λd G Q E l j q=>?_;obtain⟨r,T,i,p,rfl,h,c,b,f,q,q2⟩:=q;unfold Ol;walk_at "rd";refine⟨r,_,rfl,h,EE (C:=r) (by decide +kernel) (by decide +kernel),r,T,i,p,rfl,h,c,b,λz=>?_,λz=>?_⟩
 ·simp only[YF,Yq,if_false];exact q z
 ·simp only[YM,if_true];unfold B3 gFR;walk_at "rd";exact⟨p,rfl,f,λy=>⟨by decide,q2 z⟩⟩
def Ve(a:Adr):Spw:=λws G Q E=>∃(r:Addr)(T:Str)(i:Nat),ws=[.ref r]/\G r=some (rdr a.Reader T i)/\T.length<=90000/\(T.length<=i->Q .non G)/\(i < T.length->E a.BadNote G)
theorem lX:Spw.M (Ve a):=λd G Q c E e h h'⟨r,T,i,h1,h2,b,q,q2⟩=>⟨r,T,i,h1,h2,b,λz=>h _ _ (q z),λz=>h' _ _ (q2 z)⟩
theorem lY(T:Tx K mg base a):DfM P w K mg base a.Reader "wants_end" 1 1 (Ve a):=by
 refine Sb (k:=0) T.J6 rfl U6 lX (λc G Q E⟨r,T,i,e,_⟩=>by rw[e];rfl) (g:=λE=>On K a E) (lO (k:=0) T) λc G Q E f d q=>?_;obtain⟨r,T,i,rfl,h,b,q,q2⟩:=q;unfold On;walk_at "rd";refine⟨r,_,_,rfl,h,Dh,r,_,_,rfl,h,FM,?_⟩;dsimp only;rw[if_pos (Do b)];simp only[An];by_cases hi:i < T.length
 ·rw[if_pos (by simp;lia)];unfold B3;walk_at "rd";exact⟨by decide,q2 hi⟩
 ·rw[if_neg (by simp;lia)];exact q (by lia)
def Bv(c:Nat):Bool:=G0 ⟨#[c]⟩
def run(T:Str)(i:Nat):List Nat:=(T.cps.toList.drop i).takeWhile Bv
theorem Gh(T:Str):T.length=T.cps.toList.length:=by simp[Str.length]
theorem lZ(h:T.cps.toList[j]?=some c)(hc:Bv c=true):run T j=c::run T (j+1):=by
 obtain⟨h1,h2⟩:=YW.mp h;unfold run;rw[List.drop_eq_getElem_cons h1,h2,List.takeWhile_cons,hc];rfl
theorem l0(h:T.cps.toList[j]?=some c)(hc:Bv c=false):run T j=[]:=by
 obtain⟨h1,h2⟩:=YW.mp h;unfold run;rw[List.drop_eq_getElem_cons h1,h2,List.takeWhile_cons,hc];rfl
theorem l6(h:T.length<=j):run T j=[]:=by
 unfold run;rw[List.drop_eq_nil_of_le (by rw[<- Gh];exact h)];rfl
theorem He(h:G p=some o):put G p o=G:=by
 funext b;by_cases e:b=p
 ·subst e;rw[Ap,h]
 ·rw[A2 e]
theorem l7(h:j < n):ixN n (j:Int)=some j:=by
 unfold ixN;rw[if_pos (by lia),if_pos (by lia)];rfl
theorem CB{α:Type}{xs:List α}(h:j < xs.length):atI xs (j:Int)=xs[j]?:=by
 unfold atI;rw[l7 h];rfl
theorem Vf{i j:Nat}(h:i<=j)(a:j<=T.length):Txt.slice T (some (i:Int)) (some (j:Int))=⟨((T.cps.toList.drop i).take (j - i)).toArray⟩:=PySem.StrLaws.sliceText_nat T h a
def Ki(a:Adr):Spw:=λws G Q _=>∃(r:Addr)(T:Str)(i:Nat),ws=[.ref r]/\G r=some (rdr a.Reader T i)/\T.length<=90000/\i<=T.length/\Q (.str ⟨(run T i).toArray⟩) (put G r (rdr a.Reader T (i+(run T i).length)))
theorem l8:Spw.M (Ki a):=λf G Q d E e h _⟨r,T,i,h1,h2,b,c,q⟩=>⟨r,T,i,h1,h2,b,c,h _ _ q⟩
theorem Fh(T:Tx K mg base a):DfM P w K mg base a.Reader "word" 2 1 (Ki a):=by
 refine JO T.J7 rfl Oo l8 (λx G Q E⟨r,T,i,e,_⟩=>by rw[e];rfl) (lP (k:=1) T (EA T) (Yr _)) λx G Q E z q=>?_;obtain⟨r,T,i,rfl,h,o,hi,q⟩:=q;unfold U8;walk_at "rd";refine⟨r,_,_,rfl,h,Dh,?_⟩
 refine⟨λm ω t=>∃ j:Nat,m=T.length - j/\i<=j/\j<=T.length/\ω=[some (.ref r),some (.int i)]/\t=put G r (rdr a.Reader T j)/\run T i=(T.cps.toList.drop i).take (j - i)++run T j,
  ⟨_,i,rfl,Yr _,hi,rfl,(He h).symm,by simp⟩,?_⟩
 rintro m ω t ⟨j,rfl,p,u,rfl,rfl,b⟩;have c:(put G r (rdr a.Reader T j)) r=some (rdr a.Reader T j):=Ap
 have f:∀ n:Nat,run T j=[]->n=j->i+(run T i).length=n:=λn e en=>by
  rw[b,e,Yx,List.length_take,List.length_drop,<- Gh];lia
 have g:run T j=[]->Q (.str (Txt.slice T (some (i:Int)) (some (j:Int)))) (put G r (rdr a.Reader T j)):=λe=>by
  rw[Vf p u];have y:(T.cps.toList.drop i).take (j - i)=run T i:=by rw[b,e,Yx]
  rw[y,<- f j e rfl];exact q
 walk_at "rd";refine⟨r,_,_,rfl,c,Dh,r,_,_,rfl,c,FM,?_⟩;dsimp only;rw[if_pos (Do o)];simp only[An];by_cases d:j < T.length
 ·rw[if_pos (by simpa using d)];walk_at "pn";have l:j < T.cps.toList.length:=by rw[<- Gh];exact d
  have hc:T.cps.toList[j]?=some T.cps.toList[j]:=by simp[l]
  dsimp only;rw[if_pos (Do o),CB l,hc];simp only[YD,An];refine⟨_,rfl,?_⟩
  change if Bv T.cps.toList[j]=true then _ else _
  cases s:Bv T.cps.toList[j]with
  | true =>
   simp only[if_true];refine⟨r,_,j,rfl,c,Dh,_,1,rfl,c,by simp,?_⟩;rw[Ot,AR];refine⟨T.length -(j+1),by lia,j+1,(by first | rfl | trivial),by lia,by lia,(by first | rfl | trivial),(by first | rfl | trivial),?_⟩;rw[b,lZ hc s];have:j+1 - i=(j - i)+1:=by lia
   rw[this,List.take_add_one];have v:(T.cps.toList.drop i)[j - i]?=some T.cps.toList[j]:=by rw[List.getElem?_drop,show i+(j - i)=j by lia,hc]
   rw[v];simp
  | false =>
   simp only[Yq,if_false];walk_at "pn";exact⟨Do o,g (l0 hc s)⟩
 ·rw[if_neg (by simpa using d)];simp only[Yq,if_false];walk_at "pn";exact⟨Do o,g (l6 (by lia))⟩
set_option hygiene false in
set_option hygiene false in
set_option hygiene false in
set_option hygiene false in
set_option hygiene false in
abbrev Vg:List Str:=["reader","depth","word"]
theorem Kj:Az Vg ["reader","depth"] (Ak Ig):=by walk_at "s"
def Hf(K:PySem.W.Frag)(a:Adr)(Bb:Spw)(Kk:Spw)(Kl:Spw)(Km:Spw)(Bq:Spw)(E:Addr->Hw->Prop):GS:=(Af (gIf (gTB (Ad (A0 λi j=>decide (j < i)) (Ab 1) (gC (.int 8)))) (B3 a.BadNote E (Aa (gC (.str "too many kinds within one another")) Ac)) Aj) (Af (gIf (AB (AN a.Reader "takes" Bb (λ_=>E) (Ab 0) (Aa (gC (.str "(")) Ac))) (Ai (Ah Kk (λ_=>E) (Aa (Ab 0) (Aa (Ab 1) Ac)))) Aj) (Af (gIf (AB (AN a.Reader "takes" Bb (λ_=>E) (Ab 0) (Aa (gC (.str "[")) Ac))) (Ai (Ah Kl (λ_=>E) (Aa (Ab 0) (Aa (Ab 1) Ac)))) Aj) (Af (gIf (AB (AN a.Reader "takes" Bb (λ_=>E) (Ab 0) (Aa (gC (.str "{")) Ac))) (Ai (Ah Km (λ_=>E) (Aa (Ab 0) (Aa (Ab 1) Ac)))) Aj) (Af (Aq 2 (AN a.Reader "word" Bq (λ_=>E) (Ab 0) Ac)) (Af (gIf (gTB (Ad (Ae (inF true)) (Ab 2) (Ao (Aa (gC (.str "any")) (Aa (gC (.str "num")) (Aa (gC (.str "truth")) Ac)))))) (B3 a.BadNote E (Aa (gC (.str "wanted a kind")) Ac)) Aj) (Ai (Ao (Aa (Ab 2) Ac)))))))))
theorem Vh(T:Tx K mg base a)(CH:DfM P w K mg base a.Reader "takes" k_Reader_takes 2 Bb)(h_Reader_takes:k_Reader_takes<=k)(ma:Df P w K mg base "function_from" Kn 2 Kk)(md:Kn<=k)(mf:Df P w K mg base "box_from" Ko 2 Kl)(mh:Ko<=k)(mj:Df P w K mg base "row_from" Kp 2 Km)(ml:Kp<=k)(DN:DfM P w K mg base a.Reader "word" k_Reader_word 1 Bq)(h_Reader_word:k_Reader_word<=k)(hr:Room k (A.deeper (envOfC "kind_from" (Ak Ig) s.heap.objs.size f cdv))):Ssm (cxW P w K mg base Vg "kind_from" (Ak Ig) f cdv A outer s H E) (λB=>B=H) (AO Ig) (Hf K a Bb Kk Kl Km Bq (dnX K H E)):=
 have hu:=AM hr
 have hN:=Kj.nd
 (Aw (Bg (by walk_at "v") (AD (DB T.DI T.DJ PySem.F.excBase_ValueError rfl rfl rfl rfl (by walk_at "v"))) Bf) (Aw (Bg (Cw (λ_=>rfl) (BJ T.AF CH (hr.mono h_Reader_takes) AH rfl rfl rfl (by walk_at "v") (by walk_at "v"))) (AD (A3 (Bo ma (hr.mono md) rfl AH rfl rfl rfl (by walk_at "v")))) Bf) (Aw (Bg (Cw (λ_=>rfl) (BJ T.AF CH (hr.mono h_Reader_takes) AH rfl rfl rfl (by walk_at "v") (by walk_at "v"))) (AD (A3 (Bo mf (hr.mono mh) rfl AH rfl rfl rfl (by walk_at "v")))) Bf) (Aw (Bg (Cw (λ_=>rfl) (BJ T.AF CH (hr.mono h_Reader_takes) AH rfl rfl rfl (by walk_at "v") (by walk_at "v"))) (AD (A3 (Bo mj (hr.mono ml) rfl AH rfl rfl rfl (by walk_at "v")))) Bf) (Aw (BW (i:=2) Kj.nd rfl rfl rfl (E9 T.AF DN (hr.mono h_Reader_word) AH rfl (by walk_at "v"))) (Aw (Bg (by walk_at "v") (AD (DB T.DI T.DJ PySem.F.excBase_ValueError rfl rfl rfl rfl (by walk_at "v"))) Bf) (by walk_at "v")))))))
abbrev Vi:List Str:=["reader","depth","taken","given"]
theorem Kq:Az Vi ["reader","depth"] (Ak Ih):=by walk_at "s"
def Ov(K:PySem.W.Frag)(a:Adr)(BY:Spw)(Bc:Spw)(E:Addr->Hw->Prop):GS:=(Af (Aq 2 (Ah BY (λ_=>E) (Aa (Ab 0) (Aa (Ad (Ay) (Ab 1) (gC (.int 1))) Ac)))) (Af (AC (AN a.Reader "wants" Bc (λ_=>E) (Ab 0) (Aa (gC (.str " > ")) Ac))) (Af (Aq 3 (Ah BY (λ_=>E) (Aa (Ab 0) (Aa (Ad (Ay) (Ab 1) (gC (.int 1))) Ac)))) (Af (AC (AN a.Reader "wants" Bc (λ_=>E) (Ab 0) (Aa (gC (.str ")")) Ac))) (Ai (Ao (Aa (gC (.str "to")) (Aa (Ab 2) (Aa (Ab 3) Ac)))))))))
theorem mm(T:Tx K mg base a)(Fi:Df P w K mg base "kind_from" CT 2 BY)(Fj:CT<=k)(CI:DfM P w K mg base a.Reader "wants" k_Reader_wants 2 Bc)(h_Reader_wants:k_Reader_wants<=k)(hr:Room k (A.deeper (envOfC "function_from" (Ak Ih) s.heap.objs.size f cdv))):Ssm (cxW P w K mg base Vi "function_from" (Ak Ih) f cdv A outer s H E) (λB=>B=H) (AO Ih) (Ov K a BY Bc (dnX K H E)):=
 have hu:=AM hr
 have hN:=Kq.nd
 (Aw (BW (i:=2) Kq.nd rfl rfl rfl (Bo Fi (hr.mono Fj) rfl AH rfl rfl rfl (by walk_at "v"))) (Aw (B2 rfl (BJ T.AF CI (hr.mono h_Reader_wants) AH rfl rfl rfl (by walk_at "v") (by walk_at "v"))) (Aw (BW (i:=3) Kq.nd rfl rfl rfl (Bo Fi (hr.mono Fj) rfl AH rfl rfl rfl (by walk_at "v"))) (Aw (B2 rfl (BJ T.AF CI (hr.mono h_Reader_wants) AH rfl rfl rfl (by walk_at "v") (by walk_at "v"))) (by walk_at "v")))))
abbrev Vj:List Str:=["reader","depth","inside"]
theorem Ow:Az Vj ["reader","depth"] (Ak Ii):=by walk_at "s"
def Ox(K:PySem.W.Frag)(a:Adr)(BY:Spw)(Bc:Spw)(E:Addr->Hw->Prop):GS:=(Af (Aq 2 (Ah BY (λ_=>E) (Aa (Ab 0) (Aa (Ad (Ay) (Ab 1) (gC (.int 1))) Ac)))) (Af (AC (AN a.Reader "wants" Bc (λ_=>E) (Ab 0) (Aa (gC (.str "]")) Ac))) (Ai (Ao (Aa (gC (.str "box")) (Aa (Ab 2) Ac))))))
theorem mn(T:Tx K mg base a)(Fi:Df P w K mg base "kind_from" CT 2 BY)(Fj:CT<=k)(CI:DfM P w K mg base a.Reader "wants" k_Reader_wants 2 Bc)(h_Reader_wants:k_Reader_wants<=k)(hr:Room k (A.deeper (envOfC "box_from" (Ak Ii) s.heap.objs.size f cdv))):Ssm (cxW P w K mg base Vj "box_from" (Ak Ii) f cdv A outer s H E) (λB=>B=H) (AO Ii) (Ox K a BY Bc (dnX K H E)):=
 have hu:=AM hr
 have hN:=Ow.nd
 (Aw (BW (i:=2) Ow.nd rfl rfl rfl (Bo Fi (hr.mono Fj) rfl AH rfl rfl rfl (by walk_at "v"))) (Aw (B2 rfl (BJ T.AF CI (hr.mono h_Reader_wants) AH rfl rfl rfl (by walk_at "v") (by walk_at "v"))) (by walk_at "v")))
abbrev Vk:List Str:=["reader","depth","fields"]
theorem Vl:Az Vk ["reader","depth"] (Ak Ij):=by walk_at "s"
def Oy(K:PySem.W.Frag)(a:Adr)(Bb:Spw)(Kr:Spw)(Bc:Spw)(E:Addr->Hw->Prop):GS:=(Af (gIf (AB (AN a.Reader "takes" Bb (λ_=>E) (Ab 0) (Aa (gC (.str "}")) Ac))) (Ai (Ao (Aa (gC (.str "row")) (Aa (Ao Ac) (Aa (gC (.bl false)) Ac))))) Aj) (Af (Aq 2 (Av Ac)) (Af (E5 (gNt (AB (AN a.Reader "takes" Bb (λ_=>E) (Ab 0) (Aa (gC (.str "..")) Ac)))) (Af (AC (gMt BF BH (Ab 2) (Aa (Ah Kr (λ_=>E) (Aa (Ab 0) (Aa (Ab 1) Ac))) Ac))) (Af (gIf (AB (AN a.Reader "takes" Bb (λ_=>E) (Ab 0) (Aa (gC (.str "}")) Ac))) (Ai (Ao (Aa (gC (.str "row")) (Aa (gB (rF Cp) (Aa (Ab 2) Ac)) (Aa (gC (.bl false)) Ac))))) Aj) (AC (AN a.Reader "wants" Bc (λ_=>E) (Ab 0) (Aa (gC (.str ", ")) Ac)))))) (Af (AC (AN a.Reader "wants" Bc (λ_=>E) (Ab 0) (Aa (gC (.str "}")) Ac))) (Ai (Ao (Aa (gC (.str "row")) (Aa (gB (rF Cp) (Aa (Ab 2) Ac)) (Aa (gC (.bl true)) Ac)))))))))
theorem mq(T:Tx K mg base a)(CH:DfM P w K mg base a.Reader "takes" k_Reader_takes 2 Bb)(h_Reader_takes:k_Reader_takes<=k)(mu:Df P w K mg base "field_from" Ks 2 Kr)(mv:Ks<=k)(CI:DfM P w K mg base a.Reader "wants" k_Reader_wants 2 Bc)(h_Reader_wants:k_Reader_wants<=k)(hr:Room k (A.deeper (envOfC "row_from" (Ak Ij) s.heap.objs.size f cdv))):Ssm (cxW P w K mg base Vk "row_from" (Ak Ij) f cdv A outer s H E) (λB=>B=H) (AO Ij) (Oy K a Bb Kr Bc (dnX K H E)):=
 have hu:=AM hr
 have hN:=Vl.nd
 (Aw (Bg (Cw (λ_=>rfl) (BJ T.AF CH (hr.mono h_Reader_takes) AH rfl rfl rfl (by walk_at "v") (by walk_at "v"))) (by walk_at "v") Bf) (Aw (by walk_at "v") (Aw (GV PassesOwn.leaving (FV (Cw (λ_=>rfl) (BJ T.AF CH (hr.mono h_Reader_takes) AH rfl rfl rfl (by walk_at "v") (by walk_at "v")))) (Aw (B2 rfl (CN HQ rfl rfl rfl rfl rfl (by walk_at "v") (AT rfl (Bo mu (hr.mono mv) rfl AH rfl rfl rfl (by walk_at "v")) Bk))) (Aw (Bg (Cw (λ_=>rfl) (BJ T.AF CH (hr.mono h_Reader_takes) AH rfl rfl rfl (by walk_at "v") (by walk_at "v"))) (by walk_at "v") Bf) (AD (B2 rfl (BJ T.AF CI (hr.mono h_Reader_wants) AH rfl rfl rfl (by walk_at "v") (by walk_at "v"))))))) (Aw (B2 rfl (BJ T.AF CI (hr.mono h_Reader_wants) AH rfl rfl rfl (by walk_at "v") (by walk_at "v"))) (by walk_at "v")))))
abbrev Vm:List Str:=["reader","depth","name","mark"]
theorem Kt:Az Vm ["reader","depth"] (Ak Ik):=by walk_at "s"
def Oz(K:PySem.W.Frag)(a:Adr)(Bq:Spw)(Bb:Spw)(Bc:Spw)(BY:Spw)(E:Addr->Hw->Prop):GS:=(Af (Aq 2 (AN a.Reader "word" Bq (λ_=>E) (Ab 0) Ac)) (Af (Aq 3 (BB (AB (AN a.Reader "takes" Bb (λ_=>E) (Ab 0) (Aa (gC (.str "?")) Ac))) (gC (.str "may")) (gC (.str "must")))) (Af (AC (AN a.Reader "wants" Bc (λ_=>E) (Ab 0) (Aa (gC (.str ": ")) Ac))) (Ai (Ao (Aa (Ab 2) (Aa (Ab 3) (Aa (Ah BY (λ_=>E) (Aa (Ab 0) (Aa (Ad (Ay) (Ab 1) (gC (.int 1))) Ac))) Ac))))))))
theorem mw(T:Tx K mg base a)(DN:DfM P w K mg base a.Reader "word" k_Reader_word 1 Bq)(h_Reader_word:k_Reader_word<=k)(CH:DfM P w K mg base a.Reader "takes" k_Reader_takes 2 Bb)(h_Reader_takes:k_Reader_takes<=k)(CI:DfM P w K mg base a.Reader "wants" k_Reader_wants 2 Bc)(h_Reader_wants:k_Reader_wants<=k)(Fi:Df P w K mg base "kind_from" CT 2 BY)(Fj:CT<=k)(hr:Room k (A.deeper (envOfC "field_from" (Ak Ik) s.heap.objs.size f cdv))):Ssm (cxW P w K mg base Vm "field_from" (Ak Ik) f cdv A outer s H E) (λB=>B=H) (AO Ik) (Oz K a Bq Bb Bc BY (dnX K H E)):=
 have hu:=AM hr
 have hN:=Kt.nd
 (Aw (BW (i:=2) Kt.nd rfl rfl rfl (E9 T.AF DN (hr.mono h_Reader_word) AH rfl (by walk_at "v"))) (Aw (BW (i:=3) Kt.nd rfl rfl rfl (MD (Cw (λ_=>rfl) (BJ T.AF CH (hr.mono h_Reader_takes) AH rfl rfl rfl (by walk_at "v") (by walk_at "v"))) E3 E3)) (Aw (B2 rfl (BJ T.AF CI (hr.mono h_Reader_wants) AH rfl rfl rfl (by walk_at "v") (by walk_at "v"))) (AD (A3 (Mz (AT rfl (by walk_at "v") (AT rfl (by walk_at "v") (AT rfl (Bo Fi (hr.mono Fj) rfl AH rfl rfl rfl (by walk_at "v")) Bk)))))))))
local macro_rules | `(tactic| walk_at "rd") => `(tactic| ((try dsimp only [Af,gIf,Ai,Aq,AC,Aj,Ab,gC,Ad,gTB,AB,gNt,Bp,gOr,BE,CL,CM,BB,Ao,Av,Aa,Ac,Ah,gB,rF,Ae,A5,gMt,CD,En,BM,AU,A0,AI,Bz,CF,gSl,Bl,Bu,AZ,AY,C7,D2,BC,E8,Ck,DD,Cc,BN,Ax,Bn,List.map_cons,List.map_nil,List.length_cons,List.length_nil,List.cons_append,List.nil_append,List.getElem?_cons_zero,List.getElem?_cons_succ,List.set_cons_zero,List.set_cons_succ,List.replicate,A8,tyN,An,Bx,B5,CO,ixW,Cf,BD,DH,AL,BL,BG,Cp,C5,List.getElem?_nil]); (try simp only [Af,gIf,Ai,Aq,AC,Aj,Ab,gC,Ad,gTB,AB,gNt,Bp,gOr,BE,CL,CM,BB,Ao,Av,Aa,Ac,Ah,gB,rF,Ae,A5,gMt,CD,En,BM,AU,A0,AI,Bz,CF,gSl,Bl,Bu,AZ,AY,C7,D2,BC,E8,Ck,DD,Cc,BN,Ax,Bn,List.map_cons,List.map_nil,List.length_cons,List.length_nil,List.cons_append,List.nil_append,List.getElem?_cons_zero,List.getElem?_cons_succ,List.set_cons_zero,List.set_cons_succ,List.replicate,A8,tyN,An,Bx,B5,CO,ixW,Cf,BD,DH,AL,BL,BG,Cp,C5,List.getElem?_nil])))
def cs(s:Str):List Nat:=s.cps.toList
theorem Ci(x y:Str):cs (x++y)=cs x++cs y:=by unfold cs;rw[Str.cps_append];simp
theorem CU(s:Str):(cs s).length=s.length:=(Gh s).symm
theorem OA(h:cs x=cs y):x=y:=Str.ext' (Array.toList_inj.mp h)
theorem mx(l:List Nat):cs ⟨l.toArray⟩=l:=rfl
def At(T:Str)(i:Nat)(s:List Nat):Prop:=(cs T).drop i=s/\i<=T.length
theorem At.next(h:At T i (x++s)):At T (i+x.length) s:=by
 obtain⟨h1,h2⟩:=h;have e:(cs T).length - i=x.length+s.length:=by rw[<- List.length_drop,h1,Yj]
 rw[CU]at e;refine⟨by rw[<- List.drop_drop,h1,List.drop_left],by lia⟩
theorem Vn(hi:i<=T.length):D7 T i p=decide (((cs T).drop i).take p.length=cs p):=by
 have e:fromIndex T.length (i:Int)=i:=by unfold fromIndex;rw[if_neg (by lia)];lia
 unfold D7 Txt.startswith3;rw[e];unfold Builtin.Str.subAt;rw[StrLaws.beq_toList,Array.toList_extract]
 have a:T.cps.toList.extract i (i+p.length)=((cs T).drop i).take p.length:=by
  rw[List.extract_eq_take_drop];rw[show i+p.length - i=p.length by lia];rfl
 rw[a];by_cases h:((cs T).drop i).take p.length=cs p
 ·have hl:i+p.length<=T.length:=by
   have:=Qh List.length h;rw[List.length_take,List.length_drop,CU,CU]at this;lia
  rw[YH h,YH hl,h];simp[cs]
 ·rw[Qj h];have:(((cs T).drop i).take p.length==p.cps.toList)=false:=by simpa[cs]using h
  rw[this,Bool.and_false]
abbrev Sg:=List Nat
def eat(p:Str)(s:Sg):Option Sg:=if s.take p.length=cs p then some (s.drop p.length)else none
theorem Gi{s:Sg}(h:At T i s)(e:eat p s=some s'):D7 T i p=true/\At T (i+p.length) s':=by
 unfold eat at e;split at e
 ·rename_i z;cases e;refine⟨by rw[Vn h.2,h.1];exact YH z,by rw[<- List.drop_drop,h.1],?_⟩;have a:=Qh List.length z;have b:=Qh List.length h.1;rw[List.length_take,CU]at a;rw[List.length_drop,CU]at b;have:=h.2;lia
 ·cases e
theorem Ku{s:Sg}(h:At T i s)(e:eat p s=none):D7 T i p=false:=by
 unfold eat at e;split at e
 ·cases e
 ·rename_i z;rw[Vn h.2,h.1];exact Qj z
def wrd(s:Sg):Str:=⟨(s.takeWhile Bv).toArray⟩
def aft(s:Sg):Sg:=s.dropWhile Bv
abbrev Fd:=Str×Bool×Kd
def CV(x:Fd):W:=.tup [.str x.1,.str (Cs x.2.1),x.2.2.enc]
def ofL:List Fd->Fs
 | []=>.nil
 | x::l=>.cons x.1 x.2.1 x.2.2 (ofL l)
theorem OC:∀ l:List Fd,(ofL l).enc=l.map CV
 | []=>rfl
 | x::l=>Qh (_::·) (OC l)
def pf(f:Sg->Option (Kd×Sg))(s:Sg):Option (Fd×Sg):=match eat "?" (aft s)with
 | some s2=>(eat ": " s2).bind λs3=>(f s3).map λx=>((wrd s,false,x.1),x.2)
 | none=>(eat ": " (aft s)).bind λs3=>(f s3).map λx=>((wrd s,true,x.1),x.2)
def pr(f:Sg->Option (Kd×Sg)):Nat->Sg->List Fd->Option (Kd×Sg)
 | 0,_,_=>none
 | m+1,s,acc=>match eat ".." s with
  | some s1=>(eat "}" s1).map λs2=>(.row (ofL acc) true,s2)
  | none=>(pf f s).bind λx=>match eat "}" x.2 with
   | some s2=>some (.row (ofL (acc++[x.1])) false,s2)
   | none=>(eat ", " x.2).bind λs2=>pr f m s2 (acc++[x.1])
def pk:Nat->Sg->Option (Kd×Sg)
 | 0,_=>none
 | n+1,s=>match eat "(" s with
  | some s1=>(pk n s1).bind λx=>(eat " > " x.2).bind λs3=>(pk n s3).bind λy=>(eat ")" y.2).map λs5=>(.to x.1 y.1,s5)
  | none=>match eat "[" s with
   | some s1=>(pk n s1).bind λx=>(eat "]" x.2).map λs3=>(.box x.1,s3)
   | none=>match eat "{" s with
    | some s1=>(match eat "}" s1 with
     | some s2=>some (.row .nil false,s2)
     | none=>pr (pk n) (s1.length+1) s1 [])
    | none=>if wrd s="any" then some (.any,aft s)else if wrd s="num" then some (.num,aft s)else if wrd s="truth" then some (.truth,aft s)else none
def RO(a:Adr)(r:Addr)(T:Str)(o:Option (W×Sg))(G:Hw)(Q:Kw)(E:Addr->Hw->Prop):Prop:=match o with
 | some x=>∀ i,At T i x.2->Q x.1 (put G r (rdr a.Reader T i))
 | none=>∀ i,E a.BadNote (put G r (rdr a.Reader T i))
theorem RO.imp(h:∀ w G,Q w G->b w G)(h':∀ c G,E c G->E' c G)(z:RO a r T o G Q E):RO a r T o G b E':=by
 cases o with
 | some x=>exact λi hi=>h _ _ (z i hi)
 | none=>exact λi=>h' _ _ (z i)
def Bs{α:Type}(a:Adr)(e:α->W)(d:Int)(f:Sg->Option (α×Sg)):Spw:=λws G Q E=>∃(r:Addr)(T:Str)(i:Nat)(s:Sg),ws=[.ref r,.int d]/\G r=some (rdr a.Reader T i)/\T.length<=90000/\At T i s/\RO a r T ((f s).map λx=>(e x.1,x.2)) G Q E
theorem D8{α:Type}{e:α->W}{f:Sg->Option (α×Sg)}:Spw.M (Bs a e d f):=λk G Q g E j h h'⟨r,T,i,s,h1,h2,b,c,q⟩=>⟨r,T,i,s,h1,h2,b,c,q.imp h h'⟩
theorem D9{α:Type}{e:α->W}{f:Sg->Option (α×Sg)}(b:List W)(G:Hw)(Q:Kw)(E:Addr->Hw->Prop)(h:Bs a e d f b G Q E):b.length=2:=by
 obtain⟨_,_,_,_,rfl,_⟩:=h;rfl
section
theorem EF{s:Sg}(f:ω[0]?=some (some (.ref r)))(h:G r=some (rdr a.Reader T i))(c:T.length<=90000)(b:At T i s)(d:p.length<=100)(q1:∀ s',eat p s=some s'->At T (i+p.length) s'->Q (.bl true) (put G r (rdr a.Reader T (i+p.length))))(q2:eat p s=none->Q (.bl false) G):
  AN a.Reader "takes" (Kh a) (λ_=>E) (Ab 0) (Aa (gC (.str p)) Ac) ω G Q:=by
 simp only[AN,Ab,f,gC,Aa,Ac];refine⟨r,_,rfl,h,EE (C:=r) (by decide +kernel) (by decide +kernel),r,T,i,p,rfl,h,c,d,λz=>?_,λz=>?_⟩
 ·cases e:eat p s with
  | some s'=>exact q1 s' e (Gi b e).2
  | none=>rw[Ku b e]at z;cases z
 ·cases e:eat p s with
  | some s'=>rw[(Gi b e).1]at z;cases z
  | none=>exact q2 e
theorem EG{s:Sg}(g:ω[0]?=some (some (.ref r)))(h:G r=some (rdr a.Reader T i))(f:T.length<=90000)(b:At T i s)(d:p.length<=100)(c:(reprText p).length<=1000)(q1:∀ s',eat p s=some s'->At T (i+p.length) s'->Q .non (put G r (rdr a.Reader T (i+p.length))))(q2:eat p s=none->E a.BadNote G):
  AN a.Reader "wants" (IB a) (λ_=>E) (Ab 0) (Aa (gC (.str p)) Ac) ω G Q:=by
 simp only[AN,Ab,g,gC,Aa,Ac];refine⟨r,_,rfl,h,EE (C:=r) (by decide +kernel) (by decide +kernel),r,T,i,p,rfl,h,f,d,c,λz=>?_,λz=>?_⟩
 ·cases e:eat p s with
  | some s'=>exact q1 s' e (Gi b e).2
  | none=>rw[Ku b e]at z;cases z
 ·cases e:eat p s with
  | some s'=>rw[(Gi b e).1]at z;cases z
  | none=>exact q2 e
theorem Dp{s:Sg}{α:Type}{e:α->W}{f:Sg->Option (α×Sg)}(h:G r=some (rdr a.Reader T i))(c:T.length<=90000)(b:At T i s)(q1:∀ x s',f s=some (x,s')->∀ i,At T i s'->Q (e x) (put G r (rdr a.Reader T i)))(q2:f s=none->∀ i,E a.BadNote (put G r (rdr a.Reader T i))):Bs a e d f [.ref r,.int d] G Q E:=by
 refine⟨r,T,i,s,rfl,h,c,b,?_⟩;cases z:f s with
 | some x=>exact λi hi=>q1 x.1 x.2 z i hi
 | none=>exact q2 z
end
theorem BZ{α:Type}{e:α->W}{o:Option (α×Sg)}{x:α}(q:RO a r T (o.map λx=>(e x.1,x.2)) G Q E)(h:o=some (x,s')):∀ i,At T i s'->Q (e x) (put G r (rdr a.Reader T i)):=by
 subst h;exact q
theorem Bt{α:Type}{e:α->W}{o:Option (α×Sg)}(q:RO a r T (o.map λx=>(e x.1,x.2)) G Q E)(h:o=none):∀ i,E a.BadNote (put G r (rdr a.Reader T i)):=by
 subst h;exact q
theorem Vo{Au:GS}(h:ge ω G λw G1=>Au D (ω.set i (some w)) G1):Af (Aq i ge) Au D ω G:=h
abbrev Hg(f:Sg->Option (Kd×Sg))(s:Sg):Option (Kd×Sg):=(f s).bind λx=>(eat "]" x.2).map λs3=>(.box x.1,s3)
abbrev pto(f:Sg->Option (Kd×Sg))(s:Sg):Option (Kd×Sg):=(f s).bind λx=>(eat " > " x.2).bind λs3=>(f s3).bind λy=>(eat ")" y.2).map λs5=>(.to x.1 y.1,s5)
theorem Ko(T:Tx K mg base a)(m:3<=j)(D:Df P w K mg base "kind_from" j 2 (Bs a Kd.enc (d+1) f)):Df P w K mg base "box_from" (j+1) 2 (Bs a Kd.enc d (Hg f)):=by
 refine mkX (k:=j) T.Tz rfl Ow D8 D9 (g:=λE=>Ox K a _ _ E) (mn T D (Yr _) (Gg T) m) λt G Q E u p q=>?_;obtain⟨r,T,i,s,rfl,h,l,n,q⟩:=q;unfold Ox;walk_at "rd";refine Dp h l n (λx e b i1 h1=>?_) (λb i1=>Bt q (by unfold Hg;rw[b];rfl) _);refine EG (T:=T) rfl Ap l h1 (by decide) (by decide +kernel) (λo c h2=>?_) (λc=>Bt q (by unfold Hg;rw[b];show(eat "]" e).map _=_;rw[c];rfl) _);rw[AR];exact⟨(Qzz 2),BZ q (x:=Kd.box x) (by unfold Hg;rw[b];show(eat "]" e).map _=_;rw[c];rfl) _ h2⟩
theorem Kn(T:Tx K mg base a)(t:3<=j)(D:Df P w K mg base "kind_from" j 2 (Bs a Kd.enc (d+1) f)):Df P w K mg base "function_from" (j+1) 2 (Bs a Kd.enc d (pto f)):=by
 refine mkX (k:=j) T.Tw rfl Kq D8 D9 (g:=λE=>Ov K a _ _ E) (mm T D (Yr _) (Gg T) t) λF G Q E H B q=>?_;obtain⟨r,T,i,s,rfl,h,m,u,q⟩:=q;unfold Ov;walk_at "rd";refine Dp h m u (λx l b i1 h1=>?_) (λb i1=>Bt q (by unfold pto;rw[b];rfl) _);refine EG (T:=T) rfl Ap m h1 (by decide) (by decide +kernel) (λo c h2=>?_) (λc=>Bt q (by unfold pto;rw[b];show(eat " > " l).bind _=_;rw[c];rfl) _);rw[AR];refine Dp Ap m h2 (λy p e i3 v=>?_) (λe i3=>?_)
 ·rw[AR];refine EG (T:=T) rfl Ap m v (by decide) (by decide +kernel) (λA n z=>?_) (λn=>Bt q (by unfold pto;rw[b];show(eat " > " l).bind _=_;rw[c];show(f o).bind _=_;rw[e];show(eat ")" p).map _=_;rw[n];rfl) _);rw[AR];exact⟨(Qzz 3),BZ q (x:=Kd.to x y) (by unfold pto;rw[b];show(eat " > " l).bind _=_;rw[c];show(f o).bind _=_;rw[e];show(eat ")" p).map _=_;rw[n];rfl) _ z⟩
 ·rw[AR];exact Bt q (by unfold pto;rw[b];show(eat " > " l).bind _=_;rw[c];show(f o).bind _=_;rw[e];rfl) _
theorem my{s:Sg}(h:At T i s):(⟨(run T i).toArray⟩:Str)=wrd s/\At T (i+(run T i).length) (aft s):=by
 have e:run T i=s.takeWhile Bv:=by unfold run;rw[<- h.1];rfl
 refine⟨by rw[e];rfl,?_⟩;rw[e];have h':At T i (s.takeWhile Bv++s.dropWhile Bv):=by rw[List.takeWhile_append_dropWhile];exact h
 exact h'.next
theorem Hh{s:Sg}(f:ω[0]?=some (some (.ref r)))(h:G r=some (rdr a.Reader T i))(e:T.length<=90000)(b:At T i s)(q:∀ i,At T i (aft s)->Q (.str (wrd s)) (put G r (rdr a.Reader T i))):AN a.Reader "word" (Ki a) (λ_=>E) (Ab 0) Ac ω G Q:=by
 simp only[AN,Ab,f,Ac];obtain⟨d,c⟩:=my b;refine⟨r,_,rfl,h,EE (C:=r) (by decide +kernel) (by decide +kernel),r,T,i,rfl,h,e,b.2,?_⟩;rw[d];exact q _ c
theorem Ks(T:Tx K mg base a)(t:3<=j)(D:Df P w K mg base "kind_from" j 2 (Bs a Kd.enc (d+1) f)):Df P w K mg base "field_from" (j+1) 2 (Bs a CV d (pf f)):=by
 refine mkX (k:=j) T.kL rfl Kt D8 D9 (g:=λE=>Oz K a _ _ _ _ E) (mw T (Fh T) (by lia) (Gf T) (by lia) (Gg T) t D (Yr _)) λF G Q E H B q=>?_;obtain⟨r,T,i,s,rfl,h,l,u,q⟩:=q;unfold Oz;show Af (Aq 2 _) _ (Ax Q) [some (.ref r),some (.int d),none,none] G
 have key:∀(m:Bool)(i2:Nat)(b:Sg),At T i2 b->(pf f s=(eat ": " b).bind λe=>(f e).map λx=>((wrd s,m,x.1),x.2))->Af (AC (AN a.Reader "wants" (IB a) (λ_=>E) (Ab 0) (Aa (gC (.str ": ")) Ac))) (Ai (Ao (Aa (Ab 2) (Aa (Ab 3) (Aa (Ah (Bs a Kd.enc (d+1) f) (λ_=>E) (Aa (Ab 0) (Aa (Ad (Ay) (Ab 1) (gC (.int 1))) Ac))) Ac))))) (Ax Q) [some (.ref r),some (.int d),some (.str (wrd s)),some (.str (Cs m))] (put G r (rdr a.Reader T i2)):=by
  intro m i2 b h2 o;simp only[Af,AC];refine EG (T:=T) rfl Ap l h2 (by decide) (by decide +kernel) (λe c v=>?_) (λc=>Bt q (by rw[o,c];rfl) _);rw[AR];walk_at "rd";refine Dp Ap l v (λy A n i4 z=>?_) (λn i4=>?_)
  ·rw[AR];exact⟨(Qzz 3),BZ q (x:=(wrd s,m,y)) (by rw[o,c];show(f e).map _=_;rw[n];rfl) _ z⟩
  ·rw[AR];exact Bt q (by rw[o,c];show(f e).map _=_;rw[n];rfl) _
 refine Vo (Hh rfl h l u λi1 h1=>?_);walk_at "pa";refine Vo ?_;simp only[BB,AB];refine EF (T:=T) rfl Ap l h1 (by decide) (λb p h2=>?_) (λp=>?_)
 ·rw[AR];exact key false _ _ h2 (by unfold pf;rw[p])
 ·exact key true _ _ h1 (by unfold pf;rw[p])
theorem IC(h:G p=some (.lst xs)):Cp [.ref p] G=some (.tup xs):=by
 show(DZ G (.ref p)).map W.tup=_;rw[Ni h];rfl
theorem Ea(a:G p=some (.lst xs))(hl:xs.length < sizeLine)(q:Q .non (put G p (.lst (xs++[y])))):BH (.ref p) [y] G Q:=by
 unfold BH;refine MO a ?_ q;rw[if_pos hl]
theorem Ct(e:eat p s=some s'):s'.length+p.length=s.length:=by
 unfold eat at e;split at e
 ·rename_i z;cases e;have a:=Qh List.length z;rw[List.length_take,CU]at a;rw[List.length_drop];lia
 ·cases e
theorem Gj(s:Sg):(aft s).length<=s.length:=(List.dropWhile_sublist _).length_le
def Shr(f:Sg->Option (Kd×Sg)):Prop:=∀ s x s',f s=some (x,s')->s'.length<=s.length
theorem Vp(c:Shr f)(e:pf f s=some (x,s')):s'.length+2<=s.length:=by
 have h2:∀{m:Bool}{t:Sg},t.length<=s.length->((eat ": " t).bind λa=>(f a).map λx=>((wrd s,m,x.1),x.2))=some (x,s')->s'.length+2<=s.length:=λ{m t}l e=>by
  obtain⟨a,d,b⟩:=Qb.mp e;obtain⟨y,g,h⟩:=YQ.mp b;cases h;have:=c _ _ _ g;have k:a.length+2=t.length:=Ct d;lia
 have h1:=Gj s;unfold pf at e;split at e
 ·rename_i j i;exact h2 (by have:=Ct i;lia) e
 ·exact h2 h1 e
theorem EH(h:p≠r):put (put G p x) r y=put (put G r y) p x:=by
 funext b;by_cases h1:b=p
 ·subst h1;rw[A2 h,Ap,Ap]
 ·by_cases h2:b=r
  ·subst h2;rw[Ap,A2 h1,Ap]
  ·rw[A2 h2,A2 h1,A2 h1,A2 h2]
abbrev ID(f:Sg->Option (Kd×Sg))(s:Sg):Option (Kd×Sg):=match eat "}" s with
 | some s2=>some (.row .nil false,s2)
 | none=>pr f (s.length+1) s []
theorem Kp(T:Tx K mg base a)(hj:3<=j)(Y:Shr f)(D:Df P w K mg base "field_from" j 2 (Bs a CV d (pf f))):Df P w K mg base "row_from" (j+1) 2 (Bs a Kd.enc d (ID f)):=by
 refine mkX (k:=j) T.TC rfl Vl D8 D9 (g:=λE=>Oy K a _ _ _ E) (mq T (Gf T) (by lia) D (Yr _) (Gg T) hj) λws G Q E U I q=>?_;obtain⟨r,T,i,s,rfl,h,A,O,q⟩:=q;unfold Oy;show Af (gIf _ _ Aj) _ (Ax Q) [some (.ref r),some (.int d),none] G;simp only[Af,gIf,AB];refine EF (T:=T) rfl h A O (by decide) (λu l h2=>?_) (λl=>?_)
 ·exact⟨(Qzz 0),(Qzz 3),BZ q (x:=Kd.row .nil false) (by unfold ID;rw[l]) _ h2⟩
 have q':RO a r T ((pr f (s.length+1) s []).map λx=>(x.1.enc,x.2)) G Q E:=by
  have z:=q;unfold ID at z;rw[l]at z;exact z
 simp only[A8,Yq,if_false,Aj];refine⟨by decide,λp J=>?_⟩;have n:p≠r:=λe=>by rw[e,h]at J;cases J
 refine⟨λm ω X=>∃(b:List Fd)(s':Sg)(H:Nat),ω=[some (.ref r),some (.int d),some (.ref p)]/\X=put (put G p (.lst (b.map CV))) r (rdr a.Reader T H)/\At T H s'/\s'.length < m/\b.length+s'.length<=90000/\RO a r T ((pr f m s' b).map λx=>(x.1.enc,x.2)) G Q E,
  ⟨s.length+1,[],s,i,rfl,?_,O,Nat.lt_succ_self _,?_,q'⟩,?_⟩
 ·rw[He (G:=put G p (.lst ([].map CV))) (p:=r) (by rw[A2 (YV n)];exact h)];rfl
 ·have:=Qh List.length O.1;rw[List.length_drop,CU]at this;simp only[Yi];lia
 rintro m ω X ⟨b,s',H,rfl,rfl,B,hm,hl,q⟩;obtain⟨m,rfl⟩:∃ k,m=k+1:=⟨m - 1,by lia⟩
 have c:∀(L:List W)(i:Nat),Sub (put G r (rdr a.Reader T i)) (put (put G p (.lst L)) r (rdr a.Reader T i)):=λL i=>by
  rw[EH n];exact AE (by rw[A2 n];exact J)
 have t:∀(L:List W)(i:Nat),put (put G p (.lst L)) r (rdr a.Reader T i) p=some (.lst L):=λL i=>by rw[A2 n,Ap]
 simp only[gNt,AB];refine EF (T:=T) rfl Ap A B (by decide) (λR y h1=>?_) (λy=>?_)
 ·rw[AR];simp only[A8,YF,Yq,if_false,Af,AC];refine EG (T:=T) rfl Ap A h1 (by decide) (by decide +kernel) (λu l h2=>?_) (λl=>I _ _ _ (c _ _) (Bt q (by unfold pr;rw[y];show(eat "}" R).map _=_;rw[l];rfl) _));rw[AR];simp only[Ai,Ao,Aa,Ac,gB,rF,Ab,gC,Yb,Yc];rw[show Cp [.ref p] (put (put G p (.lst (b.map CV))) r (rdr a.Reader T (H+("..":Str).length+("}":Str).length)))=some (.tup (b.map CV))from IC (t _ _),An];refine⟨(Qzz 3),U _ _ _ (c _ _) ?_⟩;have z:=BZ q (x:=Kd.row (ofL b) true) (by unfold pr;rw[y];show(eat "}" R).map _=_;rw[l];rfl) _ h2;rw[show(Kd.row (ofL b) true).enc=.tup [.str "row",.tup (b.map CV),.bl true] by show W.tup [_,.tup (ofL b).enc,_]=_;rw[OC]]at z;exact z
 ·simp only[A8,YM,if_true,Af,AC,gMt,Ab,Ah,Aa,Ac,Yb,Yc];refine⟨DM (t _ _),Dp Ap A B (λx u l i2 h2=>?_) (λl i2=>?_)⟩;rotate_left
  ·rw[AR];exact I _ _ _ (c _ _) (Bt q (by unfold pr;rw[y];show(pf f s').bind _=_;rw[l];rfl) _)
  have Z:=Vp Y l;rw[AR];refine Ea (t _ _) (by rw[Yh];exact C9 (by lia)) ?_;rw[EH (YV n),AR];simp only[gIf,AB];refine EF (T:=T) rfl Ap A h2 (by decide) (λs3 N h3=>?_) (λN=>?_)
  ·rw[AR];simp only[A8,if_true,Ai,Ao,Aa,Ac,gB,rF,Ab,gC,Yb,Yc];rw[show Cp [.ref p] (put (put G p (.lst (b.map CV++[CV x]))) r (rdr a.Reader T (i2+("}":Str).length)))=some (.tup (b.map CV++[CV x]))from IC (t _ _),An];refine⟨(Qzz 3),U _ _ _ (c _ _) ?_⟩;have z:=BZ q (x:=Kd.row (ofL (b++[x])) false) (by unfold pr;rw[y];show(pf f s').bind _=_;rw[l];show(match eat "}" u with | some u=>_ | none=>_)=_;rw[N]) _ h3;rw[show(Kd.row (ofL (b++[x])) false).enc=.tup [.str "row",.tup (b.map CV++[CV x]),.bl false] by show W.tup [_,.tup (ofL (b++[x])).enc,_]=_;rw[OC,Yy];rfl]at z;exact z
  ·simp only[A8,Yq,if_false,Aj]
   have S:∀ o,eat ", " u=o->pr f (m+1) s' b=o.bind λF=>pr f m F (b++[x]):=λo v=>by
    conv=>lhs;unfold pr
    rw[y];show(pf f s').bind _=_;rw[l];show(match eat "}" u with | some u=>_ | none=>_)=_;rw[N,<- v]
   refine EG (T:=T) rfl Ap A h2 (by decide) (by decide +kernel) (λF v h4=>?_) (λv=>I _ _ _ (c _ _) (Bt q (by rw[S _ v];rfl) _));rw[AR];have l4:F.length+2=u.length:=Ct v;rw[S _ v]at q;exact⟨m,by lia,b++[x],F,_,rfl,by rw[Yy];rfl,h4,by lia,by rw[Yj];simp only[Yg,Yi];lia,q⟩
theorem Vq(g:Shr f):∀(m:Nat)(s:Sg)(b:List Fd)(x:Kd)(s':Sg),pr f m s b=some (x,s')->s'.length<=s.length
 | 0,_,_,_,_,e=>by cases e
 | m+1,s,b,x,s',e=>by
  unfold pr at e;split at e
  ·rename_i l j;obtain⟨h,d,a⟩:=YQ.mp e;cases a;have:=Ct j;have:=Ct d;lia
  ·obtain⟨y,d,a⟩:=Qb.mp e;have h2:=Vp g (x:=y.1) (s':=y.2) d;split at a
   ·rename_i h c;cases a;have:=Ct c;lia
   ·obtain⟨k,c,i⟩:=Qb.mp a;have:=Vq g m _ _ _ _ i;have:=Ct c;lia
theorem OD:∀ n:Nat,Shr (pk n)
 | 0=>λs x s' e=>by cases e
 | n+1=>λs x s' e=>by
  have c:=OD n;unfold pk at e;split at e
  ·rename_i h a;obtain⟨y,b,d⟩:=Qb.mp e;obtain⟨p,i,j⟩:=Qb.mp d;obtain⟨z,k,l⟩:=Qb.mp j;obtain⟨m,g,f⟩:=YQ.mp l;cases f;have:=Ct a;have:=c _ y.1 y.2 b;have:=Ct i;have:=c _ z.1 z.2 k;have:=Ct g;lia
  ·split at e
   ·rename_i h a;obtain⟨y,b,d⟩:=Qb.mp e;obtain⟨m,g,f⟩:=YQ.mp d;cases f;have:=Ct a;have:=c _ y.1 y.2 b;have:=Ct g;lia
   ·split at e
    ·rename_i h a;have:=Ct a;split at e
     ·rename_i o b;cases e;have:=Ct b;lia
     ·have:=Vq c _ _ _ _ _ e;lia
    ·have:=Gj s;split at e
     ·cases e;lia
     ·split at e
      ·cases e;lia
      ·split at e
       ·cases e;lia
       ·cases e
theorem mz{w:Str}:inF true (.str w) (.tup [.str "any",.str "num",.str "truth"]) G=some (.bl (!decide (w="any"\/w="num"\/w="truth"))):=by
 show some (W.bl (!(decide (("any":Str)=w)||(decide (("num":Str)=w)||(decide (("truth":Str)=w)||false)))))=_;congr 3;rw[Bool.eq_iff_iff];simp only[Bool.or_false,Bool.or_eq_true,YO];exact⟨λh=>h.imp Eq.symm (Or.imp Eq.symm Eq.symm),λh=>h.imp Eq.symm (Or.imp Eq.symm Eq.symm)⟩
theorem mB{s:Sg}(hd:d<=8)(u:Xc E)(h:G r=some (rdr a.Reader T i))(f:T.length<=90000)(k:At T i s)(q:RO a r T ((pk (n+1) s).map λx=>(x.1.enc,x.2)) G Q E)(q1:p=Bs a Kd.enc d (pto (pk n)))(q2:t=Bs a Kd.enc d (Hg (pk n)))(q3:o=Bs a Kd.enc d (ID (pk n))):Hf K a (Kh a) p t o (Ki a) E (Ax Q) [some (.ref r),some (.int d),none] G:=by
 subst q1 q2 q3;unfold Hf;simp only[Af,gIf,gTB,Ad,A0,Ab,gC,Yb,Yc];rw[if_neg (by simp only[YO];lia)];simp only[Aj,Af,gIf,AB];refine EF (T:=T) rfl h f k (by decide) (λj g h1=>?_) (λg=>?_)
 ·simp only[A8,if_true,Ai,Ah,Aa,Ac,Ab,Yb,Yc]
  have c:pk (n+1) s=pto (pk n) j:=by
   conv=>lhs;unfold pk
   rw[g]
  refine Dp Ap f h1 (λx m b i2 h2=>?_) (λb i2=>?_)
  ·rw[AR];exact BZ q (by rw[c];exact b) _ h2
  ·rw[AR];exact Bt q (by rw[c];exact b) _
 simp only[A8,Yq,if_false];refine EF (T:=T) rfl h f k (by decide) (λj b h1=>?_) (λb=>?_)
 ·simp only[A8,if_true,Ai,Ah,Aa,Ac,Ab,Yb,Yc]
  have c:pk (n+1) s=Hg (pk n) j:=by
   conv=>lhs;unfold pk
   rw[g,b]
  refine Dp Ap f h1 (λx m b i2 h2=>?_) (λb i2=>?_)
  ·rw[AR];exact BZ q (by rw[c];exact b) _ h2
  ·rw[AR];exact Bt q (by rw[c];exact b) _
 simp only[A8,Yq,if_false];refine EF (T:=T) rfl h f k (by decide) (λj l h1=>?_) (λl=>?_)
 ·simp only[A8,if_true,Ai,Ah,Aa,Ac,Ab,Yb,Yc]
  have c:pk (n+1) s=ID (pk n) j:=by
   conv=>lhs;unfold pk
   rw[g,b,l]
  refine Dp Ap f h1 (λx m b i2 h2=>?_) (λb i2=>?_)
  ·rw[AR];exact BZ q (by rw[c];exact b) _ h2
  ·rw[AR];exact Bt q (by rw[c];exact b) _
 simp only[A8,Yq,if_false]
 have c:pk (n+1) s=if wrd s="any" then some (.any,aft s)else if wrd s="num" then some (.num,aft s)else if wrd s="truth" then some (.truth,aft s)else none:=by
  conv=>lhs;unfold pk
  rw[g,b,l]
 refine Hh rfl h f k λi1 h1=>?_;simp only[Yk,Yl,Af,gIf,gTB,Ad,Ae,Ab,gC,Ao,Aa,Ac,Yb,Yc];refine⟨by decide,?_⟩;rw[mz,An];by_cases hw:wrd s="any"\/wrd s="num"\/wrd s="truth"
 ·rw[YH hw];simp only[YF,Yq,if_false,Aj,Ai,Ao,Aa,Ac,Ab,Yb,Yc];refine⟨(Qzz 1),?_⟩;rcases hw with e | e | e
  ·rw[e];exact BZ q (x:=Kd.any) (by rw[c,if_pos e]) _ h1
  ·rw[e];exact BZ q (x:=Kd.num) (by rw[c,e];rfl) _ h1
  ·rw[e];exact BZ q (x:=Kd.truth) (by rw[c,e];rfl) _ h1
 ·rw[Qj hw];simp only[YM,if_true,B3,gC,Aa,Ac];refine⟨by decide,Bt q ?_ _⟩;rw[c,if_neg (λz=>hw (.inl z)),if_neg (λz=>hw (.inr (.inl z))),if_neg (λz=>hw (.inr (.inr z)))]
theorem Da{st:Stmt}(Fx:Fn K mg st x ps)(m:sp.M)(no:∀ a G Q E,¬ sp a G Q E):Df P w K mg base x k ps.length sp:=by
 obtain⟨f,fd,h1,F,d⟩:=Fx;exact⟨⟨f,fd,_,h1,F.kp,d,rfl,⟨(by rintro c H Q E ⟨a,G,t,r,q⟩;exact Qk q (no _ _ _ _)),(by rintro A outer s H b e c Q E _ _ _ _ ⟨a,G,t,r,q⟩;exact Qk q (no _ _ _ _))⟩⟩,m⟩
def IE:Spw:=λ_ _ _ _=>False
theorem Kv:Spw.M IE:=λ_ _ _ _ _ _ _ _ z=>z
theorem CT(T:Tx K mg base a):∀ n:Nat,Df P w K mg base "kind_from" (3*n+4) 2 (Bs a Kd.enc (9 -(n:Int)) (pk n))
 | 0=>by
  refine mkX (k:=3) T.Tv rfl Kj D8 D9 (g:=λE=>Hf K a _ IE IE IE _ E) (Vh T (Gf T) (by lia) (Da T.Tw Kv λ_ _ _ _ h=>h) (YU _) (Da T.Tz Kv λ_ _ _ _ h=>h) (YU _) (Da T.TC Kv λ_ _ _ _ h=>h) (YU _) (Fh T) (by lia)) λe G Q E f c q=>?_;obtain⟨r,T,i,s,rfl,h,d,b,q⟩:=q;unfold Hf;show Af (gIf _ _ Aj) _ (Ax Q) [some (.ref r),some (.int 9),none] G;simp only[Af,gIf,gTB,Ad,A0,Ab,gC,Yb,Yc];rw[if_pos (by decide)];simp only[B3,gC,Aa,Ac];have z:=Bt q rfl i;rw[He h]at z;exact⟨by decide,z⟩
 | n+1=>by
  have D:Df P w K mg base "kind_from" (3*n+4) 2 (Bs a Kd.enc (9 -((n+1:Nat):Int)+1) (pk n)):=by
   rw[show(9 -((n+1:Nat):Int)+1)=9 -(n:Int) by lia];exact CT T n
  have DF:=Ks T (by lia) D;have DR:=Kp T (by lia) (OD n) DF;refine mkX (k:=3*n+6) T.Tv rfl Kj D8 D9 (g:=λE=>Hf K a _ _ _ _ _ E) (Vh T (Gf T) (by lia) (Kn T (by lia) D) (by lia) (Ko T (by lia) D) (by lia) DR (by lia) (Fh T) (by lia)) λe G Q E f c q=>?_;obtain⟨r,T,i,s,rfl,h,d,b,q⟩:=q;exact mB (by lia) c h d b q rfl rfl rfl
set_option hygiene false in
set_option hygiene false in
set_option hygiene false in
set_option hygiene false in
set_option hygiene false in
abbrev Vr:List Str:=["word"]
theorem Vs:Az Vr ["word"] (Ak NA):=by walk_at "s"
def Vt:GS:=(Ai (JR AK (Ab 0)))
theorem mC(T:Tx K mg base a):Dn P w K mg base Vr "form_of" NA k (Vt):=λ{f cdv A outer s H E}hr=>
 have hu:=AM hr
 have hN:=Vs.nd
 (AD (A3 (iO T.Uc rfl rfl rfl rfl rfl rfl rfl (by walk_at "v"))))
abbrev OF:List Str:=["term"]
theorem Vu:Az OF ["term"] (Ak NC):=by walk_at "s"
def OG(B7:Spw):GS:=(Af (gIf (gTB (Ad (Ae (eqF false)) (Ad (Ae ixW) (Ab 0) (gC (.int 0))) (gC (.str "rec")))) (Ai (AZ (AY (Ad (Ae ixW) (Ab 0) (gC (.int 1)))) 1 (gNm 0) AX (Ad (Ae ixW) (Ab 0) (gC (.int 1))))) Aj) (Ai (AZ (F3 (Aa (Ah B7 XF (Aa (Ad (Ae ixW) (Ab 0) (gC (.int 0))) Ac)) (Aa (B4 (Ab 0) (Bl (gC (.int 1))) Bu) Ac))) 2 (Bi 0 1) (gTB (Ad (Ae (eqF false)) (Ab 0) (gC (.str "term")))) (Ab 1))))
theorem mD(T:Tx K mg base a)(Kx:Df P w K mg base "form_of" Cu 1 B7)(Ky:Cu<=k):Dn P w K mg base OF "parts_of" NC k (OG B7):=λ{f cdv A outer s H E}hr=>
 have hu:=AM hr
 have hN:=Vu.nd
 (Aw (Bg (by walk_at "v") (AD (A3 (Cq (Nc:=["field"]) rfl (Cj rfl (by decide +kernel) (by decide +kernel)) (λ_=>rfl) (by walk_at "v") (C3 (i:=0) (by decide) rfl rfl) (λC fp s1 H1=>BX) (λC fp s1 H1=>(by walk_at "v"))))) Bf) (AD (A3 (Cq (Nc:=["sort","thing"]) rfl (Cj rfl (by decide +kernel) (by decide +kernel)) (λ_=>rfl) (M5 T.J1 rfl rfl rfl (by walk_at "v")) (JB (i:=0) (j:=1) rfl (by decide) rfl rfl rfl rfl) (λC fp s1 H1=>(by walk_at "v")) (λC fp s1 H1=>(by walk_at "v"))))))
abbrev Vv:List Str:=["thing"]
theorem Vw:Az Vv ["thing"] (Ak ND):=by walk_at "s"
def Vx:GS:=(Af (gIf (gOr (gNt (AB (A5 "int" (Ab 0)))) (AB (A5 "bool" (Ab 0)))) (Ai (gC (.bl false))) Aj) (Ai (BM (AU (λi j=>decide (i<=j)) (λa b=>!AS b a)) (AU (λi j=>decide (i<=j)) (λa b=>!AS b a)) (D4 (gC (.int 99999999999999999999))) (Ab 0) (gC (.int 99999999999999999999)))))
theorem mE(T:Tx K mg base a):Dn P w K mg base Vv "is_number" ND k (Vx):=λ{f cdv A outer s H E}hr=>
 have hu:=AM hr
 have hN:=Vw.nd
 (Aw (by walk_at "v") (AD (A3 (Rz HM HM rfl (Na (by walk_at "v")) (by walk_at "v") (by walk_at "v")))))
abbrev Vy:List Str:=["thing"]
theorem Vz:Az Vy ["thing"] (Ak NE):=by walk_at "s"
def VB(CS:Spw):GS:=(Ai (BE (A5 "tuple" (Ab 0)) (BE (Ad (Ae (eqF false)) (gB (rF AL) (Aa (Ab 0) Ac)) (gC (.int 2))) (Ah CS XF (Aa (Ad (Ae ixW) (Ab 0) (gC (.int 0))) Ac)))))
theorem mF(T:Tx K mg base a){Dm:Nat}(Uu:Df P w K mg base "is_name" Dm 1 CS)(Uv:Dm<=k):Dn P w K mg base Vy "is_term_field" NE k (VB CS):=by
 have hN:=Vz.nd;walk_at "z"
abbrev VC:List Str:=["thing"]
theorem VD:Az VC ["thing"] (Ak NF):=by walk_at "s"
def OH(Kz:Spw)(EB:Spw):GS:=(Af (gIf (gNt (AB (A5 "tuple" (Ab 0)))) (Ai (gC (.bl false))) Aj) (Ai (BE (gB (rF BG) (Aa (AZ (AY (Ab 0)) 1 (gNm 0) AX (Ah Kz XF (Aa (Ab 0) Ac))) Ac)) (Ah EB XF (Aa (AZ (AY (Ab 0)) 1 (gNm 0) AX (Ad (Ae ixW) (Ab 0) (gC (.int 0)))) Ac)))))
theorem mG(T:Tx K mg base a)(sZ:Df P w K mg base "is_term_field" KA 1 Kz)(s9:KA<=k){Fe:Nat}(N7:Df P w K mg base "names_rise" Fe 1 EB)(N8:Fe<=k):Dn P w K mg base VC "are_term_fields" NF k (OH Kz EB):=λ{f cdv A outer s H E}hr=>
 have hu:=AM hr
 have hN:=VD.nd
 (Aw (by walk_at "v") (AD (A3 (MC (Co Er (Eo rfl) rfl T.Ey (by decide) rfl rfl rfl (AT rfl (Cq (Nc:=["part"]) rfl (Cj rfl (by decide +kernel) (by decide +kernel)) (λ_=>rfl) (by walk_at "v") (C3 (i:=0) (by decide) rfl rfl) (λC fp s1 H1=>BX) (λC fp s1 H1=>(by walk_at "v"))) Bk)) (MB (Bo N7 (hr.mono N8) rfl Es rfl rfl rfl (AT rfl (Cq (Nc:=["part"]) rfl (Cj rfl (by decide +kernel) (by decide +kernel)) (λ_=>rfl) (by walk_at "v") (C3 (i:=0) (by decide) rfl rfl) (λC fp s1 H1=>BX) (λC fp s1 H1=>(by walk_at "v"))) Bk)))))))
abbrev VE:List Str:=["thing","sort"]
theorem VF:Az VE ["thing","sort"] (Ak NG):=by walk_at "s"
def VG(KC:Spw)(CS:Spw)(KD:Spw)(KG:Spw):GS:=(Af (gIf (gTB (Ad (Ae (eqF false)) (Ab 1) (gC (.str "number")))) (Ai (Ah KC XF (Aa (Ab 0) Ac))) Aj) (Af (gIf (gTB (Ad (Ae (eqF false)) (Ab 1) (gC (.str "truth")))) (Ai (A5 "bool" (Ab 0))) Aj) (Af (gIf (gTB (Ad (Ae (eqF false)) (Ab 1) (gC (.str "name")))) (Ai (Ah CS XF (Aa (Ab 0) Ac))) Aj) (Af (gIf (gTB (Ad (Ae (eqF false)) (Ab 1) (gC (.str "kind")))) (Ai (Ah KD XF (Aa (Ab 0) Ac))) Aj) (Af (gIf (gTB (Ad (Ae (eqF false)) (Ab 1) (gC (.str "fields")))) (Ai (Ah KG XF (Aa (Ab 0) Ac))) Aj) (Ai (gC (.bl true))))))))
theorem mH(T:Tx K mg base a)(td:Df P w K mg base "is_number" KH 1 KC)(tf:KH<=k){Dm:Nat}(Uu:Df P w K mg base "is_name" Dm 1 CS)(Uv:Dm<=k){Kg:Nat}(tj:Df P w K mg base "is_kind" Kg 1 KD)(tq:Kg<=k)(tu:Df P w K mg base "are_term_fields" KI 1 KG)(tx:KI<=k):Dn P w K mg base VE "is_of_sort" NG k (VG KC CS KD KG):=by
 have hN:=VF.nd;walk_at "z"
abbrev VH:List Str:=["thing","form"]
theorem VI:Az VH ["thing"] (Ak NH):=by walk_at "s"
def OI(B7:Spw)(KJ:Spw):GS:=(Af (gIf (gOr (gNt (AB (A5 "tuple" (Ab 0)))) (gOr (gTB (Ad (Ae (eqF false)) (gB (rF AL) (Aa (Ab 0) Ac)) (gC (.int 0)))) (gNt (AB (A5 "str" (Ad (Ae ixW) (Ab 0) (gC (.int 0)))))))) (Ai (gC (.bl false))) Aj) (Af (Aq 1 (Ah B7 XF (Aa (Ad (Ae ixW) (Ab 0) (gC (.int 0))) Ac))) (Af (gIf (gOr (gTB (Ad (Ae (isF false)) (Ab 1) (gC .non))) (gTB (Ad (Ae (eqF true)) (gB (rF AL) (Aa (Ab 0) Ac)) (Ad (Ay) (gC (.int 1)) (gB (rF AL) (Aa (Ab 1) Ac)))))) (Ai (gC (.bl false))) Aj) (Ai (gB (rF BG) (Aa (AZ (F3 (Aa (B4 (Ab 0) (Bl (gC (.int 1))) Bu) (Aa (Ab 1) Ac))) 2 (Bi 0 1) AX (Ah KJ XF (Aa (Ab 0) (Aa (Ab 1) Ac)))) Ac))))))
theorem mI(T:Tx K mg base a)(Kx:Df P w K mg base "form_of" Cu 1 B7)(Ky:Cu<=k)(tz:Df P w K mg base "is_of_sort" KM 2 KJ)(tB:KM<=k):Dn P w K mg base VH "has_term_form" NH k (OI B7 KJ):=λ{f cdv A outer s H E}hr=>
 have hu:=AM hr
 have hN:=VI.nd
 (Aw (by walk_at "v") (Aw (by walk_at "v") (Aw (by walk_at "v") (AD (A3 (Co Er (Eo rfl) rfl T.Ey (by decide) rfl rfl rfl (AT rfl (Cq (Nc:=["part","sort"]) rfl (Cj rfl (by decide +kernel) (by decide +kernel)) (λ_=>rfl) (M5 T.J1 rfl rfl rfl (by walk_at "v")) (JB (i:=0) (j:=1) rfl (by decide) rfl rfl rfl rfl) (λC fp s1 H1=>BX) (λC fp s1 H1=>(by walk_at "v"))) Bk)))))))
abbrev VJ:List Str:=["thing"]
theorem VL:Az VJ ["thing"] (Ak NI):=by walk_at "s"
def mJ(mg:Str->Option Value)(OJ:Spw)(OK:Spw)(EC:Spw):GS:=(Ai (Ah EC XF (Aa (Ab 0) (Aa (gC (.ref (fAt mg "has_term_form"))) (Aa (gC (.ref (fAt mg "parts_of"))) (Aa (gC (.int 40)) (Aa (gC (.int 10)) Ac)))))))
theorem mK(T:Tx K mg base a)(mL:Df P w K mg base "has_term_form" IF 1 OJ)(tD:IF<=k)(mM:Df P w K mg base "parts_of" IG 1 OK)(tE:IG<=k){Ff:Nat}(Ob:Df P w K mg base "is_made_of" Ff 5 EC)(Oc:Ff<=k):Dn P w K mg base VJ "is_term" NI k (mJ mg OJ OK EC):=λ{f cdv A outer s H E}hr=>
 have hu:=AM hr
 have hN:=VL.nd
 (AD (A3 (Bo Ob (hr.mono Oc) rfl Es rfl rfl rfl (AT rfl (by walk_at "v") (AT rfl (JP mL rfl rfl) (AT rfl (JP mM rfl rfl) (by walk_at "v")))))))
abbrev VM:List Str:=["thing"]
theorem VN:Az VM ["thing"] (Ak HZ):=by walk_at "s"
def OL(K:PySem.W.Frag)(a:Adr)(EI:Spw)(E:Addr->Hw->Prop):GS:=(gIf (gNt (AB (Ah EI (λ_=>E) (Aa (Ab 0) Ac)))) (B3 a.NoTerm E (Aa (gC (.str "this is no term")) Ac)) Aj)
theorem mO(T:Tx K mg base a)(OM:Df P w K mg base "is_term" Fk 1 EI)(ON:Fk<=k)(hr:Room k (A.deeper (envOfC "check_term" (Ak HZ) s.heap.objs.size f cdv))):Ssm (cxW P w K mg base VM "check_term" (Ak HZ) f cdv A outer s H E) (λB=>B=H) (AO HZ) (OL K a EI (dnX K H E)):=
 have hu:=AM hr
 have hN:=VN.nd
 (AD (Bg (FV (Cw (λ_=>rfl) (Bo OM (hr.mono ON) rfl AH rfl rfl rfl (by walk_at "v")))) (AD (DB T.T1 T.T2 PySem.F.excBase_ValueError rfl rfl rfl rfl (by walk_at "v"))) Bf))
mutual
inductive Te where
 | nd (w:Str) (r:As)
 | raw (v:W)
inductive As where
 | nil | num (i:Int) (r:As)| tru (b:Bool) (r:As)| nam (x:Str) (r:As)| knd (k:Kd) (r:As)| trm (t:Te) (r:As)| fld (f:Fl) (r:As)
inductive Fl where
 | nil | cons (x:Str) (t:Te) (r:Fl)
end
mutual
def Te.enc:Te->W
 | .nd w r=>.tup (.str w::r.enc)
 | .raw v=>v
def As.enc:As->List W
 | .nil=>[]
 | .num i r=>.int i::r.enc
 | .tru b r=>.bl b::r.enc
 | .nam x r=>.str x::r.enc
 | .knd k r=>k.enc::r.enc
 | .trm t r=>t.enc::r.enc
 | .fld f r=>.tup f.enc::r.enc
def Fl.enc:Fl->List W
 | .nil=>[]
 | .cons x t r=>.tup [.str x,t.enc]::r.enc
end
def Fl.names:Fl->List Str
 | .nil=>[]
 | .cons x _ r=>x::r.names
def Fl.terms:Fl->List Te
 | .nil=>[]
 | .cons _ t r=>t::r.terms
def As.sorts:As->List Str
 | .nil=>[]
 | .num _ r=>"number"::r.sorts
 | .tru _ r=>"truth"::r.sorts
 | .nam _ r=>"name"::r.sorts
 | .knd _ r=>"kind"::r.sorts
 | .trm _ r=>"term"::r.sorts
 | .fld _ r=>"fields"::r.sorts
def As.parts:As->List Te
 | .nil=>[]
 | .num _ r=>r.parts
 | .tru _ r=>r.parts
 | .nam _ r=>r.parts
 | .knd _ r=>r.parts
 | .trm t r=>t::r.parts
 | .fld f r=>f.terms++r.parts
def Te.parts:Te->List Te
 | .nd _ r=>r.parts
 | .raw _=>[]
mutual
def Te.cnt:Te->Nat
 | .nd _ r=>1+r.cnt
 | .raw _=>1
def As.cnt:As->Nat
 | .nil=>0
 | .num _ r=>r.cnt
 | .tru _ r=>r.cnt
 | .nam _ r=>r.cnt
 | .knd _ r=>r.cnt
 | .trm t r=>t.cnt+r.cnt
 | .fld f r=>f.cnt+r.cnt
def Fl.cnt:Fl->Nat
 | .nil=>0
 | .cons _ t r=>t.cnt+r.cnt
end
mutual
def Te.dp:Te->Nat
 | .nd _ r=>1+r.dp
 | .raw _=>1
def As.dp:As->Nat
 | .nil=>0
 | .num _ r=>r.dp
 | .tru _ r=>r.dp
 | .nam _ r=>r.dp
 | .knd _ r=>r.dp
 | .trm t r=>max t.dp r.dp
 | .fld f r=>max f.dp r.dp
def Fl.dp:Fl->Nat
 | .nil=>0
 | .cons _ t r=>max t.dp r.dp
end
abbrev NB:Int:=99999999999999999999
mutual
def Te.ok:Te->Bool
 | .nd w r=>decide (KTD.datumAt w AK=some r.sorts)&&r.ok
 | .raw _=>false
def As.ok:As->Bool
 | .nil=>true
 | .num i r=>decide (-NB<=i/\i<=NB)&&r.ok
 | .tru _ r=>r.ok
 | .nam x r=>AA x&&r.ok
 | .knd k r=>(k.ok&&BP k)&&r.ok
 | .trm t r=>t.ok&&r.ok
 | .fld f r=>(By f.names&&f.ok)&&r.ok
def Fl.ok:Fl->Bool
 | .nil=>true
 | .cons x t r=>(AA x&&t.ok)&&r.ok
end
def Bw:List Te->Nat
 | []=>0
 | t::r=>t.cnt+Bw r
def tdp:List Te->Nat
 | []=>0
 | t::r=>max t.dp (tdp r)
theorem OO:∀(l m:List Te),Bw (l++m)=Bw l+Bw m
 | [],m=>by simp[Bw]
 | v::l,m=>by show v.cnt+Bw (l++m)=v.cnt+Bw l+Bw m;rw[OO l m];lia
theorem OP:∀(l m:List Te),tdp (l++m)=max (tdp l) (tdp m)
 | [],m=>by simp[tdp]
 | v::l,m=>by show max v.dp (tdp (l++m))=max (max v.dp (tdp l)) (tdp m);rw[OP l m];lia
theorem VO:∀ f:Fl,f.cnt=Bw f.terms/\f.dp=tdp f.terms
 | .nil=>⟨rfl,rfl⟩
 | .cons _ t r=>by
  obtain⟨a,b⟩:=VO r;exact⟨by show t.cnt+r.cnt=t.cnt+Bw r.terms;rw[a],by show max t.dp r.dp=max t.dp (tdp r.terms);rw[b]⟩
theorem Fo:∀ r:As,r.cnt=Bw r.parts/\r.dp=tdp r.parts
 | .nil=>⟨rfl,rfl⟩
 | .num _ r=>Fo r
 | .tru _ r=>Fo r
 | .nam _ r=>Fo r
 | .knd _ r=>Fo r
 | .trm t r=>by
  obtain⟨a,b⟩:=Fo r;exact⟨by show t.cnt+r.cnt=t.cnt+Bw r.parts;rw[a],by show max t.dp r.dp=max t.dp (tdp r.parts);rw[b]⟩
 | .fld f r=>by
  obtain⟨a,b⟩:=Fo r;obtain⟨c,d⟩:=VO f;exact⟨by show f.cnt+r.cnt=Bw (f.terms++r.parts);rw[OO,a,c],by show max f.dp r.dp=tdp (f.terms++r.parts);rw[OP,b,d]⟩
theorem Gk(t:Te):t.cnt=1+Bw t.parts:=by
 cases t with
 | nd w r=>show 1+r.cnt=_;rw[(Fo r).1];rfl
 | raw v=>rfl
theorem IH(t:Te):t.dp=1+tdp t.parts:=by
 cases t with
 | nd w r=>show 1+r.dp=_;rw[(Fo r).2];rfl
 | raw v=>rfl
theorem OQ(t:Te):1<=t.cnt:=by rw[Gk];lia
theorem OR(t:Te):1<=t.dp:=by rw[IH];lia
theorem OS:∀ l:List Te,Bw l=l.length+Bw (l.flatMap Te.parts)
 | []=>rfl
 | v::l=>by
  show v.cnt+Bw l=(l.length+1)+Bw ((v::l).flatMap Te.parts);rw[Qa,OO,OS l,Gk v];lia
theorem OT:∀ l:List Te,l≠[]->tdp l=1+tdp (l.flatMap Te.parts)
 | [],h=>Qk rfl h
 | [v],_=>by
  show max v.dp 0=1+tdp ([v].flatMap Te.parts);rw[Qa,List.flatMap_nil,Yx,IH];lia
 | v::u::l,_=>by
  have a:=OT (u::l) (by simp);show max v.dp (tdp (u::l))=1+tdp ((v::u::l).flatMap Te.parts);rw[Qa,OP,a,IH v];lia
theorem II:∀ l:List Te,l.length<=Bw l
 | []=>Yr _
 | v::l=>by have:=II l;have:=OQ v;show l.length+1<=v.cnt+Bw l;lia
theorem KN:∀{l:List Te}{v:Te},v∈l->v.cnt<=Bw l
 | u::l,v,h=>by
  show v.cnt<=u.cnt+Bw l;walk_at "pk"
  ·lia
  ·have:=KN h;lia
theorem VP:∀{l:List Te}{v:Te},v∈l->v.dp<=tdp l
 | u::l,v,h=>by
  show v.dp<=max u.dp (tdp l);walk_at "pk"
  ·lia
  ·have:=VP h;lia
theorem mP(t:Te):t.parts.length+1<=t.cnt:=by rw[Gk t];have:=II t.parts;lia
theorem EJ:∀ r:As,r.enc.length=r.sorts.length
 | .nil=>rfl
 | .num _ r=>Qh (·+1) (EJ r)
 | .tru _ r=>Qh (·+1) (EJ r)
 | .nam _ r=>Qh (·+1) (EJ r)
 | .knd _ r=>Qh (·+1) (EJ r)
 | .trm _ r=>Qh (·+1) (EJ r)
 | .fld _ r=>Qh (·+1) (EJ r)
theorem VQ:∀{f:Fl},f.ok=true->∀ c∈f.terms,c.ok=true
 | .nil,_,c,hc=>by cases hc
 | .cons x t r,h,c,hc=>by
  have h':((AA x&&t.ok)&&r.ok)=true:=h;walk_at "pc";rcases Yo.mp hc with rfl | hc
  ·exact h'.1.2
  ·exact VQ h'.2 c hc
theorem Gm:∀{r:As},r.ok=true->∀ c∈r.parts,c.ok=true
 | .nil,_,c,hc=>by cases hc
 | .num i r,h,c,hc=>by
  have h':(decide (-NB<=i/\i<=NB)&&r.ok)=true:=h;walk_at "pc";exact Gm h'.2 c hc
 | .tru _ r,h,c,hc=>Gm (r:=r) h c hc
 | .nam x r,h,c,hc=>by
  have h':(AA x&&r.ok)=true:=h;walk_at "pc";exact Gm h'.2 c hc
 | .knd k r,h,c,hc=>by
  have h':((k.ok&&BP k)&&r.ok)=true:=h;walk_at "pc";exact Gm h'.2 c hc
 | .trm t r,h,c,hc=>by
  have h':(t.ok&&r.ok)=true:=h;walk_at "pc";rcases Yo.mp hc with rfl | hc
  ·exact h'.1
  ·exact Gm h'.2 c hc
 | .fld f r,h,c,hc=>by
  have h':((By f.names&&f.ok)&&r.ok)=true:=h;walk_at "pc";rcases Yz.mp hc with hc | hc
  ·exact VQ h'.1.2 c hc
  ·exact Gm h'.2 c hc
theorem Fp{w:Str}(h:(Te.nd w r).ok=true):KTD.datumAt w AK=some r.sorts/\r.ok=true:=by
 have h':(decide (KTD.datumAt w AK=some r.sorts)&&r.ok)=true:=h;simp only[YG,YO]at h';exact h'
theorem KO{t:Te}(h:t.ok=true):∀ c∈t.parts,c.ok=true:=by
 cases t with
 | nd w r=>exact Gm (Fp h).2
 | raw v=>cases h
def Te.fm:Te->Prop
 | .nd w r=>KTD.datumAt w AK=some r.sorts
 | .raw _=>False
def KP(x:W):W:=match x with | .tup [_,k]=>k | _=>.non
abbrev OU:Spw:=spR (λ(z:Str)ws _=>ws=[.str z]) λz=>D6 AK z
theorem Cu(T:Tx K mg base a):Df P w K mg base "form_of" 1 1 OU:=by
 refine mk0 T.km rfl Vs A6 (λb G Q E⟨x,e,_⟩=>by rw[e];rfl) (mC T) λb G Q E c q=>?_;obtain⟨z,rfl,q⟩:=q;unfold Vt;show JR AK (Ab 0) [some (.str z)] G _;simp only[JR,Ab,Yb];exact q
theorem KQ{w:Str}(h:KTD.datumAt w AK=some ss):D6 AK w=.tup (ss.map W.str):=by unfold D6;rw[h]
theorem EK{δ:Type}:∀{D:List (Str×δ)}{k:Str}{d:δ},KTD.datumAt k D=some d->(k,d)∈D
 | [],k,d,h=>by cases h
 |(x,e)::D,k,d,h=>by
  have h':(if decide (k=x)=true then some e else KTD.datumAt k D)=some d:=h;by_cases a:k=x
  ·rw[if_pos (YH a)]at h';cases h';rw[a];exact Ye
  ·rw[if_neg (by simp[a])]at h';exact Yd _ (EK h')
theorem mQ:(AK.all λp=>decide (p.1="rec")||!p.2.contains ("fields":Str))=true:=by decide +kernel
theorem mR:(AK.all λp=>!decide (p.1="rec")||decide (p.2=[("fields":Str)]))=true:=by decide +kernel
theorem KR{w:Str}{r:As}(h:KTD.datumAt w AK=some r.sorts):(w="rec"->∃ f,r=.fld f .nil)/\(w≠"rec"->("fields":Str)∉r.sorts):=by
 have b:=EK h;have h1:=List.all_eq_true.mp mQ _ b;have h2:=List.all_eq_true.mp mR _ b;simp only[Bool.or_eq_true,Bool.not_eq_true',YO,decide_eq_false_iff_not]at h1 h2;constructor
 ·intro e;have a:r.sorts=[("fields":Str)]:=h2.resolve_left λz=>z e;cases r with
  | fld f r =>
   have c:("fields":Str)::r.sorts=[("fields":Str)]:=a;injection c with _ h5;cases r with
   | nil=>exact⟨f,rfl⟩
   | num _ _=>cases h5
   | tru _ _=>cases h5
   | nam _ _=>cases h5
   | knd _ _=>cases h5
   | trm _ _=>cases h5
   | fld _ _=>cases h5
  | nil=>cases a
  | num _ _=>exact Qk (Qg a).1 (by decide +kernel)
  | tru _ _=>exact Qk (Qg a).1 (by decide +kernel)
  | nam _ _=>exact Qk (Qg a).1 (by decide +kernel)
  | knd _ _=>exact Qk (Qg a).1 (by decide +kernel)
  | trm _ _=>exact Qk (Qg a).1 (by decide +kernel)
 ·intro e z;have a:=h1.resolve_left e;rw[List.contains_iff_mem.mpr z]at a;cases a
theorem OV:∀ f:Fl,f.enc.map KP=f.terms.map Te.enc
 | .nil=>rfl
 | .cons x t r=>by show t.enc::r.enc.map KP=t.enc::r.terms.map Te.enc;rw[OV r]
abbrev gTe:GT:=gTB (Ad (Ae (eqF false)) (Ab 0) (gC (.str "term")))
theorem mS(q:Q (s=="term") G):gTe [some (.str s),some v] G Q:=by
 simp only[gTe,gTB,Ad,Ae,Ab,gC,Yb,BD,An];cases h:(s=="term")with
 | true=>rw[h]at q;exact q
 | false=>rw[h]at q;exact q
theorem IJ(hl:ys.length < 1000)(h:Bj yes (Bi 0 1) gTe (Ab 1) R zs [some (.str s),some v] G (if(s=="term")=true then ys++[v]else ys)):
  Bj yes (Bi 0 1) gTe (Ab 1) R (.tup [.str s,v]::zs) [o,o'] G ys:=by
 refine⟨trivial,C9 (by lia),?_⟩;show gTe [some (.str s),some v] G _;refine mS ?_;cases e:(s=="term")with
 | true =>
  rw[e]at h;rw[if_pos rfl];exact h
 | false =>
  rw[e]at h;rw[if_neg (by decide)];exact h
theorem L0:∀(r:As)(o o':Option W)(ys:List W),("fields":Str)∉r.sorts->ys.length+r.enc.length<=1000->R (ys++r.parts.map Te.enc) G->
  Bj yes (Bi 0 1) gTe (Ab 1) R (BV (r.sorts.map W.str) r.enc) [o,o'] G ys
 | .nil,o,o',ys,_,_,h=>⟨trivial,by have h':R (ys++[]) G:=h;rw[Yx]at h';exact h'⟩
 | .num i r,o,o',ys,a,hl,h=>by
  have b:ys.length+(r.enc.length+1)<=1000:=hl;refine IJ (s:="number") (v:=.int i) (by lia) ?_;rw[if_neg (by decide +kernel)];walk_at "pm"
 | .tru i r,o,o',ys,a,hl,h=>by
  have b:ys.length+(r.enc.length+1)<=1000:=hl;refine IJ (s:="truth") (v:=.bl i) (by lia) ?_;rw[if_neg (by decide +kernel)];walk_at "pm"
 | .nam i r,o,o',ys,a,hl,h=>by
  have b:ys.length+(r.enc.length+1)<=1000:=hl;refine IJ (s:="name") (v:=.str i) (by lia) ?_;rw[if_neg (by decide +kernel)];walk_at "pm"
 | .knd i r,o,o',ys,a,hl,h=>by
  have b:ys.length+(r.enc.length+1)<=1000:=hl;refine IJ (s:="kind") (v:=i.enc) (by lia) ?_;rw[if_neg (by decide +kernel)];walk_at "pm"
 | .trm t r,o,o',ys,a,hl,h=>by
  have b:ys.length+(r.enc.length+1)<=1000:=hl;refine IJ (s:="term") (v:=t.enc) (by lia) ?_;rw[if_pos (by decide +kernel)];refine L0 r _ _ _ (λz=>a (Yd _ z)) (by rw[Yj];simp only[Yg,Yi];lia) ?_;rw[Yv];exact h
 | .fld f r,o,o',ys,a,_,_=>Qk Ye a
theorem KS:∀ f:Fl,f.enc.length<=f.cnt
 | .nil=>Yr _
 | .cons _ t r=>by have:=KS r;have:=OQ t;show r.enc.length+1<=t.cnt+r.cnt;lia
theorem VR:(AK.all λp=>decide (p.2.length<=3))=true:=by decide +kernel
theorem IK{w:Str}{r:As}(h:KTD.datumAt w AK=some r.sorts):r.sorts.length<=3:=Qi (List.all_eq_true.mp VR _ (EK h))
theorem OW:∀{f:Fl}{x:W},x∈f.enc->∃ n v,x=.tup [.str n,v]
 | .nil,x,h=>by cases h
 | .cons n t r,x,h=>by
  walk_at "pk"
  ·exact⟨n,t.enc,rfl⟩
  ·exact OW h
abbrev VS:Spw:=spL (λ(t:Te)ws _=>ws=[t.enc]/\t.fm/\t.cnt<=20000) λt=>t.parts.map Te.enc
theorem mT(b:List W)(G:Hw)(Q:Kw)(E:Addr->Hw->Prop)(_:Kw.C Q)(q:VS b G Q E):OG OU (Ax Q) (Bn OF b) G:=by
 obtain⟨t,⟨rfl,c,hc⟩,q⟩:=q;cases t with
 | raw v=>exact c.elim
 | nd w r =>
 have h1:KTD.datumAt w AK=some r.sorts:=c;have j:=IK h1;have hl:=EJ r;unfold OG;show Af (gIf _ _ Aj) _ (Ax Q) [some (.tup (.str w::r.enc))] G;simp only[Af,gIf,gTB,Ad,Ae,Ab,gC,Yb,ixW,Bx,An,BD];by_cases e:w="rec"
 ·rw[show(w==("rec":Str))=true by simp[e]];obtain⟨f,rfl⟩:=(KR h1).1 e;have h:1+(f.cnt+0)<=20000:=hc;have i:=KS f;simp only[show(true != false)=true from rfl,if_true,Ai,AZ,AY,Ad,Ae,Ab,gC,Yb,As.enc,ixW,B5,An,Ax,List.replicate];refine Ga (f:=KP) trivial f.enc none [] (λx g d a=>?_) (by simp only[Yi];exact Ce (by lia)) ?_
  ·obtain⟨n,u,rfl⟩:=OW g;show Ad (Ae ixW) (Ab 0) (gC (.int 1)) [some (W.tup [.str n,u])] _ d;simp only[Ad,Ae,Ab,gC,Yb,ixW,B5,An];exact a
  ·rw[Yw,OV];have a:∀ p,G p=none->Q (.ref p) (put G p (.lst ((f.terms++[]).map Te.enc))):=q;rw[Yx]at a;exact a
 ·rw[show(w==("rec":Str))=false by simpa using e];simp only[show(false != false)=false from rfl,Yq,if_false,Aj,Ai,AZ,F3,Ah,B4,Bl,Bu,Aa,Ac,Ad,Ae,Ab,gC,Yb,ixW,Bx,An,Ax,List.replicate];refine⟨w,rfl,?_⟩;show slA (.tup (.str w::r.enc)) (some 1) none G _;show ∃ xs ys,_;refine⟨r.sorts.map W.str,r.enc,?_,?_⟩
  ·rw[Gb];dsimp only;rw[KQ h1];rfl
  ·exact L0 r none none [] ((KR h1).2 e) (by simp only[Yi];lia) (by rw[Yw];exact q)
theorem IG(T:Tx K mg base a):Df P w K mg base "parts_of" 2 1 VS:=mk0 (k:=1) T.kn rfl Vu JS (λb G Q E⟨x,⟨e,_⟩,_⟩=>by rw[e];rfl) (mD T (Cu T) (Yr _)) mT
theorem mU:Ba "int" "int"=true:=by decide
theorem VT:Ba "int" "bool"=false:=by decide
theorem VU:Ba "bool" "bool"=true:=by decide
theorem KU:Ba "tuple" "tuple"=true:=by decide
theorem mV:Ba "str" "str"=true:=by decide
theorem mW:Ba "bool" "int"=true:=by decide
theorem mX:Ba "str" "bool"=false:=by decide
theorem mY:Ba "str" "int"=false:=by decide
def NuB(x:W)(b:Bool):Prop:=(∃ i:Int,x=.int i/\b=decide (-NB<=i/\i<=NB))\/(∃ c:Bool,x=.bl c/\b=false)\/(∃ z:Str,x=.str z/\b=false)
abbrev mZ:Spw:=spR (λ(x:W×Bool)ws _=>ws=[x.1]/\NuB x.1 x.2) λx=>.bl x.2
theorem KH(T:Tx K mg base a):Df P w K mg base "is_number" 1 1 mZ:=by
 refine mk0 T.ko rfl Vw A6 (λd G Q E⟨x,⟨e,_⟩,_⟩=>by rw[e];rfl) (mE T) λd G Q E f q=>?_;walk_at "po";dsimp only at h q;unfold Vx;rcases h with⟨i,rfl,rfl⟩|⟨c,rfl,rfl⟩|⟨z,rfl,rfl⟩
 ·walk_at "rd";simp only[mU,VT,YF,Yq,if_false,D4,gC];refine⟨99999999999999999999,rfl,?_⟩;by_cases h1:-NB<=i
  ·rw[if_pos (YH h1)];by_cases h2:i<=NB
   ·rw[YH ⟨h1,h2⟩]at q;rw[YH (show i<=(99999999999999999999:Int)from h2)];exact q
   ·rw[Qj (λz=>h2 z.2)]at q;rw[Qj (show ¬ i<=(99999999999999999999:Int)from h2)];exact q
  ·rw[Qj (λz=>h1 z.1)]at q;rw[if_neg (by rw[YO];exact h1)];exact q
 ·walk_at "rd";simp only[mW,VU,YF,Yq,if_false,if_true];exact q
 ·walk_at "rd";simp only[mY,YM,if_true];exact q
def TfB(x:W)(b:Bool):Prop:=(∃(n:Str)(u:W),x=.tup [.str n,u]/\n.length<=100/\b=AA n)\/(x=.tup [.str "a"]/\b=false)
abbrev m2:Spw:=spR (λ(x:W×Bool)ws _=>ws=[x.1]/\TfB x.1 x.2) λx=>.bl x.2
theorem KA(T:Tx K mg base a):Df P w K mg base "is_term_field" 3 1 m2:=by
 refine mk0 T.kq rfl Vz A6 (λc G Q E⟨x,⟨e,_⟩,_⟩=>by rw[e];rfl) (mF T (Dm T) (Yr _)) λc G Q E d q=>?_;walk_at "po";dsimp only at h q;rcases h with⟨n,u,rfl,hl,rfl⟩|⟨rfl,rfl⟩
 ·unfold VB;walk_at "rd";simp only[KU,if_true];exact .inl ⟨n,⟨rfl,by lia⟩,q⟩
 ·exact Eq.mpr (by kernel_rfl) q
def OX(l:List (Str×W)):List W:=l.map λx=>.tup [.str x.1,x.2]
def TsB(x:W)(b:Bool):Prop:=(∃ l:List (Str×W),x=.tup (OX l)/\(∀ y∈l,y.1.length<=100)/\l.length<=1000/\b=(l.all (λy=>AA y.1)&&By (l.map (·.1))))\/(x=.tup [.tup [.str "a"]]/\b=false)
abbrev m5:Spw:=spR (λ(x:W×Bool)ws _=>ws=[x.1]/\TsB x.1 x.2) λx=>.bl x.2
theorem KI(T:Tx K mg base a):Df P w K mg base "are_term_fields" 4 1 m5:=by
 refine mk0 T.kr rfl VD A6 (λn G Q E⟨x,⟨e,_⟩,_⟩=>by rw[e];rfl) (mG T (KA T) (Yr _) (Fe T) (by lia)) λn G Q E j q=>?_;walk_at "po";dsimp only at h q;rcases h with⟨l,rfl,o,hl,rfl⟩|⟨rfl,rfl⟩
 ·unfold OH;walk_at "rd";simp only[KU,YF,Yq,if_false];refine Oh (enc:=λx:Str×W=>.tup [.str x.1,x.2]) (f:=λx=>.bl (AA x.1)) (cst:=[]) trivial l none [] (λx m k i=>?_) (by simp only[Yi];exact Ce (by lia)) ?_
  ·exact⟨(.tup [.str x.1,x.2],AA x.1),⟨rfl,.inl ⟨x.1,x.2,rfl,o x m,rfl⟩⟩,i⟩
  ·intro p c;rw[Yw,show(λx:Str×W=>W.bl (AA x.1))=W.bl∘(λx=>AA x.1)from rfl,<- YB];simp only[CP Ap,Option.bind_some,Fc,YD,An];rw[List.all_map];cases e:l.all (id∘λx=>AA x.1)with
   | false =>
    have d:l.all (λy=>AA y.1)=false:=e;rw[d,Bool.false_and]at q;simp only[Yq,if_false];exact j _ _ _ (AE c) q
   | true =>
    have d:l.all (λy=>AA y.1)=true:=e;rw[d,Bool.true_and]at q;simp only[if_true];refine Oh (enc:=λx:Str×W=>.tup [.str x.1,x.2]) (f:=λx=>.str x.1) (cst:=[]) trivial l none [] (λx m k i=>?_) (by simp only[Yi];exact Ce (by lia)) ?_
    ·show Ad (Ae ixW) (Ab 0) (gC (.int 0)) [some (W.tup [.str x.1,x.2])] _ k;walk_at "rd";exact i
    ·intro p2 g;rw[Yw];refine⟨l.map (·.1),⟨p2,rfl,by rw[Ap,YB];rfl,by rw[Yh];lia⟩,?_⟩;exact j _ _ _ (C8 (AE c) g) q
 ·unfold OH;show Af (gIf _ _ Aj) _ (Ax Q) [some (.tup [.tup [.str "a"]])] G;walk_at "rd";simp only[KU,YF,Yq,if_false];refine⟨trivial,by decide,?_⟩;simp only[gNm,AX,if_true,Yk,Ab,Yb];refine⟨(.tup [.str "a"],false),⟨rfl,.inr ⟨rfl,rfl⟩⟩,trivial,λp c=>?_⟩;simp only[CP Ap,Option.bind_some,Yw,show DA [W.bl false]=some [false]from rfl,YD,An,show[false].all id=false from rfl,Yq,if_false];exact j _ _ _ (AE c) q
def flL:Fl->List (Str×W)
 | .nil=>[]
 | .cons x t r=>(x,t.enc)::flL r
theorem VV:∀ f:Fl,f.enc=OX (flL f)
 | .nil=>rfl
 | .cons x t r=>by show _::r.enc=_::OX (flL r);rw[VV r]
theorem VW:∀ f:Fl,(flL f).map (·.1)=f.names
 | .nil=>rfl
 | .cons x t r=>by show x::(flL r).map (·.1)=x::r.names;rw[VW r]
theorem VX:∀{f:Fl},f.ok=true->∀ x∈flL f,AA x.1=true
 | .nil,_,x,h=>by cases h
 | .cons n t r,a,x,h=>by
  have h':((AA n&&t.ok)&&r.ok)=true:=a;walk_at "pc";walk_at "pk"
  ·exact h'.1.1
  ·exact VX h'.2 x h
theorem VY:∀ f:Fl,(flL f).length<=f.cnt
 | .nil=>Yr _
 | .cons _ t r=>by have:=VY r;have:=OQ t;show(flL r).length+1<=t.cnt+r.cnt;lia
inductive Os:W->Str->Bool->Prop
 | num {x:W} {b:Bool} (h:NuB x b):Os x "number" b
 | tru (b:Bool):Os (.bl b) "truth" true
 | truB (i:Int):Os (.int i) "truth" false
 | truS (x:Str):Os (.str x) "truth" false
 | nam (x:Str) (h:x.length<=100):Os (.str x) "name" (AA x)
 | namI (i:Int):Os (.int i) "name" false
 | knd {x:W} {b:Bool} (h:KB x b):Os x "kind" b
 | trm (x:W):Os x "term" true
 | fld {x:W} {b:Bool} (h:TsB x b):Os x "fields" b
def OY:Spw:=λws G Q _=>∃ v s b,ws=[v,.str s]/\Os v s b/\Q (.bl b) G
theorem m6:Spw.M OY:=(by rintro c G Q a E d h _ ⟨v,s,b,h1,h2,q⟩;exact⟨v,s,b,h1,h2,h _ _ q⟩)
theorem KW{Au:GS}(h1:ω[1]?=some (some (.str s)))(h:if s=t then e ω G D.rt else Au D ω G):Af (gIf (gTB (Ad (Ae (eqF false)) (Ab 1) (gC (.str t)))) (Ai e) Aj) Au D ω G:=by
 simp only[Af,gIf,gTB,Ad,Ae,Ab,h1,gC,BD,An,Ai,Aj];by_cases z:s=t
 ·rw[if_pos z]at h;rw[show(s==t)=true by simp[z]];exact h
 ·rw[if_neg z]at h;rw[show(s==t)=false by simpa using z];exact h
theorem KM(T:Tx K mg base a):Df P w K mg base "is_of_sort" 8 2 OY:=by
 refine mk0 (k:=7) T.kt rfl VF m6 (λd G Q E⟨_,_,_,e,_⟩=>by rw[e];rfl) (mH T (KH T) (by lia) (Dm T) (by lia) (Kg T) (by lia) (KI T) (by lia)) λd G Q E f q=>?_;obtain⟨v,s,b,rfl,h,q⟩:=q;unfold VG;show Af _ _ (Ax Q) [some v,some (.str s)] G;have no:∀{s t:Str}{e:GE}{Au:GS}{D:Ew}{ω:Sw},s≠t->ω[1]?=some (some (.str s))->Au D ω G->Af (gIf (gTB (Ad (Ae (eqF false)) (Ab 1) (gC (.str t)))) (Ai e) Aj) Au D ω G:=λh h1 h2=>KW h1 (by rw[if_neg h];exact h2);have c:∀{s:Str}{e:GE}{Au:GS}{D:Ew}{ω:Sw},ω[1]?=some (some (.str s))->e ω G D.rt->Af (gIf (gTB (Ad (Ae (eqF false)) (Ab 1) (gC (.str s)))) (Ai e) Aj) Au D ω G:=λh1 h2=>KW h1 (by rw[if_pos rfl];exact h2);cases h with
 | num h=>exact c rfl ⟨(v,b),⟨rfl,h⟩,q⟩
 | tru b =>
  refine no (by decide +kernel) rfl (c rfl ?_);simp only[A5,Ab,Yb,tyN,VU,An];exact q
 | truB b =>
  refine no (by decide +kernel) rfl (c rfl ?_);simp only[A5,Ab,Yb,tyN,VT,An];exact q
 | truS b =>
  refine no (by decide +kernel) rfl (c rfl ?_);simp only[A5,Ab,Yb,tyN,mX,An];exact q
 | nam x h=>exact no (by decide +kernel) rfl (no (by decide +kernel) rfl (c rfl (.inl ⟨x,⟨rfl,by lia⟩,q⟩)))
 | namI i=>exact no (by decide +kernel) rfl (no (by decide +kernel) rfl (c rfl (.inr ⟨i,rfl,q⟩)))
 | knd h=>exact no (by decide +kernel) rfl (no (by decide +kernel) rfl (no (by decide +kernel) rfl (c rfl ⟨(v,b),⟨rfl,h⟩,q⟩)))
 | trm t=>exact no (by decide +kernel) rfl (no (by decide +kernel) rfl (no (by decide +kernel) rfl (no (by decide +kernel) rfl (no (by decide +kernel) rfl q))))
 | fld h=>exact no (by decide +kernel) rfl (no (by decide +kernel) rfl (no (by decide +kernel) rfl (no (by decide +kernel) rfl (c rfl ⟨(v,b),⟨rfl,h⟩,q⟩))))
def As.prs:As->List (W×Str)
 | .nil=>[]
 | .num i r=>(.int i,"number")::r.prs
 | .tru b r=>(.bl b,"truth")::r.prs
 | .nam x r=>(.str x,"name")::r.prs
 | .knd k r=>(k.enc,"kind")::r.prs
 | .trm t r=>(t.enc,"term")::r.prs
 | .fld f r=>(.tup f.enc,"fields")::r.prs
theorem Gn:∀{r:As},r.ok=true->r.cnt<=1000->∀ x∈r.prs,Os x.1 x.2 true
 | .nil,_,_,x,a=>by cases a
 | .num i r,h,hc,x,a=>by
  have h':(decide (-NB<=i/\i<=NB)&&r.ok)=true:=h;walk_at "pc";walk_at "pf"
  ·exact .num (.inl ⟨i,rfl,h'.1.symm⟩)
  ·exact Gn (r:=r) h'.2 hc x a
 | .tru b r,h,hc,x,a=>by
  walk_at "pf"
  ·exact .tru b
  ·exact Gn (r:=r) h hc x a
 | .nam n r,h,hc,x,a=>by
  have h':(AA n&&r.ok)=true:=h;walk_at "pc";walk_at "pf"
  ·have:=Os.nam n (Yt (DL h'.1) (by decide));rw[h'.1]at this;exact this
  ·exact Gn (r:=r) h'.2 hc x a
 | .knd k r,h,hc,x,a=>by
  have h':((k.ok&&BP k)&&r.ok)=true:=h;walk_at "pc";walk_at "pf"
  ·have g:k.cnt<=40/\k.dp<=8:=Qi h'.1.2;exact .knd (.inl ⟨k,rfl,h'.1.1,by lia,h'.1.2.symm⟩)
  ·exact Gn (r:=r) h'.2 hc x a
 | .trm t r,h,hc,x,a=>by
  have h':(t.ok&&r.ok)=true:=h;have c:t.cnt+r.cnt<=1000:=hc;walk_at "pc";walk_at "pf"
  ·exact .trm _
  ·exact Gn (r:=r) h'.2 (by lia) x a
 | .fld f r,h,hc,x,a=>by
  have h':((By f.names&&f.ok)&&r.ok)=true:=h;have c:f.cnt+r.cnt<=1000:=hc;walk_at "pc";walk_at "pf"
  ·have d:=VX h'.1.2;refine .fld (.inl ⟨flL f,by rw[<- VV],λy e=>Yt (DL (d y e)) (by decide),by have:=VY f;lia,?_⟩);rw[VW,h'.1.1,List.all_eq_true.mpr d];rfl
  ·exact Gn (r:=r) h'.2 (by lia) x a
theorem Hi:∀ r:As,r.prs.length=r.sorts.length
 | .nil=>rfl
 | .num _ r=>Qh (·+1) (Hi r)
 | .tru _ r=>Qh (·+1) (Hi r)
 | .nam _ r=>Qh (·+1) (Hi r)
 | .knd _ r=>Qh (·+1) (Hi r)
 | .trm _ r=>Qh (·+1) (Hi r)
 | .fld _ r=>Qh (·+1) (Hi r)
theorem VZ:∀(l:List (W×Str×Bool))(o o':Option W)(ys:List W),(∀ x∈l,Os x.1 x.2.1 x.2.2)->ys.length+l.length<=1000->R (ys++l.map λx=>.bl x.2.2) G->
  Bj yes (Bi 0 1) AX (Ah OY XF (Aa (Ab 0) (Aa (Ab 1) Ac))) R (l.map λx=>.tup [x.1,.str x.2.1]) [o,o'] G ys
 | [],o,o',ys,_,_,h=>⟨trivial,by rw[YI,Yx]at h;exact h⟩
 | x::l,o,o',ys,a,hl,h=>by
  rw[Yg]at hl;refine⟨trivial,C9 (by lia),?_⟩;simp only[Bi,AX,if_true,Yk,Yl,Ah,Aa,Ac,Ab,Yb,Yc];refine⟨x.1,x.2.1,x.2.2,rfl,a x Ye,?_⟩;refine VZ l _ _ _ (λz b=>a z (Yd _ b)) (by rw[Yj];simp only[Yg,Yi];lia) ?_;rw[Yv];exact h
theorem Bd{Au:GS}(h:ge ω G λw G1=>Au D (ω.set i (some w)) G1):Af (Aq i ge) Au D ω G:=h
theorem Gp{Au:GS}(h:∀ Z:Bool->Hw->Prop,Z false G->c ω G Z)(h2:Au D ω G):Af (gIf c s Aj) Au D ω G:=by
 simp only[Af,gIf];refine h _ ?_;simp only[Yq,if_false,Aj];exact h2
def FF(w:Str)(xs:List W)(b:Bool):Prop:=∃ ss,KTD.datumAt w AK=some ss/\((xs.length≠ss.length/\b=false)\/∃ l:List (W×Str×Bool),xs=l.map (·.1)/\ss=l.map (·.2.1)/\(∀ x∈l,Os x.1 x.2.1 x.2.2)/\b=l.all (·.2.2))
def TF0(x:W):Prop:=x=.tup []\/x=.int 1\/x=.tup [.str "nom",.int 1]
def TFm(x:W)(b:Bool):Prop:=(∃ w xs,x=.tup (.str w::xs)/\FF w xs b/\xs.length<=10)\/(TF0 x/\b=false)
abbrev m7:Spw:=spR (λ(x:W×Bool)ws _=>ws=[x.1]/\TFm x.1 x.2) λx=>.bl x.2
theorem V0:∀ l:List (W×Str×Bool),BV (l.map (·.1)) ((l.map (·.2.1)).map W.str)=l.map λx=>.tup [x.1,.str x.2.1]
 | []=>rfl
 | _::l=>Qh (_::·) (V0 l)
theorem IF(T:Tx K mg base a):Df P w K mg base "has_term_form" 9 1 m7:=by
 refine mk0 (k:=8) T.ku rfl VI A6 (λj G Q E⟨_,⟨e,_⟩,_⟩=>by rw[e];rfl) (mI T (Cu T) (by lia) (KM T) (by lia)) λj G Q E o q=>?_;walk_at "po";dsimp only at h q;rcases h with⟨w,xs,rfl,⟨d,h1,f⟩,i⟩|⟨rfl | rfl | rfl,rfl⟩;rotate_left
 ·exact Eq.mpr (by kernel_rfl) q
 ·exact Eq.mpr (by kernel_rfl) q
 ·unfold OI;show Af (gIf _ _ Aj) _ (Ax Q) [some (.tup [.str "nom",.int 1]),none] G;refine Gp (λZ c=>Eq.mpr (by kernel_rfl) c) ?_;refine Bd ?_;simp only[Ah,Aa,Ac,Ad,Ae,Ab,gC,Yb,ixW,Bx,An];refine⟨"nom",rfl,?_⟩;exact Eq.mpr (by kernel_rfl) q
 unfold OI;show Af (gIf _ _ Aj) _ (Ax Q) [some (.tup (.str w::xs)),none] G;refine Gp (λZ c=>?_) ?_
 ·simp only[gOr,gNt,AB,A5,Ab,Yb,tyN,A8,An,KU,mV,YF,Yq,if_false,gTB,Ad,Ae,gB,rF,Aa,Ac,AL,BL,gC,Cf,ixW,Bx];have m:((((W.str w::xs).length:Nat):Int)==0)=false:=by simp only[Yg];simpa using(show ¬ ((xs.length:Int)+1=0) by lia)
  simp only[m,bne_self_eq_false,Yq,if_false];exact c
 refine Bd ?_;simp only[Ah,Aa,Ac,Ad,Ae,Ab,gC,Yb,ixW,Bx,An];refine⟨w,rfl,?_⟩;dsimp only;rw[KQ h1];walk_at "pa";rcases f with⟨n,rfl⟩|⟨l,rfl,rfl,hl,rfl⟩
 ·simp only[Af,gIf,gOr,gTB,Ad,Ae,Ab,gC,Yb,Yc,isF,F5,An,Yq,if_false,gB,rF,Aa,Ac,AL,BL,Ay,Bz];rw[if_neg (by decide),Cf,An]
  have e:((((W.str w::xs).length:Nat):Int)==1+(((d.map W.str).length:Nat):Int))=false:=by
   rw[Yh,Yg];simpa using(show ¬ ((xs.length:Int)+1=1+d.length) by lia)
  rw[e];exact q
 refine Gp (λZ c=>?_) ?_
 ·simp only[gOr,gTB,Ad,Ae,Ab,gC,Yb,Yc,isF,F5,An,Yq,if_false,gB,rF,Aa,Ac,AL,BL,Ay,Bz];rw[if_neg (by decide),Cf,An]
  have e:((((W.str w::l.map (·.1)).length:Nat):Int)==1+((((l.map (·.2.1)).map W.str).length:Nat):Int))=true:=by
   rw[Yh,Yh,Yg,Yh];simpa using(show(l.length:Int)+1=1+l.length by lia)
  rw[e];exact c
 rw[Yh]at i;simp only[Ai,gB,rF,AZ,F3,B4,Bl,Bu,Aa,Ac,Ab,gC,Yb,Yc,Ax,List.replicate];refine⟨l.map (·.1),(l.map (·.2.1)).map W.str,?_,?_⟩
 ·rw[Gb];rfl
 rw[V0];refine VZ l none none [] hl (by simp only[Yi];lia) λp g=>?_;rw[Yw,show(λx:W×Str×Bool=>W.bl x.2.2)=W.bl∘(λx=>x.2.2)from rfl,<- YB];simp only[BG,CP Ap,Option.bind_some,Fc,YD,An];rw[List.all_map];exact o _ _ _ (AE g) q
theorem Dc:∀ r:As,r.prs.map (·.1)=r.enc/\r.prs.map (·.2)=r.sorts
 | .nil=>⟨rfl,rfl⟩
 | .num _ r=>⟨Qh (_::·) (Dc r).1,Qh (_::·) (Dc r).2⟩
 | .tru _ r=>⟨Qh (_::·) (Dc r).1,Qh (_::·) (Dc r).2⟩
 | .nam _ r=>⟨Qh (_::·) (Dc r).1,Qh (_::·) (Dc r).2⟩
 | .knd _ r=>⟨Qh (_::·) (Dc r).1,Qh (_::·) (Dc r).2⟩
 | .trm _ r=>⟨Qh (_::·) (Dc r).1,Qh (_::·) (Dc r).2⟩
 | .fld _ r=>⟨Qh (_::·) (Dc r).1,Qh (_::·) (Dc r).2⟩
theorem m8{w:Str}(d:(Te.nd w r).ok=true)(hc:(Te.nd w r).cnt<=1000):FF w r.enc true/\r.enc.length<=10:=by
 obtain⟨h1,h2⟩:=Fp d;have e:=IK h1;have c:1+r.cnt<=1000:=hc;obtain⟨p1,p2⟩:=Dc r;refine⟨⟨r.sorts,h1,.inr ⟨r.prs.map λx=>(x.1,x.2,true),?_,?_,?_,?_⟩⟩,by rw[EJ];lia⟩
 ·rw[YB];exact p1.symm
 ·rw[YB];exact p2.symm
 ·intro x b;obtain⟨y,a,rfl⟩:=YC.mp b;exact Gn h2 (by lia) y a
 ·simp
theorem m9{t:Te}(a:t.ok=true)(hc:t.cnt<=1000):TFm t.enc true:=by
 cases t with
 | nd w r =>
  obtain⟨h1,h2⟩:=m8 a hc;exact .inl ⟨w,r.enc,rfl,h1,h2⟩
 | raw v=>cases a
def tg(t:Te):Prop:=t.ok=true/\t.cnt<=40/\t.dp<=10
def TPs(x:W)(ps:List W):Prop:=∃ t:Te,x=t.enc/\t.fm/\t.cnt<=1000/\ps=t.parts.map Te.enc
inductive OkR:Te->Prop
 | raw {v:W}:TFm v false->OkR (.raw v)
 | nd {w:Str} {r:As}:TFm (Te.nd w r).enc true->KTD.datumAt w AK=some r.sorts->(∀ c∈r.parts,OkR c)->OkR (.nd w r)
inductive IL:Te->Prop
 | raw (v:W):IL (.raw v)
 | part {t c:Te}:c∈t.parts->IL c->IL t
def IM:Te->Bool
 | .nd _ _=>true
 | .raw _=>false
theorem V1(h:OkR t):TFm t.enc (IM t):=by cases h <;> assumption
theorem V2(h:OkR t)(a:IM t=true):t.fm/\∀ c∈t.parts,OkR c:=by
 cases h with
 | raw _=>cases a
 | nd _ h1 h2=>exact⟨h1,h2⟩
theorem V3:∀(n:Nat)(l:List Te)(c d:Nat),tdp l<=n->(∀ x∈l,OkR x)->Bw l<=1000->(∃ x∈l,IL x)->∃ m,Md TFm TPs 40 10 m c d (l.map Te.enc) false
 | _,[],c,d,_,_,_,⟨x,s,_⟩=>by cases s
 | n,x::l,c,d,p,j,hl,i=>by
  have h1:=OS (x::l);have h2:=OT (x::l) (by simp);have e:(l.map Te.enc).length=l.length:=Yh _;have t:=II ((x::l).flatMap Te.parts);rw[Yg]at h1;by_cases g:40 < c+(l.length+1)\/10 < d+1
  ·exact⟨0,.big (by lia) (by rw[e];exact g)⟩
  ·cases b:(x::l).all IM with
   | false =>
    refine⟨0,.bad (bs:=(x::l).map IM) (by lia) (by rw[e];lia) (by lia) (Al.map (l:=x::l) (e:=Te.enc) λz a=>V1 (j z a)) ?_⟩;rw[List.all_map];exact b
   | true =>
    have o:=List.all_eq_true.mp b
    match n,p with
    | 0,p=>lia
    | n+1,p =>
    obtain⟨m,r⟩:=V3 n ((x::l).flatMap Te.parts) (c+(l.length+1)) (d+1) (by lia) (λy h=>by obtain⟨z,a,h⟩:=List.mem_flatMap.mp h;exact(V2 (j z a) (o z a)).2 y h) (by lia) (by
     obtain⟨y,h,i⟩:=i;cases i with
     | raw v=>have:=o _ h;cases this
     | part hc i=>exact⟨_,List.mem_flatMap.mpr ⟨y,h,hc⟩,i⟩)
    have q:((x::l).map λk=>k.parts.map Te.enc).flatten=((x::l).flatMap Te.parts).map Te.enc:=by rw[List.map_flatMap];rfl
    refine⟨m+1,Md.step (bs:=(x::l).map IM) (by lia) (by rw[e];lia) (by lia) (Al.map (l:=x::l) (e:=Te.enc) λz a=>V1 (j z a)) (by rw[List.all_map];exact b) (Al.map (l:=x::l) (e:=Te.enc) (f:=λk=>k.parts.map Te.enc) λz a=>⟨z,rfl,(V2 (j z a) (o z a)).1,by have:=KN a;lia,rfl⟩) ?_ ?_⟩
    ·rw[q,Yh];lia
    ·rw[q,e];exact r
def V4(x:W):Prop:=∃ t:Te,x=t.enc/\t.cnt<=1000/\((t.ok=true/\¬ (t.cnt<=40/\t.dp<=10))\/(OkR t/\IL t))
def TB(x:W)(b:Bool):Prop:=(∃ t:Te,x=t.enc/\tg t/\b=true)\/(V4 x/\b=false)
theorem nc{t:Te}(h:t.ok=true):t.fm:=by
 cases t with
 | nd w r=>exact(Fp h).1
 | raw v=>cases h
theorem V5{t:Te}(c:t.ok=true)(hc:t.cnt<=1000):∃ m,Md TFm TPs 40 10 m 0 0 [t.enc] (decide (t.cnt<=40/\t.dp<=10)):=by
 have z:=Oi (F:=TFm) (L:=TPs) (mo:=40) (de:=10) (ok:=λt:Te=>t.ok=true/\t.cnt<=1000) OS OT rfl rfl (λt h=>⟨m9 h.1 h.2,⟨t,rfl,nc h.1,h.2,rfl⟩,λy a=>⟨KO h.1 y a,by have:=h.2;have:=Gk t;have:=KN a;lia⟩⟩) t.dp [t] 0 0 (by show max t.dp 0<=_;lia) (λx b=>by rw[YA.mp b];exact⟨c,hc⟩) (by show t.cnt+0<=_;lia) (by decide) (by decide);rw[show decide (0+Bw [t]<=40/\0+tdp [t]<=10)=decide (t.cnt<=40/\t.dp<=10) by rw[decide_eq_decide];show 0+(t.cnt+0)<=40/\0+max t.dp 0<=10↔_;lia]at z;exact z
theorem ng(h:TB x b):∃ m,Md TFm TPs 40 10 m 0 0 [x] b:=by
 rcases h with⟨t,rfl,⟨a,hc⟩,rfl⟩|⟨⟨t,rfl,hc,⟨a,h⟩|⟨h1,h2⟩⟩,rfl⟩
 ·have:=V5 a (by lia);rw[YH hc]at this;exact this
 ·have:=V5 a hc;rw[Qj h]at this;exact this
 ·exact V3 t.dp [t] 0 0 (by show max t.dp 0<=_;lia) (λx c=>by rw[YA.mp c];exact h1) (by show t.cnt+0<=_;lia) ⟨t,Ye,h2⟩
abbrev nh:Spw:=spR (λ(x:W×Bool)ws _=>ws=[x.1]/\TB x.1 x.2) λx=>.bl x.2
theorem Fk(T:Tx K mg base a):Df P w K mg base "is_term" 11 1 nh:=by
 refine mk0 (k:=10) T.kx rfl VL A6 ((by rintro d G Q E ⟨x,⟨e,_⟩,_⟩;rw[e];rfl)) (mK T (IF T) (by lia) (IG T) (by lia) (Ff T (F:=TFm) (L:=TPs) (mo:=40) (de:=10) (IF T) (IG T) (by lia) (λx b G Q E h q=>⟨(x,b),⟨rfl,h⟩,q⟩) (λx ps G Q E⟨t,e,c,hc,f⟩q=>⟨t,⟨by rw[e],c,by lia⟩,by rw[f]at q;exact q⟩)) (by lia)) λd G Q E g q=>?_;walk_at "po";exact Exists.intro (x,b) ⟨⟨rfl,ng h⟩,q⟩
def V6(C:Addr):Spw:=λws G Q E=>(∃ t:Te,ws=[t.enc]/\tg t/\Q .non G)\/∃ x:W,ws=[x]/\V4 x/\E C G
theorem ni:Spw.M (V6 C):=(by
 rintro b G Q a E c h h' (⟨t,h1,h2,q⟩|⟨t,h1,h2,q⟩)
 ·exact .inl ⟨t,h1,h2,h _ _ q⟩
 ·exact .inr ⟨t,h1,h2,h' _ _ q⟩)
theorem KZ(T:Tx K mg base a):Df P w K mg base "check_term" 12 1 (V6 a.NoTerm):=by
 refine mkX (k:=11) T.ky rfl VN ni (by rintro b G Q E (⟨x,e,_⟩|⟨x,e,_⟩) <;> rw[e] <;> rfl) (g:=λE=>OL K a _ E) (mO T (Fk T) (by lia)) λb G Q E d c q=>?_;unfold OL;rcases q with⟨t,rfl,h,q⟩|⟨x,rfl,h,q⟩
 ·walk_at "rd";refine⟨(t.enc,true),⟨rfl,.inl ⟨t,rfl,h,rfl⟩⟩,?_⟩;simp only[YF,Yq,if_false];exact q
 ·walk_at "rd";refine⟨(x,false),⟨rfl,.inr ⟨h,rfl⟩⟩,?_⟩;simp only[YM,if_true];unfold B3;walk_at "rd";exact⟨by decide,q⟩
theorem OZ:∀ cs:List Nat,(cs.map λc:Nat=>(c:Int)).sum=((cs.sum:Nat):Int)
 | []=>rfl
 | c::cs=>by rw[Ym,List.sum_cons,List.sum_cons,OZ cs];lia
theorem V7:∀(cs:List Nat)(j:Nat),(cs.take j).sum<=cs.sum
 | [],j=>by simp
 | c::cs,0=>by simp
 | c::cs,j+1=>by have:=V7 cs j;rw[List.take_succ_cons,List.sum_cons,List.sum_cons];lia
theorem V8:∀{cs:List Nat}{c:Nat},c∈cs->c<=cs.sum
 | d::cs,c,h=>by
  rw[List.sum_cons];walk_at "pk"
  ·lia
  ·have:=V8 h;lia
theorem Wa(a:0<=i)(h1:i<=1000000):InLong i:=by unfold InLong;lia
theorem nj(cs:List Nat)(h:cs.sum<=1000000):PyProof.Rows.SumFits (cs.map λc:Nat=>(c:Int)):=by
 intro j a;rw[Yh]at a;refine⟨?_,?_⟩
 ·have e:(cs.map λc:Nat=>(c:Int)).getD j 0=(cs[j]:Int):=by rw[YZ,YN,Yp a];rfl
  have:=V8 (Qd a);rw[e];exact Wa (by lia) (by lia)
 ·rw[<- List.map_take,OZ];have:=V7 cs (j+1);exact Wa (by lia) (by lia)
theorem nk{cs:List Nat}(h:cs.sum<=1000000)(a:G p=some (.lst (cs.map λc:Nat=>W.int (c:Int))))(q:Q (.int (cs.sum:Nat)) G):El [.ref p] G Q:=by
 unfold El;simp only[CP a,Option.bind_some];rw[show(cs.map λc:Nat=>W.int (c:Int))=(cs.map λc:Nat=>(c:Int)).map W.int by rw[YB];rfl,L3.Nk];dsimp only;refine⟨nj cs h,?_⟩;rw[OZ];exact q
theorem Wb:∀ l:List Te,Bw l=(l.map Te.cnt).sum
 | []=>rfl
 | t::l=>by rw[Ym,List.sum_cons,<- Wb l];rfl
theorem Hj{α:Type}{enc f:α->W}(a:gd G):∀(l:List α)(o:Option W)(ys:List W),(∀ x∈l,∀ Q:Kw,Q (f x) G->ge [some (enc x)] G Q)->
  ys.length+l.length<=sizeLine->R (ys++l.map f) G->Bj gd (gNm 0) AX ge R (l.map enc) [o] G ys
 | [],o,ys,_,_,r=>⟨a,by simpa using r⟩
 | x::l,o,ys,h,hl,r=>by
  walk_at "pi";show ge [some (enc x)] G λy b=>Bj gd (gNm 0) AX ge R (l.map enc) [some (enc x)] b (ys++[y]);refine h x Ye _ (Hj a l (some (enc x)) (ys++[f x]) (λy c=>h y (Yd _ c)) ?_ ?_)
  ·simp only[Yj,Yg,Yi]at hl ⊢;lia
  ·simpa[Yv]using r
theorem O0{t:Te}(h:c∈t.parts):c.dp+1<=t.dp:=by rw[IH t];have:=VP h;lia
theorem O1{t:Te}(h:c∈t.parts):c.cnt+1<=t.cnt:=by rw[Gk t];have:=KN h;lia
theorem nl:1000000<=sizeLine:=by decide
theorem np{t:Te}(g:Sub G d)(i:d p=some (.lst (t.parts.map Te.enc)))(hc:t.cnt<=1000000)(l:Kw.C Q)(h:∀ c∈t.parts,∀ G Q E,Q (.int (c.cnt:Nat)) G->sp [c.enc] G Q E)(q:Q (.int (t.cnt:Nat)) G):
  Bj (holds p (t.parts.map Te.enc)) (gNm 0) AX (Ah sp XF (Aa (Ab 0) Ac)) (λys G2=>∀ r,G2 r=none->El [.ref r] (put G2 r (.lst ys)) λw e=>Ay (.int 1) w e Q) (t.parts.map Te.enc) [none] d []:=by
 have o:=Gk t;have hl:=II t.parts;have a:=Wb t.parts;refine Hj (enc:=Te.enc) (f:=λc=>.int (c.cnt:Nat)) i t.parts none [] (λx j n k=>h x j _ _ _ k) (by simp only[Yi];exact Yt (m:=1000000) (by lia) nl) λp2 b=>?_;rw[Yw,show(t.parts.map λc=>W.int (c.cnt:Nat))=(t.parts.map Te.cnt).map λc:Nat=>W.int (c:Int) by rw[YB];rfl];refine nk (by lia) Ap ?_;show Q (.int (1+((t.parts.map Te.cnt).sum:Nat))) _;rw[<- a,show(1:Int)+((Bw t.parts:Nat):Int)=((t.cnt:Nat):Int) by lia];exact l _ _ _ (C8 g b) q
set_option hygiene false in
set_option hygiene false in
set_option hygiene false in
set_option hygiene false in
set_option hygiene false in
abbrev Wc:List Str:=["script","k"]
theorem Wd:Az Wc ["script","k"] (Ak NJ):=by walk_at "s"
def We:GS:=(Af (gIf (gTB (Ad (AU (λi j=>decide (i < j)) AS) (Ab 1) (gB (rF AL) (Aa (Ab 0) Ac)))) (Ai (Ad (Ae ixW) (Ab 0) (Ab 1))) Aj) (Ai (gC (.int 0))))
theorem nq(T:Tx K mg base a):Dn P w K mg base Wc "_law_cell_at" NJ k (We):=by
 have hN:=Wd.nd;walk_at "z"
abbrev Wf:List Str:=["found"]
theorem Wg:Az Wf ["found"] (Ak NK):=by walk_at "s"
def Wh:GS:=(Ai (BE (A5 "int" (Ab 0)) (CM (A5 "bool" (Ab 0)))))
theorem nr(T:Tx K mg base a):Dn P w K mg base Wf "_law_whole" NK k (Wh):=by
 have hN:=Wg.nd;walk_at "z"
abbrev Wi:List Str:=["script","k","cell"]
theorem Wj:Az Wi ["script","k"] (Ak NM):=by walk_at "s"
def Wk(K0:Spw):GS:=(Af (Aq 2 (Ah K0 XF (Aa (Ab 0) (Aa (Ab 1) Ac)))) (Af (gIf (gTB (Ad (A0 λi j=>decide (j<=i)) (Ab 2) (Ad (AI GL λi j=>i ^ j.toNat) (gC (.int 10)) (gC (.int 18))))) (Ai (Av (Aa (Ad (AI (λ_ _=>True) λi j=>i - j) (Ab 2) (Ad (AI GL λi j=>i ^ j.toNat) (gC (.int 10)) (gC (.int 18)))) (Aa (gC (.bl true)) Ac)))) Aj) (Ai (Av (Aa (Ad (AI (λ_ j=>0 < j) λi j=>i % j) (Ab 2) (gC (.int 2147483647))) (Aa (gC (.bl false)) Ac))))))
theorem nt(T:Tx K mg base a)(tF:Df P w K mg base "_law_cell_at" K1 2 K0)(tG:K1<=k):Dn P w K mg base Wi "_law_state" NM k (Wk K0):=by
 have hN:=Wj.nd;walk_at "z"
abbrev Wl:List Str:=["state","many","mixed","found"]
theorem Wn:Az Wl ["state","many"] (Ak NO):=by walk_at "s"
def Wo:GS:=(Af (gIf (AB (Ad (Ae ixW) (Ab 0) (gC (.int 1)))) (Af (Aq 3 (Ad (AI (λ_ j=>0 < j) λi j=>i % j) (Ad (Ae ixW) (Ab 0) (gC (.int 0))) (Ab 1))) (Af (Ck (Ad (AI FO λi j=>i / j) (Ad (Ae ixW) (Ab 0) (gC (.int 0))) (Ab 1)) (Ab 0) (gC (.int 0))) (Ai (Ab 3)))) Aj) (Af (Ck (Ad (AI (λ_ j=>0 < j) λi j=>i % j) (Ad (Ay) (Ad (Cr) (Ad (Ae ixW) (Ab 0) (gC (.int 0))) (gC (.int 48271))) (gC (.int 29))) (gC (.int 2147483647))) (Ab 0) (gC (.int 0))) (Af (Aq 2 (Ad (AI (λ_ j=>0 < j) λi j=>i % j) (Ad (Ay) (Ad (Ay) (Ad (Cr) (Ad (Ae ixW) (Ab 0) (gC (.int 0))) (Ad (Ae ixW) (Ab 0) (gC (.int 0)))) (Ad (Cr) (gC (.int 39373)) (Ad (Ae ixW) (Ab 0) (gC (.int 0))))) (gC (.int 7))) (gC (.int 2147483629)))) (Af (Aq 2 (Ad (AI (λ_ j=>0 < j) λi j=>i % j) (Ad (Ay) (Ad (Cr) (Ab 2) (Ab 2)) (Ad (Cr) (gC (.int 16807)) (Ab 2))) (gC (.int 2147483587)))) (Ai (Ad (AI (λ_ j=>0 < j) λi j=>i % j) (Ad (AI FO λi j=>i / j) (Ab 2) (gC (.int 8))) (Ab 1)))))))
theorem nu(T:Tx K mg base a):Dn P w K mg base Wl "_law_choice" NO k (Wo):=by
 have hN:=Wn.nd;walk_at "z"
abbrev Wp:List Str:=["state","num","plain","some"]
theorem Wq:Az Wp ["state"] (Ak NP):=by walk_at "s"
def Wr(AG:Spw):GS:=(Af (Aq 1 (Ao (Aa (gC (.str "num")) Ac))) (Af (Aq 2 (Ao (Aa (gC (.str "to")) (Aa (Ab 1) (Aa (Ab 1) Ac))))) (Af (Aq 3 (Av (Aa (Ab 1) (Aa (Ab 1) (Aa (Ao (Aa (gC (.str "truth")) Ac)) (Aa (Ao (Aa (gC (.str "any")) Ac)) (Aa (Ao (Aa (gC (.str "box")) (Aa (Ab 1) Ac))) (Aa (Ao (Aa (gC (.str "box")) (Aa (Ao (Aa (gC (.str "any")) Ac)) Ac))) (Aa (Ab 2) (Aa (Ao (Aa (gC (.str "to")) (Aa (Ao (Aa (gC (.str "any")) Ac)) (Aa (Ab 1) Ac)))) Ac)))))))))) (Af (Aq 3 (Ad (Ay) (Ab 3) (Av (Aa (Ao (Aa (gC (.str "row")) (Aa (Ao (Aa (Ao (Aa (gC (.str "a")) (Aa (gC (.str "must")) (Aa (Ab 1) Ac)))) Ac)) (Aa (gC (.bl false)) Ac)))) (Aa (Ao (Aa (gC (.str "row")) (Aa (Ao (Aa (Ao (Aa (gC (.str "a")) (Aa (gC (.str "may")) (Aa (Ab 1) Ac)))) (Aa (Ao (Aa (gC (.str "b")) (Aa (gC (.str "must")) (Aa (Ab 1) Ac)))) Ac))) (Aa (gC (.bl false)) Ac)))) Ac))))) (Af (Aq 3 (Ad (Ay) (Ab 3) (Av (Aa (Ao (Aa (gC (.str "row")) (Aa (Ao Ac) (Aa (gC (.bl true)) Ac)))) (Aa (Ao (Aa (gC (.str "row")) (Aa (Ao (Aa (Ao (Aa (gC (.str "a")) (Aa (gC (.str "must")) (Aa (Ao (Aa (gC (.str "truth")) Ac)) Ac)))) Ac)) (Aa (gC (.bl true)) Ac)))) (Aa (Ao (Aa (gC (.str "to")) (Aa (Ab 2) (Aa (Ab 1) Ac)))) Ac)))))) (Af (Aq 3 (Ad (Ay) (Ab 3) (Av (Aa (Ao (Aa (gC (.str "to")) (Aa (Ab 1) (Aa (Ab 2) Ac)))) (Aa (Ao (Aa (gC (.str "box")) (Aa (Ab 2) Ac))) (Aa (Ao (Aa (gC (.str "row")) (Aa (Ao (Aa (Ao (Aa (gC (.str "a")) (Aa (gC (.str "must")) (Aa (Ab 2) Ac)))) (Aa (Ao (Aa (gC (.str "b")) (Aa (gC (.str "may")) (Aa (Ab 1) Ac)))) Ac))) (Aa (gC (.bl true)) Ac)))) Ac)))))) (Af (Aq 3 (Ad (Ay) (Ab 3) (Av (Aa (Ao (Aa (gC (.str "row")) (Aa (Ao (Aa (Ao (Aa (gC (.str "b")) (Aa (gC (.str "may")) (Aa (Ao (Aa (gC (.str "any")) Ac)) Ac)))) Ac)) (Aa (gC (.bl false)) Ac)))) (Aa (Ao (Aa (gC (.str "to")) (Aa (Ao (Aa (gC (.str "row")) (Aa (Ao Ac) (Aa (gC (.bl true)) Ac)))) (Aa (Ao (Aa (gC (.str "any")) Ac)) Ac)))) Ac))))) (Ai (Ad (Ae ixW) (Ab 3) (Ah AG XF (Aa (Ab 0) (Aa (gC (.int 18)) Ac))))))))))))
theorem nv(T:Tx K mg base a)(Gq:Df P w K mg base "_law_choice" Bh 2 AG)(Gr:Bh<=k):Dn P w K mg base Wp "_law_told_kind" NP k (Wr AG):=by
 have hN:=Wq.nd;walk_at "z"
abbrev Ws:List Str:=["state","deep","names","want","name","kind"]
theorem Wt:Az Ws ["state","deep","names","want"] (Ak NQ):=by walk_at "s"
def Wu(AG:Spw)(EL:Spw)(A1:Spw):GS:=(Af (Aq 4 (Ad (Ae ixW) (Av (Aa (gC (.str "x")) (Aa (gC (.str "y")) (Aa (gC (.str "xy")) Ac)))) (Ah AG XF (Aa (Ab 0) (Aa (gC (.int 3)) Ac))))) (Af (Aq 5 (Ah EL XF (Aa (Ab 0) Ac))) (Ai (Ao (Aa (gC (.str "fun")) (Aa (Ab 4) (Aa (Ab 5) (Aa (Ah A1 XF (Aa (Ab 0) (Aa (Ad (AI (λ_ _=>True) λi j=>i - j) (Ab 1) (gC (.int 1))) (Aa (Ad (Ay) (Ab 2) (Av (Aa (Ao (Aa (Ab 4) (Aa (Ad (Ae ixW) (Ab 5) (gC (.int 0))) Ac))) Ac))) (Aa (Ab 3) Ac))))) Ac))))))))
theorem nw(T:Tx K mg base a)(Gq:Df P w K mg base "_law_choice" Bh 2 AG)(Gr:Bh<=k)(ny:Df P w K mg base "_law_told_kind" Fq 1 EL)(nz:Fq<=k)(IN:Df P w K mg base "_law_term" B0 4 A1)(IP:B0<=k):Dn P w K mg base Ws "_law_function" NQ k (Wu AG EL A1):=by
 have hN:=Wt.nd;walk_at "z"
abbrev Wv:List Str:=["state","deep","names","want","fields","name"]
theorem Ww:Az Wv ["state","deep","names","want"] (Ak NR):=by walk_at "s"
def Wx(A1:Spw)(AG:Spw):GS:=(Af (Aq 4 (Av (Aa (Ao (Aa (gC (.str "a")) (Aa (Ah A1 XF (Aa (Ab 0) (Aa (Ad (AI (λ_ _=>True) λi j=>i - j) (Ab 1) (gC (.int 1))) (Aa (Ab 2) (Aa (Ab 3) Ac))))) Ac))) Ac))) (Af (BC (AY (Av (Aa (gC (.str "ab")) (Aa (gC (.str "b")) Ac)))) (gNm 5) (gIf (Bp (gTB (Ad (Ae (eqF false)) (Ah AG XF (Aa (Ab 0) (Aa (gC (.int 3)) Ac))) (gC (.int 0)))) (gTB (Ad (A0 λi j=>decide (j < i)) (Ad (Ae ixW) (Ab 0) (gC (.int 2))) (gC (.int 1))))) (AC (gMt BF BH (Ab 4) (Aa (Ao (Aa (Ab 5) (Aa (Ah A1 XF (Aa (Ab 0) (Aa (Ad (AI (λ_ _=>True) λi j=>i - j) (Ab 1) (gC (.int 1))) (Aa (Ab 2) (Aa (gC (.str "num")) Ac))))) Ac))) Ac))) Aj)) (Ai (Ao (Aa (gC (.str "rec")) (Aa (gB (rF Cp) (Aa (B4 (Ab 4) (Bl (Ad (AI FO λi j=>i / j) (Ah AG XF (Aa (Ab 0) (Aa (gC (.int 8)) Ac))) (gC (.int 7)))) Bu) Ac)) Ac))))))
theorem nA(T:Tx K mg base a)(IN:Df P w K mg base "_law_term" B0 4 A1)(IP:B0<=k)(Gq:Df P w K mg base "_law_choice" Bh 2 AG)(Gr:Bh<=k):Dn P w K mg base Wv "_law_record" NR k (Wx A1 AG):=by
 have hN:=Ww.nd;walk_at "z"
abbrev Wy:List Str:=["state","deep","names","want"]
theorem Wz:Az Wy ["state","deep","names","want"] (Ak NS):=by walk_at "s"
def WA(A1:Spw)(AG:Spw)(EM:Spw)(EN:Spw):GS:=(Af (gIf (gTB (Ad (Ae (eqF false)) (Ab 3) (gC (.str "truth")))) (Ai (Ao (Aa (gC (.str "less")) (Aa (Ah A1 XF (Aa (Ab 0) (Aa (Ad (AI (λ_ _=>True) λi j=>i - j) (Ab 1) (gC (.int 1))) (Aa (Ab 2) (Aa (gC (.str "num")) Ac))))) (Aa (Ah A1 XF (Aa (Ab 0) (Aa (Ad (AI (λ_ _=>True) λi j=>i - j) (Ab 1) (gC (.int 1))) (Aa (Ab 2) (Aa (gC (.str "num")) Ac))))) Ac))))) Aj) (Af (gIf (gTB (Ad (Ae (eqF false)) (Ab 3) (gC (.str "row")))) (Ai (Ah EM XF (Aa (Ab 0) (Aa (Ab 1) (Aa (Ab 2) (Aa (Ad (Ae ixW) (Av (Aa (gC (.str "num")) (Aa (gC (.str "truth")) (Aa (gC (.str "box")) Ac)))) (Ah AG XF (Aa (Ab 0) (Aa (gC (.int 3)) Ac)))) Ac)))))) Aj) (Af (gIf (gTB (Ad (Ae (eqF false)) (Ab 3) (gC (.str "box")))) (Ai (Ao (Aa (gC (.str "new")) (Aa (Ah A1 XF (Aa (Ab 0) (Aa (Ad (AI (λ_ _=>True) λi j=>i - j) (Ab 1) (gC (.int 1))) (Aa (Ab 2) (Aa (Ad (Ae ixW) (Av (Aa (gC (.str "num")) (Aa (gC (.str "row")) Ac))) (Ah AG XF (Aa (Ab 0) (Aa (gC (.int 2)) Ac)))) Ac))))) Ac)))) Aj) (Af (gIf (gTB (Ad (Ae (eqF false)) (Ab 3) (gC (.str "to")))) (Ai (Ah EN XF (Aa (Ab 0) (Aa (Ab 1) (Aa (Ab 2) (Aa (gC (.str "num")) Ac)))))) Aj) (Ai (Ao (Aa (gC (.str "plus")) (Aa (Ah A1 XF (Aa (Ab 0) (Aa (Ad (AI (λ_ _=>True) λi j=>i - j) (Ab 1) (gC (.int 1))) (Aa (Ab 2) (Aa (gC (.str "num")) Ac))))) (Aa (Ah A1 XF (Aa (Ab 0) (Aa (Ad (AI (λ_ _=>True) λi j=>i - j) (Ab 1) (gC (.int 1))) (Aa (Ab 2) (Aa (gC (.str "num")) Ac))))) Ac)))))))))
theorem nB(T:Tx K mg base a)(IN:Df P w K mg base "_law_term" B0 4 A1)(IP:B0<=k)(Gq:Df P w K mg base "_law_choice" Bh 2 AG)(Gr:Bh<=k)(nC:Df P w K mg base "_law_record" Ft 4 EM)(nD:Ft<=k)(nE:Df P w K mg base "_law_function" Fu 4 EN)(nF:Fu<=k):Dn P w K mg base Wy "_law_made" NS k (WA A1 AG EM EN):=by
 have hN:=Wz.nd;walk_at "z"
theorem nG{ns:List Int}(c:0<=k)(h:k <(ns.length:Int)):∃ v:Int,atI (ns.map W.int) k=some (.int v):=by
 have b:k.toNat < ns.length:=by lia
 have a:k=((k.toNat:Nat):Int):=by lia
 refine⟨ns[k.toNat],?_⟩;have q:atI (ns.map W.int) ((k.toNat:Nat):Int)=some (.int ns[k.toNat]):=L2.CB (by rw[YN,Yp b] <;> rfl);rw[<- a]at q;exact q
def WB:Spw:=λws G Q _=>∃(ns:List Int)(k:Int),ws=[.rol (ns.map W.int),.int k]/\0<=k/\∀ v:Int,Q (.int v) G
theorem nH:Spw.M WB:=(by rintro b G Q a E c h _ ⟨ns,k,h1,h2,q⟩;exact⟨ns,k,h1,h2,λv=>h _ _ (q v)⟩)
theorem K1(T:Tx K mg base a):Df P w K mg base "_law_cell_at" 1 2 WB:=by
 refine mk0 T.kz rfl Wd nH ((by rintro c G Q E ⟨ns,k,e,_⟩;rw[e];rfl)) (nq T) λc G Q E f q=>?_;obtain⟨ns,k,rfl,d,q⟩:=q;unfold We;show Af _ _ (Ax Q) [some (.rol (ns.map W.int)),some (.int k)] G;by_cases b:k <((ns.map W.int).length:Int)
 ·obtain⟨v,e⟩:=nG d (by simpa using b);simp only[Af,gIf,gTB,Ad,AU,gB,rF,AL,BL,Aa,Ac,Ab,Yb,Yc,An,b,decide_true,if_true,Ae,ixW,e,Ai];exact q v
 ·simp only[Af,gIf,gTB,Ad,AU,gB,rF,AL,BL,Aa,Ac,Ab,Yb,Yc,An,b,decide_false,Yq,if_false,Aj,Ai,gC];exact q 0
def WC:Spw:=λws G Q _=>∃(ns:List Int)(k:Int),ws=[.rol (ns.map W.int),.int k]/\0<=k/\∀ p(x:Int)(b:Bool),G p=none->Q (.ref p) (put G p (.lst [.int x,.bl b]))
theorem nI:Spw.M WC:=(by rintro c G Q b E d h _ ⟨ns,k,h1,h2,q⟩;exact⟨ns,k,h1,h2,λp x y a=>h _ _ (q p x y a)⟩)
theorem WD:GL 10 18:=⟨by decide,by decide,by decide⟩
theorem K2(T:Tx K mg base a):Df P w K mg base "_law_state" 2 2 WC:=by
 refine mk0 (k:=1) T.kB rfl Wj nI ((by rintro c G Q E ⟨ns,k,e,_⟩;rw[e];rfl)) (nt T (K1 T) (Yr _)) λc G Q E f q=>?_;obtain⟨ns,k,rfl,d,q⟩:=q;unfold Wk;show Af _ _ (Ax Q) [some (.rol (ns.map W.int)),some (.int k),none] G;refine⟨ns,k,rfl,d,λv=>?_⟩;walk_at "rd";refine⟨WD,?_⟩;refine BK (λh=>?_) (λh=>?_)
 ·exact⟨WD,trivial,by decide,λp b=>q p _ _ b⟩
 ·exact⟨by decide,by decide,λp b=>q p _ _ b⟩
def DO:Spw:=λws G Q _=>∃(s:Addr)(m x:Int)(b:Bool)(l:List W),ws=[.ref s,.int m]/\0 < m/\m < 1267650600228229401496703205376/\G s=some (.lst (.int x::.bl b::l))/\∀ r x':Int,0<=r->r < m->Q (.int r) (put G s (.lst (.int x'::.bl b::l)))
theorem nJ:Spw.M DO:=(by rintro j G Q g E i h _ ⟨s,m,x,b,l,h1,h2,d,e,q⟩;exact⟨s,m,x,b,l,h1,h2,d,e,λr a f c=>h _ _ (q r a f c)⟩)
theorem nK(n:Nat):ixN (n+1) 0=some 0:=by unfold ixN;rw[if_pos (Int.le_refl 0),if_pos (by lia)];rfl
theorem nL(n:Nat):ixN (n+3) 2=some 2:=by unfold ixN;rw[if_pos (by decide),if_pos (by lia)];rfl
theorem WE(h:G s=some (.lst (x::l)))(q:Q (put G s (.lst (v::l)))):D0 (.ref s) (.int 0) v G Q:=MK h (nK l.length) q
theorem WF(h:G s=some (.lst [x,y,z]))(q:Q (put G s (.lst [x,y,v]))):D0 (.ref s) (.int 2) v G Q:=MK h (nL 0) q
theorem ix0(h:G s=some (.lst (x::l))):ixW (.ref s) (.int 0) G=some x:=by rw[F9 h];exact Bx
theorem ix1(h:G s=some (.lst (x::y::l))):ixW (.ref s) (.int 1) G=some y:=by rw[F9 h];exact B5
theorem ix2(h:G s=some (.lst (x::y::z::l))):ixW (.ref s) (.int 2) G=some z:=by rw[F9 h];exact CO
theorem WG(a:0<=x)(h1:x < m)(b:m<=2147483647):-(2 ^ 64) < x/\x < 2 ^ 64:=by
 have:(2:Int) ^ 64=18446744073709551616:=by decide
 rw[this];lia
theorem Bh(T:Tx K mg base a):Df P w K mg base "_law_choice" 1 2 DO:=by
 refine mk0 T.kC rfl Wn nJ ((by rintro n G Q E ⟨s,m,x,b,l,e,_⟩;rw[e];rfl)) (nu T) λn G Q E p q=>?_;obtain⟨s,m,x,b,l,rfl,c,i,f,q⟩:=q;unfold Wo;show Af (gIf _ _ Aj) _ (Ax Q) [some (.ref s),some (.int m),none,none] G;simp only[Af,gIf,AB,Ad,Ae,Ab,gC,Yb,Yc,ix1 f,An,A8];cases b with
 | true =>
  simp only[if_true,Af,Aq,Ck,Ad,AI,Ae,Ab,gC,Ai,Ax,Yb,Yc,Yk,Yl,ix0 f,An];refine⟨c,?_⟩;refine⟨⟨c,i⟩,?_⟩;refine WE f ?_;exact q _ _ (Int.emod_nonneg _ (by lia)) (Int.emod_lt_of_pos _ c)
 | false =>
  simp only[Yq,if_false,Aj,Af,Ck,Ad,AI,Ae,gC,Ab,Yb,Yc,ix0 f,An,Cr,Ay,Bz];refine⟨.inr ⟨by decide,by decide⟩,by decide,?_⟩;refine WE f ?_;generalize h:(x*48271+29) % 2147483647=d;have o:0<=d:=by rw[<- h];exact Int.emod_nonneg _ (by decide)
  have b1:d < 2147483647:=by rw[<- h];exact Int.emod_lt_of_pos _ (by decide)
  have h2:put G s (.lst (.int d::.bl false::l)) s=some (.lst (.int d::.bl false::l)):=Ap;simp only[Aq,Ad,AI,Ae,gC,Ab,Yb,Yc,Yk,Yl,ix0 h2,An,Ai,Ax,Cr,Ay,Bz];refine⟨.inl (WG o b1 (by decide)),.inl ⟨by decide,by decide⟩,by decide,?_⟩;generalize g:(d*d+39373*d+7) % 2147483629=x3;have k:0<=x3:=by rw[<- g];exact Int.emod_nonneg _ (by decide)
  have j:x3 < 2147483629:=by rw[<- g];exact Int.emod_lt_of_pos _ (by decide)
  refine⟨.inl (WG k j (by decide)),.inl ⟨by decide,by decide⟩,(show(0:Int) < 2147483587 by decide),?_⟩;refine⟨⟨by decide,by decide⟩,c,?_⟩;exact q _ _ (Int.emod_nonneg _ (by lia)) (Int.emod_lt_of_pos _ c)
theorem sz{n:Nat}(h:Nat.ble n 100=true):n<=sizeLine:=Ce (Yt (Nat.le_of_ble_eq_true h) (by decide))
def St(f:Bool)(s:Addr)(G:Hw):Prop:=∃(x:Int)(b:Bool)(c:Int),G s=some (.lst (.int x::.bl b::if f then[.int c]else[]))
def Hs(f:Bool)(s:Addr)(G G':Hw):Prop:=St f s G'/\∀ b,b≠s->∀ u,G b=some u->G' b=some u
variable {f:Bool}{s p:Addr}{G:Hw}{o:HW}
theorem Hs.trans(h:Hs f s G G1)(h':Hs f s G1 G2):Hs f s G G2:=⟨h'.1,λb a u c=>h'.2 b a u (h.2 b a u c)⟩
theorem Hs.refl(h:St f s G):Hs f s G G:=⟨h,λ_ _ _ h=>h⟩
theorem St.put(h:St f s G)(a:G p=none):St f s (put G p o):=by
 obtain⟨x,b,c,e⟩:=h;exact⟨x,b,c,by rw[A2 (DG e a)];exact e⟩
theorem Hs.put(h:Hs f s G G1)(a:G1 p=none):Hs f s G (put G1 p o):=⟨h.1.put a,λb d u c=>AE a _ _ (h.2 b d u c)⟩
theorem Hs.ne(h:St f s G)(a:G p=none):p≠s:=by
 obtain⟨x,b,c,e⟩:=h;exact YV (DG e a)
theorem Hs.new(h:St f s G)(a:G p=none):Hs f s G (L3.put G p o):=(Hs.refl h).put a
theorem CJ(h:0 < m)(e:m<=1000000000000000000000)(a:St f s G)(k:∀(r:Int)(G':Hw),0<=r->r < m->Hs f s G G'->Z (.int r) G'):DO [.ref s,.int m] G Z E:=by
 obtain⟨x,b,c,a⟩:=a;exact⟨s,m,x,b,_,rfl,h,by lia,a,λr d h1 h2=>k r _ h1 h2 ⟨⟨d,b,c,Ap⟩,λb g u i=>by rw[A2 g];exact i⟩⟩
theorem Dd(h:G p=some (.lst xs))(b:0<=r)(h1:r <(xs.length:Int)):∃ x∈xs,ixW (.ref p) (.int r) G=some x:=by
 obtain⟨k,rfl⟩:∃ k:Nat,r=(k:Int):=⟨r.toNat,by lia⟩;have a:k < xs.length:=by lia
 refine⟨xs[k],Qd a,?_⟩;rw[F9 h];exact L2.CB (Yp a)
theorem O2(j:m=(xs.length:Int))(i:0 < m)(h1:m<=1000)(a:St f s G)(k:∀ x∈xs,∀ G',Hs f s G G'->Z x G'):xs.length<=sizeLine/\∀ p,G p=none->DO [.ref s,.int m] (L3.put G p (.lst xs)) (λw G'=>Ae ixW (.ref p) w G' Z) E:=by
 refine⟨Ce (by lia),λp b=>?_⟩;have c:=Hs.ne a b;refine CJ i (by lia) (a.put b) λr G' g r1 d=>?_;obtain⟨x,h,e⟩:=Dd (d.2 p c _ Ap) g (by lia);show opt (ixW (.ref p) (.int r) G') _;rw[e,An];exact k x h G' ((Hs.new a b).trans d)
theorem Fv{ss:List Str}(d:m=(ss.length:Int))(g:0 < m)(h1:m<=1000)(a:St f s G)(k:∀ x∈ss,∀ G',Hs f s G G'->Z (.str x) G'):(ss.map W.str).length<=sizeLine/\∀ p,G p=none->DO [.ref s,.int m] (L3.put G p (.lst (ss.map W.str))) (λw G'=>Ae ixW (.ref p) w G' Z) E :=
 O2 (by rw[Yh];exact d) g h1 a λx e G' c=>by
  obtain⟨y,b,rfl⟩:=YC.mp e;exact k y b G' c
def Hk{α:Type}(f:Bool)(A:α->Addr->List W->Hw->Prop)(R:α->Addr->W->Hw->Prop):Spw:=λws G Q _=>∃ a s,A a s ws G/\St f s G/\∀ r G',R a s r G'->Hs f s G G'->Q r G'
theorem Fw{α:Type}{A:α->Addr->List W->Hw->Prop}{R:α->Addr->W->Hw->Prop}:Spw.M (Hk f A R):=(by rintro i G Q e E g h _ ⟨a,s,h1,h2,q⟩;exact⟨a,s,h1,h2,λr c d b=>h _ _ (q r c d b)⟩)
theorem WH(h:G p=some (.lst xs))(h':G q=some (.lst ys))(hl:xs.length+ys.length<=sizeLine)(z:∀ r,G r=none->Q (.ref r) (L3.put G r (.lst (xs++ys)))):Ay (.ref p) (.ref q) G Q:=by
 show Bz (.ref p) (.ref q) G Q;unfold Bz;dsimp only;rw[h,h'];exact⟨hl,z⟩
theorem Fy(h:G p=some (.lst xs))(h':G q=some (.lst ys))(hl:xs.length+ys.length<=100000)(z:∀ r,G r=none->Q (.ref r) (L3.put G r (.lst (xs++ys)))):Ay (.ref p) (.ref q) G Q:=WH h h' (Ce hl) z
theorem WI{Au:GS}(a:St f s G)(c:∀ Z:List W->Hw->Prop,Z xs G->gs ω G Z)(hl:xs.length<=100)(z:∀ p G',Hs f s G G'->p≠s->G' p=some (.lst xs)->Au D (ω.set i (some (.ref p))) G'):Af (Aq i (Av gs)) Au D ω G :=
 Bd (c _ ⟨Ce (by lia),λp b=>z p _ (Hs.new a b) (Hs.ne a b) Ap⟩)
theorem IQ{Au:GS}(c:Hs f s d G)(hi:ω[i]?=some (some (.ref p)))(g:G p=some (.lst xs))(h:∀ Z:List W->Hw->Prop,Z ys G->gs ω G Z)(hl:xs.length+ys.length<=100)(z:∀ b G',Hs f s d G'->b≠s->G' b=some (.lst (xs++ys))->Au D (ω.set i (some (.ref b))) G'):Af (Aq i (Ad Ay (Ab i) (Av gs))) Au D ω G:=by
 refine Bd ?_;simp only[Ad,Ab,hi];refine h _ ⟨Ce (by lia),λp2 a=>?_⟩;refine Fy (AE a _ _ g) Ap (by lia) λr e=>?_;exact z r _ ((c.put a).put e) (Hs.ne (c.1.put a) e) Ap
def kdl:List Kd:=[.num,.num,.truth,.any,.box .num,.box .any,.to .num .num,.to .any .num,.row (.cons "a" true .num .nil) false,.row (.cons "a" false .num (.cons "b" true .num .nil)) false,.row .nil true,.row (.cons "a" true .truth .nil) true,.to (.to .num .num) .num,.to .num (.to .num .num),.box (.to .num .num),.row (.cons "a" true (.to .num .num) (.cons "b" false .num .nil)) true,.row (.cons "b" false .any .nil) false,.to (.row .nil true) .any]
abbrev KOk(k:Kd):Prop:=k.ok=true/\BP k=true
theorem nM:∀ k∈kdl,KOk k:=by
 have h:(kdl.all λk=>k.ok&&BP k)=true:=by decide +kernel
 intro k a;have:=List.all_eq_true.mp h k a;simp only[YG]at this;exact this
set_option hygiene false in
local macro_rules | `(tactic| walk_at "cl") => `(tactic| (simp only [Ao, gC, Aa, Ac, Ab, Yb, Yc, Yk, Yl]; repeat (first | exact z | refine ⟨sz rfl, ?_⟩)))
abbrev nN(f:Bool):Spw:=Hk f (λ(_:Unit)s ws _=>ws=[.ref s]) λ_ _ r _=>∃ k:Kd,r=k.enc/\KOk k
theorem Fq(T:Tx K mg base a):Df P w K mg base "_law_told_kind" 2 1 (nN f):=by
 refine mk0 (k:=1) T.kD rfl Wq Fw (λws G Q E⟨_,s,e,_⟩=>by rw[e];rfl) (nv T (Bh T) (Yr _)) λws G Q E hC q=>?_;obtain⟨_,s,rfl,hs,q⟩:=q;unfold Wr;show Af (Aq 1 _) _ (Ax Q) [some (.ref s),none,none,none] G;refine Bd ⟨by decide,?_⟩;refine Bd ⟨by decide,?_⟩;refine WI (xs:=(kdl.take 8).map Kd.enc) hs (λZ z=>by walk_at "cl") (by decide) λp G h hne hp=>?_;refine IQ (ys:=((kdl.drop 8).take 2).map Kd.enc) h rfl hp (λZ z=>by walk_at "cl") (by decide) λp G h hne hp=>?_;refine IQ (ys:=((kdl.drop 10).take 3).map Kd.enc) h rfl hp (λZ z=>by walk_at "cl") (by decide) λp G h hne hp=>?_;refine IQ (ys:=((kdl.drop 13).take 3).map Kd.enc) h rfl hp (λZ z=>by walk_at "cl") (by decide) λp G h hne hp=>?_;refine IQ (ys:=((kdl.drop 16).take 2).map Kd.enc) h rfl hp (λZ z=>by walk_at "cl") (by decide) λp G h hne hp=>?_;have hp:G p=some (.lst (kdl.map Kd.enc)):=hp;simp only[Ai,Ad,Ah,Aa,Ac,Ab,gC,Yk,Yl,Yb,Yc];refine CJ (by decide) (by decide) h.1 λr G2 r0 r1 h2=>?_;obtain⟨x,hx,e⟩:=Dd (h2.2 p hne _ hp) r0 (by rw[Yh];exact r1);show opt (ixW (.ref p) (.int r) G2) _;rw[e,An];obtain⟨k,hk,rfl⟩:=YC.mp hx;exact q _ _ ⟨k,rfl,nM k hk⟩ (h.trans h2)
set_option hygiene false in
set_option hygiene false in
set_option hygiene false in
set_option hygiene false in
set_option hygiene false in
abbrev WJ:List Str:=["state","want","number","some"]
theorem K3:Az WJ ["state","want"] (Ak NT):=by walk_at "s"
def WK(AG:Spw):GS:=(Af (Aq 2 (Ad (Cr) (Ad (Ae ixW) (Av (Aa (gC (.int 1)) (Aa (D4 (gC (.int 1))) Ac))) (Ah AG XF (Aa (Ab 0) (Aa (gC (.int 2)) Ac)))) (Ah AG XF (Aa (Ab 0) (Aa (Ad (Ae ixW) (Av (Aa (gC (.int 9)) (Aa (Ad (AI GL λi j=>i ^ j.toNat) (gC (.int 10)) (gC (.int 20))) Ac))) (Ad (AI FO λi j=>i / j) (Ah AG XF (Aa (Ab 0) (Aa (gC (.int 9)) Ac))) (gC (.int 8)))) Ac))))) (Af (Aq 3 (Ex ["num","truth","row"] (Aa (Ao (Aa (gC (.str "num")) (Aa (Ab 2) Ac))) (Aa (Ao (Aa (gC (.str "truth")) (Aa (Ad (Ae (eqF false)) (Ah AG XF (Aa (Ab 0) (Aa (gC (.int 2)) Ac))) (gC (.int 1))) Ac))) (Aa (Ao (Aa (gC (.str "rec")) (Aa (Ao Ac) Ac))) Ac))))) (Af (AC (gMt M3 S3 (Ab 3) (Aa (Ex ["box","to"] (Aa (Ao (Aa (gC (.str "new")) (Aa (Ao (Aa (gC (.str "num")) (Aa (Ab 2) Ac))) Ac))) (Aa (Ao (Aa (gC (.str "fun")) (Aa (gC (.str "x")) (Aa (Ao (Aa (gC (.str "num")) Ac)) (Aa (Ao (Aa (gC (.str "name")) (Aa (gC (.str "x")) Ac))) Ac))))) Ac))) Ac))) (Ai (Ad (Ae ixK) (Ab 3) (Ab 1))))))
theorem nO(T:Tx K mg base a){Bh:Nat}(Gq:Df P w K mg base "_law_choice" Bh 2 AG)(Gr:Bh<=k):Dn P w K mg base WJ "_law_leaf" NT k (WK AG):=λ{f cdv A outer s H E}hr=>
 have hu:=AM hr
 have hN:=K3.nd
 (Aw (BW (i:=2) K3.nd rfl rfl rfl (Sr (JD (λ_ _=>rfl) (MA (AT rfl E2 (AT rfl (Na E2) Bk))) (by walk_at "v")) (by walk_at "v"))) (Aw (BW (i:=3) K3.nd rfl rfl rfl (Nf (ks:=["num","truth","row"]) (by rfl) (by intro h;cases h) (by exact(by decide:3<=15)) (by decide) (F6 (by walk_at "v") (F6 (by walk_at "v") (F6 (by walk_at "v") Nd))))) (Aw (B2 rfl (CN S4 rfl rfl rfl rfl rfl (by walk_at "v") (AT rfl (Nf (ks:=["box","to"]) (by rfl) (by intro h;cases h) (by exact(by decide:2<=15)) (by decide) (F6 (by walk_at "v") (F6 (by walk_at "v") Nd))) Bk))) (by walk_at "v"))))
abbrev WL:List Str:=["state","deep","names","head","want","known","some","found"]
theorem O3:Az WL ["state","deep","names","head","want"] (Ak JV):=by walk_at "s"
def WM(AG:Spw)(EN:Spw)(EM:Spw)(A1:Spw):GS:=(Af (Aq 5 (Cc (DC (Ab 2)) 2 [3] (Bi 0 1) (gTB (Ad (Ae (inF false)) (Ab 1) (Av (Aa (Ab 2) (Aa (gC (.str "any")) Ac))))) (Ab 0))) (Af (gIf (Bp (gTB (Ad (Ae (eqF true)) (Ab 5) (Av Ac))) (gTB (Ad (A0 λi j=>decide (j < i)) (Ah AG XF (Aa (Ab 0) (Aa (gC (.int 3)) Ac))) (gC (.int 0))))) (Aq 7 (Ao (Aa (gC (.str "name")) (Aa (Ad (Ae ixW) (Ab 5) (Ah AG XF (Aa (Ab 0) (Aa (gB (rF AL) (Aa (Ab 5) Ac)) Ac)))) Ac)))) (gIf (gTB (Ad (Ae (eqF false)) (Ab 3) (gC (.str "to")))) (Aq 7 (Ah EN XF (Aa (Ab 0) (Aa (Ab 1) (Aa (Ab 2) (Aa (Ab 4) Ac)))))) (gIf (gTB (Ad (Ae (eqF false)) (Ab 3) (gC (.str "row")))) (Aq 7 (Ah EM XF (Aa (Ab 0) (Aa (Ab 1) (Aa (Ab 2) (Aa (Ab 4) Ac)))))) (Aq 7 (Ao (Aa (gC (.str "new")) (Aa (Ah A1 XF (Aa (Ab 0) (Aa (Ad (AI (λ_ _=>True) λi j=>i - j) (Ab 1) (gC (.int 1))) (Aa (Ab 2) (Aa (Ab 4) Ac))))) Ac))))))) (Af (Aq 6 (Av (Aa (Ao (Aa (gC (.str "any")) Ac)) (Aa (Ao (Aa (gC (.str "any")) Ac)) Ac)))) (Af (gIf (gTB (Ad (Ae (eqF false)) (Ab 3) (gC (.str "row")))) (Af (Aq 6 (Ad (Ay) (Ab 6) (Av (Aa (Ao (Aa (gC (.str "row")) (Aa (Ao Ac) (Aa (gC (.bl true)) Ac)))) (Aa (Ao (Aa (gC (.str "row")) (Aa (Ao (Aa (Ao (Aa (gC (.str "b")) (Aa (gC (.str "must")) (Aa (Ao (Aa (gC (.str "num")) Ac)) Ac)))) Ac)) (Aa (gC (.bl true)) Ac)))) Ac))))) (Aq 6 (Ad (Ay) (Ab 6) (Av (Aa (Ao (Aa (gC (.str "row")) (Aa (Ao (Aa (Ao (Aa (gC (.str "a")) (Aa (gC (.str "may")) (Aa (Ao (Aa (gC (.str "any")) Ac)) Ac)))) Ac)) (Aa (gC (.bl true)) Ac)))) (Aa (Ao (Aa (gC (.str "row")) (Aa (Ao (Aa (Ao (Aa (gC (.str "ab")) (Aa (gC (.str "may")) (Aa (Ao (Aa (gC (.str "num")) Ac)) Ac)))) Ac)) (Aa (gC (.bl true)) Ac)))) Ac)))))) Aj) (Af (gIf (gTB (Ad (Ae (eqF false)) (Ah AG XF (Aa (Ab 0) (Aa (gC (.int 4)) Ac))) (gC (.int 1)))) (Aq 7 (Ao (Aa (gC (.str "as")) (Aa (Ab 7) (Aa (Ad (Ae ixW) (Ab 6) (Ah AG XF (Aa (Ab 0) (Aa (gB (rF AL) (Aa (Ab 6) Ac)) Ac)))) Ac))))) Aj) (Ai (Ab 7)))))))
theorem nP(T:Tx K mg base a){Bh:Nat}(Gq:Df P w K mg base "_law_choice" Bh 2 AG)(Gr:Bh<=k)(nE:Df P w K mg base "_law_function" Fu 4 EN)(nF:Fu<=k)(nC:Df P w K mg base "_law_record" Ft 4 EM)(nD:Ft<=k)(IN:Df P w K mg base "_law_term" B0 4 A1)(IP:B0<=k):Dn P w K mg base WL "_law_first" JV k (WM AG EN EM A1):=λ{f cdv A outer s H E}hr=>
 have hu:=AM hr
 have hN:=O3.nd
 (Aw (M1 (i:=5) O3.nd rfl rfl rfl rfl (HU (own:=["name","there"]) (fr:=["head"]) (js:=[3]) (scX:=Ak JV) (n:=s.heap.objs.size+1) rfl (by decide +kernel) (by decide +kernel) (by decide +kernel) (by decide +kernel) rfl rfl rfl (by decide +kernel) rfl) (λ_=>rfl) (by walk_at "v") (R4 (i:=0) (j:=1) rfl (by decide) rfl rfl rfl rfl) (λC fp s1 H1=>(by walk_at "v")) (λC fp s1 H1=>(by walk_at "v"))) (by walk_at "v"))
abbrev WN:List Str:=["state","deep","names","want","pick","known","one","wanted","first","head"]
theorem O4:Az WN ["state","deep","names","want"] (Ak JW):=by walk_at "s"
def WO(AG:Spw)(K4:Spw)(K5:Spw)(Gs:Spw)(A1:Spw)(EL:Spw):GS:=(Af (Ck (Ad (AI (λ_ _=>True) λi j=>i - j) (Ad (Ae ixW) (Ab 0) (gC (.int 2))) (gC (.int 1))) (Ab 0) (gC (.int 2))) (Af (gIf (gOr (gTB (Ad (Ae (eqF false)) (Ab 3) (gC (.str "any")))) (gTB (Ad (Ae (eqF false)) (Ah AG XF (Aa (Ab 0) (Aa (gC (.int 30)) Ac))) (gC (.int 1))))) (Aq 3 (Ad (Ae ixW) (Av (Aa (gC (.str "num")) (Aa (gC (.str "truth")) (Aa (gC (.str "row")) (Aa (gC (.str "box")) (Aa (gC (.str "to")) Ac)))))) (Ah AG XF (Aa (Ab 0) (Aa (gC (.int 5)) Ac))))) Aj) (Af (Aq 4 (Ah AG XF (Aa (Ab 0) (Aa (gC (.int 10)) Ac)))) (Af (Aq 5 (Cc (DC (Ab 2)) 2 [3] (Bi 0 1) (gTB (Ad (Ae (inF false)) (Ab 1) (Av (Aa (Ab 2) (Aa (gC (.str "any")) Ac))))) (Ab 0))) (Af (gIf (Bp (gTB (Ad (Ae (eqF false)) (Ab 4) (gC (.int 0)))) (gTB (Ad (Ae (eqF true)) (Ab 5) (Av Ac)))) (Ai (Ao (Aa (gC (.str "name")) (Aa (Ad (Ae ixW) (Ad (Ay) (Ab 5) (Av (Aa (gC (.str "z")) Ac))) (Ad (AI FO λi j=>i / j) (Ah AG XF (Aa (Ab 0) (Aa (Ad (Ay) (Ad (Cr) (gC (.int 8)) (gB (rF AL) (Aa (Ab 5) Ac))) (gC (.int 1))) Ac))) (gC (.int 8)))) Ac)))) Aj) (Af (gIf (gOr (gTB (Ad (AU (λi j=>decide (i < j)) AS) (Ab 1) (gC (.int 3)))) (gTB (Ad (AU (λi j=>decide (i < j)) AS) (Ad (Ae ixW) (Ab 0) (gC (.int 2))) (gC (.int 4))))) (Ai (Ah K4 XF (Aa (Ab 0) (Aa (Ab 3) Ac)))) Aj) (Af (gIf (gTB (Ad (AU (λi j=>decide (i < j)) AS) (Ab 4) (gC (.int 3)))) (Ai (Ah K5 XF (Aa (Ab 0) (Aa (Ab 1) (Aa (Ab 2) (Aa (Ab 3) Ac)))))) Aj) (Af (gIf (gTB (Ad (Ae (inF false)) (Ab 4) (Av (Aa (gC (.int 4)) (Aa (gC (.int 9)) Ac))))) (Af (Aq 8 (Ah Gs XF (Aa (Ab 0) (Aa (Ab 1) (Aa (Ab 2) (Aa (gC (.str "to")) (Aa (Ab 3) Ac))))))) (Af (Aq 9 (Ad (Ae ixW) (Av (Aa (gC (.str "num")) (Aa (gC (.str "to")) (Aa (gC (.str "row")) (Aa (gC (.str "box")) Ac))))) (Ah AG XF (Aa (Ab 0) (Aa (gC (.int 4)) Ac))))) (Af (gIf (gTB (Ad (Ae (eqF false)) (Ad (Ae ixW) (Ab 8) (gC (.int 0))) (gC (.str "fun")))) (Aq 9 (Ad (Ae ixW) (Ad (Ae ixW) (Ab 8) (gC (.int 2))) (gC (.int 0)))) Aj) (Ai (Ao (Aa (gC (.str "call")) (Aa (Ab 8) (Aa (Ah A1 XF (Aa (Ab 0) (Aa (Ad (AI (λ_ _=>True) λi j=>i - j) (Ab 1) (gC (.int 1))) (Aa (Ab 2) (Aa (Ab 9) Ac))))) Ac)))))))) Aj) (Af (gIf (gTB (Ad (Ae (eqF false)) (Ab 4) (gC (.int 5)))) (Ai (Ao (Aa (gC (.str "get")) (Aa (Ah Gs XF (Aa (Ab 0) (Aa (Ab 1) (Aa (Ab 2) (Aa (gC (.str "row")) (Aa (Ab 3) Ac)))))) (Aa (Ad (Ae ixW) (Av (Aa (gC (.str "a")) (Aa (gC (.str "a")) (Aa (gC (.str "b")) (Aa (gC (.str "ab")) Ac))))) (Ah AG XF (Aa (Ab 0) (Aa (gC (.int 4)) Ac)))) Ac))))) Aj) (Af (Aq 6 (Ah A1 XF (Aa (Ab 0) (Aa (Ad (AI (λ_ _=>True) λi j=>i - j) (Ab 1) (gC (.int 1))) (Aa (Ab 2) (Aa (Ab 3) Ac)))))) (Af (gIf (gTB (Ad (Ae (eqF false)) (Ab 4) (gC (.int 3)))) (Ai (Ao (Aa (gC (.str "if")) (Aa (Ah A1 XF (Aa (Ab 0) (Aa (Ad (AI (λ_ _=>True) λi j=>i - j) (Ab 1) (gC (.int 1))) (Aa (Ab 2) (Aa (gC (.str "truth")) Ac))))) (Aa (Ab 6) (Aa (Ah A1 XF (Aa (Ab 0) (Aa (Ad (AI (λ_ _=>True) λi j=>i - j) (Ab 1) (gC (.int 1))) (Aa (Ab 2) (Aa (Ab 3) Ac))))) Ac)))))) Aj) (Af (gIf (gTB (Ad (Ae (eqF false)) (Ab 4) (gC (.int 6)))) (Ai (Ao (Aa (gC (.str "or")) (Aa (Ah Gs XF (Aa (Ab 0) (Aa (Ad (AI (λ_ _=>True) λi j=>i - j) (Ab 1) (gC (.int 1))) (Aa (Ab 2) (Aa (gC (.str "row")) (Aa (Ab 3) Ac)))))) (Aa (Ad (Ae ixW) (Av (Aa (gC (.str "a")) (Aa (gC (.str "b")) (Aa (gC (.str "c")) Ac)))) (Ah AG XF (Aa (Ab 0) (Aa (gC (.int 3)) Ac)))) (Aa (Ab 6) Ac)))))) Aj) (Af (gIf (gTB (Ad (Ae (eqF false)) (Ab 4) (gC (.int 7)))) (Af (Aq 8 (Ah Gs XF (Aa (Ab 0) (Aa (Ab 1) (Aa (Ab 2) (Aa (gC (.str "box")) (Aa (Ab 3) Ac))))))) (Ai (Ad (Ae ixW) (Av (Aa (Ao (Aa (gC (.str "read")) (Aa (Ab 8) Ac))) (Aa (Ao (Aa (gC (.str "write")) (Aa (Ab 8) (Aa (Ab 6) Ac)))) Ac))) (Ah AG XF (Aa (Ab 0) (Aa (gC (.int 2)) Ac)))))) Aj) (Af (Aq 7 (Av (Aa (Ao (Aa (gC (.str "as")) (Aa (Ab 6) (Aa (Ao (Aa (gC (.str "any")) Ac)) Ac)))) (Aa (Ao (Aa (gC (.str "as")) (Aa (Ao (Aa (gC (.str "as")) (Aa (Ab 6) (Aa (Ao (Aa (gC (.str "any")) Ac)) Ac)))) (Aa (Ah EL XF (Aa (Ab 0) Ac)) Ac)))) Ac)))) (Ai (Ad (Ae ixW) (Ab 7) (Ah AG XF (Aa (Ab 0) (Aa (gC (.int 2)) Ac)))))))))))))))))))
theorem nQ(T:Tx K mg base a){Bh:Nat}(Gq:Df P w K mg base "_law_choice" Bh 2 AG)(Gr:Bh<=k)(tH:Df P w K mg base "_law_leaf" K6 2 K4)(tI:K6<=k)(tJ:Df P w K mg base "_law_made" K7 4 K5)(tK:K7<=k)(tL:Df P w K mg base "_law_first" K8 5 Gs)(tM:K8<=k)(IN:Df P w K mg base "_law_term" B0 4 A1)(IP:B0<=k){Fq:Nat}(ny:Df P w K mg base "_law_told_kind" Fq 1 EL)(nz:Fq<=k):Dn P w K mg base WN "_law_term" JW k (WO AG K4 K5 Gs A1 EL):=λ{f cdv A outer s H E}hr=>
 have hu:=AM hr
 have hN:=O4.nd
 (Aw (by walk_at "v") (Aw (by walk_at "v") (Aw (by walk_at "v") (Aw (M1 (i:=5) O4.nd rfl rfl rfl rfl (HU (own:=["name","head"]) (fr:=["want"]) (js:=[3]) (scX:=Ak JW) (n:=s.heap.objs.size+1) rfl (by decide +kernel) (by decide +kernel) (by decide +kernel) (by decide +kernel) rfl rfl rfl (by decide +kernel) rfl) (λ_=>rfl) (by walk_at "v") (R4 (i:=0) (j:=1) rfl (by decide) rfl rfl rfl rfl) (λC fp s1 H1=>(by walk_at "v")) (λC fp s1 H1=>(by walk_at "v"))) (by walk_at "v")))))
def TmB(c d:Nat)(t:Te):Prop:=t.ok=true/\t.cnt<=c/\t.dp<=d
theorem TmB.mono{a:Nat}(h:TmB c d t)(hc:c<=a)(hd:d<=d'):TmB a d' t:=⟨h.1,Yt h.2.1 hc,Yt h.2.2 hd⟩
theorem DP{w:Str}(h:KTD.datumAt w AK=some r.sorts)(h2:r.ok=true):(Te.nd w r).ok=true:=by
 show(decide (KTD.datumAt w AK=some r.sorts)&&r.ok)=true;rw[YH h,h2];rfl
theorem O5(h:TmB c d t)(a:KOk k):TmB (c+1) (d+1) (.nd "as" (.trm t (.knd k .nil))):=by
 obtain⟨h1,h2,b⟩:=h;refine⟨DP (show KTD.datumAt ("as":Str) AK=some [("term":Str),"kind"] by decide +kernel) ?_,?_,?_⟩
 ·show(t.ok&&((k.ok&&BP k)&&true))=true;rw[h1,a.1,a.2];rfl
 ·show 1+(t.cnt+0)<=_;lia
 ·show 1+max t.dp 0<=_;lia
theorem O6{w:Str}{a:Nat}(hw:KTD.datumAt w AK=some [("term":Str),"term"])(h:TmB a d t)(h':TmB b d u):TmB (a+b+1) (d+1) (.nd w (.trm t (.trm u .nil))):=by
 obtain⟨h1,h2,c⟩:=h;obtain⟨g1,g2,g3⟩:=h';refine⟨DP hw ?_,?_,?_⟩
 ·show(t.ok&&(u.ok&&true))=true;rw[h1,g1];rfl
 ·show 1+(t.cnt+(u.cnt+0))<=_;lia
 ·show 1+max t.dp (max u.dp 0)<=_;lia
theorem K9{w:Str}(hw:KTD.datumAt w AK=some [("term":Str)])(h:TmB c d t):TmB (c+1) (d+1) (.nd w (.trm t .nil)):=by
 obtain⟨h1,h2,a⟩:=h;refine⟨DP hw ?_,?_,?_⟩
 ·show(t.ok&&true)=true;rw[h1];rfl
 ·show 1+(t.cnt+0)<=_;lia
 ·show 1+max t.dp 0<=_;lia
theorem nR(h:TmB c d t)(a:AA x=true):TmB (c+1) (d+1) (.nd "get" (.trm t (.nam x .nil))):=by
 obtain⟨h1,h2,b⟩:=h;refine⟨DP (show KTD.datumAt ("get":Str) AK=some [("term":Str),"name"] by decide +kernel) ?_,?_,?_⟩
 ·show(t.ok&&(AA x&&true))=true;rw[h1,a];rfl
 ·show 1+(t.cnt+0)<=_;lia
 ·show 1+max t.dp 0<=_;lia
theorem nS{a:Nat}(h:TmB a d t)(c:AA x=true)(h':TmB b d u):TmB (a+b+1) (d+1) (.nd "or" (.trm t (.nam x (.trm u .nil)))):=by
 obtain⟨h1,h2,e⟩:=h;obtain⟨g1,g2,g3⟩:=h';refine⟨DP (show KTD.datumAt ("or":Str) AK=some [("term":Str),"name","term"] by decide +kernel) ?_,?_,?_⟩
 ·show(t.ok&&(AA x&&(u.ok&&true)))=true;rw[h1,c,g1];rfl
 ·show 1+(t.cnt+(u.cnt+0))<=_;lia
 ·show 1+max t.dp (max u.dp 0)<=_;lia
theorem nT(h:TmB c d t)(h':TmB c d u)(a:TmB c d v):TmB (3*c+1) (d+1) (.nd "if" (.trm t (.trm u (.trm v .nil)))):=by
 obtain⟨h1,h2,e⟩:=h;obtain⟨g1,g2,g3⟩:=h';obtain⟨b,f,g⟩:=a;refine⟨DP (show KTD.datumAt ("if":Str) AK=some [("term":Str),"term","term"] by decide +kernel) ?_,?_,?_⟩
 ·show(t.ok&&(u.ok&&(v.ok&&true)))=true;rw[h1,g1,b];rfl
 ·show 1+(t.cnt+(u.cnt+(v.cnt+0)))<=_;lia
 ·show 1+max t.dp (max u.dp (max v.dp 0))<=_;lia
theorem WP(b:AA x=true)(a:KOk k)(h:TmB c d t):TmB (c+1) (d+1) (.nd "fun" (.nam x (.knd k (.trm t .nil)))):=by
 obtain⟨h1,h2,e⟩:=h;refine⟨DP (show KTD.datumAt ("fun":Str) AK=some [("name":Str),"kind","term"] by decide +kernel) ?_,?_,?_⟩
 ·show(AA x&&((k.ok&&BP k)&&(t.ok&&true)))=true;rw[h1,b,a.1,a.2];rfl
 ·show 1+(t.cnt+0)<=_;lia
 ·show 1+max t.dp 0<=_;lia
theorem O7(a:AA x=true):TmB 1 1 (.nd "name" (.nam x .nil)):=by
 refine⟨DP (show KTD.datumAt ("name":Str) AK=some [("name":Str)] by decide +kernel) ?_,Yr 1,Yr 1⟩;show(AA x&&true)=true;rw[a];rfl
theorem nU(b:Bool):TmB 1 1 (.nd "truth" (.tru b .nil)):=⟨DP (show KTD.datumAt ("truth":Str) AK=some [("truth":Str)] by decide +kernel) rfl,Yr 1,Yr 1⟩
theorem O8(l:List Str)(s:Str)(h:G p=some (.lst xs))(e:xs=l.map W.str):inF false (.str s) (.ref p) G=some (.bl (l.any (·==s))):=by
 unfold inF;show(DZ G (.ref p)).bind _=_;rw[Ni h,e];show((FX (l.map W.str)).map _)=_;rw[S7];show some (W.bl (inV (.str s) (l.map V.str)))=_;rw[S8]
variable {s p:Addr}{G:Hw}{n d:Nat}
theorem nV(h:-NB<=i/\i<=NB):TmB 1 1 (.nd "num" (.num i .nil)):=by
 refine⟨DP (show KTD.datumAt ("num":Str) AK=some [("number":Str)] by decide +kernel) ?_,Yr 1,Yr 1⟩;show(decide (-NB<=i/\i<=NB)&&true)=true;rw[YH h];rfl
theorem WQ{f:Fl}(h1:By f.names=true)(h2:f.ok=true)(hc:f.cnt<=c)(hd:f.dp<=d):TmB (c+1) (d+1) (.nd "rec" (.fld f .nil)):=by
 refine⟨DP (show KTD.datumAt ("rec":Str) AK=some [("fields":Str)] by decide +kernel) ?_,?_,?_⟩
 ·show((By f.names&&f.ok)&&true)=true;rw[h1,h2];rfl
 ·show 1+(f.cnt+0)<=_;lia
 ·show 1+max f.dp 0<=_;lia
abbrev La(x:Str×Str):W:=.tup [.str x.1,.str x.2]
def NL(s:Addr)(G:Hw)(p:Addr)(ns:List (Str×Str))(d:Nat):Prop:=p≠s/\G p=some (.lst (ns.map La))/\(∀ x∈ns,AA x.1=true)/\ns.length+d<=12
theorem NL.keep(h:NL s G p ns d)(a:Hs true s G G1):NL s G1 p ns d:=⟨h.1,a.2 _ h.1 _ h.2.1,h.2.2⟩
theorem NL.less(h:NL s G p ns d)(a:e<=d):NL s G p ns e:=⟨h.1,h.2.1,h.2.2.1,by have:=h.2.2.2;lia⟩
def bc:Nat->Nat
 | 0=>2
 | n+1=>4*bc n+3
theorem bc2:∀ n,2<=bc n
 | 0=>Yr _
 | n+1=>by show 2<=4*bc n+3;lia
abbrev TO(d:Nat)(t:Te):Prop:=TmB (bc d) (2+3*d) t
def HD6:List Str:=["num","truth","row","box","to","any"]
abbrev Ar:Type:=Nat×List (Str×Str)×Addr×Str
abbrev A4(n:Nat)(x:Ar)(s:Addr)(ws:List W)(G:Hw):Prop:=ws=[.ref s,.int (x.1:Nat),.ref x.2.2.1,.str x.2.2.2]/\x.1 < n/\NL s G x.2.2.1 x.2.1 x.1/\x.2.2.2∈HD6
abbrev DQ(n:Nat):Spw:=Hk true (A4 n) λx _ r _=>∃ t:Te,r=t.enc/\TO x.1 t
abbrev Lb(n:Nat)(c:Nat->Nat):Spw:=Hk true (λx s ws G=>A4 (n+1) x s ws G/\1<=x.1) λx _ r _=>∃ t:Te,r=t.enc/\TmB (c (bc (x.1 - 1))) (3*x.1) t
abbrev O9(n:Nat):Spw:=Hk true (λ(x:Ar×Str)s ws G=>ws=[.ref s,.int (x.1.1:Nat),.ref x.1.2.2.1,.str x.2,.str x.1.2.2.2]/\(x.1.1 < n+1/\NL s G x.1.2.2.1 x.1.2.1 x.1.1/\x.1.2.2.2∈HD6)/\1<=x.1.1/\x.2∈(["to","row","box"]:List Str)) λx _ r _=>∃ t:Te,r=t.enc/\TmB (3*bc (x.1.1 - 1)+2) (3*x.1.1+1) t
theorem EO{w:Str}(hi:i=((d:Nat):Int))(hd:d < n)(a:St true s G)(b:NL s G pn ns d)(hw:w∈HD6)(k:∀ t G',TO d t->Hs true s G G'->Z t.enc G'):DQ n [.ref s,.int i,.ref pn,.str w] G Z E:=by
 subst hi;exact⟨(d,ns,pn,w),s,⟨rfl,hd,b,hw⟩,a,λr G'⟨t,e,c⟩h=>by rw[e];exact k t G' c h⟩
theorem IR{w:Str}(hd:d+1 < n+1)(a:St true s G)(b:NL s G pn ns (d+1))(hw:w∈HD6)(k:∀ t G',TmB (c (bc d)) (3*(d+1)) t->Hs true s G G'->Z t.enc G'):Lb n c [.ref s,.int ((d+1:Nat):Int),.ref pn,.str w] G Z E :=
 ⟨(d+1,ns,pn,w),s,⟨⟨rfl,hd,b,hw⟩,by show 1<=d+1;lia⟩,a,λr G'⟨t,e,f⟩h=>by rw[e];exact k t G' f h⟩
theorem WR(k:Kd)(G:Hw):ixW k.enc (.int 0) G=some (.str k.hd):=by
 obtain⟨xs,e⟩:=lz k;rw[e];exact Bx
theorem nW(k:Kd):k.hd∈HD6:=by
 cases k with
 | any=>exact(by decide +kernel:("any":Str)∈HD6)
 | num=>exact(by decide +kernel:("num":Str)∈HD6)
 | truth=>exact(by decide +kernel:("truth":Str)∈HD6)
 | to x y=>exact(by decide +kernel:("to":Str)∈HD6)
 | box x=>exact(by decide +kernel:("box":Str)∈HD6)
 | row fs o=>exact(by decide +kernel:("row":Str)∈HD6)
set_option hygiene false in
local macro_rules | `(tactic| walk_at "sm") => `(tactic| try simp only [Ai, Ad, Av, Ao, Ah, Aa, Ac, Ab, gC, Yk, Yl, Yb, Yc])
theorem Gu(d:Nat):(((d+1:Nat):Int) - 1)=((d:Nat):Int):=by lia
theorem Fu(T:Tx K mg base a)(hk:2<=k)(D:Df P w K mg base "_law_term" k 4 (DQ n)):Df P w K mg base "_law_function" (k+1) 4 (Lb n λc=>c+1):=by
 refine mk0 T.kE rfl Wt Fw (by rintro ws G Q E ⟨_,s,⟨⟨e,_⟩,_⟩,_⟩;rw[e];rfl) (nw T (Bh T) (by lia) (Fq T (f:=true)) hk D (Yr _)) λws G Q E hC q=>?_;obtain⟨⟨d,ns,pn,wn⟩,s,⟨⟨rfl,hd,hn,hw⟩,h1⟩,hs,q⟩:=q;obtain⟨d,rfl⟩:∃ e,d=e+1:=⟨d - 1,by lia⟩;dsimp only at hd hn hw q;unfold Wu;show Af (Aq 4 _) _ (Ax Q) [some (.ref s),some (.int ((d+1:Nat):Int)),some (.ref pn),some (.str wn),none,none] G;refine Bd ?_;walk_at "sm";refine Fv (ss:=["x","y","xy"]) rfl (by decide) (by decide) hs λnm hnm G1 h1=>?_;refine Bd ?_;walk_at "sm";refine⟨(),s,rfl,h1.1,λr G2⟨k,e,hk⟩h2=>?_⟩;subst e;have h2:=h1.trans h2;walk_at "sm"
 have okn:AA nm=true:=by
  have:(["x","y","xy"]:List Str).all AA=true:=by decide +kernel
  exact List.all_eq_true.mp this nm hnm
 refine⟨trivial,?_⟩;simp only[Ae,WR,An];refine⟨sz rfl,sz rfl,λp2 hp2=>?_⟩;have hn2:=hn.keep h2;refine Fy (AE hp2 _ _ hn2.2.1) Ap (by rw[Yh];have:=hn2.2.2.2;simp only[Yg,Yi];lia) λp3 hp3=>?_;have h3:=(h2.put (o:=.lst [.tup [.str nm,.str k.hd]]) hp2).put (o:=.lst (ns.map La++[.tup [.str nm,.str k.hd]])) hp3;refine EO (d:=d) (ns:=ns++[(nm,k.hd)]) (Gu d) (by lia) h3.1 ⟨Hs.ne (h2.1.put hp2) hp3,by rw[Ap,Yy];rfl,λx hx=>?_,?_⟩ hw λt G4 ht h4=>?_
 ·rcases Yz.mp hx with hx | hx
  ·exact hn.2.2.1 x hx
  ·rw[YA.mp hx];exact okn
 ·rw[Yj];have:=hn.2.2.2;simp only[Yg,Yi];lia
 ·exact⟨sz rfl,q _ _ ⟨_,rfl,(WP okn hk ht).mono (by show bc d+1<=bc (d+1 - 1)+1;rw[Nat.add_sub_cancel];exact Yr _) (by lia)⟩ (h3.trans h4)⟩
theorem nX{α:Type}(xs:List α)(i:Nat):Cm xs (some (i:Int)) none=xs.drop i:=by
 unfold Cm;rw[HT.sIx_none,HT.sIx_nat];rcases Nat.le_total i xs.length with h | h
 ·rw[Nat.min_eq_left h];exact List.take_of_length_le (by rw[List.length_drop];exact Yr _)
 ·rw[Nat.min_eq_right h,List.drop_of_length_le (Yr _),List.drop_of_length_le h];simp
theorem Hs.set(h:Hs f s G G1)(i:G p=none)(a:p≠s):Hs f s G (L3.put G1 p o):=by
 obtain⟨⟨x,b,c,e⟩,h⟩:=h;exact⟨⟨x,b,c,by rw[A2 (YV a)];exact e⟩,λb g u d=>by rw[A2 (DG d i)];exact h b g u d⟩
theorem Hs.old(h:Hs f s G G1)(b:G1 p=none):p≠s/\G p=none:=by
 have a:=Hs.ne h.1 b;refine⟨a,?_⟩;cases e:G p with
 | none=>rfl
 | some u=>rw[h.2 p a u e]at b;cases b
theorem WS(h:St true s G):∃ c:Int,ixW (.ref s) (.int 2) G=some (.int c):=by
 obtain⟨x,b,c,e⟩:=h;exact⟨c,ix2 e⟩
def BQ:List (Str×Te)->Fl
 | []=>.nil
 | x::l=>.cons x.1 x.2 (BQ l)
abbrev Cg(x:Str×Te):W:=.tup [.str x.1,x.2.enc]
theorem Pa:∀ l:List (Str×Te),(BQ l).enc=l.map Cg
 | []=>rfl
 | x::l=>by show _::(BQ l).enc=_::l.map Cg;rw[Pa l]
theorem WT:∀ l:List (Str×Te),(BQ l).names=l.map (·.1)
 | []=>rfl
 | x::l=>by show _::(BQ l).names=_::l.map (·.1);rw[WT l]
theorem WU:∀ l:List (Str×Te),(∀ x∈l,AA x.1=true/\TmB c e x.2)->(BQ l).ok=true/\(BQ l).cnt<=l.length*c/\(BQ l).dp<=e
 | [],_=>⟨rfl,YU _,YU _⟩
 | x::l,h=>by
  obtain⟨h1,h2,b⟩:=WU l λy a=>h y (Yd _ a);obtain⟨g1,g2,g3,g4⟩:=h x Ye;refine⟨?_,?_,?_⟩
  ·show((AA x.1&&x.2.ok)&&(BQ l).ok)=true;rw[g1,g2,h1];rfl
  ·show x.2.cnt+(BQ l).cnt<=(l.length+1)*c;rw[Nat.add_mul];lia
  ·show max x.2.dp (BQ l).dp<=e;lia
abbrev gRB(n:Nat):GS:=gIf (Bp (gTB (Ad (Ae (eqF false)) (Ah DO XF (Aa (Ab 0) (Aa (gC (.int 3)) Ac))) (gC (.int 0)))) (gTB (Ad (A0 λi j=>decide (j < i)) (Ad (Ae ixW) (Ab 0) (gC (.int 2))) (gC (.int 1))))) (AC (gMt BF BH (Ab 4) (Aa (Ao (Aa (Ab 5) (Aa (Ah (DQ n) XF (Aa (Ab 0) (Aa (Ad (AI (λ_ _=>True) λi j=>i - j) (Ab 1) (gC (.int 1))) (Aa (Ab 2) (Aa (gC (.str "num")) Ac))))) Ac))) Ac))) Aj
theorem Pc{pf:Addr}{w:W}(hd:d < n)(A:NL s y pn ns d)(v:q0≠s)(b:pf≠s)(j:q0≠pf)(f:y pf=none):∀(e:List Str)(l:List (Str×Te))(o:Option W)(G:Hw),Hs true s y G->G q0=some (.lst items)->G pf=some (.lst (l.map Cg))->l.length+e.length<=10->(∀ x∈l,TO d x.2)->
  (∀(i:List (Str×Te))(o':Option W)(G':Hw),Hs true s y G'->G' pf=some (.lst (i.map Cg))->(∀ x∈i,TO d x.2)->(∃ k:List Str,k.Sublist e/\i.map (·.1)=l.map (·.1)++k)->D.nx [some (.ref s),some (.int ((d+1:Nat):Int)),some (.ref pn),some w,some (.ref pf),o'] G')->
  BU (holds q0 items) (gNm 5) (gRB n) D (e.map W.str) [some (.ref s),some (.int ((d+1:Nat):Int)),some (.ref pn),some w,some (.ref pf),o] G
 | [],l,o,G,h,hi,p,_,hl,a=>⟨hi,a l o G h p hl ⟨[],List.Sublist.refl _,by rw[Yx]⟩⟩
 | m::e,l,o,G,h,hi,p,q,hl,a=>by
  rw[Yg]at q;refine⟨hi,?_⟩;show gRB n _ [some (.ref s),some (.int ((d+1:Nat):Int)),some (.ref pn),some w,some (.ref pf),some (.str m)] G;simp only[gRB,gIf,Bp,gTB,Ad,Ae,Ah,Aa,Ac,Ab,gC,Yb,Yc];refine CJ (by decide) (by decide) h.1 λr G1 _ _ h1=>?_;have g:=h.trans h1
  have skip:BU (holds q0 items) (gNm 5) (gRB n) D (e.map W.str) [some (.ref s),some (.int ((d+1:Nat):Int)),some (.ref pn),some w,some (.ref pf),some (.str m)] G1 :=
   Pc hd A v b j f e l _ G1 g (h1.2 _ v _ hi) (h1.2 _ b _ p) (by lia) hl λi o' G' B F z⟨k,b1,b2⟩=>a i o' G' B F z ⟨k,b1.trans (List.sublist_cons_self _ _),b2⟩
  simp only[Cf,An];refine BK (λ_=>?_) (λ_=>?_)
  ·obtain⟨c,hc⟩:=WS h1.1;simp only[hc,An,A0];refine BK (λ_=>?_) (λ_=>skip);simp only[AC,gMt,Ao,Aa,Ac,Ad,Ah,Ab,gC,Yb,Yc];refine⟨DM (h1.2 _ b _ p),trivial,?_⟩;refine EO (d:=d) (Gu d) hd h1.1 (A.keep g) (by decide +kernel) λt G2 H h2=>⟨sz rfl,?_⟩;have E:=g.trans h2;refine Ea (h2.2 _ b _ (h1.2 _ b _ p)) (C9 (by rw[Yh];lia)) ?_;refine Pc hd A v b j f e (l++[(m,t)]) _ _ (E.set f b) (by rw[A2 j];exact h2.2 _ v _ (h1.2 _ v _ hi)) (by rw[Ap,Yy];rfl) (by rw[Yj];simp only[Yg,Yi];lia) (λx u=>?_) λi o' G' B F z⟨k,b1,b2⟩=>a i o' G' B F z ⟨m::k,b1.cons_cons m,by rw[b2,Yy,Yv];rfl⟩;rcases Yz.mp u with u | u
   ·exact hl x u
   ·rw[YA.mp u];exact H
  ·exact skip
theorem nY{a:List Str}(h:a.Sublist ["ab","b"]):∀ j:Nat,j<=1->By ((("a":Str)::a).drop j)=true/\(("a":Str)::a).all AA=true:=by
 have h2:a=[]\/a=[("ab":Str)]\/a=[("b":Str)]\/a=[("ab":Str),"b"]:=by
  rcases List.sublist_cons_iff.mp h with h1 |⟨r,rfl,h1⟩
  ·rcases List.sublist_cons_iff.mp h1 with h2 |⟨r,rfl,h2⟩
   ·exact .inl (List.sublist_nil.mp h2)
   ·rw[List.sublist_nil.mp h2];exact .inr (.inr (.inl rfl))
  ·rcases List.sublist_cons_iff.mp h1 with h2 |⟨r,rfl,h2⟩
   ·rw[List.sublist_nil.mp h2];exact .inr (.inl rfl)
   ·rw[List.sublist_nil.mp h2];exact .inr (.inr (.inr rfl))
 intro j b;obtain rfl | rfl:j=0\/j=1:=by lia
 ·rcases h2 with rfl | rfl | rfl | rfl <;> exact⟨by decide +kernel,by decide +kernel⟩
 ·rcases h2 with rfl | rfl | rfl | rfl <;> exact⟨by decide +kernel,by decide +kernel⟩
theorem Ft(T:Tx K mg base a)(hk:2<=k)(D:Df P w K mg base "_law_term" k 4 (DQ n)):Df P w K mg base "_law_record" (k+1) 4 (Lb n λc=>3*c+1):=by
 refine mk0 T.kF rfl Ww Fw (by rintro ws G Q E ⟨_,s,⟨⟨e,_⟩,_⟩,_⟩;rw[e];rfl) (nA T D (Yr _) (Bh T) (by lia)) λws G Q E hC q=>?_;obtain⟨⟨d,ns,pn,wn⟩,s,⟨⟨rfl,hd,hn,hw⟩,h1⟩,hs,q⟩:=q;obtain⟨d,rfl⟩:∃ e,d=e+1:=⟨d - 1,by lia⟩;dsimp only at hd hn hw q;unfold Wx;show Af (Aq 4 _) _ (Ax Q) [some (.ref s),some (.int ((d+1:Nat):Int)),some (.ref pn),some (.str wn),none,none] G;refine Bd ?_;walk_at "sm";refine⟨trivial,?_⟩;refine EO (d:=d) (Gu d) (by lia) hs (hn.less (by lia)) hw λt G1 ht h1=>⟨sz rfl,sz rfl,λpf hpf=>?_⟩;obtain⟨hf,hf0⟩:=h1.old hpf;have h2:=h1.put (o:=.lst [.tup [.str "a",t.enc]]) hpf;have f2:put G1 pf (.lst [.tup [.str "a",t.enc]]) pf=some (.lst [.tup [.str "a",t.enc]]):=Ap;generalize put G1 pf (.lst [.tup [.str "a",t.enc]])=G2 at h2 f2 ⊢;simp only[Af,BC,AY,Av,Aa,Ac,gC];refine⟨sz rfl,λq0 hq0=>?_⟩;have h3:=h2.put (o:=.lst [.str "ab",.str "b"]) hq0;have f3:=AE (o:=.lst [.str "ab",.str "b"]) hq0 _ _ f2;have g3:put G2 q0 (.lst [.str "ab",.str "b"]) q0=some (.lst [.str "ab",.str "b"]):=Ap;have hq:=Hs.ne h2.1 hq0;have hfq:=YV (DG f2 hq0);generalize put G2 q0 (.lst [.str "ab",.str "b"])=G3 at h3 f3 g3 ⊢;rw[g3];refine Pc (n:=n) (d:=d) (by lia) (hn.less (by lia)) hq hf hfq hf0 ["ab","b"] [("a",t)] _ G3 h3 g3 f3 (show 1+2<=10 by decide) (λx hx=>by rw[YA.mp hx];exact ht) λl' o' G4 h4 f4 hl'⟨sb,b1,b2⟩=>?_;simp only[Ai,Ao,gB,rF,B4,Bl,Bu,Ad,Ah,Aa,Ac,Ab,gC,Yk,Yl,Yb,Yc];refine CJ (by decide) (by decide) h4.1 λr G5 r0 r1 h5=>?_;have f5:=h5.2 _ hf _ f4;have h5:=h4.trans h5;refine⟨⟨by decide,by decide⟩,?_⟩;obtain⟨j,hj,ej⟩:∃ j:Nat,j<=1/\r / 7=(j:Int):=⟨(r / 7).toNat,by lia,by lia⟩;rw[show(λi j:Int=>i / j) r 7=(j:Int)from ej];show slA (.ref pf) (some (j:Int)) none G5 _;show(match G5 pf with | some (.lst xs)=>∀ p,G5 p=none->_ | _=>False);rw[f5];dsimp only;intro p6 hp6;have ec:Cm (l'.map Cg) (some (j:Int)) none=(l'.drop j).map Cg:=by rw[nX,List.map_drop]
 rw[ec,IC Ap,An];obtain⟨b3,b4⟩:=nY b1 j hj;have b2:l'.map (·.1)=("a":Str)::sb:=b2
 have hlen:l'.length<=3:=by
  have e:=Qh List.length b2;have:=b1.length_le;rw[Yh,Yg]at e;simp only[Yg,Yi]at this;lia
 have hmem:∀ x∈l'.drop j,AA x.1=true/\TmB (bc d) (2+3*d) x.2:=λx hx=>by
  have hx':=List.mem_of_mem_drop hx;refine⟨List.all_eq_true.mp b4 _ ?_,hl' x hx'⟩;rw[<- b2];exact List.mem_map_of_mem hx'
 obtain⟨o1,o2,o3⟩:=WU _ hmem;have hc:(BQ (l'.drop j)).cnt<=3*bc d:=Yt o2 (Nat.mul_le_mul_right _ (by rw[List.length_drop];lia));refine⟨sz rfl,q _ _ ⟨.nd "rec" (.fld (BQ (l'.drop j)) .nil),?_,(WQ (by rw[WT,List.map_drop,b2];exact b3) o1 hc o3).mono (by show 3*bc d+1<=3*bc (d+1 - 1)+1;rw[Nat.add_sub_cancel];exact Yr _) (by lia)⟩ (h5.put hp6)⟩;show W.tup [.str "rec",.tup ((l'.drop j).map Cg)]=.tup [.str "rec",.tup (BQ (l'.drop j)).enc];rw[Pa]
set_option hygiene false in
def Tst(s:Addr)(ω:Sw)(G:Hw)(gt:GT):Prop:=∀ Z:Bool->Hw->Prop,(∀ b G',Hs true s G G'->Z b G')->gt ω G Z
theorem Gv(a:St true s G)(h:ω[i]?=some (some (.str x))):Tst s ω G (gTB (Ad (Ae (eqF neg)) (Ab i) (gC (.str t)))):=λZ z=>by
 simp only[gTB,Ad,Ae,Ab,h,gC,BD,An];exact z _ _ (Hs.refl a)
theorem IS(a:St true s G)(h:ω[i]?=some (some (.int x))):Tst s ω G (gTB (Ad (Ae (eqF false)) (Ab i) (gC (.int t)))):=λZ z=>by
 simp only[gTB,Ad,Ae,Ab,h,gC,Cf,An];exact z _ _ (Hs.refl a)
theorem nZ(a:St true s G)(h:ω[i]?=some (some (.int x))):Tst s ω G (gTB (Ad (AU (λi j=>decide (i < j)) AS) (Ab i) (gC (.int t)))):=λZ z=>by
 simp only[gTB,Ad,AU,Ab,h,gC];exact z _ _ (Hs.refl a)
theorem n0(a:St true s G)(h:ω[0]?=some (some (.ref s))):Tst s ω G (gTB (Ad (AU (λi j=>decide (i < j)) AS) (Ad (Ae ixW) (Ab 0) (gC (.int 2))) (gC (.int t)))):=λZ z=>by
 obtain⟨c,hc⟩:=WS a;simp only[gTB,Ad,AU,Ae,Ab,h,gC,hc,An];exact z _ _ (Hs.refl a)
theorem n4(b:0 < m/\m<=1000)(a:St true s G)(h:ω[0]?=some (some (.ref s))):Tst s ω G (gTB (Ad (Ae (eqF false)) (Ah DO XF (Aa (Ab 0) (Aa (gC (.int m)) Ac))) (gC (.int t)))):=λZ z=>by
 simp only[gTB,Ad,Ae,Ah,Aa,Ac,Ab,h,gC];refine CJ b.1 (by lia) a λr G1 _ _ h1=>?_;simp only[Cf,An];exact z _ _ h1
theorem n7(b:0 < m/\m<=1000)(a:St true s G)(h:ω[0]?=some (some (.ref s))):Tst s ω G (gTB (Ad (A0 λi j=>decide (j < i)) (Ah DO XF (Aa (Ab 0) (Aa (gC (.int m)) Ac))) (gC (.int t)))):=λZ z=>by
 simp only[gTB,Ad,A0,Ah,Aa,Ac,Ab,h,gC];exact CJ b.1 (by lia) a λr G1 _ _ h1=>z _ _ h1
theorem n9(a:St true s G)(h:ω[i]?=some (some (.int x))):Tst s ω G (gTB (Ad (Ae (inF false)) (Ab i) (Av (Aa (gC (.int 4)) (Aa (gC (.int 9)) Ac))))):=λZ z=>by
 simp only[gTB,Ad,Ae,Ab,h,gC,Av,Aa,Ac];refine⟨sz rfl,λp b=>?_⟩
 have e:inF false (.int x) (.ref p) (put G p (.lst [.int 4,.int 9]))=some (.bl (inV (.int x) [.int 4,.int 9])):=by
  unfold inF;show(DZ _ (.ref p)).bind _=_;rw[Ni Ap];rfl
 rw[e,An];exact z _ _ (Hs.new a b)
theorem Fz{Au:GS}(h:Tst s ω G gt)(h1:∀ G',Hs true s G G'->e ω G' D.rt)(h2:∀ G',Hs true s G G'->Au D ω G'):Af (gIf gt (Ai e) Aj) Au D ω G:=by
 simp only[Af,gIf];exact h _ λb G' a=>BK (λ_=>h1 G' a) (λ_=>h2 G' a)
theorem oa{Au:GS}(h:Tst s ω G gt)(h1:∀ G',Hs true s G G'->e ω G' λw G2=>Au D (ω.set i (some w)) G2)(h2:∀ G',Hs true s G G'->Au D ω G'):Af (gIf gt (Aq i e) Aj) Au D ω G:=by
 simp only[Af,gIf];exact h _ λb G' a=>BK (λ_=>h1 G' a) (λ_=>h2 G' a)
theorem Pd{Au:GS}(h:Tst s ω G gt)(h1:∀ G',Hs true s G G'->x {D with nx:=Au D} ω G')(h2:∀ G',Hs true s G G'->Au D ω G'):Af (gIf gt x Aj) Au D ω G:=by
 simp only[Af,gIf];exact h _ λb G' a=>BK (λ_=>h1 G' a) (λ_=>h2 G' a)
theorem Pe{w:Str}(j:q0≠s):∀(l:List (Str×Str))(d e:Option W)(ks:List Str)(G:Hw),Hs true s i G->G q0=some (.lst items)->(∀ x∈l,AA x.1=true)->ks.length+l.length<=12->(∀ k∈ks,AA k=true)->
  (∀(ks':List Str)(G':Hw),Hs true s i G'->(∀ k∈ks',AA k=true)->ks'.length<=12->R (ks'.map W.str) G')->
  Bj (holds q0 items) (Bi 0 1) (gTB (Ad (Ae (inF false)) (Ab 1) (Av (Aa (Ab 2) (Aa (gC (.str "any")) Ac))))) (Ab 0) R (l.map La) [d,e,some (.str w)] G (ks.map W.str)
 | [],d,e,ks,G,h,hi,_,hl,c,r=>⟨hi,r ks G h c (by rw[Yi]at hl;lia)⟩
 | x::l,d,e,ks,G,h,hi,g,hl,c,r=>by
  rw[Yg]at hl;refine⟨hi,C9 (by rw[Yh];lia),?_⟩;simp only[Bi,La,Yk,Yl,gTB,Ad,Ae,Ab,Av,Aa,Ac,gC,Yb,Yc];refine⟨sz rfl,λp f=>?_⟩;rw[O8 (G:=put G p (.lst [.str w,.str "any"])) (p:=p) (xs:=[.str w,.str "any"]) [w,"any"] x.2 Ap rfl,An];have h2:=h.put (o:=.lst [.str w,.str "any"]) f;have i2:=AE (o:=.lst [.str w,.str "any"]) f _ _ hi;have b:∀ y∈l,AA y.1=true:=λy m=>g y (Yd _ m);refine BK (λ_=>?_) (λ_=>?_)
  ·have z:=Pe (w:=w) j l (some (.str x.1)) (some (.str x.2)) (ks++[x.1]) _ h2 i2 b (by rw[Yj];simp only[Yg,Yi];lia) (λk a=>by
    rcases Yz.mp a with a | a
    ·exact c k a
    ·rw[YA.mp a];exact g x Ye) r
   rw[Yy]at z;exact z
  ·exact Pe j l _ _ ks _ h2 i2 b (by lia) c r
abbrev gKn:GE:=Cc (DC (Ab 2)) 2 [3] (Bi 0 1) (gTB (Ad (Ae (inF false)) (Ab 1) (Av (Aa (Ab 2) (Aa (gC (.str "any")) Ac))))) (Ab 0)
theorem WV{w:Str}{Au:GS}(e:St true s G)(a:NL s G pn ns d)(h2:ω[2]?=some (some (.ref pn)))(f:ω[3]?=some (some (.str w)))(k:∀(p:Addr)(ks:List Str)(G':Hw),Hs true s G G'->p≠s->G' p=some (.lst (ks.map W.str))->(∀ k∈ks,AA k=true)->ks.length<=12->Au D (ω.set 5 (some (.ref p))) G'):Af (Aq 5 gKn) Au D ω G:=by
 refine Bd ?_;simp only[gKn,Cc,DC,Ab,h2,a.2.1,BN,Ym,YI,f,Option.getD_some,List.replicate];refine Pe a.1 ns none none [] G (Hs.refl e) a.2.1 a.2.2.1 (by have:=a.2.2.2;simp only[Yi];lia) (λk b=>by cases b) λks' G' h b hl p c=>?_;exact k p ks' _ (h.put c) (Hs.ne h.1 c) Ap b hl
variable {s:Addr}{G:Hw}{n d:Nat}
set_option hygiene false in
abbrev HD5:List Str:=["num","truth","row","box","to"]
abbrev WW:Spw:=Hk true (λ(w:Str)s ws _=>ws=[.ref s,.str w]/\w∈HD5) λ_ _ r _=>∃ t:Te,r=t.enc/\TmB 2 2 t
theorem K6(T:Tx K mg base a):Df P w K mg base "_law_leaf" 2 2 WW:=by
 refine mk0 (k:=1) T.kH rfl K3 Fw (λU G Q E⟨_,s,⟨e,_⟩,_⟩=>by rw[e];rfl) (nO T (Bh T) (Yr _)) λU G Q E hC q=>?_;obtain⟨Y,s,⟨rfl,hw⟩,R,q⟩:=q;unfold WK;show Af (Aq 2 _) _ (Ax Q) [some (.ref s),some (.str Y),none,none] G;refine Bd ?_;simp only[Ad,Av,Ah,Aa,Ac,Ab,gC,D4,Yb,Yc];refine⟨1,rfl,?_⟩;refine O2 (xs:=[.int 1,.int (-1)]) rfl (by decide) (by decide) R λx F G1 h1=>?_
 obtain⟨i,rfl,hi⟩:∃ i:Int,x=.int i/\(i=1\/i=-1):=by
  simp only[Yo,YY,or_false]at F;rcases F with rfl | rfl
  ·exact⟨1,rfl,.inl rfl⟩
  ·exact⟨-1,rfl,.inr rfl⟩
 refine⟨⟨by decide,by decide,by decide⟩,sz rfl,λp2 g=>?_⟩;have h2:=h1.put (o:=.lst [.int 9,.int ((10:Int) ^ (20:Int).toNat)]) g;refine CJ (by decide) (by decide) h2.1 λr J r0 r1 l=>⟨⟨by decide,by decide⟩,?_⟩;obtain⟨m,D,e⟩:=Dd (l.2 p2 (Hs.ne h1.1 g) _ Ap) (r:=r / 8) (by lia) (by show r / 8 < 2;lia);have l:=h2.trans l;show opt (ixW (.ref p2) (.int (r / 8)) J) _;rw[e,An]
 obtain⟨j,rfl,Z,j1⟩:∃ j:Int,m=.int j/\0 < j/\j<=100000000000000000000:=by
  simp only[Yo,YY,or_false]at D;rcases D with rfl | rfl
  ·exact⟨9,rfl,by decide,by decide⟩
  ·exact⟨_,rfl,by decide,by decide⟩
 refine CJ Z (by lia) l.1 λv G4 v0 v1 p=>?_;have p:=l.trans p;have y:(2:Int) ^ 64=18446744073709551616:=by decide
 refine⟨.inl (by rw[y];lia),?_⟩
 have A:-NB<=i*v/\i*v<=NB:=by
  show(-99999999999999999999:Int)<=i*v/\i*v<=(99999999999999999999:Int);rcases hi with rfl | rfl <;> lia
 generalize i*v=num at A ⊢;refine Bd ?_;simp only[Ex,Ad,Ao,Ah,Aa,Ac,Ab,gC,Ae,Yk,Yl,Yb,Yc];refine⟨sz rfl,?_⟩;refine CJ (by decide) (by decide) p.1 λX B _ _ n=>?_;have n:=p.trans n;simp only[Cf,An];generalize((X==1) != false)=bb;refine⟨sz rfl,sz rfl,sz rfl,by decide,λd h=>?_⟩;obtain⟨S,I⟩:=n.old h;have H:=n.put (o:=.dct (kvW ["num","truth","row"] [.tup [.str "num",.int num],.tup [.str "truth",.bl bb],.tup [.str "rec",.tup []]])) h;have u:put B d (.dct (kvW ["num","truth","row"] [.tup [.str "num",.int num],.tup [.str "truth",.bl bb],.tup [.str "rec",.tup []]])) d=_:=Ap;generalize put B d (.dct (kvW ["num","truth","row"] [.tup [.str "num",.int num],.tup [.str "truth",.bl bb],.tup [.str "rec",.tup []]]))=G6 at H u ⊢;simp only[Af,AC,gMt,Ex,Ao,Aa,Ac,Ab,gC,Yk,Yl,Yb,Yc];refine⟨⟨d,_,rfl,u⟩,sz rfl,sz rfl,sz rfl,sz rfl,sz rfl,by decide,λL c=>?_⟩;refine⟨d,L,_,_,rfl,rfl,DG u c,AE c _ _ u,Ap,sz rfl,?_⟩;have N:=(H.put (o:=.dct (kvW ["box","to"] [.tup [.str "new",.tup [.str "num",.int num]],.tup [.str "fun",.str "x",.tup [.str "num"],.tup [.str "name",.str "x"]]])) c).set (o:=.dct (Dl (kvW ["num","truth","row"] [.tup [.str "num",.int num],.tup [.str "truth",.bl bb],.tup [.str "rec",.tup []]]) (kvW ["box","to"] [.tup [.str "new",.tup [.str "num",.int num]],.tup [.str "fun",.str "x",.tup [.str "num"],.tup [.str "name",.str "x"]]]))) I S;simp only[Ai,Ad,Ae,Ab,Yb,Yc,ixK,Ap];have z:=nV A;have b:∀ t:Te,TmB 2 2 t->Q t.enc _:=λt O=>q _ _ ⟨t,rfl,O⟩ N;simp only[HD5,Yo,YY,or_false]at hw;rcases hw with rfl | rfl | rfl | rfl | rfl
 ·exact Eq.mpr (by kernel_rfl) (b (.nd "num" (.num num .nil)) (z.mono (by decide) (by decide)))
 ·exact Eq.mpr (by kernel_rfl) (b (.nd "truth" (.tru bb .nil)) ((nU bb).mono (by decide) (by decide)))
 ·exact Eq.mpr (by kernel_rfl) (b (.nd "rec" (.fld .nil .nil)) ((WQ (f:=.nil) rfl rfl (Yr 0) (Yr 0)).mono (by decide) (by decide)))
 ·exact Eq.mpr (by kernel_rfl) (b (.nd "new" (.trm (.nd "num" (.num num .nil)) .nil)) (K9 (by decide +kernel) z))
 ·exact Eq.mpr (by kernel_rfl) (b (.nd "fun" (.nam "x" (.knd .num (.trm (.nd "name" (.nam "x" .nil)) .nil)))) (WP (by decide +kernel) ⟨rfl,rfl⟩ (O7 (by decide +kernel))))
theorem hd6{ss:List Str}(h:(ss.all λx=>HD6.contains x)=true)(a:x∈ss):x∈HD6:=List.contains_iff_mem.mp (List.all_eq_true.mp h x a)
theorem K7(T:Tx K mg base a)(hk:2<=k)(D:Df P w K mg base "_law_term" k 4 (DQ n)):Df P w K mg base "_law_made" (k+2) 4 (Lb n λc=>3*c+1):=by
 refine mk0 (k:=k+1) T.kG rfl Wz Fw (by rintro ws G Q E ⟨_,s,⟨⟨e,_⟩,_⟩,_⟩;rw[e];rfl) (nB T D (by lia) (Bh T) (by lia) (Ft T hk D) (Yr _) (Fu T hk D) (Yr _)) λws G Q E hC q=>?_;obtain⟨⟨d,ns,pn,wn⟩,s,⟨⟨rfl,hd,hn,hw⟩,h1⟩,hs,q⟩:=q;obtain⟨d,rfl⟩:∃ e,d=e+1:=⟨d - 1,by lia⟩;dsimp only at hd hn hw q;rw[Nat.add_sub_cancel]at q;have hb:=bc2 d;unfold WA;show Af (gIf _ _ Aj) _ (Ax Q) [some (.ref s),some (.int ((d+1:Nat):Int)),some (.ref pn),some (.str wn)] G
 have two:∀{w:Str}{G1:Hw},KTD.datumAt w AK=some [("term":Str),"term"]->Hs true s G G1->Ao (Aa (gC (.str w)) (Aa (Ah (DQ n) XF (Aa (Ab 0) (Aa (Ad (AI (λ_ _=>True) λi j=>i - j) (Ab 1) (gC (.int 1))) (Aa (Ab 2) (Aa (gC (.str "num")) Ac))))) (Aa (Ah (DQ n) XF (Aa (Ab 0) (Aa (Ad (AI (λ_ _=>True) λi j=>i - j) (Ab 1) (gC (.int 1))) (Aa (Ab 2) (Aa (gC (.str "num")) Ac))))) Ac))) [some (.ref s),some (.int ((d+1:Nat):Int)),some (.ref pn),some (.str wn)] G1 Q:=λ{w G1}hw h1=>by
  walk_at "sm";refine⟨trivial,?_⟩;refine EO (d:=d) (Gu d) (by lia) h1.1 ((hn.keep h1).less (by lia)) (by decide +kernel) λt G2 ht h2=>⟨trivial,?_⟩;have h2:=h1.trans h2;refine EO (d:=d) (Gu d) (by lia) h2.1 ((hn.keep h2).less (by lia)) (by decide +kernel) λu G3 hu h3=>⟨sz rfl,?_⟩;exact q _ _ ⟨.nd w (.trm t (.trm u .nil)),rfl,(O6 hw ht hu).mono (by lia) (by lia)⟩ (h2.trans h3)
 refine Fz (Gv hs rfl) (λG1 h1=>two (by decide +kernel) h1) λG1 h1=>?_;refine Fz (Gv h1.1 rfl) (λG2 h2=>?_) λG2 h2=>?_
 ·have h2:=h1.trans h2;walk_at "sm";refine Fv (ss:=["num","truth","box"]) rfl (by decide) (by decide) h2.1 λx hx G3 h3=>?_;have h3:=h2.trans h3;exact IR (by lia) h3.1 (hn.keep h3) (hd6 (by decide +kernel) hx) λt G4 ht h4=>q _ _ ⟨t,rfl,ht⟩ (h3.trans h4)
 have h2:=h1.trans h2;refine Fz (Gv h2.1 rfl) (λG3 h3=>?_) λG3 h3=>?_
 ·have h3:=h2.trans h3;walk_at "sm";refine⟨trivial,?_⟩;refine Fv (ss:=["num","row"]) rfl (by decide) (by decide) h3.1 λx hx G4 h4=>?_;have h4:=h3.trans h4;refine EO (d:=d) (Gu d) (by lia) h4.1 ((hn.keep h4).less (by lia)) (hd6 (by decide +kernel) hx) λt G5 ht h5=>⟨sz rfl,?_⟩;exact q _ _ ⟨.nd "new" (.trm t .nil),rfl,(K9 (by decide +kernel) ht).mono (by lia) (by lia)⟩ (h4.trans h5)
 have h3:=h2.trans h3;refine Fz (Gv h3.1 rfl) (λG4 h4=>?_) λG4 h4=>?_
 ·have h4:=h3.trans h4;walk_at "sm";exact IR (c:=λc=>c+1) (by lia) h4.1 (hn.keep h4) (by decide +kernel) λt G5 ht h5=>q _ _ ⟨t,rfl,ht.mono (by show bc d+1<=3*bc d+1;lia) (Yr _)⟩ (h4.trans h5)
 exact two (by decide +kernel) (h3.trans h4)
theorem oe:∀ xs:List W,Cb xs []=some xs.isEmpty
 | []=>rfl
 | _::_=>rfl
theorem WX:∀ ks:List Str,L3.dpL (ks.map W.str) < 90
 | []=>by decide
 | k::ks=>by
  have:=WX ks;show max (dpW (.str k)) (L3.dpL (ks.map W.str)) < 90;have:dpW (.str k)=0:=rfl;lia
theorem og{ks:List Str}(h:G q=some (.lst (ks.map W.str)))(h':G p=some (.lst [])):eqF true (.ref q) (.ref p) G=some (.bl (!ks.isEmpty)):=by
 have e:eqW (.ref q) (.ref p) G=some ks.isEmpty:=by
  unfold eqW;simp only[h,h'];rw[if_pos (WX ks),oe];cases ks <;> rfl
 unfold eqF;rw[e];cases ks <;> rfl
def WY:List Kd:=[.any,.any]
def IT:List Kd:=[.any,.any,.row .nil true,.row (.cons "b" true .num .nil) true,.row (.cons "a" false .any .nil) true,.row (.cons "ab" false .num .nil) true]
theorem FA{Au:GS}(T:GS->Prop)(h1:T Au)(h2:∀ r,T r->Af x r D ω G):Af x Au D ω G:=h2 _ h1
theorem oh:∀ k∈IT,KOk k:=by
 have h:(IT.all λk=>k.ok&&BP k)=true:=by decide +kernel
 intro k a;have:=List.all_eq_true.mp h k a;simp only[YG]at this;exact this
set_option hygiene false in
theorem WZ(h:G p=some (.lst xs)):AL [.ref p] G=some (.int (xs.length:Nat)):=by
 unfold AL BL;dsimp only;rw[h]
theorem W0(b:G p=some (.lst xs))(a:p≠s)(h:0 < xs.length)(h1:xs.length<=1000)(f:St true s G)(k:∀ x∈xs,∀ G',Hs true s G G'->Z x G'):opt (AL [.ref p] G) λw=>DO [.ref s,w] G (λw G'=>Ae ixW (.ref p) w G' Z) E:=by
 rw[WZ b,An];refine CJ (by lia) (by lia) f λr G' d r1 c=>?_;obtain⟨x,g,e⟩:=Dd (c.2 p a _ b) d r1;show opt (ixW (.ref p) (.int r) G') _;rw[e,An];exact k x g G' c
theorem W1(h:Tst s ω G gt)(h1:∀ G',Hs true s G G'->x D ω G')(h2:∀ G',Hs true s G G'->y D ω G'):gIf gt x y D ω G:=h _ λb G' a=>BK (λ_=>h1 G' a) (λ_=>h2 G' a)
theorem W2{ks:List Str}(b:St true s G)(d:ω[i]?=some (some (.ref p)))(c:G p=some (.lst (ks.map W.str)))(z:∀ G',Hs true s G G'->Z (!ks.isEmpty) G'):gTB (Ad (Ae (eqF true)) (Ab i) (Av Ac)) ω G Z:=by
 simp only[gTB,Ad,Ae,Ab,d,Av,Ac];refine⟨sz rfl,λe a=>?_⟩;rw[og (AE a _ _ c) Ap,An];exact z _ (Hs.new b a)
theorem oi{Au:GS}(c:St true s G)(g:ω[0]?=some (some (.ref s)))(f:ω[5]?=some (some (.ref p)))(d:G p=some (.lst (ks.map W.str)))(e:ks≠[]->∀ G',Hs true s G G'->x {D with nx:=Au D} ω G')(a:∀ G',Hs true s G G'->y {D with nx:=Au D} ω G'):Af (gIf (Bp (gTB (Ad (Ae (eqF true)) (Ab 5) (Av Ac))) (gTB (Ad (A0 λi j=>decide (j < i)) (Ah DO XF (Aa (Ab 0) (Aa (gC (.int 3)) Ac))) (gC (.int 0))))) x y) Au D ω G:=by
 simp only[Af,gIf,Bp];refine W2 c f d λG1 h1=>?_;cases ks with
 | nil=>exact a G1 h1
 | cons k ks =>
  refine n7 (by decide) h1.1 g _ λb G2 h2=>?_;exact BK (λ_=>e (by simp) G2 (h1.trans h2)) (λ_=>a G2 (h1.trans h2))
theorem K8(T:Tx K mg base a)(hk:2<=k)(D:Df P w K mg base "_law_term" k 4 (DQ n)):Df P w K mg base "_law_first" (k+2) 5 (O9 n):=by
 refine mk0 (k:=k+1) T.kI rfl O3 Fw (by rintro ws G Q E ⟨_,s,⟨e,_⟩,_⟩;rw[e];rfl) (nP T (Bh T) (by lia) (Fu T hk D) (Yr _) (Ft T hk D) (Yr _) D (by lia)) λws G Q E hC q=>?_;obtain⟨⟨⟨d,ns,pn,wn⟩,hd0⟩,s,⟨rfl,⟨hd,hn,hw⟩,h1,hh⟩,hs,q⟩:=q;dsimp only at h1;obtain⟨d,rfl⟩:∃ e,d=e+1:=⟨d - 1,by lia⟩;dsimp only at hd hn hw q hh;rw[Nat.add_sub_cancel]at q;have hb:=bc2 d;unfold WM;show Af (Aq 5 gKn) _ (Ax Q) [some (.ref s),some (.int ((d+1:Nat):Int)),some (.ref pn),some (.str hd0),some (.str wn),none,none,none] G;refine WV hs hn rfl rfl λp5 ks G1 h1 n5 f5 hks l5=>?_;walk_at "pa";refine FA (λr=>∀(t:Te)G',TmB (3*bc d+1) (3*(d+1)) t->Hs true s G G'->r (Ax Q) [some (.ref s),some (.int ((d+1:Nat):Int)),some (.ref pn),some (.str hd0),some (.str wn),some (.ref p5),none,some t.enc] G') (λt G2 ht h2=>?_) λAu tail=>?_
 ·refine WI (xs:=WY.map Kd.enc) h2.1 (λZ z=>by walk_at "cl") (by decide) λp6 G3 h3 n6 f6=>?_;have h3:=h2.trans h3;walk_at "pa";refine FA (λr=>∀(p6:Addr)(G':Hw)(xs:List Kd),Hs true s G G'->p6≠s->G' p6=some (.lst (xs.map Kd.enc))->(∀ k∈xs,k∈IT)->0 < xs.length->xs.length<=10->r (Ax Q) [some (.ref s),some (.int ((d+1:Nat):Int)),some (.ref pn),some (.str hd0),some (.str wn),some (.ref p5),some (.ref p6),some t.enc] G') (λp6 G4 xs h4 n6 f6 hxs x0 x1=>?_) λAu tail=>?_
  ·refine oa (n4 (by decide) h4.1 rfl) (λG5 h5=>?_) λG5 h5=>?_
   ·have f6:=h5.2 _ n6 _ f6;have h5:=h4.trans h5;simp only[Ao,Ad,Ah,gB,rF,Aa,Ac,Ab,gC,Yk,Yl,Yb,Yc];refine W0 f6 n6 (by rw[Yh];exact x0) (by rw[Yh];lia) h5.1 λx hx G6 h6=>⟨sz rfl,?_⟩;obtain⟨k,hk,rfl⟩:=YC.mp hx;exact q _ _ ⟨.nd "as" (.trm t (.knd k .nil)),rfl,(O5 ht (oh k (hxs k hk))).mono (by lia) (by lia)⟩ (h5.trans h6)
   ·exact q _ _ ⟨t,rfl,ht.mono (by lia) (by lia)⟩ (h4.trans h5)
  ·refine Pd (Gv h3.1 rfl) (λG4 h4=>?_) λG4 h4=>?_
   ·have f6:=h4.2 _ n6 _ f6;have h4:=h3.trans h4;refine IQ (ys:=((IT.drop 2).take 2).map Kd.enc) h4 rfl f6 (λZ z=>by walk_at "cl") (by decide) λp6 G5 h5 n6 f6=>?_;simp only[Yk,Yl,Aq,Ad,Ab,Yb,Yc,Av];simp only[Ao,gC,Aa,Ac];refine⟨sz rfl,sz rfl,sz rfl,sz rfl,sz rfl,sz rfl,sz rfl,sz rfl,sz rfl,λp7 hp7=>?_⟩;refine Fy (AE hp7 _ _ f6) Ap (by decide) λp8 hp8=>?_;exact tail p8 _ IT ((h5.put hp7).put hp8) (Hs.ne (h5.1.put hp7) hp8) Ap (λk hk=>hk) (by decide) (by decide)
   ·exact tail p6 _ WY (h3.trans h4) n6 (h4.2 _ n6 _ f6) (λk hk=>List.mem_of_mem_take (i:=2) hk) (by decide) (by decide)
 ·refine oi h1.1 rfl rfl f5 (λhne G2 h2=>?_) λG2 h2=>?_
  ·have f5:=h2.2 _ n5 _ f5;have h2:=h1.trans h2;simp only[Aq,Ao,Ad,Ah,gB,rF,Aa,Ac,Ab,gC,Yk,Yl,Yb,Yc];refine W0 f5 n5 (by rw[Yh];exact List.length_pos_iff.mpr hne) (by rw[Yh];lia) h2.1 λx hx G3 h3=>⟨sz rfl,?_⟩;obtain⟨k,hk,rfl⟩:=YC.mp hx;exact tail (.nd "name" (.nam k .nil)) _ ((O7 (hks k hk)).mono (by lia) (by lia)) (h2.trans h3)
  ·have h2:=h1.trans h2;refine W1 (Gv h2.1 rfl) (λG3 h3=>?_) λG3 h3=>?_
   ·have h3:=h2.trans h3;simp only[Aq,Ah,Aa,Ac,Ab,Yk,Yl,Yb,Yc];exact IR (c:=λc=>c+1) (by lia) h3.1 (hn.keep h3) hw λt G4 ht h4=>tail t _ (ht.mono (by show bc d+1<=3*bc d+1;lia) (Yr _)) (h3.trans h4)
   have h3:=h2.trans h3;refine W1 (Gv h3.1 rfl) (λG4 h4=>?_) λG4 h4=>?_
   ·have h4:=h3.trans h4;simp only[Aq,Ah,Aa,Ac,Ab,Yk,Yl,Yb,Yc];exact IR (c:=λc=>3*c+1) (by lia) h4.1 (hn.keep h4) hw λt G5 ht h5=>tail t _ ht (h4.trans h5)
   ·have h4:=h3.trans h4;simp only[Aq,Ao,Ad,Ah,Aa,Ac,Ab,gC,Yk,Yl,Yb,Yc];refine⟨trivial,?_⟩;refine EO (d:=d) (Gu d) (by lia) h4.1 ((hn.keep h4).less (by lia)) hw λt G5 ht h5=>⟨sz rfl,?_⟩;exact tail (.nd "new" (.trm t .nil)) _ ((K9 (by decide +kernel) ht).mono (by lia) (by lia)) (h4.trans h5)
set_option hygiene false in
theorem W3{w:Str}(hi:i=((d+1:Nat):Int))(a:d+1 < n+1)(c:St true s G)(g:NL s G pn ns (d+1))(hw:w∈HD6)(b:hd∈(["to","row","box"]:List Str))(k:∀ t G',TmB (3*bc d+2) (3*(d+1)+1) t->Hs true s G G'->Z t.enc G'):O9 n [.ref s,.int i,.ref pn,.str hd,.str w] G Z E:=by
 subst hi;exact⟨((d+1,ns,pn,w),hd),s,⟨rfl,⟨a,g,hw⟩,by show 1<=d+1;lia,b⟩,c,λr G'⟨t,e,f⟩h=>by rw[e];exact k t G' f h⟩
theorem oj{w:Str}(h:w∈HD5):w∈HD6:=List.mem_of_mem_take (i:=5) h
theorem ol{w:Str}(h:w∈HD6)(a:w≠"any"):w∈HD5:=by
 simp only[HD6,Yo,YY,or_false]at h;simp only[HD5,Yo,YY,or_false];rcases h with h | h | h | h | h | h
 ·exact .inl h
 ·exact .inr (.inl h)
 ·exact .inr (.inr (.inl h))
 ·exact .inr (.inr (.inr (.inl h)))
 ·exact .inr (.inr (.inr (.inr h)))
 ·exact Qk h a
theorem om{t:Te}(b:t.ok=true)(G:Hw):∃ x:Str,ixW t.enc (.int 0) G=some (.str x)/\(x="fun"->∃(k:Kd),ixW t.enc (.int 2) G=some k.enc):=by
 cases t with
 | raw v=>cases b
 | nd w r =>
  refine⟨w,Bx,λe=>?_⟩;subst e;have h:=(Fp b).1;have h2:r.sorts=[("name":Str),"kind","term"]:=(YE ((show KTD.datumAt ("fun":Str) AK=some [("name":Str),"kind","term"] by decide +kernel).symm.trans h)).symm;cases r with
  | nam x r =>
   have a:r.sorts=[("kind":Str),"term"]:=(Qg h2).2;cases r with
   | knd k r=>exact⟨k,CO⟩
   | nil=>cases a
   | num _ _=>exact Qk (Qg a).1 (by decide +kernel)
   | tru _ _=>exact Qk (Qg a).1 (by decide +kernel)
   | nam _ _=>exact Qk (Qg a).1 (by decide +kernel)
   | trm _ _=>exact Qk (Qg a).1 (by decide +kernel)
   | fld _ _=>exact Qk (Qg a).1 (by decide +kernel)
  | nil=>cases h2
  | num _ _=>exact Qk (Qg h2).1 (by decide +kernel)
  | tru _ _=>exact Qk (Qg h2).1 (by decide +kernel)
  | knd _ _=>exact Qk (Qg h2).1 (by decide +kernel)
  | trm _ _=>exact Qk (Qg h2).1 (by decide +kernel)
  | fld _ _=>exact Qk (Qg h2).1 (by decide +kernel)
abbrev oms(s:Addr)(d:Nat)(pn:Addr)(w:Str)(o4 o5 o6 o7 o8 o9:Option W):Sw:=[some (.ref s),some (.int (d:Nat)),some (.ref pn),some (.str w),o4,o5,o6,o7,o8,o9]
theorem B0(T:Tx K mg base a):∀ n:Nat,Df P w K mg base "_law_term" (3*n+3) 4 (DQ n)
 | 0=>Da T.Ts Fw λws G Q E⟨x,s,⟨_,hd,_⟩,_⟩=>by lia
 | n+1=>by
  have D:=B0 T n;refine mk0 (k:=3*n+5) T.Ts rfl O4 Fw (by rintro ws G Q E ⟨_,s,⟨e,_⟩,_⟩;rw[e];rfl) (nQ T (Bh T) (by lia) (K6 T) (by lia) (K7 T (by lia) D) (by lia) (K8 T (by lia) D) (by lia) D (by lia) (Fq T (f:=true)) (by lia)) λws G Q E hC q=>?_;obtain⟨⟨d,ns,pn,wn⟩,s,⟨rfl,hd,hn,hw⟩,hs,q⟩:=q;dsimp only at hd hn hw q;have q:∀(t:Te)G',TO d t->Hs true s G G'->Q t.enc G':=λt G' h1 h2=>q _ _ ⟨t,rfl,h1⟩ h2;have hb2:=bc2 d;unfold WO;show Af (Ck _ _ _) _ (Ax Q) (oms s d pn wn none none none none none none) G;refine FA (λr=>∀ G',Hs true s G G'->r (Ax Q) (oms s d pn wn none none none none none none) G') (λG1 h1=>?_) λAu tail=>?_;rotate_left
  ·obtain⟨x,b,c,e⟩:=hs;have e:G s=some (.lst [.int x,.bl b,.int c]):=e;simp only[Af,Ck,Ad,Ae,Ab,gC,Yb,ix2 e,An];refine⟨trivial,WF e (tail _ ⟨⟨x,b,_,Ap⟩,λb hb u hu=>by rw[A2 hb];exact hu⟩)⟩
  refine FA (λr=>∀ w G',w∈HD5->Hs true s G G'->r (Ax Q) (oms s d pn w none none none none none none) G') (λwn G2 hw h2=>?_) λAu tail=>?_;rotate_left
  ·have set5:∀ G2,Hs true s G G2->(Aq 3 (Ad (Ae ixW) (Av (Aa (gC (.str "num")) (Aa (gC (.str "truth")) (Aa (gC (.str "row")) (Aa (gC (.str "box")) (Aa (gC (.str "to")) Ac)))))) (Ah DO XF (Aa (Ab 0) (Aa (gC (.int 5)) Ac))))) {Ax Q with nx:=Au (Ax Q)} (oms s d pn wn none none none none none none) G2:=λG2 h2=>by
    simp only[Aq,Ad,Av,Ah,Aa,Ac,Ab,gC,Yb,Yc];exact Fv (ss:=HD5) rfl (by decide) (by decide) h2.1 λx hx G3 h3=>tail x G3 hx (h2.trans h3)
   by_cases hany:wn="any"
   ·simp only[Af,gIf,gOr,gTB,Ad,Ae,Ab,gC,Yb,Yc,BD,An];rw[show(wn==("any":Str))=true by simp[hany]];exact set5 G1 h1
   ·simp only[Af,gIf,gOr,gTB,Ad,Ae,Ab,gC,Yb,Yc,BD,An];rw[show(wn==("any":Str))=false by simpa using hany];simp only[show(false != false)=false from rfl,Yq,if_false];simp only[Ah,Aa,Ac,Ab,gC,Yb];refine CJ (by decide) (by decide) h1.1 λr G2 _ _ h2=>?_;simp only[Cf,An];exact BK (λ_=>set5 G2 (h1.trans h2)) (λ_=>tail wn G2 (ol hw hany) (h1.trans h2))
  refine Bd ?_;walk_at "sm";refine CJ (by decide) (by decide) h2.1 λDd G3 _ _ h3=>?_;have h3:=h2.trans h3;refine WV h3.1 (hn.keep h3) rfl rfl λp5 ks G4 h4 n5 f5 hks l5=>?_;have h4:=h3.trans h4;walk_at "pa";have hw6:=oj hw;refine FA (λr=>∀ G',Hs true s G G'->r (Ax Q) (oms s d pn wn (some (.int Dd)) (some (.ref p5)) none none none none) G') (λG5 h5=>?_) λAu tail=>?_;rotate_left
  ·simp only[Af,gIf,Bp];refine IS h4.1 rfl _ λb G5 h5=>?_;refine BK (λ_=>?_) (λ_=>?_)
   ·refine W2 h5.1 rfl (h5.2 _ n5 _ f5) λG6 h6=>?_;have f6:=h6.2 _ n5 _ (h5.2 _ n5 _ f5);have h6:=(h4.trans h5).trans h6;refine BK (λ_=>?_) (λ_=>tail G6 h6);simp only[Ai,Ao,Ad,Av,Ah,gB,rF,Aa,Ac,Ab,gC,Yb,Yc];refine⟨sz rfl,λp7 hp7=>?_⟩;refine Fy (AE hp7 _ _ f6) Ap (by rw[Yh];simp only[Yg,Yi];lia) λp8 hp8=>?_;have h8:=(h6.put (o:=.lst [.str "z"]) hp7).put (o:=.lst (ks.map W.str++[.str "z"])) hp8;have f8:put (put G6 p7 (.lst [.str "z"])) p8 (.lst (ks.map W.str++[.str "z"])) p8=some (.lst ((ks++[("z":Str)]).map W.str)):=by rw[Ap,Yy];rfl
    have f8':=AE (o:=.lst (ks.map W.str++[.str "z"])) hp8 _ _ (AE (o:=.lst [.str "z"]) hp7 _ _ f6);have n8:=Hs.ne (h6.1.put (o:=.lst [.str "z"]) hp7) hp8;generalize put (put G6 p7 (.lst [.str "z"])) p8 (.lst (ks.map W.str++[.str "z"]))=G8 at h8 f8 f8' ⊢;rw[WZ f8',An,Yh];refine⟨.inl ⟨by decide,by decide⟩,?_⟩;rw[show(8:Int)*((ks.length:Nat):Int)=((8*ks.length:Nat):Int) by lia];dsimp only;rw[Hd];refine CJ (by lia) (by lia) h8.1 λr G9 r0 r1 h9=>⟨⟨by decide,by decide⟩,?_⟩;obtain⟨x,hx,e⟩:=KY.Dd (h9.2 _ n8 _ f8) (r:=r / 8) (by lia) (by rw[Yh,Yj];simp only[Yg,Yi];lia);show opt (ixW (.ref p8) (.int (r / 8)) G9) _;rw[e,An];obtain⟨k,hk,rfl⟩:=YC.mp hx
    have okk:AA k=true:=by
     rcases Yz.mp hk with hk | hk
     ·exact hks k hk
     ·rw[YA.mp hk];decide +kernel
    exact⟨sz rfl,q (.nd "name" (.nam k .nil)) _ ((O7 okk).mono (by lia) (by lia)) (h8.trans h9)⟩
   ·exact tail G5 (h4.trans h5)
  have leaf:∀ G6,Hs true s G G6->Ah WW XF (Aa (Ab 0) (Aa (Ab 3) Ac)) (oms s d pn wn (some (.int Dd)) (some (.ref p5)) none none none none) G6 Q:=λG6 h6=>by
   simp only[Ah,Aa,Ac,Ab,Yb,Yc];exact⟨wn,s,⟨rfl,hw⟩,h6.1,λr G7⟨t,e,ht⟩h7=>by rw[e];exact q t _ (ht.mono (by lia) (by lia)) (h6.trans h7)⟩
  refine FA (λr=>∀ G',3<=d->Hs true s G G'->r (Ax Q) (oms s d pn wn (some (.int Dd)) (some (.ref p5)) none none none none) G') (λG6 hd3 h6=>?_) λAu tail=>?_;rotate_left
  ·simp only[Af,gIf,gOr];have e:∀ Z:Bool->Hw->Prop,Z (decide ((d:Int) < 3)) G5->gTB (Ad (AU (λi j=>decide (i < j)) AS) (Ab 1) (gC (.int 3))) (oms s d pn wn (some (.int Dd)) (some (.ref p5)) none none none none) G5 Z:=λZ z=>z;refine e _ ?_;by_cases h3:(d:Int) < 3
   ·rw[YH h3];exact leaf G5 h5
   ·rw[Qj h3];refine n0 h5.1 rfl _ λb G6 h6=>?_;exact BK (λ_=>leaf G6 (h5.trans h6)) (λ_=>tail G6 (by lia) (h5.trans h6))
  obtain⟨d,rfl⟩:∃ e,d=e+3:=⟨d - 3,by lia⟩;have ed:bc (d+3)=4*bc (d+2)+3:=rfl;have ed1:bc (d+2)=4*bc (d+1)+3:=rfl;have hb:=bc2 (d+1);have q:∀(t:Te)G',TmB (4*bc (d+2)+3) (3*d+11) t->Hs true s G G'->Q t.enc G':=λt G' h=>q t G' (h.mono (Yr _) (by lia));have sb:(((d+3:Nat):Int) - 1)=((d+2:Nat):Int):=by lia
  refine Fz (nZ h6.1 rfl) (λG7 h7=>?_) λG7 h7=>?_
  ·have h7:=h6.trans h7;walk_at "sm";exact IR (d:=d+2) (c:=λc=>3*c+1) (by lia) h7.1 (hn.keep h7) hw6 λt G8 ht h8=>q t _ (ht.mono (by show 3*bc (d+2)+1<=4*bc (d+2)+3;lia) (by lia)) (h7.trans h8)
  have h7:=h6.trans h7;have tm:∀{w:Str}{G8:Hw}{Z:Kw}{E:Addr->Hw->Prop},w∈HD6->Hs true s G G8->(∀ t G',TmB (bc (d+2)) (3*d+8) t->Hs true s G8 G'->Z t.enc G')->DQ n [.ref s,.int (((d+3:Nat):Int) - 1),.ref pn,.str w] G8 Z E:=λhw h8 k=>EO (d:=d+2) sb (by lia) h8.1 ((hn.keep h8).less (by lia)) hw λt G' ht=>k t G' (ht.mono (Yr _) (by lia));have fi:∀{hd w:Str}{G8:Hw}{Z:Kw}{E:Addr->Hw->Prop},hd∈(["to","row","box"]:List Str)->w∈HD6->Hs true s G G8->(∀ t G',TmB (3*bc (d+2)+2) (3*d+10) t->Hs true s G8 G'->Z t.enc G')->O9 n [.ref s,.int ((d+3:Nat):Int),.ref pn,.str hd,.str w] G8 Z E:=λhh hw h8 k=>W3 (d:=d+2) rfl (by lia) h8.1 (hn.keep h8) hw hh λt G' ht=>k t G' (ht.mono (Yr _) (by lia));refine FA (λr=>∀ G',Hs true s G G'->r (Ax Q) (oms s (d+3) pn wn (some (.int Dd)) (some (.ref p5)) none none none none) G') (λG8 h8=>?_) λAu tail=>?_;rotate_left
  ·refine Pd (n9 h7.1 rfl) (λG8 h8=>?_) λG8 h8=>tail G8 (h7.trans h8);have h8:=h7.trans h8;refine Bd ?_;walk_at "sm";refine fi (by decide +kernel) hw6 h8 λt G9 ht h9=>?_;have h9:=h8.trans h9;refine Bd ?_;walk_at "sm";refine Fv (ss:=["num","to","row","box"]) rfl (by decide) (by decide) h9.1 λx hx G10 h10=>?_;have h10:=h9.trans h10
   have call:∀(x:Str),x∈HD6->(Ai (Ao (Aa (gC (.str "call")) (Aa (Ab 8) (Aa (Ah (DQ n) XF (Aa (Ab 0) (Aa (Ad (AI (λ_ _=>True) λi j=>i - j) (Ab 1) (gC (.int 1))) (Aa (Ab 2) (Aa (Ab 9) Ac))))) Ac))))) {Ax Q with nx:=Au (Ax Q)} (oms s (d+3) pn wn (some (.int Dd)) (some (.ref p5)) none none (some t.enc) (some (.str x))) G10:=λx hx=>by
    walk_at "sm";refine⟨trivial,tm hx h10 λu G11 hu h11=>⟨sz rfl,?_⟩⟩;exact q (.nd "call" (.trm t (.trm u .nil))) _ ((O6 (by decide +kernel) ht (hu.mono (Yr _) (by lia))).mono (by lia) (by lia)) (h10.trans h11)
   obtain⟨y,hy1,hy2⟩:=om ht.1 G10;simp only[Af,gIf,gTB,Ad,Ae,Ab,gC,Yk,Yl,Yb,Yc,hy1,BD,An];by_cases ey:y="fun"
   ·obtain⟨k,hk⟩:=hy2 ey;rw[show(y==("fun":Str))=true by simp[ey]];simp only[show(true != false)=true from rfl,if_true,Aq,Ad,Ae,Ab,gC,Yk,Yl,Yb,Yc,hk,WR,An];exact call k.hd (nW k)
   ·rw[show(y==("fun":Str))=false by simpa using ey];simp only[show(false != false)=false from rfl,Yq,if_false,Aj];exact call x (hd6 (by decide +kernel) hx)
  refine Fz (IS h8.1 rfl) (λG9 h9=>?_) λG9 h9=>?_
  ·have h9:=h8.trans h9;walk_at "sm";refine fi (by decide +kernel) hw6 h9 λt G10 ht h10=>?_;have h10:=h9.trans h10;refine Fv (ss:=["a","a","b","ab"]) rfl (by decide) (by decide) h10.1 λx hx G11 h11=>⟨sz rfl,?_⟩;have okx:AA x=true:=List.all_eq_true.mp (show(["a","a","b","ab"]:List Str).all AA=true by decide +kernel) x hx;exact q (.nd "get" (.trm t (.nam x .nil))) _ ((nR ht okx).mono (by lia) (by lia)) (h10.trans h11)
  have h9:=h8.trans h9;refine Bd ?_;walk_at "sm";refine⟨trivial,tm hw6 h9 λone G10 hone h10=>?_⟩;have h10:=h9.trans h10;refine Fz (IS h10.1 rfl) (λG11 h11=>?_) λG11 h11=>?_
  ·have h11:=h10.trans h11;walk_at "sm";refine⟨trivial,tm (by decide +kernel) h11 λt G12 ht h12=>⟨trivial,?_⟩⟩;have h12:=h11.trans h12;refine tm hw6 h12 λu G13 hu h13=>⟨sz rfl,?_⟩;exact q (.nd "if" (.trm t (.trm one (.trm u .nil)))) _ ((nT ht hone hu).mono (by lia) (by lia)) (h12.trans h13)
  have h11:=h10.trans h11;refine Fz (IS h11.1 rfl) (λG12 h12=>?_) λG12 h12=>?_
  ·have h12:=h11.trans h12;walk_at "sm";refine⟨trivial,W3 (d:=d+1) sb (by lia) h12.1 ((hn.keep h12).less (by lia)) hw6 (by decide +kernel) λt G13 ht h13=>?_⟩;have h13:=h12.trans h13;refine Fv (ss:=["a","b","c"]) rfl (by decide) (by decide) h13.1 λx hx G14 h14=>⟨sz rfl,?_⟩;have okx:AA x=true:=List.all_eq_true.mp (show(["a","b","c"]:List Str).all AA=true by decide +kernel) x hx;exact q (.nd "or" (.trm t (.nam x (.trm one .nil)))) _ ((nS (ht.mono (Yr _) (show _<=3*d+8 by lia)) okx hone).mono (by lia) (by lia)) (h13.trans h14)
  have h12:=h11.trans h12;refine Pd (IS h12.1 rfl) (λG13 h13=>?_) λG13 h13=>?_
  ·have h13:=h12.trans h13;refine Bd ?_;walk_at "sm";refine fi (by decide +kernel) hw6 h13 λt G14 ht h14=>?_;have h14:=h13.trans h14;walk_at "sm";refine⟨sz rfl,sz rfl,O2 (xs:=[.tup [.str "read",t.enc],.tup [.str "write",t.enc,one.enc]]) rfl (by decide) (by decide) h14.1 λx hx G15 h15=>?_⟩;have h15:=h14.trans h15;simp only[Yo,YY,or_false]at hx;rcases hx with rfl | rfl
   ·exact q (.nd "read" (.trm t .nil)) _ ((K9 (by decide +kernel) ht).mono (by lia) (by lia)) h15
   ·exact q (.nd "write" (.trm t (.trm one .nil))) _ ((O6 (by decide +kernel) ht (hone.mono (Yr _) (by lia))).mono (by lia) (by lia)) h15
  have h13:=h12.trans h13;refine Bd ?_;walk_at "sm";refine⟨sz rfl,sz rfl,sz rfl,sz rfl,?_⟩;refine⟨(),s,rfl,h13.1,λr G14⟨k,e,hk⟩h14=>?_⟩;subst e;have h14:=h13.trans h14;refine⟨sz rfl,sz rfl,λp15 hp15=>?_⟩;have h15:=h14.put (o:=.lst [.tup [.str "as",one.enc,.tup [.str "any"]],.tup [.str "as",.tup [.str "as",one.enc,.tup [.str "any"]],k.enc]]) hp15;refine CJ (by decide) (by decide) h15.1 λr G16 r0 r1 h16=>?_;obtain⟨x,hx,e⟩:=KY.Dd (h16.2 _ (Hs.ne h14.1 hp15) _ Ap) r0 r1;have h16:=h15.trans h16;show opt (ixW (.ref p15) (.int r) G16) _;rw[e,An];have as1:=O5 hone (show KOk .any from⟨rfl,rfl⟩);simp only[Yo,YY,or_false]at hx;rcases hx with rfl | rfl
  ·exact q (.nd "as" (.trm one (.knd .any .nil))) _ (as1.mono (by lia) (by lia)) h16
  ·exact q (.nd "as" (.trm (.nd "as" (.trm one (.knd .any .nil))) (.knd k .nil))) _ ((O5 as1 hk).mono (by lia) (by lia)) h16
set_option hygiene false in
set_option hygiene false in
set_option hygiene false in
set_option hygiene false in
set_option hygiene false in
abbrev W4:List Str:=["term"]
theorem W5:Az W4 ["term"] (Ak NU):=by walk_at "s"
def W6(CW:Spw)(EQ:Spw):GS:=(Ai (Ad (Ay) (gC (.int 1)) (gB (El) (Aa (AZ (AY (Ah CW XF (Aa (Ab 0) Ac))) 1 (gNm 0) AX (Ah EQ XF (Aa (Ab 0) Ac))) Ac))))
theorem oo(T:Tx K mg base a)(W7:Df P w K mg base "_law_parts" Dq 1 CW)(W8:Dq<=k)(oq:Df P w K mg base "_law_count" FC 1 EQ)(ot:FC<=k):Dn P w K mg base W4 "_law_count" NU k (W6 CW EQ):=λ{f cdv A outer s H E}hr=>
 have hu:=AM hr
 have hN:=W5.nd
 (AD (A3 (GW E2 (Co RL (RB rfl) rfl T.TY (by decide) rfl rfl rfl (AT rfl (Cq (Nc:=["part"]) rfl (Cj rfl (by decide +kernel) (by decide +kernel)) (λ_=>rfl) (by walk_at "v") (C3 (i:=0) (by decide) rfl rfl) (λC fp s1 H1=>BX) (λC fp s1 H1=>(by walk_at "v"))) Bk)))))
abbrev W9:List Str:=["term"]
theorem Xa:Az W9 ["term"] (Ak NV):=by walk_at "s"
def Xb(CW:Spw)(ER:Spw):GS:=(Ai (Ad (Ay) (gC (.int 1)) (gB (rF HP) (Aa (Ad (Ay) (AZ (AY (Ah CW XF (Aa (Ab 0) Ac))) 1 (gNm 0) AX (Ah ER XF (Aa (Ab 0) Ac))) (Av (Aa (gC (.int 0)) Ac))) Ac))))
theorem ou(T:Tx K mg base a)(W7:Df P w K mg base "_law_parts" Dq 1 CW)(W8:Dq<=k)(ow:Df P w K mg base "_law_deep" FD 1 ER)(oy:FD<=k):Dn P w K mg base W9 "_law_deep" NV k (Xb CW ER):=λ{f cdv A outer s H E}hr=>
 have hu:=AM hr
 have hN:=Xa.nd
 (AD (A3 (GW E2 (Co RM (RE rfl) rfl T.TX (by decide) rfl rfl rfl (AT rfl (GW (Cq (Nc:=["part"]) rfl (Cj rfl (by decide +kernel) (by decide +kernel)) (λ_=>rfl) (by walk_at "v") (C3 (i:=0) (by decide) rfl rfl) (λC fp s1 H1=>BX) (λC fp s1 H1=>(by walk_at "v"))) (by walk_at "v")) Bk)))))
abbrev Xd:List Str:=["term"]
theorem Xe:Az Xd ["term"] (Ak NW):=by walk_at "s"
def Xf:GS:=(Af (gIf (gTB (Ad (Ae (eqF false)) (Ad (Ae ixW) (Ab 0) (gC (.int 0))) (gC (.str "rec")))) (Ai (AZ (AY (Ad (Ae ixW) (Ab 0) (gC (.int 1)))) 1 (gNm 0) AX (Ad (Ae ixW) (Ab 0) (gC (.int 1))))) Aj) (Af (gIf (gTB (Ad (Ae (inF false)) (Ad (Ae ixW) (Ab 0) (gC (.int 0))) (Av (Aa (gC (.str "num")) (Aa (gC (.str "truth")) (Aa (gC (.str "name")) Ac)))))) (Ai (Av Ac)) Aj) (Af (gIf (gTB (Ad (Ae (eqF false)) (Ad (Ae ixW) (Ab 0) (gC (.int 0))) (gC (.str "fun")))) (Ai (Av (Aa (Ad (Ae ixW) (Ab 0) (gC (.int 3))) Ac))) Aj) (Af (gIf (gTB (Ad (Ae (inF false)) (Ad (Ae ixW) (Ab 0) (gC (.int 0))) (Av (Aa (gC (.str "get")) (Aa (gC (.str "as")) (Aa (gC (.str "new")) (Aa (gC (.str "read")) Ac))))))) (Ai (Av (Aa (Ad (Ae ixW) (Ab 0) (gC (.int 1))) Ac))) Aj) (Af (gIf (gTB (Ad (Ae (eqF false)) (Ad (Ae ixW) (Ab 0) (gC (.int 0))) (gC (.str "or")))) (Ai (Av (Aa (Ad (Ae ixW) (Ab 0) (gC (.int 1))) (Aa (Ad (Ae ixW) (Ab 0) (gC (.int 3))) Ac)))) Aj) (Ai (gB (Ep) (Aa (B4 (Ab 0) (Bl (gC (.int 1))) Bu) Ac))))))))
theorem oz(T:Tx K mg base a):Dn P w K mg base Xd "_law_parts" NW k (Xf):=λ{f cdv A outer s H E}hr=>
 have hu:=AM hr
 have hN:=Xe.nd
 (Aw (Bg (by walk_at "v") (AD (A3 (Cq (Nc:=["pair"]) rfl (Cj rfl (by decide +kernel) (by decide +kernel)) (λ_=>rfl) (by walk_at "v") (C3 (i:=0) (by decide) rfl rfl) (λC fp s1 H1=>BX) (λC fp s1 H1=>(by walk_at "v"))))) Bf) (by walk_at "v"))
abbrev Xg:List Str:=["script","k","state","deep","term"]
theorem Xh:Az Xg ["script","k"] (Ak NX):=by walk_at "s"
def Xi(Lc:Spw)(AG:Spw)(A1:Spw)(EQ:Spw)(ER:Spw):GS:=(Af (Aq 2 (Ad (Ay) (Ah Lc XF (Aa (Ab 0) (Aa (Ab 1) Ac))) (Av (Aa (gC (.int 8)) Ac)))) (Af (Aq 3 (gC (.int 4))) (Af (gIf (gTB (Ad (Ae (eqF false)) (Ah AG XF (Aa (Ab 2) (Aa (gC (.int 4)) Ac))) (gC (.int 1)))) (Af (Ck (gC (.int 24)) (Ab 2) (gC (.int 2))) (Aq 3 (gC (.int 9)))) Aj) (Af (Aq 4 (Ah A1 XF (Aa (Ab 2) (Aa (Ab 3) (Aa (Av Ac) (Aa (Ad (Ae ixW) (Av (Aa (gC (.str "num")) (Aa (gC (.str "truth")) (Aa (gC (.str "row")) (Aa (gC (.str "box")) (Aa (gC (.str "to")) Ac)))))) (Ah AG XF (Aa (Ab 2) (Aa (gC (.int 5)) Ac)))) Ac)))))) (Af (gIf (gOr (gTB (Ad (A0 λi j=>decide (j < i)) (Ah EQ XF (Aa (Ab 4) Ac)) (gC (.int 40)))) (gTB (Ad (A0 λi j=>decide (j < i)) (Ah ER XF (Aa (Ab 4) Ac)) (gC (.int 10))))) (Aq 4 (Ao (Aa (gC (.str "num")) (Aa (gC (.int 0)) Ac)))) Aj) (Ai (Ab 4)))))))
theorem oA(T:Tx K mg base a){K2:Nat}(tN:Df P w K mg base "_law_state" K2 2 Lc)(tO:K2<=k){Bh:Nat}(Gq:Df P w K mg base "_law_choice" Bh 2 AG)(Gr:Bh<=k){B0:Nat}(IN:Df P w K mg base "_law_term" B0 4 A1)(IP:B0<=k)(oq:Df P w K mg base "_law_count" FC 1 EQ)(ot:FC<=k)(ow:Df P w K mg base "_law_deep" FD 1 ER)(oy:FD<=k):Dn P w K mg base Xg "_law_drawn_term" NX k (Xi Lc AG A1 EQ ER):=by
 have hN:=Xh.nd;walk_at "z"
theorem Gw{r:As}(h:r.sorts=[]):r=.nil:=by cases r <;> first | rfl | cases h
theorem Gx{r:As}(h:r.sorts=("term":Str)::ss):∃ t r',r=.trm t r'/\r'.sorts=ss:=by cases r <;> first | exact⟨_,_,rfl,(Qg h).2⟩| exact Qk (Qg h).1 (by decide +kernel)| cases h
theorem oB{r:As}(h:r.sorts=("number":Str)::ss):∃ t r',r=.num t r'/\r'.sorts=ss:=by cases r <;> first | exact⟨_,_,rfl,(Qg h).2⟩| exact Qk (Qg h).1 (by decide +kernel)| cases h
theorem oD{r:As}(h:r.sorts=("truth":Str)::ss):∃ t r',r=.tru t r'/\r'.sorts=ss:=by cases r <;> first | exact⟨_,_,rfl,(Qg h).2⟩| exact Qk (Qg h).1 (by decide +kernel)| cases h
theorem Ld{r:As}(h:r.sorts=("name":Str)::ss):∃ t r',r=.nam t r'/\r'.sorts=ss:=by cases r <;> first | exact⟨_,_,rfl,(Qg h).2⟩| exact Qk (Qg h).1 (by decide +kernel)| cases h
theorem Xj{r:As}(h:r.sorts=("kind":Str)::ss):∃ t r',r=.knd t r'/\r'.sorts=ss:=by cases r <;> first | exact⟨_,_,rfl,(Qg h).2⟩| exact Qk (Qg h).1 (by decide +kernel)| cases h
theorem Xk{w:Str}{r:As}(h:KTD.datumAt w AK=some r.sorts)(g:w≠"rec"):(w="num"/\∃ i,r=.num i .nil)\/(w="truth"/\∃ b,r=.tru b .nil)\/(w="name"/\∃ x,r=.nam x .nil)\/(w="fun"/\∃ x k t,r=.nam x (.knd k (.trm t .nil)))\/(w="get"/\∃ t x,r=.trm t (.nam x .nil))\/(w="or"/\∃ t x u,r=.trm t (.nam x (.trm u .nil)))\/(w="if"/\∃ t u v,r=.trm t (.trm u (.trm v .nil)))\/(w="as"/\∃ t k,r=.trm t (.knd k .nil))\/((w="new"\/w="read")/\∃ t,r=.trm t .nil)\/((w="call"\/w="plus"\/w="less"\/w="write")/\∃ t u,r=.trm t (.trm u .nil)):=by
 have f:=EK h
 have two:∀{r:As},r.sorts=[("term":Str),"term"]->∃ t u,r=.trm t (.trm u .nil):=λe=>by
  obtain⟨t,r1,rfl,a⟩:=Gx e;obtain⟨u,d,rfl,c⟩:=Gx a;rw[Gw c];exact⟨t,u,rfl⟩
 have one:∀{r:As},r.sorts=[("term":Str)]->∃ t,r=.trm t .nil:=λe=>by
  obtain⟨t,r1,rfl,a⟩:=Gx e;rw[Gw a];exact⟨t,rfl⟩
 simp only[AK,Yo,Prod.mk.injEq,YY,or_false]at f;rcases f with⟨rfl,e⟩|⟨rfl,e⟩|⟨rfl,e⟩|⟨rfl,e⟩|⟨rfl,e⟩|⟨rfl,e⟩|⟨rfl,e⟩|⟨rfl,e⟩|⟨rfl,e⟩|⟨rfl,e⟩|⟨rfl,e⟩|⟨rfl,e⟩|⟨rfl,e⟩|⟨rfl,e⟩|⟨rfl,e⟩
 ·obtain⟨i,r1,rfl,a⟩:=oB e;rw[Gw a];exact .inl ⟨rfl,i,rfl⟩
 ·obtain⟨i,r1,rfl,a⟩:=oD e;rw[Gw a];exact .inr (.inl ⟨rfl,i,rfl⟩)
 ·obtain⟨i,r1,rfl,a⟩:=Ld e;rw[Gw a];exact .inr (.inr (.inl ⟨rfl,i,rfl⟩))
 ·obtain⟨x,r1,rfl,a⟩:=Ld e;obtain⟨k,d,rfl,c⟩:=Xj a;obtain⟨t,rfl⟩:=one c;exact .inr (.inr (.inr (.inl ⟨rfl,x,k,t,rfl⟩)))
 ·exact .inr (.inr (.inr (.inr (.inr (.inr (.inr (.inr (.inr ⟨.inl rfl,two e⟩))))))))
 ·exact Qk rfl g
 ·obtain⟨t,r1,rfl,a⟩:=Gx e;obtain⟨x,d,rfl,c⟩:=Ld a;rw[Gw c];exact .inr (.inr (.inr (.inr (.inl ⟨rfl,t,x,rfl⟩))))
 ·obtain⟨t,r1,rfl,a⟩:=Gx e;obtain⟨x,d,rfl,c⟩:=Ld a;obtain⟨u,rfl⟩:=one c;exact .inr (.inr (.inr (.inr (.inr (.inl ⟨rfl,t,x,u,rfl⟩)))))
 ·obtain⟨t,r1,rfl,a⟩:=Gx e;obtain⟨u,v,rfl⟩:=two a;exact .inr (.inr (.inr (.inr (.inr (.inr (.inl ⟨rfl,t,u,v,rfl⟩))))))
 ·exact .inr (.inr (.inr (.inr (.inr (.inr (.inr (.inr (.inr ⟨.inr (.inl rfl),two e⟩))))))))
 ·exact .inr (.inr (.inr (.inr (.inr (.inr (.inr (.inr (.inr ⟨.inr (.inr (.inl rfl)),two e⟩))))))))
 ·exact .inr (.inr (.inr (.inr (.inr (.inr (.inr (.inr (.inl ⟨.inl rfl,one e⟩))))))))
 ·exact .inr (.inr (.inr (.inr (.inr (.inr (.inr (.inr (.inl ⟨.inr rfl,one e⟩))))))))
 ·exact .inr (.inr (.inr (.inr (.inr (.inr (.inr (.inr (.inr ⟨.inr (.inr (.inr rfl)),two e⟩))))))))
 ·obtain⟨t,r1,rfl,a⟩:=Gx e;obtain⟨k,d,rfl,c⟩:=Xj a;rw[Gw c];exact .inr (.inr (.inr (.inr (.inr (.inr (.inr (.inl ⟨rfl,t,k,rfl⟩)))))))
theorem Hl{w:Str}{Au:GS}(c:ω[0]?=some (some (.tup (.str w::xs))))(a:(w==t)=b)(h:if b=true then e ω G D.rt else Au D ω G):Af (gIf (gTB (Ad (Ae (eqF false)) (Ad (Ae ixW) (Ab 0) (gC (.int 0))) (gC (.str t)))) (Ai e) Aj) Au D ω G:=by
 simp only[Af,gIf,gTB,Ad,Ae,Ab,c,gC,ixW,Bx,An,BD,Ai,Aj,a];cases b <;> exact h
theorem Xl{w:Str}{l:List Str}{Au:GS}(a:ω[0]?=some (some (.tup (.str w::xs))))(f:∀ Z:List W->Hw->Prop,Z (l.map W.str) G->gs ω G Z)(hl:l.length<=100)(d:l.any (·==w)=b)(h:∀ G',Sub G G'->if b=true then e ω G' D.rt else Au D ω G'):Af (gIf (gTB (Ad (Ae (inF false)) (Ad (Ae ixW) (Ab 0) (gC (.int 0))) (Av gs))) (Ai e) Aj) Au D ω G:=by
 simp only[Af,gIf,gTB,Ad,Ae,Ab,a,gC,ixW,Bx,An,Av,Ai,Aj];refine f _ ⟨Ce (by rw[Yh];lia),λp c=>?_⟩;rw[O8 l w Ap rfl,An,d];have:=h _ (AE (o:=.lst (l.map W.str)) c);cases b <;> exact this
abbrev oE:Spw:=spL (λ(t:Te)ws _=>ws=[t.enc]/\t.ok=true/\t.cnt<=1000000) λt=>t.parts.map Te.enc
set_option hygiene false in
abbrev gIx(i:Int):GE:=Ad (Ae ixW) (Ab 0) (gC (.int i))
abbrev gLs:GE:=gB Ep (Aa (B4 (Ab 0) (Bl (gC (.int 1))) Bu) Ac)
theorem Ed{w:Str}(h0:ω[0]?=some (some (.tup (.str w::xs))))(e1:(["num","truth","name"]:List Str).any (·==w)=b1)(e2:(w=="fun")=b2)(e3:(["get","as","new","read"]:List Str).any (·==w)=b3)(e4:(w=="or")=b4)(h:∀ G',Sub G G'->if b1=true then Av Ac ω G' Q else if b2=true then Av (Aa (gIx 3) Ac) ω G' Q else if b3=true then Av (Aa (gIx 1) Ac) ω G' Q else if b4=true then Av (Aa (gIx 1) (Aa (gIx 3) Ac)) ω G' Q else gLs ω G' Q):
  Af (gIf (gTB (Ad (Ae (inF false)) (gIx 0) (Av (Aa (gC (.str "num")) (Aa (gC (.str "truth")) (Aa (gC (.str "name")) Ac)))))) (Ai (Av Ac)) Aj) (Af (gIf (gTB (Ad (Ae (eqF false)) (gIx 0) (gC (.str "fun")))) (Ai (Av (Aa (gIx 3) Ac))) Aj) (Af (gIf (gTB (Ad (Ae (inF false)) (gIx 0) (Av (Aa (gC (.str "get")) (Aa (gC (.str "as")) (Aa (gC (.str "new")) (Aa (gC (.str "read")) Ac))))))) (Ai (Av (Aa (gIx 1) Ac))) Aj) (Af (gIf (gTB (Ad (Ae (eqF false)) (gIx 0) (gC (.str "or")))) (Ai (Av (Aa (gIx 1) (Aa (gIx 3) Ac)))) Aj) (Ai gLs)))) (Ax Q) ω G:=by
 refine Xl (l:=["num","truth","name"]) h0 (λZ z=>by walk_at "cl") (by decide) e1 λG1 s1=>BK (λe=>?_) (λe=>?_)
 ·have:=h G1 s1;rw[if_pos e]at this;exact this
 refine Hl h0 e2 (BK (λe'=>?_) (λe'=>?_))
 ·have:=h G1 s1;rw[if_neg e,if_pos e']at this;exact this
 refine Xl (l:=["get","as","new","read"]) h0 (λZ z=>by walk_at "cl") (by decide) e3 λG2 s2=>BK (λf=>?_) (λf=>?_)
 ·have:=h G2 (s1.trans s2);rw[if_neg e,if_neg e',if_pos f]at this;exact this
 refine Hl h0 e4 (BK (λf'=>?_) (λf'=>?_))
 ·have:=h G2 (s1.trans s2);rw[if_neg e,if_neg e',if_neg f,if_pos f']at this;exact this
 ·have:=h G2 (s1.trans s2);rw[if_neg e,if_neg e',if_neg f,if_neg f']at this;exact this
theorem Dq(T:Tx K mg base a):Df P w K mg base "_law_parts" 1 1 oE:=by
 refine mk0 (k:=0) T.kJ rfl Xe JS (λI G Q E⟨x,⟨e,_⟩,_⟩=>by rw[e];rfl) (oz T) λI G Q E N q=>?_;obtain⟨t,⟨rfl,B,hc⟩,q⟩:=q
 have l:∀{G':Hw}{p:Addr},Sub G G'->G' p=none->Q (.ref p) (put G' p (.lst (t.parts.map Te.enc))):=λ{G' p}o g=>N _ _ _ (Sub.put2 o) (q p (by
  cases e:G p with
  | none=>rfl
  | some u=>rw[o _ _ e]at g;cases g))
 cases t with
 | raw v=>cases B
 | nd w r =>
 unfold Xf;show Af (gIf _ _ Aj) _ (Ax Q) [some (.tup (.str w::r.enc))] G;by_cases A:w="rec"
 ·subst A;obtain⟨f,rfl⟩:=(KR (Fp B).1).1 rfl;refine Hl (b:=true) rfl (by decide +kernel) ?_;rw[if_pos rfl];have J:1+(f.cnt+0)<=1000000:=hc;have O:=KS f;simp only[AZ,AY,Ad,Ae,Ab,gC,Yb,As.enc,ixW,B5,An,List.replicate];refine Ga (f:=KP) trivial f.enc none [] (λx H D L=>?_) (by simp only[Yi];exact Yt (show 0+f.enc.length<=1000000 by lia) (by decide)) λp g=>?_
  ·obtain⟨n,u,rfl⟩:=OW H;show Ad (Ae ixW) (Ab 0) (gC (.int 1)) [some (W.tup [.str n,u])] _ D;simp only[Ad,Ae,Ab,gC,Yb,ixW,B5,An];exact L
  ·rw[Yw,OV];have:=l (G':=G) (p:=p) (λ_ _ h=>h) g;have this:Q (.ref p) (put G p (.lst ((f.terms++[]).map Te.enc))):=this;rw[Yx]at this;exact this
 refine Hl (b:=false) rfl (by simpa using A) ?_;rw[if_neg (by decide)]
 have j:∀{G':Hw},Sub G G'->r.enc=r.parts.map Te.enc->gB Ep (Aa (B4 (Ab 0) (Bl (gC (.int 1))) Bu) Ac) [some (.tup (.str w::r.enc))] G' Q:=λ{G'}o e=>by
  simp only[gB,B4,Bl,Bu,Aa,Ac,Ab,gC,Yb,slA];rw[Gb];show ∀ p,G' p=none->Q (.ref p) (put G' p (.lst r.enc));intro p g;rw[e];exact l o g
 have lst:∀{G':Hw}{xs:List W}{gs:GA},Sub G G'->xs.length<=3->xs=r.parts.map Te.enc->(∀ Z:List W->Hw->Prop,Z xs G'->gs [some (.tup (.str w::r.enc))] G' Z)->Av gs [some (.tup (.str w::r.enc))] G' Q:=λ{G' xs gs}o hl e F=>F _ ⟨Ce (by lia),λp g=>by rw[e];exact l o g⟩;have d:∀{x:W}{xs:List W}{G':Hw},ixW (.tup (.str w::x::xs)) (.int 1) G'=some x:=λ{x xs G'}=>B5;have s:∀{x y z:W}{xs:List W}{G':Hw},ixW (.tup (.str w::x::y::z::xs)) (.int 3) G'=some z:=λ{x y z xs G'}=>(show atI (.str w::x::y::z::xs) ((3:Nat):Int)=some z from L2.CB rfl)
 have m:∀{x:W}{i:Int}{ω:Sw}{G':Hw}{Z:Kw},ω=[some (.tup (.str w::r.enc))]->ixW (.tup (.str w::r.enc)) (.int i) G'=some x->Z x G'->gIx i ω G' Z:=λ{x i ω G' Z}h e z=>by
  simp only[gIx,Ad,Ae,Ab,gC,h,Yb,e,An];exact z
 rcases Xk (Fp B).1 A with⟨rfl,i,rfl⟩|⟨rfl,i,rfl⟩|⟨rfl,i,rfl⟩|⟨rfl,x,k,t,rfl⟩|⟨rfl,t,x,rfl⟩|⟨rfl,t,x,u,rfl⟩|⟨rfl,t,u,v,rfl⟩|⟨rfl,t,k,rfl⟩|⟨hw,t,rfl⟩|⟨hw,t,u,rfl⟩
 ·exact Ed (b1:=true) rfl (by decide +kernel) rfl rfl rfl λG1 c=>by simp only[Yq,if_false,if_true];exact lst (xs:=[]) c (by decide) rfl λZ z=>z
 ·exact Ed (b1:=true) rfl (by decide +kernel) rfl rfl rfl λG1 c=>by simp only[Yq,if_false,if_true];exact lst (xs:=[]) c (by decide) rfl λZ z=>z
 ·exact Ed (b1:=true) rfl (by decide +kernel) rfl rfl rfl λG1 c=>by simp only[Yq,if_false,if_true];exact lst (xs:=[]) c (by decide) rfl λZ z=>z
 ·exact Ed (b1:=false) (b2:=true) rfl (by decide +kernel) (by decide +kernel) rfl rfl λG1 c=>by simp only[Yq,if_false,if_true];exact lst (xs:=[t.enc]) c (show 1<=3 by decide) rfl λZ z=>m rfl s z
 ·walk_at "pb"
 ·exact Ed (b1:=false) (b2:=false) (b3:=false) (b4:=true) rfl (by decide +kernel) (by decide +kernel) (by decide +kernel) (by decide +kernel) λG1 c=>by simp only[Yq,if_false,if_true];exact lst (xs:=[t.enc,u.enc]) c (show 2<=3 by decide) rfl λZ z=>m rfl d (m rfl s z)
 ·exact Ed (b1:=false) (b2:=false) (b3:=false) (b4:=false) rfl (by decide +kernel) (by decide +kernel) (by decide +kernel) (by decide +kernel) λG1 c=>by simp only[Yq,if_false,if_true];exact j c rfl
 ·walk_at "pb"
 ·rcases hw with rfl | rfl <;> exact Ed (b1:=false) (b2:=false) (b3:=true) rfl (by decide +kernel) (by decide +kernel) (by decide +kernel) rfl λG1 c=>by simp only[Yq,if_false,if_true];exact lst (xs:=[t.enc]) c (show 1<=3 by decide) rfl λZ z=>m rfl d z
 ·rcases hw with rfl | rfl | rfl | rfl <;> exact Ed (b1:=false) (b2:=false) (b3:=false) (b4:=false) rfl (by decide +kernel) (by decide +kernel) (by decide +kernel) (by decide +kernel) λG1 c=>by simp only[Yq,if_false,if_true];exact j c rfl
abbrev oF(n:Nat):Spw:=spR (λ(t:Te)ws _=>ws=[t.enc]/\t.ok=true/\t.dp<=n/\t.cnt<=1000000) λt=>.int (t.cnt:Nat)
theorem FC(T:Tx K mg base a):∀ n:Nat,Df P w K mg base "_law_count" (n+1) 1 (oF n)
 | 0=>Da T.Tt A6 λd G Q E⟨t,⟨_,_,hd,_⟩,_⟩=>by have:=OR t;lia
 | n+1=>by
  refine mk0 (k:=n+1) T.Tt rfl W5 A6 (λd G Q E⟨x,⟨e,_⟩,_⟩=>by rw[e];rfl) (oo T (Dq T) (by lia) (FC T n) (Yr _)) λd G Q E h q=>?_;obtain⟨t,⟨rfl,f,hd,hc⟩,q⟩:=q;unfold W6;simp only[Ai,Ad,gC,gB,AZ,AY,Aa,Ac];refine⟨t,⟨rfl,f,hc⟩,λp g=>?_⟩;simp only[Ap];exact np (AE g) Ap hc h (λc b G Q E q=>⟨c,⟨rfl,KO f c b,by have:=O0 b;lia,by have:=O1 b;lia⟩,q⟩) q
theorem Xm:∀ l:List Te,C6 ((l.map λc=>(c.dp:Int))++[0])=(tdp l:Int)
 | []=>rfl
 | [c]=>by show max (c.dp:Int) 0=((max c.dp 0:Nat):Int);lia
 | c::a::l=>by
  have b:=Xm (a::l);show max (c.dp:Int) (C6 (((a::l).map λc=>(c.dp:Int))++[0]))=((max c.dp (tdp (a::l)):Nat):Int);rw[b];lia
abbrev oG(n:Nat):Spw:=spR (λ(t:Te)ws _=>ws=[t.enc]/\t.ok=true/\t.dp<=n/\t.cnt<=1000000) λt=>.int (t.dp:Nat)
theorem FD(T:Tx K mg base a):∀ n:Nat,Df P w K mg base "_law_deep" (n+1) 1 (oG n)
 | 0=>Da T.Tu A6 λl G Q E⟨t,⟨_,_,hd,_⟩,_⟩=>by have:=OR t;lia
 | n+1=>by
  refine mk0 (k:=n+1) T.Tu rfl Xa A6 (λl G Q E⟨x,⟨e,_⟩,_⟩=>by rw[e];rfl) (ou T (Dq T) (by lia) (FD T n) (Yr _)) λl G Q E v q=>?_;obtain⟨t,⟨rfl,m,hd,hc⟩,q⟩:=q;have z:=Gk t;have hl:=II t.parts;have s:t.parts.length+1<=sizeLine:=Yt (show t.parts.length+1<=1000000 by lia) (by decide);unfold Xb;simp only[Ai,Ad,gC,gB,AZ,AY,Aa,Ac];refine⟨t,⟨rfl,m,hc⟩,λp r=>?_⟩;simp only[Ap];refine Hj (enc:=Te.enc) (f:=λc=>.int (c.dp:Nat)) Ap t.parts none [] (λc b y u=>⟨c,⟨rfl,KO m c b,by have:=O0 b;lia,by have:=O1 b;lia⟩,u⟩) (by simp only[Yi];lia) λp2 h=>?_;rw[Yw];have i:=C8 (o:=.lst (t.parts.map λc=>W.int (c.dp:Nat))) (AE (o:=.lst (t.parts.map Te.enc)) r) h;have j:put (put G p (.lst (t.parts.map Te.enc))) p2 (.lst (t.parts.map λc=>W.int (c.dp:Nat))) p2=some (.lst (t.parts.map λc=>W.int (c.dp:Nat))):=Ap;generalize put (put G p (.lst (t.parts.map Te.enc))) p2 (.lst (t.parts.map λc=>W.int (c.dp:Nat)))=G2 at i j ⊢;simp only[Av,Aa,Ac];refine⟨sz rfl,λp3 d=>?_⟩;refine WH (AE d _ _ j) Ap (by rw[Yh];exact s) λp4 g=>?_;have e:(t.parts.map λc:Te=>W.int (c.dp:Nat))++[W.int 0]=((t.parts.map λc:Te=>(c.dp:Int))++[0]).map W.int:=by rw[Yy,YB];rfl
  simp only[rF,HP,CP Ap,Option.bind_some,e,L3.Nk];rw[if_pos (by rw[Yj];simp only[Yg,Yi];lia),An,Xm];show Q (.int (1+((tdp t.parts:Nat):Int))) _;rw[show(1:Int)+((tdp t.parts:Nat):Int)=((t.dp:Nat):Int) by rw[IH t];lia];exact v _ _ _ (C8 (C8 i d) g) q
def Xn:Spw:=λws G Q _=>∃(ns:List Int)(k:Int),ws=[.rol (ns.map W.int),.int k]/\0<=k/\∀(t:Te)G',tg t->Sub G G'->Q t.enc G'
theorem oH:Spw.M Xn:=(by rintro e G Q d E f h _ ⟨ns,k,h1,h2,q⟩;exact⟨ns,k,h1,h2,λt c a b=>h _ _ (q t c a b)⟩)
theorem bc9:bc 9<=1000000:=by decide
theorem Le(T:Tx K mg base a):Df P w K mg base "_law_drawn_term" 34 2 Xn:=by
 refine mk0 (k:=33) T.kK rfl Xh oH (λws G Q E⟨_,_,e,_⟩=>by rw[e];rfl) (oA T (K2 T) (by lia) (Bh T) (by lia) (B0 T 10) (by lia) (FC T 29) (by lia) (FD T 29) (by lia)) λws G Q E hC q=>?_;obtain⟨ns,k,rfl,hk,q⟩:=q;unfold Xi;show Af (Aq 2 _) _ (Ax Q) [some (.rol (ns.map W.int)),some (.int k),none,none,none] G;refine Bd ?_;simp only[Ad,Ah,Av,Aa,Ac,Ab,gC,Yb,Yc];refine⟨ns,k,rfl,hk,λp x b S=>⟨sz rfl,λp2 i=>?_⟩⟩;refine Fy (AE i _ _ Ap) Ap (by simp only[Yg,Yi];lia) λs F=>?_;have R:=C8 (o:=.lst ([.int x,.bl b]++[.int 8])) (C8 (o:=.lst [.int 8]) (AE (o:=.lst [.int x,.bl b]) S) i) F;have B:put (put (put G p (.lst [.int x,.bl b])) p2 (.lst [.int 8])) s (.lst ([.int x,.bl b]++[.int 8])) s=some (.lst [.int x,.bl b,.int 8]):=Ap
 have N:G s=none:=by
  cases e:G s with
  | none=>rfl
  | some u=>rw[C8 (o:=.lst [.int 8]) (AE (o:=.lst [.int x,.bl b]) S) i _ _ e]at F;cases F
 generalize put (put (put G p (.lst [.int x,.bl b])) p2 (.lst [.int 8])) s (.lst ([.int x,.bl b]++[.int 8]))=G1 at R B ⊢;have D:St true s G1:=⟨x,b,8,B⟩;have f:∀{G2:Hw},Hs true s G1 G2->Sub G G2:=λh b u v=>h.2 b (DG v N) u (R b u v);walk_at "pa";refine Bd ?_;simp only[gC,Yk,Yl];refine FA (λr=>∀(d:Nat)G',d<=9->Hs true s G1 G'->r (Ax Q) [some (.rol (ns.map W.int)),some (.int k),some (.ref s),some (.int (d:Nat)),none] G') (λd G2 hd h2=>?_) λAu g=>?_;rotate_left
 ·simp only[Af,gIf,gTB,Ad,Ae,Ah,Aa,Ac,Ab,gC,Yb,Yc];refine CJ (by decide) (by decide) D λr G2 _ _ h2=>?_;simp only[Cf,An];refine BK (λ_=>?_) (λ_=>g 4 G2 (by decide) h2);obtain⟨y,c,z,e⟩:=h2.1;simp only[Ck,Aq,Ab,gC,Yk,Yl,Yb,Yc];refine WF (show G2 s=some (.lst [.int y,.bl c,.int z])from e) (g 9 _ (by decide) ⟨⟨y,c,24,Ap⟩,λb O u v=>by rw[A2 O];exact h2.2 b O u v⟩)
 refine Bd ?_;simp only[Ad,Ah,Av,Aa,Ac,Ab,gC,Yb,Yc];refine⟨sz rfl,λpn l=>?_⟩;have X:=h2.put (o:=.lst []) l;have n3:=Hs.ne h2.1 l;refine Fv (ss:=["num","truth","row","box","to"]) rfl (by decide) (by decide) X.1 λwn I G4 j=>?_;have Y:=j.2 _ n3 _ (show put G2 pn (.lst []) pn=some (.lst [])from Ap);have j:=X.trans j;refine EO (d:=d) (n:=10) (ns:=[]) rfl (by lia) j.1 ⟨n3,Y,λx hx=>(by cases hx),by show 0+d<=12;lia⟩ (hd6 (by decide +kernel) I) λt G5 Z A=>?_;have A:=j.trans A
 have hbc:bc d<=bc 9:=by
  have:∀ m:Nat,bc d<=bc (d+m):=λm=>by
   induction m with
   | zero=>exact Yr _
   | succ m ih=>exact Yt ih (show bc (d+m)<=4*bc (d+m)+3 by lia)
  have U:=this (9 - d);rw[show d+(9 - d)=9 by lia]at U;exact U
 have hb9:=bc9;obtain⟨J,L,H⟩:=Z;have H:t.dp<=29:=by lia
 have L:t.cnt<=1000000:=by lia
 simp only[Af,gIf,gOr,gTB,Ad,A0,Ah,Aa,Ac,Ab,gC,Yk,Yl,Yb,Yc];refine⟨t,⟨rfl,J,H,L⟩,?_⟩;have zero:Q (.tup [.str "num",.int 0]) G5:=q (.nd "num" (.num 0 .nil)) _ ⟨by decide +kernel,by decide,by decide⟩ (f A);refine BK (λ_=>⟨sz rfl,zero⟩) (λB=>?_);refine⟨t,⟨rfl,J,H,L⟩,?_⟩;refine BK (λ_=>⟨sz rfl,zero⟩) (λe2=>?_);simp only[YO]at B e2;exact q t _ ⟨J,by lia,by lia⟩ (f A)
set_option hygiene false in
set_option hygiene false in
set_option hygiene false in
set_option hygiene false in
set_option hygiene false in
abbrev Xo:List Str:=["reader","is_less_than_nought","figures"]
theorem Lf:Az Xo ["reader"] (Ak Il):=by walk_at "s"
def Pf(K:PySem.W.Frag)(a:Adr)(Bb:Spw)(Lg:Spw)(E:Addr->Hw->Prop):GS:=(Af (Aq 1 (AN a.Reader "takes" Bb (λ_=>E) (Ab 0) (Aa (gC (.str "-")) Ac))) (Af (Aq 2 (AN a.Reader "figures" Lg (λ_=>E) (Ab 0) Ac)) (Af (gIf (gNt (gTB (BM (AU (λi j=>decide (i<=j)) (λa b=>!AS b a)) (AU (λi j=>decide (i<=j)) (λa b=>!AS b a)) (gC (.int 1)) (gB (rF AL) (Aa (Ab 2) Ac)) (gC (.int 20))))) (B3 a.BadNote E (Aa (gC (.str "wanted a number")) Ac)) Aj) (Af (gIf (Bp (gTB (Ad (Ae (eqF false)) (Ad (Ae ixW) (Ab 2) (gC (.int 0))) (gC (.str "0")))) (gOr (gTB (Ad (A0 λi j=>decide (j < i)) (gB (rF AL) (Aa (Ab 2) Ac)) (gC (.int 1)))) (AB (Ab 1)))) (B3 a.BadNote E (Aa (gC (.str "a needless nought or sign")) Ac)) Aj) (Ai (BB (AB (Ab 1)) (D4 (gB (rF DE) (Aa (Ab 2) Ac))) (gB (rF DE) (Aa (Ab 2) Ac))))))))
theorem oI(T:Tx K mg base a)(CH:DfM P w K mg base a.Reader "takes" k_Reader_takes 2 Bb)(h_Reader_takes:k_Reader_takes<=k)(oJ:DfM P w K mg base a.Reader "figures" k_Reader_figures 1 Lg)(h_Reader_figures:k_Reader_figures<=k){f:Addr}{s:Shared}(hr:Room k (A.deeper (envOfC "number_from" (Ak Il) s.heap.objs.size f cdv))):Ssm (cxW P w K mg base Xo "number_from" (Ak Il) f cdv A outer s H E) (λB=>B=H) (AO Il) (Pf K a Bb Lg (dnX K H E)):=
 have hu:=AM hr
 have hN:=Lf.nd
 (Aw (BW (i:=1) Lf.nd rfl rfl rfl (BJ T.AF CH (hr.mono h_Reader_takes) AH rfl rfl rfl (by walk_at "v") (by walk_at "v"))) (Aw (BW (i:=2) Lf.nd rfl rfl rfl (E9 T.AF oJ (hr.mono h_Reader_figures) AH rfl (by walk_at "v"))) (Aw (Bg (by walk_at "v") (AD (DB T.DI T.DJ PySem.F.excBase_ValueError rfl rfl rfl rfl (by walk_at "v"))) Bf) (Aw (Bg (by walk_at "v") (AD (DB T.DI T.DJ PySem.F.excBase_ValueError rfl rfl rfl rfl (by walk_at "v"))) Bf) (AD (A3 (MD (by walk_at "v") (Na (by walk_at "v")) (by walk_at "v"))))))))
abbrev Xp:List Str:=["reader","word"]
theorem Pg:Az Xp ["reader"] (Ak Io):=by walk_at "s"
def Ph(K:PySem.W.Frag)(a:Adr)(Bq:Spw)(E:Addr->Hw->Prop):GS:=(Af (Aq 1 (AN a.Reader "word" Bq (λ_=>E) (Ab 0) Ac)) (Af (gIf (gTB (Ad (Ae (inF true)) (Ab 1) (Ao (Aa (gC (.str "yes")) (Aa (gC (.str "no")) Ac))))) (B3 a.BadNote E (Aa (gC (.str "wanted a truth")) Ac)) Aj) (Ai (Ad (Ae (eqF false)) (Ab 1) (gC (.str "yes"))))))
theorem oK(T:Tx K mg base a)(DN:DfM P w K mg base a.Reader "word" k_Reader_word 1 Bq)(h_Reader_word:k_Reader_word<=k){f:Addr}{s:Shared}(hr:Room k (A.deeper (envOfC "truth_from" (Ak Io) s.heap.objs.size f cdv))):Ssm (cxW P w K mg base Xp "truth_from" (Ak Io) f cdv A outer s H E) (λB=>B=H) (AO Io) (Ph K a Bq (dnX K H E)):=
 have hu:=AM hr
 have hN:=Pg.nd
 (Aw (BW (i:=1) Pg.nd rfl rfl rfl (E9 T.AF DN (hr.mono h_Reader_word) AH rfl (by walk_at "v"))) (Aw (Bg (by walk_at "v") (AD (DB T.DI T.DJ PySem.F.excBase_ValueError rfl rfl rfl rfl (by walk_at "v"))) Bf) (by walk_at "v")))
abbrev Xq:List Str:=["reader","depth","fields"]
theorem Pi:Az Xq ["reader","depth"] (Ak Iq):=by walk_at "s"
def Pj(K:PySem.W.Frag)(a:Adr)(ED:Spw)(IU:Spw)(Bb:Spw)(E:Addr->Hw->Prop):GS:=(Af (gIf (AB (AN a.Reader "sees" ED (λ_=>E) (Ab 0) (Aa (gC (.str ")")) Ac))) (Ai (Ao Ac)) Aj) (Af (Aq 2 (Av (Aa (Ah IU (λ_=>E) (Aa (Ab 0) (Aa (Ab 1) Ac))) Ac))) (Af (E5 (AB (AN a.Reader "takes" Bb (λ_=>E) (Ab 0) (Aa (gC (.str ", ")) Ac))) (AC (gMt BF BH (Ab 2) (Aa (Ah IU (λ_=>E) (Aa (Ab 0) (Aa (Ab 1) Ac))) Ac)))) (Ai (gB (rF Cp) (Aa (Ab 2) Ac))))))
theorem oM(T:Tx K mg base a)(Oj:DfM P w K mg base a.Reader "sees" k_Reader_sees 2 ED)(h_Reader_sees:k_Reader_sees<=k)(Xr:Df P w K mg base "term_field_from" Lh 2 IU)(Xs:Lh<=k)(CH:DfM P w K mg base a.Reader "takes" k_Reader_takes 2 Bb)(h_Reader_takes:k_Reader_takes<=k){f:Addr}{s:Shared}(hr:Room k (A.deeper (envOfC "fields_from" (Ak Iq) s.heap.objs.size f cdv))):Ssm (cxW P w K mg base Xq "fields_from" (Ak Iq) f cdv A outer s H E) (λB=>B=H) (AO Iq) (Pj K a ED IU Bb (dnX K H E)):=
 have hu:=AM hr
 have hN:=Pi.nd
 (Aw (Bg (Cw (λ_=>rfl) (BJ T.AF Oj (hr.mono h_Reader_sees) AH rfl rfl rfl (by walk_at "v") (by walk_at "v"))) (by walk_at "v") Bf) (Aw (BW (i:=2) Pi.nd rfl rfl rfl (MA (AT rfl (Bo Xr (hr.mono Xs) rfl AH rfl rfl rfl (by walk_at "v")) Bk))) (Aw (GV PassesOwn.leaving (Cw (λ_=>rfl) (BJ T.AF CH (hr.mono h_Reader_takes) AH rfl rfl rfl (by walk_at "v") (by walk_at "v"))) (AD (B2 rfl (CN HQ rfl rfl rfl rfl rfl (by walk_at "v") (AT rfl (Bo Xr (hr.mono Xs) rfl AH rfl rfl rfl (by walk_at "v")) Bk))))) (by walk_at "v"))))
abbrev Xu:List Str:=["reader","depth","name"]
theorem Pk:Az Xu ["reader","depth"] (Ak Ir):=by walk_at "s"
def Pl(K:PySem.W.Frag)(a:Adr)(Bq:Spw)(Bc:Spw)(CY:Spw)(E:Addr->Hw->Prop):GS:=(Af (Aq 2 (AN a.Reader "word" Bq (λ_=>E) (Ab 0) Ac)) (Af (AC (AN a.Reader "wants" Bc (λ_=>E) (Ab 0) (Aa (gC (.str ": ")) Ac))) (Ai (Ao (Aa (Ab 2) (Aa (Ah CY (λ_=>E) (Aa (Ab 0) (Aa (Ad (Ay) (Ab 1) (gC (.int 1))) Ac))) Ac))))))
theorem oN(T:Tx K mg base a)(DN:DfM P w K mg base a.Reader "word" k_Reader_word 1 Bq)(h_Reader_word:k_Reader_word<=k)(CI:DfM P w K mg base a.Reader "wants" k_Reader_wants 2 Bc)(h_Reader_wants:k_Reader_wants<=k)(IV:Df P w K mg base "term_from" DS 2 CY)(IW:DS<=k){f:Addr}{s:Shared}(hr:Room k (A.deeper (envOfC "term_field_from" (Ak Ir) s.heap.objs.size f cdv))):Ssm (cxW P w K mg base Xu "term_field_from" (Ak Ir) f cdv A outer s H E) (λB=>B=H) (AO Ir) (Pl K a Bq Bc CY (dnX K H E)):=
 have hu:=AM hr
 have hN:=Pk.nd
 (Aw (BW (i:=2) Pk.nd rfl rfl rfl (E9 T.AF DN (hr.mono h_Reader_word) AH rfl (by walk_at "v"))) (Aw (B2 rfl (BJ T.AF CI (hr.mono h_Reader_wants) AH rfl rfl rfl (by walk_at "v") (by walk_at "v"))) (AD (A3 (Mz (AT rfl (by walk_at "v") (AT rfl (Bo IV (hr.mono IW) rfl AH rfl rfl rfl (by walk_at "v")) Bk)))))))
abbrev Xv:List Str:=["reader","sort","depth"]
theorem Xx:Az Xv ["reader","sort","depth"] (Ak Iu):=by walk_at "s"
def Pn(K:PySem.W.Frag)(a:Adr)(Li:Spw)(Lj:Spw)(BY:Spw)(Lk:Spw)(CY:Spw)(Bq:Spw)(E:Addr->Hw->Prop):GS:=(Af (gIf (gTB (Ad (Ae (eqF false)) (Ab 1) (gC (.str "number")))) (Ai (Ah Li (λ_=>E) (Aa (Ab 0) Ac))) Aj) (Af (gIf (gTB (Ad (Ae (eqF false)) (Ab 1) (gC (.str "truth")))) (Ai (Ah Lj (λ_=>E) (Aa (Ab 0) Ac))) Aj) (Af (gIf (gTB (Ad (Ae (eqF false)) (Ab 1) (gC (.str "kind")))) (Ai (Ah BY (λ_=>E) (Aa (Ab 0) (Aa (gC (.int 1)) Ac)))) Aj) (Af (gIf (gTB (Ad (Ae (eqF false)) (Ab 1) (gC (.str "fields")))) (Ai (Ah Lk (λ_=>E) (Aa (Ab 0) (Aa (Ab 2) Ac)))) Aj) (Af (gIf (gTB (Ad (Ae (eqF false)) (Ab 1) (gC (.str "term")))) (Ai (Ah CY (λ_=>E) (Aa (Ab 0) (Aa (Ad (Ay) (Ab 2) (gC (.int 1))) Ac)))) Aj) (Ai (AN a.Reader "word" Bq (λ_=>E) (Ab 0) Ac)))))))
theorem oO(T:Tx K mg base a)(oP:Df P w K mg base "number_from" Ll 1 Li)(oQ:Ll<=k)(oR:Df P w K mg base "truth_from" Lm 1 Lj)(oS:Lm<=k){CT:Nat}(Fi:Df P w K mg base "kind_from" CT 2 BY)(Fj:CT<=k)(oU:Df P w K mg base "fields_from" Ln 2 Lk)(oV:Ln<=k)(IV:Df P w K mg base "term_from" DS 2 CY)(IW:DS<=k)(DN:DfM P w K mg base a.Reader "word" k_Reader_word 1 Bq)(h_Reader_word:k_Reader_word<=k){f:Addr}{s:Shared}(hr:Room k (A.deeper (envOfC "thing_from" (Ak Iu) s.heap.objs.size f cdv))):Ssm (cxW P w K mg base Xv "thing_from" (Ak Iu) f cdv A outer s H E) (λB=>B=H) (AO Iu) (Pn K a Li Lj BY Lk CY Bq (dnX K H E)):=
 have hu:=AM hr
 have hN:=Xx.nd
 (Aw (Bg (by walk_at "v") (AD (A3 (Bo oP (hr.mono oQ) rfl AH rfl rfl rfl (by walk_at "v")))) Bf) (Aw (Bg (by walk_at "v") (AD (A3 (Bo oR (hr.mono oS) rfl AH rfl rfl rfl (by walk_at "v")))) Bf) (Aw (Bg (by walk_at "v") (AD (A3 (Bo Fi (hr.mono Fj) rfl AH rfl rfl rfl (by walk_at "v")))) Bf) (Aw (Bg (by walk_at "v") (AD (A3 (Bo oU (hr.mono oV) rfl AH rfl rfl rfl (by walk_at "v")))) Bf) (Aw (Bg (by walk_at "v") (AD (A3 (Bo IV (hr.mono IW) rfl AH rfl rfl rfl (by walk_at "v")))) Bf) (AD (A3 (E9 T.AF DN (hr.mono h_Reader_word) AH rfl (by walk_at "v")))))))))
abbrev Xy:List Str:=["place","word"]
theorem Xz:Az Xy ["place","word"] (Ak NY):=by walk_at "s"
def XA:GS:=(Af (gIf (gTB (Ad (Ae (eqF false)) (Ab 0) (gC (.int 0)))) (Ai (gC (.str ""))) Aj) (Ai (BB (Bp (gTB (Ad (Ae (eqF false)) (Ab 1) (gC (.str "fun")))) (gTB (Ad (Ae (eqF false)) (Ab 0) (gC (.int 1))))) (gC (.str ": ")) (gC (.str ", ")))))
theorem oW(T:Tx K mg base a):Dn P w K mg base Xy "gap_ahead_of" NY k (XA):=by
 have hN:=Xz.nd;walk_at "z"
abbrev XB:List Str:=["reader","depth","word","form","things","place","sort"]
theorem IX:Az XB ["reader","depth"] (Ak Iv):=by walk_at "s"
def IY(K:PySem.W.Frag)(a:Adr)(Bq:Spw)(B7:Spw)(Bc:Spw)(ES:Spw)(Lo:Spw)(E:Addr->Hw->Prop):GS:=(Af (gIf (gTB (Ad (A0 λi j=>decide (j < i)) (Ab 1) (gC (.int 10)))) (B3 a.BadNote E (Aa (gC (.str "too many terms within one another")) Ac)) Aj) (Af (Aq 2 (AN a.Reader "word" Bq (λ_=>E) (Ab 0) Ac)) (Af (Aq 3 (Ah B7 (λ_=>E) (Aa (Ab 2) Ac))) (Af (gIf (gTB (Ad (Ae (isF false)) (Ab 3) (gC .non))) (B3 a.BadNote E (Aa (gC (.str "wanted a term")) Ac)) Aj) (Af (AC (AN a.Reader "wants" Bc (λ_=>E) (Ab 0) (Aa (gC (.str "(")) Ac))) (Af (Aq 4 (Av (Aa (Ab 2) Ac))) (Af (BC (Fb (Aa (Ab 3) Ac)) (Bi 5 6) (Af (AC (AN a.Reader "wants" Bc (λ_=>E) (Ab 0) (Aa (Ah ES (λ_=>E) (Aa (Ab 5) (Aa (Ab 2) Ac))) Ac))) (AC (gMt BF BH (Ab 4) (Aa (Ah Lo (λ_=>E) (Aa (Ab 0) (Aa (Ab 6) (Aa (Ab 1) Ac)))) Ac))))) (Af (AC (AN a.Reader "wants" Bc (λ_=>E) (Ab 0) (Aa (gC (.str ")")) Ac))) (Ai (gB (rF Cp) (Aa (Ab 4) Ac)))))))))))
theorem XC(T:Tx K mg base a)(DN:DfM P w K mg base a.Reader "word" k_Reader_word 1 Bq)(h_Reader_word:k_Reader_word<=k){Cu:Nat}(Kx:Df P w K mg base "form_of" Cu 1 B7)(Ky:Cu<=k)(CI:DfM P w K mg base a.Reader "wants" k_Reader_wants 2 Bc)(h_Reader_wants:k_Reader_wants<=k)(XD:Df P w K mg base "gap_ahead_of" ET 2 ES)(XE:ET<=k)(oX:Df P w K mg base "thing_from" Lp 3 Lo)(oY:Lp<=k){f:Addr}{s:Shared}(hr:Room k (A.deeper (envOfC "term_from" (Ak Iv) s.heap.objs.size f cdv))):Ssm (cxW P w K mg base XB "term_from" (Ak Iv) f cdv A outer s H E) (λB=>B=H) (AO Iv) (IY K a Bq B7 Bc ES Lo (dnX K H E)):=
 have hu:=AM hr
 have hN:=IX.nd
 (Aw (Bg (by walk_at "v") (AD (DB T.DI T.DJ PySem.F.excBase_ValueError rfl rfl rfl rfl (by walk_at "v"))) Bf) (Aw (BW (i:=2) IX.nd rfl rfl rfl (E9 T.AF DN (hr.mono h_Reader_word) AH rfl (by walk_at "v"))) (Aw (BW (i:=3) IX.nd rfl rfl rfl (Bo Kx (hr.mono Ky) rfl AH rfl rfl rfl (by walk_at "v"))) (Aw (Bg (by walk_at "v") (AD (DB T.DI T.DJ PySem.F.excBase_ValueError rfl rfl rfl rfl (by walk_at "v"))) Bf) (Aw (B2 rfl (BJ T.AF CI (hr.mono h_Reader_wants) AH rfl rfl rfl (by walk_at "v") (by walk_at "v"))) (Aw (by walk_at "v") (Aw (HJ PassesOwn.leaving rfl (λ_=>rfl) (S6 T.TU rfl rfl (by walk_at "v")) (by walk_at "v") (Aw (B2 rfl (BJ T.AF CI (hr.mono h_Reader_wants) AH rfl rfl rfl (by walk_at "v") (AT rfl (Bo XD (hr.mono XE) rfl AH rfl rfl rfl (by walk_at "v")) Bk))) (AD (B2 rfl (CN HQ rfl rfl rfl rfl rfl (by walk_at "v") (AT rfl (Bo oX (hr.mono oY) rfl AH rfl rfl rfl (by walk_at "v")) Bk)))))) (Aw (B2 rfl (BJ T.AF CI (hr.mono h_Reader_wants) AH rfl rfl rfl (by walk_at "v") (by walk_at "v"))) (by walk_at "v")))))))))
abbrev XG:List Str:=["text","reader","term"]
theorem Lq:Az XG ["text"] (Ak Iw):=by walk_at "s"
def Po(K:PySem.W.Frag)(a:Adr)(Lr:Spw)(CY:Spw)(Ls:Spw)(EI:Spw)(E:Addr->Hw->Prop):GS:=(Af (Aq 1 (GY a.Reader Lr (λ_=>E) (Aa (Ab 0) Ac))) (Af (Aq 2 (Ah CY (λ_=>E) (Aa (Ab 1) (Aa (gC (.int 1)) Ac)))) (Af (AC (AN a.Reader "wants_end" Ls (λ_=>E) (Ab 1) Ac)) (Af (gIf (gNt (AB (Ah EI (λ_=>E) (Aa (Ab 2) Ac)))) (B3 a.BadNote E (Aa (gC (.str "what is written is no term")) Ac)) Aj) (Ai (Ab 2))))))
theorem oZ(T:Tx K mg base a)(pb:DfI P w K mg base "Reader" a.Reader k_Reader___init__ 2 Lr)(h_Reader___init__:k_Reader___init__+1<=k)(IV:Df P w K mg base "term_from" DS 2 CY)(IW:DS<=k)(pe:DfM P w K mg base a.Reader "wants_end" k_Reader_wants_end 1 Ls)(h_Reader_wants_end:k_Reader_wants_end<=k){Fk:Nat}(OM:Df P w K mg base "is_term" Fk 1 EI)(ON:Fk<=k){f:Addr}{s:Shared}(hr:Room k (A.deeper (envOfC "term_read" (Ak Iw) s.heap.objs.size f cdv))):Ssm (cxW P w K mg base XG "term_read" (Ak Iw) f cdv A outer s H E) (λB=>B=H) (AO Iw) (Po K a Lr CY Ls EI (dnX K H E)):=
 have hu:=AM hr
 have hN:=Lq.nd
 (Aw (BW (i:=1) Lq.nd rfl rfl rfl (gT pb (hr.mono h_Reader___init__) rfl AH rfl rfl rfl (by walk_at "v"))) (Aw (BW (i:=2) Lq.nd rfl rfl rfl (Bo IV (hr.mono IW) rfl AH rfl rfl rfl (by walk_at "v"))) (Aw (B2 rfl (E9 T.AF pe (hr.mono h_Reader_wants_end) AH rfl (by walk_at "v"))) (Aw (Bg (FV (Cw (λ_=>rfl) (Bo OM (hr.mono ON) rfl AH rfl rfl rfl (by walk_at "v")))) (AD (DB T.DI T.DJ PySem.F.excBase_ValueError rfl rfl rfl rfl (by walk_at "v"))) Bf) (by walk_at "v")))))
theorem if2{X Y:Prop}(h:if(A&&B)=true then X else Y):if A=true then(if B=true then X else Y)else Y:=by cases A <;> cases B <;> exact h
def B1(c:Nat):Bool:=!AS ⟨#[c]⟩ "0"&&!AS "9" ⟨#[c]⟩
def B8(T:Str)(i:Nat):List Nat:=(T.cps.toList.drop i).takeWhile B1
theorem pu(h:T.cps.toList[j]?=some c)(hc:B1 c=true):B8 T j=c::B8 T (j+1):=by
 obtain⟨h1,h2⟩:=YW.mp h;unfold B8;rw[List.drop_eq_getElem_cons h1,h2,List.takeWhile_cons,hc];rfl
theorem pB(h:T.cps.toList[j]?=some c)(hc:B1 c=false):B8 T j=[]:=by
 obtain⟨h1,h2⟩:=YW.mp h;unfold B8;rw[List.drop_eq_getElem_cons h1,h2,List.takeWhile_cons,hc];rfl
theorem pH(h:T.length<=j):B8 T j=[]:=by
 unfold B8;rw[List.drop_eq_nil_of_le (by rw[<- Gh];exact h)];rfl
def Lu(a:Adr):Spw:=λws G Q _=>∃(r:Addr)(T:Str)(i:Nat),ws=[.ref r]/\G r=some (rdr a.Reader T i)/\T.length<=90000/\i<=T.length/\Q (.str ⟨(B8 T i).toArray⟩) (put G r (rdr a.Reader T (i+(B8 T i).length)))
theorem pI:Spw.M (Lu a):=λf G Q d E e h _⟨r,T,i,h1,h2,b,c,q⟩=>⟨r,T,i,h1,h2,b,c,h _ _ q⟩
theorem pJ(T:Tx K mg base a):DfM P w K mg base a.Reader "figures" 1 1 (Lu a):=by
 refine JO T.J8 rfl Oq pI (λx G Q E⟨r,T,i,e,_⟩=>by rw[e];rfl) (lQ (k:=0) T) λx G Q E z q=>?_;obtain⟨r,T,i,rfl,h,o,hi,q⟩:=q;unfold Va;walk_at "rd";refine⟨r,_,_,rfl,h,Dh,?_⟩
 refine⟨λm ω t=>∃ j:Nat,m=T.length - j/\i<=j/\j<=T.length/\ω=[some (.ref r),some (.int i)]/\t=put G r (rdr a.Reader T j)/\B8 T i=(T.cps.toList.drop i).take (j - i)++B8 T j,
  ⟨_,i,rfl,Yr _,hi,rfl,(He h).symm,by simp⟩,?_⟩
 rintro m ω t ⟨j,rfl,p,u,rfl,rfl,b⟩;have c:(put G r (rdr a.Reader T j)) r=some (rdr a.Reader T j):=Ap
 have f:∀ n:Nat,B8 T j=[]->n=j->i+(B8 T i).length=n:=λn e en=>by
  rw[b,e,Yx,List.length_take,List.length_drop,<- Gh];lia
 have g:B8 T j=[]->Q (.str (Txt.slice T (some (i:Int)) (some (j:Int)))) (put G r (rdr a.Reader T j)):=λe=>by
  rw[Vf p u];have y:(T.cps.toList.drop i).take (j - i)=B8 T i:=by rw[b,e,Yx]
  rw[y,<- f j e rfl];exact q
 walk_at "rd";refine⟨r,_,_,rfl,c,Dh,r,_,_,rfl,c,FM,?_⟩;dsimp only;rw[if_pos (Do o)];simp only[An];by_cases d:j < T.length
 ·rw[if_pos (by simpa using d)];walk_at "pn";have l:j < T.cps.toList.length:=by rw[<- Gh];exact d
  have hc:T.cps.toList[j]?=some T.cps.toList[j]:=by simp[l]
  dsimp only;rw[if_pos (Do o),CB l,hc];simp only[YD,An];refine if2 ?_
  change if B1 T.cps.toList[j]=true then _ else _
  cases s:B1 T.cps.toList[j]with
  | true =>
   simp only[if_true];refine⟨r,_,j,rfl,c,Dh,_,1,rfl,c,by simp,?_⟩;rw[Ot,AR];refine⟨T.length -(j+1),by lia,j+1,(by first | rfl | trivial),by lia,by lia,(by first | rfl | trivial),(by first | rfl | trivial),?_⟩;rw[b,pu hc s];have:j+1 - i=(j - i)+1:=by lia
   rw[this,List.take_add_one];have v:(T.cps.toList.drop i)[j - i]?=some T.cps.toList[j]:=by rw[List.getElem?_drop,show i+(j - i)=j by lia,hc]
   rw[v];simp
  | false =>
   simp only[Yq,if_false];walk_at "pn";exact⟨Do o,g (pB hc s)⟩
 ·rw[if_neg (by simpa using d)];simp only[Yq,if_false];walk_at "pn";exact⟨Do o,g (pH (by lia))⟩
section
open PySem
def AV(s:Sg):Sg:=s.takeWhile B1
def afg(s:Sg):Sg:=s.dropWhile B1
end
theorem XH(c:Nat):B1 c=true↔48<=c/\c<=57:=by
 have h1:(AS ⟨#[c]⟩ "0"=true)↔c < 48:=by
  unfold AS;rw[YO];show([c] < [48])↔_;simp[List.cons_lt_cons_iff]
 have h2:(AS "9" ⟨#[c]⟩=true)↔57 < c:=by
  unfold AS;rw[YO];show([57] < [c])↔_;simp[List.cons_lt_cons_iff]
 show(!AS ⟨#[c]⟩ "0"&&!AS "9" ⟨#[c]⟩)=true↔_;rw[Qf,Bool.not_eq_true',Bool.not_eq_true'];constructor
 ·rintro⟨a,b⟩;refine⟨?_,?_⟩
  ·rcases Nat.lt_or_ge c 48 with z | z
   ·rw[h1.mpr z]at a;cases a
   ·exact z
  ·rcases Nat.lt_or_ge 57 c with z | z
   ·rw[h2.mpr z]at b;cases b
   ·exact z
 ·rintro⟨a,b⟩;refine⟨?_,?_⟩
  ·cases e:AS ⟨#[c]⟩ "0" with
   | false=>rfl
   | true=>have:=h1.mp e;lia
  ·cases e:AS "9" ⟨#[c]⟩with
   | false=>rfl
   | true=>have:=h2.mp e;lia
def De(neg:Bool)(s:Sg):Option (Int×Sg):=
 if(AV s).length < 1\/20 <(AV s).length then none
 else if(AV s).head?=some 48/\(1 <(AV s).length\/neg=true)then none
 else some (if neg then -((NumText.digitsVal (AV s):Nat):Int)else((NumText.digitsVal (AV s):Nat):Int),afg s)
def Cy(s:Sg):Option (Int×Sg):=match eat "-" s with
 | some s1=>De true s1
 | none=>De false s
theorem XI:∀(s:Sg),∀ c∈AV s,B1 c=true
 | [],c,hc=>by cases hc
 | x::s,c,hc=>by
  unfold AV at hc;rw[List.takeWhile_cons]at hc;cases e:B1 x with
  | false=>rw[e]at hc;cases hc
  | true =>
   rw[e]at hc;rcases Yo.mp hc with rfl | hc
   ·exact e
   ·exact XI s c hc
theorem pK{s:Sg}(h:At T i s):B8 T i=AV s/\At T (i+(B8 T i).length) (afg s):=by
 obtain⟨h1,h2⟩:=h;have e:B8 T i=AV s:=by unfold B8 AV;rw[show T.cps.toList=cs T from rfl,h1]
 refine⟨e,?_⟩;rw[e];have a:s=AV s++afg s:=(List.takeWhile_append_dropWhile (p:=B1) (l:=s)).symm;exact At.next (x:=AV s) ⟨by rw[<- a];exact h1,h2⟩
def Lv{α:Type}(a:Adr)(e:α->W)(f:Sg->Option (α×Sg)):Spw:=λws G Q E=>∃(r:Addr)(T:Str)(i:Nat)(s:Sg),ws=[.ref r]/\G r=some (rdr a.Reader T i)/\T.length<=90000/\At T i s/\RO a r T ((f s).map λx=>(e x.1,x.2)) G Q E
theorem XJ{α:Type}{e:α->W}{f:Sg->Option (α×Sg)}:Spw.M (Lv a e f):=λj G Q d E g h h'⟨r,T,i,s,h1,h2,b,c,q⟩=>⟨r,T,i,s,h1,h2,b,c,q.imp h h'⟩
theorem XM{α:Type}{e:α->W}{f:Sg->Option (α×Sg)}(b:List W)(G:Hw)(Q:Kw)(E:Addr->Hw->Prop)(h:Lv a e f b G Q E):b.length=1:=by
 obtain⟨_,_,_,_,rfl,_⟩:=h;rfl
theorem pL{s:Sg}(f:ω[0]?=some (some (.ref r)))(h:G r=some (rdr a.Reader T i))(e:T.length<=90000)(b:At T i s)(q:∀ i,At T i (afg s)->Q (.str ⟨(AV s).toArray⟩) (put G r (rdr a.Reader T i))):AN a.Reader "figures" (Lu a) (λ_=>E) (Ab 0) Ac ω G Q:=by
 obtain⟨d,c⟩:=pK b;simp only[AN,Ab,f,Ac];refine⟨r,_,rfl,h,EE (C:=r) (by decide +kernel) (by decide +kernel),r,T,i,rfl,h,e,b.2,?_⟩;have z:=q _ c;rw[d]at z ⊢;exact z
theorem pM{f:Sg}(h:∀ c∈f,B1 c=true)(h1:f≠[])(h2:f.length<=20)(G:Hw):DE [.str ⟨f.toArray⟩] G=some (.int ((NumText.digitsVal f:Nat):Int)):=by
 have hd:NumText.AllDigits (⟨f.toArray⟩:Str).cps.toList:=λc hc=>(XH c).mp (h c hc);have e:=PySem.intText_digits (x:=⟨f.toArray⟩) hd h1 (Yt h2 (by decide));unfold DE;dsimp only;rw[if_pos (show(⟨f.toArray⟩:Str).length<=640 from Yt h2 (by decide)),e];rfl
theorem XN{s:Sg}(h:G r=some (rdr a.Reader T i))(y:T.length<=90000)(v:At T i s)(q1:∀ x s',De neg s=some (x,s')->∀ i,At T i s'->Q (.int x) (put G r (rdr a.Reader T i)))(q2:De neg s=none->∀ i,E a.BadNote (put G r (rdr a.Reader T i))):
  (Af (Aq 2 (AN a.Reader "figures" (Lu a) (λ_=>E) (Ab 0) Ac)) (Af (gIf (gNt (gTB (BM (AU (λi j=>decide (i<=j)) (λa b=>!AS b a)) (AU (λi j=>decide (i<=j)) (λa b=>!AS b a)) (gC (.int 1)) (gB (rF AL) (Aa (Ab 2) Ac)) (gC (.int 20))))) (B3 a.BadNote E (Aa (gC (.str "wanted a number")) Ac)) Aj) (Af (gIf (Bp (gTB (Ad (Ae (eqF false)) (Ad (Ae ixW) (Ab 2) (gC (.int 0))) (gC (.str "0")))) (gOr (gTB (Ad (A0 λi j=>decide (j < i)) (gB (rF AL) (Aa (Ab 2) Ac)) (gC (.int 1)))) (AB (Ab 1)))) (B3 a.BadNote E (Aa (gC (.str "a needless nought or sign")) Ac)) Aj) (Ai (BB (AB (Ab 1)) (D4 (gB (rF DE) (Aa (Ab 2) Ac))) (gB (rF DE) (Aa (Ab 2) Ac))))))) (Ax Q) [some (.ref r),some (.bl neg),none] G:=by
 refine Bd ?_;refine pL rfl h y v λj w=>?_;have k:∀ c∈AV s,B1 c=true:=XI s;have d:(⟨(AV s).toArray⟩:Str).length=(AV s).length:=rfl
 have o:(AV s).length<=90000:=by
  have h1:=(List.takeWhile_sublist (p:=B1) (l:=s)).length_le;have h2:=Qh List.length v.1;rw[List.length_drop,CU]at h2;show(s.takeWhile B1).length<=_;lia
 have n:∀ G,AL [.str ⟨(AV s).toArray⟩] G=some (.int ((AV s).length:Nat)):=λG=>by
  unfold AL BL;dsimp only;rw[if_pos (by rw[d];exact Do o),d]
 simp only[Af,gIf,gNt,gTB,BM,AU,gB,rF,Aa,Ac,Ab,gC,Yk,Yl,Yb,Yc,n,An];by_cases g1:1<=(AV s).length
 ·rw[if_pos (YH (by lia))];by_cases g2:(AV s).length<=20
  ·rw[if_neg (by rw[YH (show(((AV s).length:Nat):Int)<=20 by lia)];decide)];have m:¬ ((AV s).length < 1\/20 <(AV s).length):=by lia
   obtain⟨c,f,t⟩:∃ c f,AV s=c::f:=by
    cases e:AV s with
    | nil=>rw[e]at g1;exact Qk g1 (by decide)
    | cons c f=>exact⟨c,f,rfl⟩
   have q:∀ G,ixW (.str ⟨(AV s).toArray⟩) (.int 0) G=some (.str ⟨#[c]⟩):=λG=>by
    unfold ixW;dsimp only;rw[if_pos (by rw[d];exact Do o)];show(atI (AV s) 0).map _=_;rw[t,Bx];rfl
   have A:((⟨#[c]⟩:Str)==("0":Str))=decide (c=48):=by
    rw[Bool.eq_iff_iff,beq_iff_eq,YO];constructor
    ·intro e;have:=Qh (λs:Str=>s.cps.toList) e;exact(Qg this).1
    ·intro e;rw[e];rfl
   have g:=pM k (λz=>by rw[z]at g1;exact Qk g1 (by decide)) g2
   have BP:¬ ((AV s).head?=some 48/\(1 <(AV s).length\/neg=true))->Ai (BB (AB (Ab 1)) (D4 (gB (rF DE) (Aa (Ab 2) Ac))) (gB (rF DE) (Aa (Ab 2) Ac))) (Ax Q) [some (.ref r),some (.bl neg),some (.str ⟨(AV s).toArray⟩)] (put G r (rdr a.Reader T j)):=λz=>by
    have e:=q1 _ _ (show De neg s=some (if neg then -((NumText.digitsVal (AV s):Nat):Int)else((NumText.digitsVal (AV s):Nat):Int),afg s) by unfold De;rw[if_neg m,if_neg z]) j w;simp only[Ai,BB,AB,D4,gB,rF,Aa,Ac,Ab,Yb,Yc,A8,An,g];cases neg with
    | true=>exact⟨_,rfl,e⟩
    | false=>exact e
   have bad:((AV s).head?=some 48/\(1 <(AV s).length\/neg=true))->E a.BadNote (put G r (rdr a.Reader T j)):=λz=>q2 (by unfold De;rw[if_neg m,if_pos z]) j;simp only[Aj,Af,gIf,Bp,gOr,gTB,AB,Ad,Ae,A0,gB,rF,Aa,Ac,Ab,gC,Yb,Yc,q,BD,An,A,n,A8];by_cases hc:c=48
   ·rw[YH hc];simp only[show(true != false)=true from rfl,if_true];have u:(AV s).head?=some 48:=by rw[t,hc];rfl
    by_cases g3:1 <(AV s).length
    ·rw[if_pos (YH (by lia))];exact⟨by decide,bad ⟨u,.inl g3⟩⟩
    ·rw[if_neg (by rw[YO];lia)];cases neg with
     | true=>exact⟨by decide,bad ⟨u,.inr rfl⟩⟩
     | false=>exact BP λz=>z.2.elim g3 (λz=>by cases z)
   ·rw[Qj hc];exact BP λz=>hc (by rw[t]at z;exact YE z.1)
  ·rw[if_pos (by rw[Qj (show ¬ (((AV s).length:Nat):Int)<=20 by lia)];rfl)];exact⟨by decide,q2 (by unfold De;rw[if_pos (.inr (by lia))]) j⟩
 ·rw[if_neg (by rw[YO];lia)];exact⟨by decide,q2 (by unfold De;rw[if_pos (.inl (by lia))]) j⟩
theorem Ll(T:Tx K mg base a):Df P w K mg base "number_from" 3 1 (Lv a W.int Cy):=by
 refine mkX (k:=2) T.kM rfl Lf XJ XM (g:=λE=>Pf K a _ _ E) (oI T (Gf T) (by lia) (pJ T) (by lia)) λn G Q E o m q=>?_;obtain⟨r,T,i,s,rfl,h,d,f,q⟩:=q;unfold Pf;show Af (Aq 1 _) _ (Ax Q) [some (.ref r),none,none] G;refine Bd ?_;refine EF rfl h d f (by decide) (λl b h1=>?_) λb=>?_
 ·refine XN (neg:=true) Ap d h1 (λx s' e j c=>?_) λe j=>?_
  ·rw[AR];exact BZ q (show Cy s=some (x,s') by unfold Cy;rw[b];exact e) j c
  ·rw[AR];exact Bt q (show Cy s=none by unfold Cy;rw[b];exact e) j
 ·refine XN (neg:=false) h d f (λx s' e j c=>?_) λe j=>?_
  ·exact BZ q (show Cy s=some (x,s') by unfold Cy;rw[b];exact e) j c
  ·exact Bt q (show Cy s=none by unfold Cy;rw[b];exact e) j
def DU(s:Sg):Option (Bool×Sg):=if wrd s="yes" then some (true,aft s)else if wrd s="no" then some (false,aft s)else none
inductive Ag where
 | num (i:Int)| tru (b:Bool)| nam (x:Str)| knd (k:Kd)| trm (t:Te)| fld (f:Fl)
def Ag.enc:Ag->W
 | .num i=>.int i
 | .tru b=>.bl b
 | .nam x=>.str x
 | .knd k=>k.enc
 | .trm t=>t.enc
 | .fld f=>.tup f.enc
def Ag.on:Ag->As->As
 | .num i,r=>.num i r
 | .tru b,r=>.tru b r
 | .nam x,r=>.nam x r
 | .knd k,r=>.knd k r
 | .trm t,r=>.trm t r
 | .fld f,r=>.fld f r
def Eb:List Ag->As
 | []=>.nil
 | g::l=>g.on (Eb l)
theorem XO:∀ l:List Ag,(Eb l).enc=l.map Ag.enc
 | []=>rfl
 | g::l=>by
  have a:=XO l;rw[Ym,<- a];cases g <;> rfl
def pfd(f:Sg->Option (Te×Sg))(s:Sg):Option ((Str×Te)×Sg):=(eat ": " (aft s)).bind λs1=>(f s1).map λx=>((wrd s,x.1),x.2)
def pfl(f:Sg->Option (Te×Sg)):Nat->Sg->List (Str×Te)->Option (List (Str×Te)×Sg)
 | 0,_,_=>none
 | m+1,s,acc=>match eat ", " s with
  | some s1=>(pfd f s1).bind λx=>pfl f m x.2 (acc++[x.1])
  | none=>some (acc,s)
def pfs(f:Sg->Option (Te×Sg))(s:Sg):Option (List (Str×Te)×Sg):=match eat ")" s with
 | some _=>some ([],s)
 | none=>(pfd f s).bind λx=>pfl f (x.2.length+1) x.2 [x.1]
def pth(f:Sg->Option (Te×Sg))(sort:Str)(s:Sg):Option (Ag×Sg):=
 if sort="number" then(Cy s).map λx=>(.num x.1,x.2)
 else if sort="truth" then(DU s).map λx=>(.tru x.1,x.2)
 else if sort="kind" then(pk 8 s).map λx=>(.knd x.1,x.2)
 else if sort="fields" then(pfs f s).map λx=>(.fld (BQ x.1),x.2)
 else if sort="term" then(f s).map λx=>(.trm x.1,x.2)
 else some (.nam (wrd s),aft s)
def gap(k:Nat)(w:Str):Str:=if k=0 then "" else if w="fun"/\k=1 then ": " else ", "
def pas(f:Sg->Option (Te×Sg))(w:Str):Nat->List Str->Sg->List Ag->Option (List Ag×Sg)
 | _,[],s,acc=>some (acc,s)
 | k,sort::ss,s,acc=>(eat (gap k w) s).bind λs1=>(pth f sort s1).bind λx=>pas f w (k+1) ss x.2 (acc++[x.1])
def pt1(f:Sg->Option (Te×Sg))(s:Sg):Option (Te×Sg):=match KTD.datumAt (wrd s) AK with
 | none=>none
 | some ss=>(eat "(" (aft s)).bind λs1=>(pas f (wrd s) 0 ss s1 []).bind λx=>(eat ")" x.2).map λs3=>(.nd (wrd s) (Eb x.1),s3)
def pt:Nat->Sg->Option (Te×Sg)
 | 0,_=>none
 | n+1,s=>pt1 (pt n) s
def Sht{α:Type}(f:Sg->Option (α×Sg)):Prop:=∀ s x s',f s=some (x,s')->s'.length<=s.length
theorem IZ{p:Str}{s:Sg}(e:eat p s=some s'):s'.length<=s.length:=by have:=Ct e;lia
theorem Lw{f:Sg->Option (Te×Sg)}(b:Sht f){s:Sg}(e:pfd f s=some (x,s')):s'.length+2<=s.length:=by
 unfold pfd at e;obtain⟨h,d,g⟩:=Qb.mp e;obtain⟨y,c,a⟩:=YQ.mp g;cases a;have h1:=Ct d;have h2:=b _ _ _ c;have i:=Gj s;have j:(": ":Str).length=2:=rfl;lia
theorem pN{w:Str}:inF true (.str w) (.tup [.str "yes",.str "no"]) G=some (.bl (!decide (w="yes"\/w="no"))):=by
 show some (W.bl (!(decide (("yes":Str)=w)||(decide (("no":Str)=w)||false))))=_;congr 3;rw[Bool.eq_iff_iff];simp only[Bool.or_false,Bool.or_eq_true,YO];exact⟨λh=>h.imp Eq.symm Eq.symm,λh=>h.imp Eq.symm Eq.symm⟩
theorem Lm(T:Tx K mg base a):Df P w K mg base "truth_from" 3 1 (Lv a W.bl DU):=by
 refine mkX (k:=2) T.kN rfl Pg XJ XM (g:=λE=>Ph K a _ E) (oK T (Fh T) (by lia)) λf G Q E l e q=>?_;obtain⟨r,T,i,s,rfl,h,d,c,q⟩:=q;unfold Ph;show Af (Aq 1 _) _ (Ax Q) [some (.ref r),none] G;refine Bd ?_;refine Hh rfl h d c λj b=>?_;simp only[Af,gIf,gTB,Ad,Ae,Ao,Aa,Ac,Ab,gC,Yk,Yl,Yb,Yc];refine⟨by decide,?_⟩;rw[pN,An];by_cases h1:wrd s="yes"
 ·rw[YH (.inl h1)];simp only[YF,Yq,if_false,Aj,Ai,Ad,Ae,Ab,gC,Yb,Yc,BD,An];rw[show(wrd s==("yes":Str))=true by simp[h1]];exact BZ q (x:=true) (show DU s=some (true,aft s) by unfold DU;rw[if_pos h1]) j b
 ·by_cases h2:wrd s="no"
  ·rw[YH (.inr h2)];simp only[YF,Yq,if_false,Aj,Ai,Ad,Ae,Ab,gC,Yb,Yc,BD,An];rw[show(wrd s==("yes":Str))=false by simpa using h1];exact BZ q (x:=false) (show DU s=some (false,aft s) by unfold DU;rw[if_neg h1,if_pos h2]) j b
  ·rw[Qj (λz=>z.elim h1 h2)];exact⟨by decide,Bt q (show DU s=none by unfold DU;rw[if_neg h1,if_neg h2]) j⟩
theorem Lh(T:Tx K mg base a)(m:3<=j){d:Int}{f:Sg->Option (Te×Sg)}(D:Df P w K mg base "term_from" j 2 (Bs a Te.enc (d+1) f)):Df P w K mg base "term_field_from" (j+1) 2 (Bs a Cg d (pfd f)):=by
 refine mkX (k:=j) T.kP rfl Pk D8 D9 (g:=λE=>Pl K a _ _ _ E) (oN T (Fh T) (by lia) (Gg T) m D (Yr _)) λv G Q E y u q=>?_;obtain⟨r,T,i,s,rfl,h,e,o,q⟩:=q;unfold Pl;show Af (Aq 2 _) _ (Ax Q) [some (.ref r),some (.int d),none] G;refine Bd ?_;refine Hh rfl h e o λp h1=>?_;simp only[Af,AC];refine EG (T:=T) rfl Ap e h1 (by decide) (by decide +kernel) (λl b h2=>?_) λb=>?_
 ·rw[AR];simp only[Ai,Ao,Aa,Ac,Ah,Ad,Ab,gC,Yk,Yl,Yb,Yc];rw[Hd];refine Dp Ap e h2 (λx n c i3 t=>?_) λc i3=>?_
  ·rw[AR];exact⟨sz rfl,BZ q (x:=(wrd s,x)) (show pfd f s=some ((wrd s,x),n) by unfold pfd;rw[b];show(f l).map _=_;rw[c];rfl) i3 t⟩
  ·rw[AR];exact Bt q (show pfd f s=none by unfold pfd;rw[b];show(f l).map _=_;rw[c];rfl) i3
 ·exact Bt q (show pfd f s=none by unfold pfd;rw[b];rfl) p
theorem pO{p:Str}{s:Sg}(c:ω[0]?=some (some (.ref r)))(h:G r=some (rdr a.Reader T i))(b:At T i s)(q1:∀ s',eat p s=some s'->Q (.bl true) G)(q2:eat p s=none->Q (.bl false) G):
  AN a.Reader "sees" (Ou a) (λ_=>E) (Ab 0) (Aa (gC (.str p)) Ac) ω G Q:=by
 simp only[AN,Ab,c,gC,Aa,Ac];refine⟨r,_,rfl,h,EE (C:=r) (by decide +kernel) (by decide +kernel),r,T,i,p,rfl,h,?_⟩;cases e:eat p s with
 | some s'=>rw[(Gi b e).1];exact q1 s' e
 | none=>rw[Ku b e];exact q2 e
abbrev Ja(l:List (Str×Te)):W:=.tup (l.map Cg)
theorem Ln(T:Tx K mg base a)(hj:3<=j){d:Int}{f:Sg->Option (Te×Sg)}(N:Sht f)(D:Df P w K mg base "term_field_from" j 2 (Bs a Cg d (pfd f))):Df P w K mg base "fields_from" (j+1) 2 (Bs a Ja d (pfs f)):=by
 refine mkX (k:=j) T.kO rfl Pi D8 D9 (g:=λE=>Pj K a _ _ _ E) (oM T (Vd T) (by lia) D (Yr _) (Gf T) (by lia)) λws G Q E hC U q=>?_;obtain⟨r,T,i,s,rfl,h,H,B,q⟩:=q;unfold Pj;show Af (gIf _ _ Aj) _ (Ax Q) [some (.ref r),some (.int d),none] G;simp only[Af,gIf,AB];refine pO (T:=T) rfl h B (λu I=>?_) (λI=>?_)
 ·have z:=BZ q (x:=[]) (show pfs f s=some ([],s) by unfold pfs;rw[I]) i B;rw[He h]at z;exact⟨sz rfl,z⟩
 have eq:pfs f s=(pfd f s).bind λx=>pfl f (x.2.length+1) x.2 [x.1]:=by unfold pfs;rw[I]
 simp only[A8,Yq,if_false,Aj,Aq,Av,Ah,Aa,Ac,Ab,Yb,Yc];refine Dp h H B (λx u l i2 h2=>?_) (λl i2=>Bt q (by rw[eq,l];rfl) i2)
 have q':RO a r T ((pfl f (u.length+1) u [x]).map λx=>(Ja x.1,x.2)) G Q E:=by
  have z:=q;rw[eq,l]at z;exact z
 have Y:u.length+2<=s.length:=Lw N l
 have X:s.length<=90000:=by
  have:=Qh List.length B.1;rw[List.length_drop,CU]at this;lia
 refine⟨sz rfl,λp A=>?_⟩;have c:p≠r:=λe=>by rw[e,Ap]at A;cases A
 have F:G p=none:=by rw[A2 c]at A;exact A
 walk_at "pa"
 refine⟨λm ω S=>∃(b:List (Str×Te))(s':Sg)(J:Nat),ω=[some (.ref r),some (.int d),some (.ref p)]/\S=put (put G p (.lst (b.map Cg))) r (rdr a.Reader T J)/\At T J s'/\s'.length < m/\b.length+s'.length<=90000/\RO a r T ((pfl f m s' b).map λx=>(Ja x.1,x.2)) G Q E,
  ⟨u.length+1,[x],u,i2,rfl,?_,h2,Nat.lt_succ_self _,?_,q'⟩,?_⟩
 ·rw[EH c];rfl
 ·simp only[Yg,Yi];lia
 rintro m ω S ⟨b,s',J,rfl,rfl,v,hm,hl,q⟩;obtain⟨m,rfl⟩:∃ k,m=k+1:=⟨m - 1,by lia⟩
 have n:∀(L:List W)(i:Nat),L3.Sub (put G r (rdr a.Reader T i)) (put (put G p (.lst L)) r (rdr a.Reader T i)):=λL i=>by
  rw[EH c];exact AE (by rw[A2 c];exact F)
 have t:∀(L:List W)(i:Nat),put (put G p (.lst L)) r (rdr a.Reader T i) p=some (.lst L):=λL i=>by rw[A2 c,Ap]
 simp only[AB];refine EF (T:=T) rfl Ap H v (by decide) (λO y h1=>?_) (λy=>?_)
 ·rw[AR];simp only[A8,if_true,AC,gMt,Ab,Ah,Aa,Ac,Yb,Yc]
  have R:∀ o,pfd f O=o->pfl f (m+1) s' b=o.bind λx=>pfl f m x.2 (b++[x.1]):=λo Z=>by
   conv=>lhs;unfold pfl
   rw[y,<- Z]
  refine⟨DM (t _ _),Dp Ap H h1 (λx s3 l i3 h3=>?_) (λl i3=>?_)⟩;rotate_left
  ·rw[AR];exact U _ _ _ (n _ _) (Bt q (by rw[R _ l];rfl) _)
  have l1:O.length+2=s'.length:=Ct y;have l3:=Lw N l;rw[AR];refine Ea (t _ _) (by rw[Yh];exact C9 (by lia)) ?_;rw[EH (YV c),AR];rw[R _ l]at q;exact⟨m,by lia,b++[x],s3,_,(by first | rfl | trivial),by rw[Yy];rfl,h3,by lia,by rw[Yj];simp only[Yg,Yi];lia,q⟩
 ·simp only[A8,Yq,if_false,Ai,gB,rF,Ab,Aa,Ac,Yb,Yc];rw[IC (t _ _),An];exact hC _ _ _ (n _ _) (BZ q (x:=b) (show pfl f (m+1) s' b=some (b,s') by unfold pfl;rw[y]) _ v)
def Lx(a:Adr)(d:Int)(f:Sg->Option (Te×Sg)):Spw:=λws G Q E=>∃(r:Addr)(T:Str)(i:Nat)(s:Sg)(so:Str),ws=[.ref r,.str so,.int d]/\G r=some (rdr a.Reader T i)/\T.length<=90000/\At T i s/\RO a r T ((pth f so s).map λx=>(x.1.enc,x.2)) G Q E
theorem pP{d:Int}{f:Sg->Option (Te×Sg)}:Spw.M (Lx a d f):=λj G Q e E g h h'⟨r,T,i,s,so,h1,h2,b,c,q⟩=>⟨r,T,i,s,so,h1,h2,b,c,q.imp h h'⟩
theorem Lp(T:Tx K mg base a)(n:28<=j){d:Int}{f:Sg->Option (Te×Sg)}(D:Df P w K mg base "term_from" j 2 (Bs a Te.enc (d+1) f))(DF:Df P w K mg base "fields_from" l 2 (Bs a Ja d (pfs f)))(m:j<=l):Df P w K mg base "thing_from" (l+1) 3 (Lx a d f):=by
 have DK:Df P w K mg base "kind_from" 28 2 (Bs a Kd.enc 1 (pk 8)):=CT T 8;refine mkX (k:=l) T.TD rfl Xx pP (by rintro u G Q E ⟨_,_,_,_,_,e,_⟩;rw[e];rfl) (g:=λE=>Pn K a _ _ _ _ _ _ E) (oO T (Ll T) (by lia) (Lm T) (by lia) DK (by lia) DF (Yr _) D m (Fh T) (by lia)) λu G Q E F B q=>?_;obtain⟨r,T,i,s,so,rfl,h,c,b,q⟩:=q;unfold Pn;show Af _ _ (Ax Q) [some (.ref r),some (.str so),some (.int d)] G
 have st:∀{t:Str}{e:GE}{Au:GS},(so=t->e [some (.ref r),some (.str so),some (.int d)] G Q)->(so≠t->Au (Ax Q) [some (.ref r),some (.str so),some (.int d)] G)->Af (gIf (gTB (Ad (Ae (eqF false)) (Ab 1) (gC (.str t)))) (Ai e) Aj) Au (Ax Q) [some (.ref r),some (.str so),some (.int d)] G:=λ{t e Au}h1 h2=>KW rfl (by
  by_cases z:so=t
  ·rw[if_pos z];exact h1 z
  ·rw[if_neg z];exact h2 z)
 unfold pth at q;refine st (λz=>?_) λy=>?_
 ·rw[if_pos z]at q;simp only[Ah,Aa,Ac,Ab,Yb];exact⟨r,T,i,s,rfl,h,c,b,by rw[Option.map_map]at q;exact q⟩
 rw[if_neg y]at q;refine st (λz=>?_) λp=>?_
 ·rw[if_pos z]at q;simp only[Ah,Aa,Ac,Ab,Yb];exact⟨r,T,i,s,rfl,h,c,b,by rw[Option.map_map]at q;exact q⟩
 rw[if_neg p]at q;refine st (λz=>?_) λv=>?_
 ·rw[if_pos z]at q;simp only[Ah,Aa,Ac,Ab,gC,Yb];exact⟨r,T,i,s,rfl,h,c,b,by rw[Option.map_map]at q;exact q⟩
 rw[if_neg v]at q;refine st (λz=>?_) λA=>?_
 ·rw[if_pos z,Option.map_map]at q;simp only[Ah,Aa,Ac,Ab,Yb,Yc];refine⟨r,T,i,s,rfl,h,c,b,?_⟩;rw[show((λx:Ag×Sg=>(x.1.enc,x.2))∘λx:List (Str×Te)×Sg=>(Ag.fld (BQ x.1),x.2))=λx:List (Str×Te)×Sg=>(Ja x.1,x.2)from funext λx=>by show(W.tup (BQ x.1).enc,x.2)=_;rw[Pa]]at q;exact q
 rw[if_neg A]at q;refine st (λz=>?_) λo=>?_
 ·rw[if_pos z,Option.map_map]at q;simp only[Ah,Ad,gC,Aa,Ac,Ab,Yb,Yc];rw[Hd];exact⟨r,T,i,s,rfl,h,c,b,q⟩
 rw[if_neg o]at q;exact Hh rfl h c b λj n=>q j n
def Ly:Spw:=λws G Q _=>∃(k:Nat)(w:Str),ws=[.int k,.str w]/\Q (.str (gap k w)) G
theorem pQ:Spw.M Ly:=(by rintro b G Q a E c h _ ⟨k,w,e,q⟩;exact⟨k,w,e,h _ _ q⟩)
theorem ET(T:Tx K mg base a):Df P w K mg base "gap_ahead_of" 1 2 Ly:=by
 refine mk0 T.kQ rfl Xz pQ (λc G Q E⟨_,_,e,_⟩=>by rw[e];rfl) (oW T) λc G Q E d q=>?_;obtain⟨k,w,rfl,q⟩:=q;unfold XA;show Af (gIf _ _ Aj) _ (Ax Q) [some (.int k),some (.str w)] G;simp only[Af,gIf,gTB,Ad,Ae,Ai,BB,Bp,Ab,gC,Yb,Yc,Cf,BD,An,Aj];unfold gap at q;by_cases b:k=0
 ·rw[if_pos b]at q;rw[show(((k:Nat):Int)==0)=true by simpa using(show((k:Nat):Int)=0 by lia)];exact q
 ·rw[if_neg b]at q;rw[show(((k:Nat):Int)==0)=false by simpa using(show ¬ ((k:Nat):Int)=0 by lia)];by_cases h1:w="fun"
  ·rw[show(w==("fun":Str))=true by simp[h1]];by_cases h2:k=1
   ·rw[if_pos ⟨h1,h2⟩]at q;rw[show(((k:Nat):Int)==1)=true by simpa using(show((k:Nat):Int)=1 by lia)];exact q
   ·rw[if_neg (λz=>h2 z.2)]at q;rw[show(((k:Nat):Int)==1)=false by simpa using(show ¬ ((k:Nat):Int)=1 by lia)];exact q
  ·rw[if_neg (λz=>h1 z.1)]at q;rw[show(w==("fun":Str))=false by simpa using h1];exact q
theorem pR(k:Nat)(w:Str):(gap k w).length<=100/\(reprText (gap k w)).length<=1000:=by
 unfold gap;split
 ·exact⟨by decide,by decide +kernel⟩
 ·split
  ·exact⟨by decide,by decide +kernel⟩
  ·exact⟨by decide,by decide +kernel⟩
theorem Jb{α β:Type}{f:Sg->Option (α×Sg)}{g:α->β}(a:Sht f):Sht λs=>(f s).map λx=>(g x.1,x.2):=λs x s' e=>by
 obtain⟨y,c,b⟩:=YQ.mp e;cases b;exact a s y.1 y.2 c
theorem pS(s:Sg):(afg s).length<=s.length:=(List.dropWhile_sublist _).length_le
theorem XQ(b:Bool):Sht (De b):=λs x s' e=>by
 unfold De at e;split at e
 ·cases e
 ·split at e
  ·cases e
  ·cases e;exact pS s
theorem pT:Sht Cy:=λs x s' e=>by
 unfold Cy at e;split at e
 ·rename_i b a;have h1:=XQ true _ _ _ e;have h2:=IZ a;lia
 ·exact XQ false _ _ _ e
theorem pU:Sht DU:=λs x s' e=>by
 unfold DU at e;split at e
 ·cases e;exact Gj s
 ·split at e
  ·cases e;exact Gj s
  ·cases e
theorem XR{f:Sg->Option (Te×Sg)}(b:Sht f):∀(m:Nat)(s:Sg)(a x:List (Str×Te))(s':Sg),pfl f m s a=some (x,s')->s'.length<=s.length
 | 0,_,_,_,_,e=>by cases e
 | m+1,s,a,x,s',e=>by
  unfold pfl at e;split at e
  ·rename_i h d;obtain⟨y,g,c⟩:=Qb.mp e;have h1:=IZ d;have h2:=Lw b (x:=y.1) (s':=y.2) g;have i:=XR b m _ _ _ _ c;lia
  ·cases e;exact Yr _
theorem pV{f:Sg->Option (Te×Sg)}(a:Sht f):Sht (pfs f):=λs x s' e=>by
 unfold pfs at e;split at e
 ·cases e;exact Yr _
 ·obtain⟨y,b,c⟩:=Qb.mp e;have h2:=Lw a (x:=y.1) (s':=y.2) b;have d:=XR a _ _ _ _ _ c;lia
theorem pW{f:Sg->Option (Te×Sg)}(a:Sht f)(so:Str):Sht (pth f so):=λs x s' e=>by
 unfold pth at e;split at e
 ·exact Jb pT s x s' e
 ·split at e
  ·exact Jb pU s x s' e
  ·split at e
   ·exact Jb (f:=pk 8) (OD 8) s x s' e
   ·split at e
    ·exact Jb (g:=λl=>Ag.fld (BQ l)) (pV a) s x s' e
    ·split at e
     ·exact Jb a s x s' e
     ·cases e;exact Gj s
theorem XS{f:Sg->Option (Te×Sg)}(b:Sht f){w:Str}:∀(ss:List Str)(k:Nat)(s:Sg)(a x:List Ag)(s':Sg),pas f w k ss s a=some (x,s')->s'.length<=s.length
 | [],k,s,a,x,s',e=>by cases e;exact Yr _
 | so::ss,k,s,a,x,s',e=>by
  have e:((eat (gap k w) s).bind λc=>(pth f so c).bind λx=>pas f w (k+1) ss x.2 (a++[x.1]))=some (x,s'):=e;obtain⟨c,h,i⟩:=Qb.mp e;obtain⟨y,g,d⟩:=Qb.mp i;have h1:=IZ h;have h2:=pW b so _ y.1 y.2 g;have j:=XS b ss _ _ _ _ _ d;lia
theorem XT:∀ n:Nat,Sht (pt n)
 | 0=>λs x s' e=>by cases e
 | n+1=>λs x s' e=>by
  have e:pt1 (pt n) s=some (x,s'):=e;unfold pt1 at e;split at e
  ·cases e
  ·obtain⟨i,d,g⟩:=Qb.mp e;obtain⟨y,b,a⟩:=Qb.mp g;obtain⟨h,c,f⟩:=YQ.mp a;cases f;have k:=Gj s;have h1:=IZ d;have h2:=XS (XT n) _ _ _ _ y.1 y.2 b;have j:=IZ c;lia
theorem pX{a:GG}{Au:GS}(h1:ω[i]?=some (some (.tup xs)))(q:BU (λ_=>True) a gb {D with nx:=Au D} (D5 0 xs) ω G):Af (BC (Fb (Aa (Ab i) Ac)) a gb) Au D ω G:=by
 simp only[Af,BC,Fb,Aa,Ac,Ab,h1];exact⟨xs,rfl,q⟩
abbrev Pp(sp:Spw)(a:Adr)(E:Addr->Hw->Prop):GS:=Af (AC (AN a.Reader "wants" (IB a) (λ_=>E) (Ab 0) (Aa (Ah Ly (λ_=>E) (Aa (Ab 5) (Aa (Ab 2) Ac))) Ac))) (AC (gMt BF BH (Ab 4) (Aa (Ah sp (λ_=>E) (Aa (Ab 0) (Aa (Ab 6) (Aa (Ab 1) Ac)))) Ac)))
theorem XU{f:Sg->Option (Te×Sg)}{d:Int}{o:Hw}(A:Xc E)(m:∀ G,gd G)(H:T.length<=90000)(c:p≠r)(v:o p=none):∀(ss:List Str)(k:Nat)(b:List Ag)(s:Sg)(i:Nat)(y w:Option W),At T i s->b.length+ss.length<=100->
  (∀(gs:List Ag)(s':Sg)(h:Nat)(n l:Option W),pas f w0 k ss s b=some (gs,s')->At T h s'->gs.length<=100->D.nx [some (.ref r),some (.int d),some (.str w0),F,some (.ref p),n,l] (put (put o p (.lst (.str w0::gs.map Ag.enc))) r (rdr a.Reader T h)))->
  (pas f w0 k ss s b=none->∀ h,E a.BadNote (put o r (rdr a.Reader T h)))->
  BU gd (Bi 5 6) (Pp (Lx a d f) a E) D (D5 k (ss.map W.str)) [some (.ref r),some (.int d),some (.str w0),F,some (.ref p),y,w] (put (put o p (.lst (.str w0::b.map Ag.enc))) r (rdr a.Reader T i))
 | [],k,b,s,i,y,w,t,hl,q1,q2=>⟨m _,q1 b s i y w rfl t (by rw[Yi]at hl;lia)⟩
 | so::ss,k,b,s,i,y,w,t,hl,q1,q2=>by
  rw[Yg]at hl
  have g:∀(L:List W)(i:Nat),L3.Sub (put o r (rdr a.Reader T i)) (put (put o p (.lst L)) r (rdr a.Reader T i)):=λL i=>by
   rw[EH c];exact AE (by rw[A2 c];exact v)
  have u:∀(L:List W)(i:Nat),put (put o p (.lst L)) r (rdr a.Reader T i) p=some (.lst L):=λL i=>by rw[A2 c,Ap]
  refine⟨m _,?_⟩;show Pp (Lx a d f) a E _ [some (.ref r),some (.int d),some (.str w0),F,some (.ref p),some (.int (k:Nat)),some (.str so)] _;obtain⟨g1,g2⟩:=pR k w0;simp only[Pp,Af,AC,AN,Ab,Ah,Aa,Ac,Yb,Yc];refine⟨r,_,rfl,Ap,EE (C:=r) (by decide +kernel) (by decide +kernel),k,w0,rfl,?_⟩;refine⟨r,T,i,gap k w0,rfl,Ap,H,g1,g2,λz=>?_,λz=>?_⟩
  ·cases j:eat (gap k w0) s with
   | none=>rw[Ku t j]at z;cases z
   | some q =>
    have h1:=(Gi t j).2;rw[AR];simp only[gMt,Ab,Ah,Aa,Ac,Yb,Yc];refine⟨DM (u _ _),r,T,_,q,so,rfl,Ap,H,h1,?_⟩;cases J:pth f so q with
    | none =>
     intro h;rw[AR];exact A _ _ _ (g _ _) (q2 (by show(eat (gap k w0) s).bind _=_;rw[j];show(pth f so q).bind _=_;rw[J];rfl) h)
    | some x =>
     intro h B;rw[AR];refine Ea (u _ _) (by simp only[Yg,Yh];exact C9 (by lia)) ?_;rw[EH (YV c),AR]
     have I:pas f w0 k (so::ss) s b=pas f w0 (k+1) ss x.2 (b++[x.1]):=by
      show(eat (gap k w0) s).bind _=_;rw[j];show(pth f so q).bind _=_;rw[J];rfl
     have z:=XU A m H c v ss (k+1) (b++[x.1]) x.2 h (some (.int (k:Nat))) (some (.str so)) B (by rw[Yj];simp only[Yg,Yi];lia) (λgs s' i2 n l e=>q1 gs s' i2 n l (by rw[I];exact e)) (λe=>q2 (by rw[I];exact e));rw[Yy]at z;exact z
  ·cases j:eat (gap k w0) s with
   | some q=>rw[(Gi t j).1]at z;cases z
   | none=>exact A _ _ _ (g _ _) (q2 (by show(eat (gap k w0) s).bind _=_;rw[j];rfl) i)
theorem pY{w:Str}(h:KTD.datumAt w AK=some ss):ss.length<=3:=Qi (List.all_eq_true.mp VR _ (EK h))
theorem DS(T:Tx K mg base a):∀ n:Nat,Df P w K mg base "term_from" (4*n+29) 2 (Bs a Te.enc (11 -(n:Int)) (pt n))
 | 0=>by
  refine mkX (k:=28) T.TF rfl IX D8 D9 (g:=λE=>IY K a _ _ _ _ IE E) (XC T (Fh T) (by lia) (Cu T) (by lia) (Gg T) (by lia) (ET T) (by lia) (Da T.TD Kv λ_ _ _ _ h=>h) (YU _)) λY G Q E R H q=>?_;obtain⟨r,T,i,s,rfl,h,v,S,q⟩:=q;unfold IY;show Af (gIf _ _ Aj) _ (Ax Q) [some (.ref r),some (.int 11),none,none,none,none,none] G;simp only[Af,gIf,gTB,Ad,A0,Ab,gC,Yb,Yc];rw[if_pos (by decide)];have z:=Bt q rfl i;rw[He h]at z;exact⟨by decide,z⟩
 | n+1=>by
  have D:Df P w K mg base "term_from" (4*n+29) 2 (Bs a Te.enc (11 -((n+1:Nat):Int)+1) (pt n)):=by
   rw[show(11 -((n+1:Nat):Int)+1)=11 -(n:Int) by lia];exact DS T n
  have DF:=Ln T (by lia) (XT n) (Lh T (by lia) D);have DT:=Lp T (by lia) D DF (by lia);refine mkX (k:=4*n+32) T.TF rfl IX D8 D9 (g:=λE=>IY K a _ _ _ _ _ E) (XC T (Fh T) (by lia) (Cu T) (by lia) (Gg T) (by lia) (ET T) (by lia) DT (by lia)) λY G Q E R H q=>?_;obtain⟨r,T,i,s,rfl,h,v,S,q⟩:=q;generalize hd:(11 -((n+1:Nat):Int))=d at *;have q:RO a r T ((pt1 (pt n) s).map λx=>(x.1.enc,x.2)) G Q E:=q;unfold IY;show Af (gIf _ _ Aj) _ (Ax Q) [some (.ref r),some (.int d),none,none,none,none,none] G;refine Gp (λZ J=>?_) ?_
  ·simp only[gTB,Ad,A0,Ab,gC,Yb,Yc];rw[Qj (by lia)];exact J
  refine Bd ?_;refine Hh rfl h v S λj hj=>?_;refine Bd ?_;simp only[Ah,Aa,Ac,Ab,Yk,Yl,Yb,Yc];refine⟨wrd s,rfl,?_⟩;cases y:KTD.datumAt (wrd s) AK with
  | none =>
   have e0:D6 AK (wrd s)=.non:=by unfold D6;rw[y]
   dsimp only;rw[e0];simp only[Af,gIf,gTB,Ad,Ae,Ab,gC,Yb,Yc,isF,F5,An];exact⟨by decide,Bt q (by unfold pt1;rw[y]) j⟩
  | some l =>
   have U:=pY y;dsimp only;rw[KQ y];have B:∀ o,eat "(" (aft s)=o->pt1 (pt n) s=o.bind λm=>(pas (pt n) (wrd s) 0 l m []).bind λx=>(eat ")" x.2).map λX=>(.nd (wrd s) (Eb x.1),X):=λo e=>by unfold pt1;rw[y,<- e]
   refine Gp (λZ J=>?_) ?_
   ·simp only[gTB,Ad,Ae,Ab,gC,Yb,Yc,isF,F5,An];exact J
   simp only[Af,AC];refine EG (T:=T) rfl Ap v hj (by decide) (by decide +kernel) (λm t h1=>?_) λt=>Bt q (by rw[B _ t];rfl) j;rw[AR];simp only[Aq,Av,Aa,Ac,Ab,Yk,Yl,Yb,Yc];refine⟨sz rfl,λp A=>?_⟩;have b:p≠r:=λe=>by rw[e,Ap]at A;cases A
   have u:G p=none:=by rw[A2 b]at A;exact A
   have c:∀(L:List W)(i:Nat),L3.Sub (put G r (rdr a.Reader T i)) (put (put G p (.lst L)) r (rdr a.Reader T i)):=λL i=>by
    rw[EH b];exact AE (by rw[A2 b];exact u)
   have N:∀(L:List W)(i:Nat),put (put G p (.lst L)) r (rdr a.Reader T i) p=some (.lst L):=λL i=>by rw[A2 b,Ap]
   rw[EH (YV b)];refine pX (xs:=l.map W.str) rfl ?_;refine XU (f:=pt n) (d:=d) H (λ_=>trivial) v b u l 0 [] m _ none none h1 (by simp only[Yi];lia) (λgs O i2 o5 o6 F h2 hl=>?_) λF i2=>Bt q (by rw[B _ t];show(pas (pt n) (wrd s) 0 l m []).bind _=_;rw[F];rfl) i2;dsimp only;simp only[Af,AC];refine EG (T:=T) rfl Ap v h2 (by decide) (by decide +kernel) (λX I h3=>?_) λI=>H _ _ _ (c _ _) (Bt q (by rw[B _ t];show(pas (pt n) (wrd s) 0 l m []).bind _=_;rw[F];show(eat ")" O).map _=_;rw[I];rfl) i2);rw[AR];simp only[Ai,gB,rF,Ab,Aa,Ac,Yb,Yc];rw[IC (N _ _),An];have z:=BZ q (x:=.nd (wrd s) (Eb gs)) (by rw[B _ t];show(pas (pt n) (wrd s) 0 l m []).bind _=_;rw[F];show(eat ")" O).map _=_;rw[I];rfl) _ h3;rw[show(Te.nd (wrd s) (Eb gs)).enc=.tup (.str (wrd s)::gs.map Ag.enc) by show W.tup (_::(Eb gs).enc)=_;rw[XO]]at z;exact R _ _ _ (c _ _) z
theorem pZ{s:Sg}(h:At T i s):i+s.length=T.length:=by
 have:=Qh List.length h.1;rw[List.length_drop,CU]at this;have:=h.2;lia
def XW(a:Adr):Spw:=λws G Q E=>∃(T:Str)(t:Te),ws=[.str T]/\T.length<=90000/\pt 10 (cs T)=some (t,[])/\TB t.enc true/\∀ G',L3.Sub G G'->Q t.enc G'
theorem p0:Spw.M (XW a):=λi G Q f E g h h'⟨T,t,h1,h2,c,d,q⟩=>⟨T,t,h1,h2,c,d,λe b=>h _ _ (q e b)⟩
theorem Lz(T:Tx K mg base a):Df P w K mg base "term_read" 70 1 (XW a):=by
 have D:Df P w K mg base "term_from" 69 2 (Bs a Te.enc 1 (pt 10)):=DS T 10;refine mkX (k:=69) T.kR rfl Lq p0 (by rintro h G Q E ⟨T,t,e,_⟩;rw[e];rfl) (g:=λE=>Po K a _ _ _ _ E) (oZ T (lT T) (by lia) D (Yr _) (lY T) (by lia) (Fk T) (by lia)) λh G Q E m l q=>?_;obtain⟨T,t,rfl,d,c,f,q⟩:=q;unfold Po;simp only[Af,Aq,GY,Aa,Ac];intro x j;refine⟨x,T,rfl,Ap,rfl,?_⟩;rw[AR];have b:∀ o:HW,L3.Sub G (put G x o):=λo=>AE j;show Bs a Te.enc 1 (pt 10) [.ref x,.int 1] _ _ E;refine Dp Ap d (show At T 0 (cs T)from⟨rfl,YU _⟩) (λk t' e i hi=>?_) (λe i=>?_)
 ·rw[c]at e;cases e;rw[AR];refine⟨x,_,rfl,Ap,EE (C:=x) (by decide +kernel) (by decide +kernel),x,T,i,rfl,Ap,d,λhl=>?_,λhl=>?_⟩
  ·refine⟨(t.enc,true),⟨rfl,f⟩,?_⟩;exact q _ (b _)
  ·have h1:=pZ hi;rw[Yi]at h1;lia
 ·rw[c]at e;cases e
set_option hygiene false in
set_option hygiene false in
set_option hygiene false in
set_option hygiene false in
set_option hygiene false in
abbrev XX:List Str:=["kind"]
theorem XY:Az XX ["kind"] (Ak NZ):=by walk_at "s"
def XZ(Cz:Spw)(LA:Spw):GS:=(Af (gIf (gTB (Ad (Ae (eqF false)) (Ad (Ae ixW) (Ab 0) (gC (.int 0))) (gC (.str "to")))) (Ai (Ad (Ay) (Ad (Ay) (Ad (Ay) (Ad (Ay) (gC (.str "(")) (Ah Cz XF (Aa (Ad (Ae ixW) (Ab 0) (gC (.int 1))) Ac))) (gC (.str " > "))) (Ah Cz XF (Aa (Ad (Ae ixW) (Ab 0) (gC (.int 2))) Ac))) (gC (.str ")")))) Aj) (Af (gIf (gTB (Ad (Ae (eqF false)) (Ad (Ae ixW) (Ab 0) (gC (.int 0))) (gC (.str "box")))) (Ai (Ad (Ay) (Ad (Ay) (gC (.str "[")) (Ah Cz XF (Aa (Ad (Ae ixW) (Ab 0) (gC (.int 1))) Ac))) (gC (.str "]")))) Aj) (Af (gIf (gTB (Ad (Ae (eqF false)) (Ad (Ae ixW) (Ab 0) (gC (.int 0))) (gC (.str "row")))) (Ai (Ah LA XF (Aa (Ab 0) Ac))) Aj) (Ai (Ad (Ae ixW) (Ab 0) (gC (.int 0)))))))
theorem p9(T:Tx K mg base a)(X0:Df P w K mg base "written" DV 1 Cz)(X1:DV<=k)(tP:Df P w K mg base "row_written" LC 1 LA)(tQ:LC<=k):Dn P w K mg base XX "written" NZ k (XZ Cz LA):=by
 have hN:=XY.nd;walk_at "z"
abbrev X2:List Str:=["row","pieces"]
theorem Pr:Az X2 ["row"] (Ak JX):=by walk_at "s"
def X3(LD:Spw):GS:=(Af (Aq 1 (Cc (AY (Ad (Ae ixW) (Ab 0) (gC (.int 1)))) 1 [] (gNm 0) AX (Ah LD XF (Aa (Ab 0) Ac)))) (Af (gIf (AB (Ad (Ae ixW) (Ab 0) (gC (.int 2)))) (AC (gMt BF BH (Ab 1) (Aa (gC (.str "..")) Ac))) Aj) (Ai (Ad (Ay) (Ad (Ay) (gC (.str "{")) (gMt isStr Eu (gC (.str ", ")) (Aa (Ab 1) Ac))) (gC (.str "}"))))))
theorem ra(T:Tx K mg base a)(tR:Df P w K mg base "field_written" LF 1 LD)(tS:LF<=k):Dn P w K mg base X2 "row_written" JX k (X3 LD):=λ{f cdv A outer s H E}hr=>
 have hu:=AM hr
 have hN:=Pr.nd
 (Aw (M1 (i:=1) Pr.nd rfl rfl rfl rfl (HU (own:=["field"]) (fr:=[]) (js:=[]) (scX:=Ak JX) (n:=s.heap.objs.size+1) rfl (by decide +kernel) (by decide +kernel) (by decide +kernel) (by decide +kernel) rfl rfl rfl (by decide +kernel) rfl) (λ_=>rfl) (by walk_at "v") (MU (i:=0) (by decide) rfl rfl) (λC fp s1 H1=>BX) (λC fp s1 H1=>(by walk_at "v"))) (by walk_at "v"))
abbrev X4:List Str:=["field","sign"]
theorem X5:Az X4 ["field"] (Ak N0):=by walk_at "s"
def X6(Cz:Spw):GS:=(Af (Aq 1 (BB (gTB (Ad (Ae (eqF false)) (Ad (Ae ixW) (Ab 0) (gC (.int 1))) (gC (.str "must")))) (gC (.str "")) (gC (.str "?")))) (Ai (Ad (Ay) (Ad (Ay) (Ad (Ay) (Ad (Ae ixW) (Ab 0) (gC (.int 0))) (Ab 1)) (gC (.str ": "))) (Ah Cz XF (Aa (Ad (Ae ixW) (Ab 0) (gC (.int 2))) Ac)))))
theorem rb(T:Tx K mg base a)(X0:Df P w K mg base "written" DV 1 Cz)(X1:DV<=k):Dn P w K mg base X4 "field_written" N0 k (X6 Cz):=by
 have hN:=X5.nd;walk_at "z"
abbrev X7:List Str:=["thing","sort"]
theorem X8:Az X7 ["thing","sort"] (Ak N1):=by walk_at "s"
def X9(Cz:Spw)(Ec:Spw):GS:=(Af (gIf (gTB (Ad (Ae (eqF false)) (Ab 1) (gC (.str "number")))) (Ai (gB (rF F7) (Aa (Ab 0) Ac))) Aj) (Af (gIf (gTB (Ad (Ae (eqF false)) (Ab 1) (gC (.str "truth")))) (Ai (BB (AB (Ab 0)) (gC (.str "yes")) (gC (.str "no")))) Aj) (Af (gIf (gTB (Ad (Ae (eqF false)) (Ab 1) (gC (.str "kind")))) (Ai (Ah Cz XF (Aa (Ab 0) Ac))) Aj) (Af (gIf (gTB (Ad (Ae (eqF false)) (Ab 1) (gC (.str "fields")))) (Ai (gMt isStr Eu (gC (.str ", ")) (Aa (AZ (AY (Ab 0)) 1 (gNm 0) AX (Ad (Ay) (Ad (Ay) (Ad (Ae ixW) (Ab 0) (gC (.int 0))) (gC (.str ": "))) (Ah Ec XF (Aa (Ad (Ae ixW) (Ab 0) (gC (.int 1))) Ac)))) Ac))) Aj) (Af (gIf (gTB (Ad (Ae (eqF false)) (Ab 1) (gC (.str "term")))) (Ai (Ah Ec XF (Aa (Ab 0) Ac))) Aj) (Ai (Ab 0)))))))
theorem rc(T:Tx K mg base a)(X0:Df P w K mg base "written" DV 1 Cz)(X1:DV<=k)(Y0:Df P w K mg base "term_written" FE 1 Ec)(Y1:FE<=k):Dn P w K mg base X7 "thing_written" N1 k (X9 Cz Ec):=λ{f cdv A outer s H E}hr=>
 have hu:=AM hr
 have hN:=X8.nd
 (Aw (by walk_at "v") (Aw (by walk_at "v") (Aw (by walk_at "v") (Aw (Bg (by walk_at "v") (AD (A3 (CN Sj rfl rfl rfl rfl rfl E3 (AT rfl (Cq (Nc:=["field"]) rfl (Cj rfl (by decide +kernel) (by decide +kernel)) (λ_=>rfl) (by walk_at "v") (C3 (i:=0) (by decide) rfl rfl) (λC fp s1 H1=>BX) (λC fp s1 H1=>(by walk_at "v"))) Bk)))) Bf) (by walk_at "v")))))
abbrev Y2:List Str:=["term","pieces","place","sort"]
theorem Y3:Az Y2 ["term"] (Ak N2):=by walk_at "s"
def Y4(B7:Spw)(ES:Spw)(LG:Spw):GS:=(Af (Aq 1 (Av (Aa (Ad (Ae ixW) (Ab 0) (gC (.int 0))) (Aa (gC (.str "(")) Ac)))) (Af (BC (Fb (Aa (Ah B7 XF (Aa (Ad (Ae ixW) (Ab 0) (gC (.int 0))) Ac)) Ac)) (Bi 2 3) (Af (AC (gMt BF BH (Ab 1) (Aa (Ah ES XF (Aa (Ab 2) (Aa (Ad (Ae ixW) (Ab 0) (gC (.int 0))) Ac))) Ac))) (AC (gMt BF BH (Ab 1) (Aa (Ah LG XF (Aa (Ad (Ae ixW) (Ab 0) (Ad (Ay) (Ab 2) (gC (.int 1)))) (Aa (Ab 3) Ac))) Ac))))) (Af (AC (gMt BF BH (Ab 1) (Aa (gC (.str ")")) Ac))) (Ai (gMt isStr Eu (gC (.str "")) (Aa (Ab 1) Ac))))))
theorem rf(T:Tx K mg base a){Cu:Nat}(Kx:Df P w K mg base "form_of" Cu 1 B7)(Ky:Cu<=k){ET:Nat}(XD:Df P w K mg base "gap_ahead_of" ET 2 ES)(XE:ET<=k)(tT:Df P w K mg base "thing_written" LH 2 LG)(tU:LH<=k):Dn P w K mg base Y2 "term_written" N2 k (Y4 B7 ES LG):=λ{f cdv A outer s H E}hr=>
 have hu:=AM hr
 have hN:=Y3.nd
 (Aw (by walk_at "v") (Aw (HJ PassesOwn.never rfl (λ_=>rfl) (S6 T.TU rfl rfl (by walk_at "v")) (by walk_at "v") (by walk_at "v")) (by walk_at "v")))
abbrev Y5:List Str:=["term"]
theorem Y6:Az Y5 ["term"] (Ak Iy):=by walk_at "s"
def Ps(LI:Spw)(Ec:Spw)(E:Addr->Hw->Prop):GS:=(Af (AC (Ah LI (λ_=>E) (Aa (Ab 0) Ac))) (Ai (Ah Ec (λ_=>E) (Aa (Ab 0) Ac))))
theorem rg(T:Tx K mg base a){KZ:Nat}(rh:Df P w K mg base "check_term" KZ 1 LI)(ri:KZ<=k)(Y0:Df P w K mg base "term_written" FE 1 Ec)(Y1:FE<=k){f:Addr}{s:Shared}(hr:Room k (A.deeper (envOfC "term_shown" (Ak Iy) s.heap.objs.size f cdv))):Ssm (cxW P w K mg base Y5 "term_shown" (Ak Iy) f cdv A outer s H E) (λB=>B=H) (AO Iy) (Ps LI Ec (dnX K H E)):=
 have hu:=AM hr
 have hN:=Y6.nd
 (Aw (B2 rfl (Bo rh (hr.mono ri) rfl AH rfl rfl rfl (by walk_at "v"))) (AD (A3 (Bo Y0 (hr.mono Y1) rfl AH rfl rfl rfl (by walk_at "v")))))
def Jc(x:Str×Bool×Kd):W:=.tup [.str x.1,.str (Cs x.2.1),x.2.2.enc]
def Dr(m:Bool):Str:=if m then "" else "?"
def AQ(o:Bool):List Str:=if o then[".."]else[]
mutual
def Kd.txt:Kd->Str
 | .any=>"any"
 | .num=>"num"
 | .truth=>"truth"
 | .to x y=>"("++x.txt++" > "++y.txt++")"
 | .box x=>"["++x.txt++"]"
 | .row fs o=>"{"++Txt.join ", " (fs.pcs++AQ o)++"}"
def Fs.pcs:Fs->List Str
 | .nil=>[]
 | .cons n m k r=>(n++Dr m++": "++k.txt)::r.pcs
end
def Fs.toL:Fs->List (Str×Bool×Kd)
 | .nil=>[]
 | .cons n m k r=>(n,m,k)::r.toL
def pc(x:Str×Bool×Kd):Str:=x.1++Dr x.2.1++": "++x.2.2.txt
theorem LJ:∀ fs:Fs,fs.enc=fs.toL.map Jc
 | .nil=>rfl
 | .cons n m k r=>by show _::r.enc=_::r.toL.map Jc;rw[LJ r];rfl
theorem Hm:∀ fs:Fs,fs.pcs=fs.toL.map pc
 | .nil=>rfl
 | .cons n m k r=>by show _::r.pcs=_::r.toL.map pc;rw[Hm r];rfl
theorem EU:∀{fs:Fs},fs.ok=true->∀ x∈fs.toL,AA x.1=true/\x.2.2.ok=true
 | .nil,_,x,a=>by cases a
 | .cons n m k r,h,x,a=>by
  have h':(AA n&&k.ok&&r.ok)=true:=h;walk_at "pc";walk_at "pf"
  ·exact h'.1
  ·exact EU h'.2 x a
theorem LK:∀{fs:Fs}{n:Nat},fs.dp<=n->∀ x∈fs.toL,x.2.2.dp<=n
 | .nil,_,_,x,a=>by cases a
 | .cons n m k r,j,h,x,a=>by
  have h':max k.dp r.dp<=j:=h;walk_at "pf"
  ·show k.dp<=j;lia
  ·exact LK (n:=j) (by lia) x a
theorem Pt:∀{fs:Fs},∀ x∈fs.toL,x.2.2.cnt<=fs.cnt
 | .nil,x,a=>by cases a
 | .cons n m k r,x,a=>by
  show x.2.2.cnt<=k.cnt+r.cnt;walk_at "pf"
  ·show k.cnt<=_;lia
  ·have:=Pt x a;lia
theorem LL:∀ fs:Fs,fs.toL.length<=fs.cnt
 | .nil=>Yr _
 | .cons n m k r=>by
  show r.toL.length+1<=k.cnt+r.cnt;have:=LL r;have:=Th k;lia
theorem AW(a b:Str):(a++b).length=a.length+b.length:=Str.length_append a b
theorem CK(a:Str)(l:List Str):Txt.join a l=Str.join a l:=StrLaws.glued_eq_join a l
theorem Hn(a:Str):∀ l:List Str,(Str.join a l).length<=(l.map (·.length)).sum+l.length*a.length
 | []=>by simp[Str.join,Str.length,Str.empty]
 | [x]=>by simp[Str.join]
 | x::y::r=>by
  show(x++a++Str.join a (y::r)).length<=_;rw[AW,AW];have:=Hn a (y::r);simp only[Ym,List.sum_cons,Yg,Nat.add_mul,Nat.one_mul]at this ⊢;lia
theorem Pu(m:Bool):(Dr m).length<=1:=by cases m <;> decide
mutual
theorem CZ:∀{k:Kd},k.ok=true->k.txt.length+13<=33*k.cnt
 | .any,_=>by decide
 | .num,_=>by decide
 | .truth,_=>by decide
 | .to x y,h=>by
  have h':(x.ok&&y.ok)=true:=h;walk_at "pc";have h1:=CZ h'.1;have h2:=CZ h'.2;show(("(":Str)++x.txt++(" > ":Str)++y.txt++(")":Str)).length+13<=33*(1+(x.cnt+y.cnt));simp only[AW];have b:("(":Str).length=1:=rfl;have f:(" > ":Str).length=3:=rfl;have a:(")":Str).length=1:=rfl;lia
 | .box x,h=>by
  have h1:=CZ (k:=x) h;show(("[":Str)++x.txt++("]":Str)).length+13<=33*(1+x.cnt);simp only[AW];have b:("[":Str).length=1:=rfl;have a:("]":Str).length=1:=rfl;lia
 | .row fs o,h=>by
  have h':(By fs.names&&fs.ok)=true:=h;walk_at "pc";have h1:=LM h'.2;show(("{":Str)++Txt.join ", " (fs.pcs++AQ o)++("}":Str)).length+13<=33*(1+fs.cnt);rw[CK];simp only[AW];have b:("{":Str).length=1:=rfl;have a:("}":Str).length=1:=rfl;have d:=Hn (", ":Str) (fs.pcs++AQ o);have c:(", ":Str).length=2:=rfl;rw[Yy,List.sum_append,Yj,c]at d;have e:((AQ o).map (·.length)).sum+(AQ o).length*2<=4:=by cases o <;> decide
  lia
theorem LM:∀{fs:Fs},fs.ok=true->(fs.pcs.map (·.length)).sum+fs.pcs.length*2<=33*fs.cnt
 | .nil,_=>by decide
 | .cons n m k r,h=>by
  have h':(AA n&&k.ok&&r.ok)=true:=h;walk_at "pc";have h1:=CZ h'.1.2;have h2:=LM h'.2;have b:=DL h'.1.1;have a:=Pu m;show(((n++Dr m++(": ":Str)++k.txt)::r.pcs).map (·.length)).sum+(r.pcs.length+1)*2<=33*(k.cnt+r.cnt);rw[Ym,List.sum_cons];simp only[AW];have c:(": ":Str).length=2:=rfl;lia
end
theorem A7(h:n<=100000):n<=sizeLine:=Yt h (by decide)
abbrev FG(n:Nat):Spw:=spR (λ(k:Kd)ws _=>ws=[k.enc]/\k.ok=true/\k.dp<=n/\k.cnt<=1000) λk=>.str k.txt
abbrev Y7(n:Nat):Spw:=spR (λ(x:Str×Bool×Kd)ws _=>ws=[Jc x]/\AA x.1=true/\x.2.2.ok=true/\x.2.2.dp<=n/\x.2.2.cnt<=1000) λx=>.str (pc x)
abbrev rj(n:Nat):Spw:=spR (λ(x:Fs×Bool)ws _=>ws=[(Kd.row x.1 x.2).enc]/\(Kd.row x.1 x.2).ok=true/\(Kd.row x.1 x.2).dp<=n+1/\(Kd.row x.1 x.2).cnt<=1000) λx=>.str (Kd.row x.1 x.2).txt
theorem LF(T:Tx K mg base a)(D:Df P w K mg base "written" j 1 (FG n)):Df P w K mg base "field_written" (j+1) 1 (Y7 n):=by
 refine mk0 T.kT rfl X5 A6 (λc G Q E⟨x,⟨e,_⟩,_⟩=>by rw[e];rfl) (rb T D (Yr _)) λc G Q E i q=>?_;obtain⟨⟨nm,m,k⟩,⟨rfl,d,b,hd,hc⟩,q⟩:=q;have h1:=CZ b;have h2:=DL d;have g:=Pu m;have f:(": ":Str).length=2:=rfl;unfold X6 Jc;walk_at "rd"
 have key:∀(z:Str),z.length<=1->Q (.str (nm++z++": "++k.txt)) G->nm.length+z.length<=sizeLine/\(nm++z).length+(": ":Str).length<=sizeLine/\FG n [k.enc] G (λy G2=>Ay (W.str (nm++z++": ")) y G2 Q) λ_ _=>False:=λz h q=>by
  dsimp only at h1 h2 hd b hc;refine⟨A7 (by lia),A7 (by rw[AW];lia),k,⟨rfl,b,hd,hc⟩,?_⟩;exact⟨A7 (by rw[AW,AW];lia),q⟩
 cases m with
 | true =>
  have e:(Cs true==("must":Str))=true:=by decide +kernel
  simp only[e,YD,An,show(true != false)=true from rfl,if_true];exact key "" (by decide) q
 | false =>
  have e:(Cs false==("must":Str))=false:=by decide +kernel
  simp only[e,YD,An,bne_self_eq_false,Yq,if_false];exact key "?" (by decide) q
theorem Jd{a:Str}(h:G p=some (.lst (ys.map W.str)))(hw:(ys.map (·.length)).sum+ys.length*a.length<=16777216)(q:Q (.str (Txt.join a ys)) G):Eu (.str a) [.ref p] G Q :=
 ⟨a,.ref p,_,ys,rfl,rfl,Nj h,Si id ys▸(by simp),hw,q⟩
theorem LC(T:Tx K mg base a)(D:Df P w K mg base "field_written" j 1 (Y7 n)):Df P w K mg base "row_written" (j+1) 1 (rj n):=by
 refine mk0 T.kS rfl Pr A6 (λz G Q E⟨x,⟨e,_⟩,_⟩=>by rw[e];rfl) (ra T D (Yr _)) λz G Q E u q=>?_;obtain⟨⟨fs,o⟩,⟨rfl,l,hd,hc⟩,q⟩:=q;dsimp only at l hd hc q;have b:(By fs.names&&fs.ok)=true:=l;simp only[YG]at b;have B:1+fs.dp<=n+1:=hd;have s:1+fs.cnt<=1000:=hc;have H:=LM b.2;have hl:=LL fs;unfold X3;simp only[Kd.enc];walk_at "rd"
 have d:∀(g:Hw)(p:Addr),g p=some (.lst ((fs.pcs++AQ o).map W.str))->Sub G g->isStr (W.str ", ") g/\Eu (W.str ", ") [W.ref p] g λy G2=>Ay (W.str "{") y G2 λx G1=>Ay x (W.str "}") G1 Q:=λg p h F=>by
  have r:(", ":Str).length=2:=rfl;have i:((AQ o).map (·.length)).sum+(AQ o).length*2<=4:=by cases o <;> decide
  have L:=Hn (", ":Str) (fs.pcs++AQ o)
  have J:((fs.pcs++AQ o).map (·.length)).sum+(fs.pcs++AQ o).length*(", ":Str).length<=33*fs.cnt+4:=by
   rw[Yy,List.sum_append,Yj,r];lia
  have k:("{":Str).length=1:=rfl;have v:("}":Str).length=1:=rfl;refine⟨⟨_,rfl⟩,Jd h (by lia) ?_⟩;refine⟨A7 (by rw[CK,k];lia),A7 (by rw[AW,CK,k,v];lia),?_⟩;exact u _ _ _ F q
 rw[LJ];refine Hj (f:=λx=>.str (pc x)) trivial fs.toL none [] (λx i I t=>?_) (by simp only[Yi];exact A7 (by lia)) λp c=>?_
 ·exact⟨x,⟨rfl,(EU b.2 x i).1,(EU b.2 x i).2,LK (by lia) x i,Yt (Pt x i) (by lia)⟩,t⟩
 ·have e:[]++fs.toL.map (λx=>W.str (pc x))=fs.pcs.map W.str:=by rw[Hm,YB];rfl
  rw[e];have A:(fs.pcs.map W.str).length < sizeLine:=Nat.lt_of_le_of_lt (m:=1000) (by rw[Yh,Hm,Yh];lia) (by decide);cases o with
  | true =>
   simp only[if_true];refine⟨DM Ap,Ea Ap A ?_⟩;rw[AR];exact d _ p (by rw[Ap];simp[AQ]) (Sub.refl.put c)
  | false =>
   simp only[Yq,if_false];exact d _ p (by rw[Ap];simp[AQ]) (Sub.refl.put c)
theorem n1:(("box":Str)==("to":Str))=false:=by decide +kernel
theorem n2:(("row":Str)==("to":Str))=false:=by decide +kernel
theorem n3:(("row":Str)==("box":Str))=false:=by decide +kernel
theorem b1:(true != false)=true:=rfl
theorem b2:(false != false)=false:=rfl
theorem DV(T:Tx K mg base a):∀ n:Nat,Df P w K mg base "written" (3*n+1) 1 (FG n)
 | 0=>Da T.TH A6 λg G Q E⟨k,⟨_,_,h,_⟩,_⟩=>by have:=Np k;lia
 | n+1=>by
  have D:=DV T n;have DF:=LF T D;have DR:=LC T DF;refine mk0 (k:=3*n+3) T.TH rfl XY A6 (λg G Q E⟨x,⟨e,_⟩,_⟩=>by rw[e];rfl) (p9 T D (by lia) DR (by lia)) λg G Q E l q=>?_;obtain⟨k,⟨rfl,c,hd,hc⟩,q⟩:=q;unfold XZ;cases k with
  | any=>simp only[Kd.enc];walk_at "rd";exact q
  | num=>simp only[Kd.enc];walk_at "rd";exact q
  | truth=>simp only[Kd.enc];walk_at "rd";exact q
  | to x y =>
   have b:(x.ok&&y.ok)=true:=c;simp only[YG]at b;have f:1+max x.dp y.dp<=n+1:=hd;have d:1+(x.cnt+y.cnt)<=1000:=hc;have h1:=CZ b.1;have h2:=CZ b.2;have j:("(":Str).length=1:=rfl;have m:(" > ":Str).length=3:=rfl;have i:(")":Str).length=1:=rfl;simp only[Kd.enc];walk_at "rd";walk_at "pd";refine⟨x,⟨rfl,b.1,by lia,by lia⟩,A7 (by lia),A7 (by rw[AW];lia),y,⟨rfl,b.2,by lia,by lia⟩,A7 (by rw[AW,AW];lia),A7 (by rw[AW,AW,AW];lia),q⟩
  | box x =>
   have f:1+x.dp<=n+1:=hd;have d:1+x.cnt<=1000:=hc;have h1:=CZ (k:=x) c;have j:("[":Str).length=1:=rfl;have i:("]":Str).length=1:=rfl;simp only[Kd.enc];walk_at "rd";walk_at "pd";exact⟨x,⟨rfl,c,by lia,by lia⟩,A7 (by lia),A7 (by rw[AW];lia),q⟩
  | row fs o =>
   simp only[Kd.enc];walk_at "rd";walk_at "pd";exact⟨(fs,o),⟨rfl,c,hd,hc⟩,q⟩
mutual
def Te.txt:Te->Str
 | .nd w r=>Txt.join "" (w::"("::(r.pcs w 0++[(")":Str)]))
 | .raw _=>""
def As.pcs:As->Str->Nat->List Str
 | .nil,_,_=>[]
 | .num i r,w,k=>gap k w::Str.ofString (toString i)::r.pcs w (k+1)
 | .tru b r,w,k=>gap k w::(if b then "yes" else "no")::r.pcs w (k+1)
 | .nam x r,w,k=>gap k w::x::r.pcs w (k+1)
 | .knd x r,w,k=>gap k w::x.txt::r.pcs w (k+1)
 | .trm t r,w,k=>gap k w::t.txt::r.pcs w (k+1)
 | .fld f r,w,k=>gap k w::Txt.join ", " f.pcs::r.pcs w (k+1)
def Fl.pcs:Fl->List Str
 | .nil=>[]
 | .cons x t r=>(x++": "++t.txt)::r.pcs
end
def As.gs:As->List Ag
 | .nil=>[]
 | .num i r=>.num i::r.gs
 | .tru b r=>.tru b::r.gs
 | .nam x r=>.nam x::r.gs
 | .knd x r=>.knd x::r.gs
 | .trm t r=>.trm t::r.gs
 | .fld f r=>.fld f::r.gs
def Ag.txt:Ag->Str
 | .num i=>Str.ofString (toString i)
 | .tru b=>if b then "yes" else "no"
 | .nam x=>x
 | .knd x=>x.txt
 | .trm t=>t.txt
 | .fld f=>Txt.join ", " f.pcs
def Ag.sort:Ag->Str
 | .num _=>"number"
 | .tru _=>"truth"
 | .nam _=>"name"
 | .knd _=>"kind"
 | .trm _=>"term"
 | .fld _=>"fields"
def Ag.ok:Ag->Bool
 | .num i=>decide (-NB<=i/\i<=NB)
 | .tru _=>true
 | .nam x=>AA x
 | .knd k=>k.ok&&BP k
 | .trm t=>t.ok
 | .fld f=>By f.names&&f.ok
def Ag.dp:Ag->Nat
 | .trm t=>t.dp
 | .fld f=>f.dp
 | _=>0
def Ag.cnt:Ag->Nat
 | .trm t=>t.cnt
 | .fld f=>f.cnt
 | _=>0
def B9(w:Str):Nat->List Ag->List Str
 | _,[]=>[]
 | k,g::l=>gap k w::g.txt::B9 w (k+1) l
theorem Ds{p:As->Prop}(a:p .nil)(h1:∀(g:Ag)(r:As),p r->p (g.on r)):∀ r:As,p r
 | .nil=>a
 | .num i r=>h1 (.num i) r (Ds a h1 r)
 | .tru b r=>h1 (.tru b) r (Ds a h1 r)
 | .nam x r=>h1 (.nam x) r (Ds a h1 r)
 | .knd x r=>h1 (.knd x) r (Ds a h1 r)
 | .trm t r=>h1 (.trm t) r (Ds a h1 r)
 | .fld f r=>h1 (.fld f) r (Ds a h1 r)
theorem Ho(g:Ag)(r:As):(g.on r).gs=g::r.gs:=by cases g <;> rfl
theorem rk(g:Ag)(r:As):(g.on r).enc=g.enc::r.enc:=by cases g <;> rfl
theorem rl(g:Ag)(r:As):(g.on r).sorts=g.sort::r.sorts:=by cases g <;> rfl
theorem rn(g:Ag)(r:As):(g.on r).ok=(g.ok&&r.ok):=by cases g <;> rfl
theorem ro(g:Ag)(r:As):(g.on r).cnt=g.cnt+r.cnt:=by cases g <;> first | rfl | exact(Nat.zero_add _).symm
theorem rp(g:Ag)(r:As):(g.on r).dp=max g.dp r.dp:=by cases g <;> first | rfl | exact(Nat.zero_max _).symm
theorem rq(g:Ag)(r:As)(w:Str)(k:Nat):(g.on r).pcs w k=gap k w::g.txt::r.pcs w (k+1):=by cases g <;> rfl
theorem Y8(r:As):r.enc=r.gs.map Ag.enc:=Ds (p:=λr=>r.enc=r.gs.map Ag.enc) rfl (λg r h=>by rw[rk,Ho,h];rfl) r
theorem Je(r:As):r.sorts=r.gs.map Ag.sort:=Ds (p:=λr=>r.sorts=r.gs.map Ag.sort) rfl (λg r h=>by rw[rl,Ho,h];rfl) r
theorem Pv(w:Str)(r:As):∀ k,r.pcs w k=B9 w k r.gs:=Ds (p:=λr=>∀ k,r.pcs w k=B9 w k r.gs) (λ_=>rfl) (λg r h k=>by rw[rq,Ho,h];rfl) r
theorem rs(r:As):Eb r.gs=r:=Ds (p:=λr=>Eb r.gs=r) rfl (λg r h=>by rw[Ho];show g.on (Eb r.gs)=_;rw[h]) r
theorem Y9(r:As):r.ok=true->∀ g∈r.gs,g.ok=true:=Ds (p:=λr=>r.ok=true->∀ g∈r.gs,g.ok=true) (λ_ g h=>by cases h) (λg r h b x a=>by
 rw[rn]at b;obtain⟨h1,h2⟩:=Qf.mp b;rw[Ho]at a;walk_at "pf"
 ·exact h1
 ·exact h h2 x a) r
theorem Pw(r:As):∀ g∈r.gs,g.cnt<=r.cnt/\g.dp<=r.dp:=Ds (p:=λr=>∀ g∈r.gs,g.cnt<=r.cnt/\g.dp<=r.dp) (λg h=>by cases h) (λg r h x a=>by
 rw[ro,rp];rw[Ho]at a;walk_at "pf"
 ·lia
 ·have:=h x a;lia) r
theorem ru:(AK.all λp=>decide (p.1.length<=8))=true:=by decide +kernel
theorem Za{w:Str}(h:KTD.datumAt w AK=some ss):w.length<=8:=Qi (List.all_eq_true.mp ru _ (EK h))
theorem Hq(k:Nat)(w:Str):(gap k w).length<=2:=by
 unfold gap;split
 ·decide
 ·split <;> decide
theorem rx(h:-NB<=i/\i<=NB):(Str.ofString (toString i)).length<=30:=by
 have h1:=int_text_length_le10 (a:=i) (k:=20) (by decide) (by have:=h.1;have:=h.2;unfold NB at *;lia);rw[PySem.ofString_length];lia
def kc(ss:List Str):Nat:=(ss.filter λx=>decide (x=("kind":Str))).length
theorem rz:(AK.all λp=>decide (kc p.2<=1))=true:=by decide +kernel
theorem Zb{w:Str}(h:KTD.datumAt w AK=some ss):kc ss<=1:=Qi (List.all_eq_true.mp rz _ (EK h))
theorem Hr(x:Str)(ss:List Str):kc (x::ss)=(if x=("kind":Str)then 1 else 0)+kc ss:=by
 unfold kc;rw[List.filter_cons];by_cases h:x=("kind":Str)
 ·rw[if_pos (YH h),if_pos h,Yg];lia
 ·rw[if_neg (by simpa using h),if_neg h];lia
mutual
theorem Gy:∀{t:Te},t.ok=true->t.txt.length+50<=1600*t.cnt
 | .raw _,h=>by cases h
 | .nd w r,h=>by
  have h':(decide (KTD.datumAt w AK=some r.sorts)&&r.ok)=true:=h;obtain⟨h1,h2⟩:=Qf.mp h';have a:=Qi h1;have f:=IK a;have g:=Za a;have j:=Zb a;have i:=FH h2 w 0;show(Txt.join "" (w::"("::(r.pcs w 0++[(")":Str)]))).length+50<=1600*(1+r.cnt);rw[CK];have b:=Hn ("":Str) (w::"("::(r.pcs w 0++[(")":Str)]));have d:("":Str).length=0:=rfl;have c:("(":Str).length=1:=rfl;have e:(")":Str).length=1:=rfl;rw[d,Nat.mul_zero]at b;simp only[Ym,Yy,YI,List.sum_cons,List.sum_append,List.sum_nil,c,e]at b;lia
theorem FH:∀{r:As},r.ok=true->∀(w:Str)(k:Nat),((r.pcs w k).map (·.length)).sum<=1330*kc r.sorts+40*r.sorts.length+1600*r.cnt
 | .nil,_,_,_=>YU _
 | .num i r,h,w,k=>by
  obtain⟨h1,h2⟩:=Qf.mp (show(decide (-NB<=i/\i<=NB)&&r.ok)=true from h);have:=rx (Qi h1);have:=FH h2 w (k+1);have:=Hq k w;show((gap k w::Str.ofString (toString i)::r.pcs w (k+1)).map (·.length)).sum<=1330*kc ("number"::r.sorts)+40*(r.sorts.length+1)+1600*r.cnt;rw[Hr,if_neg (show ¬ (("number":Str)="kind") by decide)];simp only[Ym,List.sum_cons];lia
 | .tru b r,h,w,k=>by
  have:=FH (r:=r) h w (k+1);have:=Hq k w;have:(if b then("yes":Str)else "no").length<=3:=by cases b <;> decide
  show((gap k w::(if b then("yes":Str)else "no")::r.pcs w (k+1)).map (·.length)).sum<=1330*kc ("truth"::r.sorts)+40*(r.sorts.length+1)+1600*r.cnt;rw[Hr,if_neg (show ¬ (("truth":Str)="kind") by decide)];simp only[Ym,List.sum_cons];lia
 | .nam x r,h,w,k=>by
  obtain⟨h1,h2⟩:=Qf.mp (show(AA x&&r.ok)=true from h);have:=DL h1;have:=FH h2 w (k+1);have:=Hq k w;show((gap k w::x::r.pcs w (k+1)).map (·.length)).sum<=1330*kc ("name"::r.sorts)+40*(r.sorts.length+1)+1600*r.cnt;rw[Hr,if_neg (show ¬ (("name":Str)="kind") by decide)];simp only[Ym,List.sum_cons];lia
 | .knd x r,h,w,k=>by
  obtain⟨h1,h2⟩:=Qf.mp (show((x.ok&&BP x)&&r.ok)=true from h);obtain⟨d,c⟩:=Qf.mp h1;have:=CZ d;have g:x.cnt<=40/\x.dp<=8:=Qi c;have:=FH h2 w (k+1);have:=Hq k w;show((gap k w::x.txt::r.pcs w (k+1)).map (·.length)).sum<=1330*kc ("kind"::r.sorts)+40*(r.sorts.length+1)+1600*r.cnt;rw[Hr,if_pos (by decide)];simp only[Ym,List.sum_cons];lia
 | .trm t r,h,w,k=>by
  obtain⟨h1,h2⟩:=Qf.mp (show(t.ok&&r.ok)=true from h);have:=Gy h1;have:=FH h2 w (k+1);have:=Hq k w;show((gap k w::t.txt::r.pcs w (k+1)).map (·.length)).sum<=1330*kc ("term"::r.sorts)+40*(r.sorts.length+1)+1600*(t.cnt+r.cnt);rw[Hr,if_neg (show ¬ (("term":Str)="kind") by decide)];simp only[Ym,List.sum_cons];lia
 | .fld f r,h,w,k=>by
  obtain⟨h1,h2⟩:=Qf.mp (show((By f.names&&f.ok)&&r.ok)=true from h);have:=Px (Qf.mp h1).2;have:=FH h2 w (k+1);have:=Hq k w;have a:=Hn (", ":Str) f.pcs;have e:(", ":Str).length=2:=rfl;rw[e]at a;show((gap k w::Txt.join ", " f.pcs::r.pcs w (k+1)).map (·.length)).sum<=1330*kc ("fields"::r.sorts)+40*(r.sorts.length+1)+1600*(f.cnt+r.cnt);rw[Hr,if_neg (show ¬ (("fields":Str)="kind") by decide)];simp only[Ym,List.sum_cons,CK];lia
theorem Px:∀{f:Fl},f.ok=true->(f.pcs.map (·.length)).sum+f.pcs.length*2<=1600*f.cnt
 | .nil,_=>by decide
 | .cons x t r,h=>by
  obtain⟨h1,h2⟩:=Qf.mp (show((AA x&&t.ok)&&r.ok)=true from h);obtain⟨b,a⟩:=Qf.mp h1;have:=DL b;have:=Gy a;have:=Px h2;have e:(": ":Str).length=2:=rfl;show(((x++": "++t.txt)::r.pcs).map (·.length)).sum+(r.pcs.length+1)*2<=1600*(t.cnt+r.cnt);simp only[Ym,List.sum_cons,AW];lia
end
def Fl.tl:Fl->List (Str×Te)
 | .nil=>[]
 | .cons x t r=>(x,t)::r.tl
theorem Py:∀ f:Fl,f.enc=f.tl.map Cg
 | .nil=>rfl
 | .cons x t r=>by show _::r.enc=_::r.tl.map Cg;rw[Py r]
def fpc(x:Str×Te):Str:=x.1++": "++x.2.txt
theorem LN:∀ f:Fl,f.pcs=f.tl.map fpc
 | .nil=>rfl
 | .cons x t r=>by show _::r.pcs=_::r.tl.map fpc;rw[LN r];rfl
theorem LO:∀{f:Fl},f.ok=true->∀ x∈f.tl,AA x.1=true/\x.2.ok=true/\x.2.dp<=f.dp/\x.2.cnt<=f.cnt
 | .nil,_,x,a=>by cases a
 | .cons n t r,h,x,a=>by
  obtain⟨h1,h2⟩:=Qf.mp (show((AA n&&t.ok)&&r.ok)=true from h);obtain⟨b,d⟩:=Qf.mp h1;show _/\_/\_<=max t.dp r.dp/\_<=t.cnt+r.cnt;walk_at "pf"
  ·exact⟨b,d,by show t.dp<=_;lia,by show t.cnt<=_;lia⟩
  ·obtain⟨c,e,g,i⟩:=LO h2 x a;exact⟨c,e,by lia,by lia⟩
theorem Pz:∀ f:Fl,f.tl.length<=f.cnt
 | .nil=>Yr _
 | .cons n t r=>by
  show r.tl.length+1<=t.cnt+r.cnt;have:=Pz r;have:1<=t.cnt:=by cases t <;> show 1<=_ <;> first |(show 1<=1+_;lia)| exact Yr _
  lia
abbrev PB(n:Nat):Spw:=spR (λ(t:Te)ws _=>ws=[t.enc]/\t.ok=true/\t.dp<=n/\t.cnt<=40) λt=>.str t.txt
abbrev PC(n:Nat):Spw:=spR (λ(g:Ag)ws _=>ws=[g.enc,.str g.sort]/\g.ok=true/\g.dp<=n/\g.cnt<=40) λg=>.str g.txt
theorem LH(T:Tx K mg base a)(I:25<=j)(D:Df P w K mg base "term_written" j 1 (PB n)):Df P w K mg base "thing_written" (j+1) 2 (PC n):=by
 refine mk0 (k:=j) T.kU rfl X8 A6 (λB G Q E⟨x,⟨e,_⟩,_⟩=>by rw[e];rfl) (rc T (DV T 8) I D (Yr _)) λB G Q E A q=>?_;obtain⟨g,⟨rfl,c,hd,hc⟩,q⟩:=q;unfold X9;show Af _ _ (Ax Q) [some g.enc,some (.str g.sort)] G
 have st:∀{t:Str}{e:GE}{Au:GS},(g.sort=t->e [some g.enc,some (.str g.sort)] G Q)->(g.sort≠t->Au (Ax Q) [some g.enc,some (.str g.sort)] G)->Af (gIf (gTB (Ad (Ae (eqF false)) (Ab 1) (gC (.str t)))) (Ai e) Aj) Au (Ax Q) [some g.enc,some (.str g.sort)] G:=λ{t e Au}h1 h2=>KW rfl (by
  by_cases z:g.sort=t
  ·rw[if_pos z];exact h1 z
  ·rw[if_neg z];exact h2 z)
 cases g with
 | num i =>
  have h1:-NB<=i/\i<=NB:=Qi c;refine st (λ_=>?_) λz=>Qk rfl z;simp only[gB,rF,Aa,Ac,Ab,Yb,Ag.enc];unfold F7;dsimp only;rw[if_pos (YH (by unfold NB at h1;lia))];exact q
 | tru b =>
  refine st (λz=>Qk z (by show ¬ (("truth":Str)="number");decide)) λ_=>?_;refine st (λ_=>?_) λz=>Qk rfl z;simp only[BB,AB,gC,Ab,Yb,Ag.enc];cases b <;> exact q
 | knd k =>
  refine st (λz=>Qk z (by show ¬ (("kind":Str)="number");decide)) λ_=>?_;refine st (λz=>Qk z (by show ¬ (("kind":Str)="truth");decide)) λ_=>?_;refine st (λ_=>?_) λz=>Qk rfl z;obtain⟨J,u⟩:=Qf.mp (show(k.ok&&BP k)=true from c);have m:k.cnt<=40/\k.dp<=8:=Qi u;exact⟨k,⟨rfl,J,m.2,by lia⟩,q⟩
 | fld f =>
  refine st (λz=>Qk z (by show ¬ (("fields":Str)="number");decide)) λ_=>?_;refine st (λz=>Qk z (by show ¬ (("fields":Str)="truth");decide)) λ_=>?_;refine st (λz=>Qk z (by show ¬ (("fields":Str)="kind");decide)) λ_=>?_;refine st (λ_=>?_) λz=>Qk rfl z;walk_at "rd";refine⟨⟨_,rfl⟩,?_⟩;show Bj yes (gNm 0) AX _ _ f.enc [none] G [];have h:=Qf.mp (show(By f.names&&f.ok)=true from c);have hl:=Px h.2;have O:=Pz f;have v:f.cnt<=40:=hc;have F:f.dp<=n:=hd;have N:(": ":Str).length=2:=rfl;have H:(", ":Str).length=2:=rfl;rw[Py];refine Hj (enc:=Cg) (f:=λx=>.str (fpc x)) trivial f.tl none [] (λx L R y=>?_) (by rw[Yi];exact A7 (by lia)) λp s=>?_
  ·obtain⟨l,d,o,r⟩:=LO h.2 x L;have b1:=DL l;have b2:=Gy d;obtain⟨nm,t⟩:=x;dsimp only at l d o r b1 b2;unfold Cg;walk_at "rd";exact⟨A7 (by lia),t,⟨rfl,d,by lia,by lia⟩,A7 (by rw[AW];lia),y⟩
  ·refine Jd (ys:=f.pcs) (by rw[Ap,LN,YB,Yw];rfl) (by rw[H];lia) ?_;exact A _ _ _ (Sub.refl.put s) q
 | trm t =>
  refine st (λz=>Qk z (by show ¬ (("term":Str)="number");decide)) λ_=>?_;refine st (λz=>Qk z (by show ¬ (("term":Str)="truth");decide)) λ_=>?_;refine st (λz=>Qk z (by show ¬ (("term":Str)="kind");decide)) λ_=>?_;refine st (λz=>Qk z (by show ¬ (("term":Str)="fields");decide)) λ_=>?_;refine st (λ_=>?_) λz=>Qk rfl z;exact⟨t,⟨rfl,c,hd,hc⟩,q⟩
 | nam x =>
  refine st (λz=>Qk z (by show ¬ (("name":Str)="number");decide)) λ_=>?_;refine st (λz=>Qk z (by show ¬ (("name":Str)="truth");decide)) λ_=>?_;refine st (λz=>Qk z (by show ¬ (("name":Str)="kind");decide)) λ_=>?_;refine st (λz=>Qk z (by show ¬ (("name":Str)="fields");decide)) λ_=>?_;refine st (λz=>Qk z (by show ¬ (("name":Str)="term");decide)) λ_=>?_;exact q
abbrev PH(sp:Spw):GS:=Af (AC (gMt BF BH (Ab 1) (Aa (Ah Ly XF (Aa (Ab 2) (Aa (Ad (Ae ixW) (Ab 0) (gC (.int 0))) Ac))) Ac))) (AC (gMt BF BH (Ab 1) (Aa (Ah sp XF (Aa (Ad (Ae ixW) (Ab 0) (Ad (Ay) (Ab 2) (gC (.int 1)))) (Aa (Ab 3) Ac))) Ac)))
theorem Zc(d:∀ G,gd G)(l:G p=none)(e:tl.length<=10):∀(gs:List Ag)(k:Nat)(a:List Str)(c b:Option W),(∀(i:Nat)(g:Ag),gs[i]?=some g->tl[k+i]?=some g.enc)->(∀ g∈gs,g.ok=true/\g.dp<=n/\g.cnt<=40)->a.length+2*gs.length<=100->
  (∀ c b,D.nx [some (.tup (.str w0::tl)),some (.ref p),c,b] (put G p (.lst ((a++B9 w0 k gs).map W.str))))->
  BU gd (Bi 2 3) (PH (PC n)) D (D5 k (gs.map λg=>W.str g.sort)) [some (.tup (.str w0::tl)),some (.ref p),c,b] (put G p (.lst (a.map W.str)))
 | [],k,a,c,b,_,_,_,q=>⟨d _,by have:=q c b;rw[show a++B9 w0 k []=a from Yx _]at this;exact this⟩
 | g::gs,k,a,c,b,hi,m,hl,q=>by
  rw[Yg]at hl;refine⟨d _,?_⟩;show PH (PC n) _ [some (.tup (.str w0::tl)),some (.ref p),some (.int (k:Nat)),some (.str g.sort)] _;have t:tl[k]?=some g.enc:=by have:=hi 0 g rfl;rwa [Nat.add_zero]at this
  have o:∀ G,ixW (.tup (.str w0::tl)) (.int ((k:Int)+1)) G=some g.enc:=λG=>by
   show atI (.str w0::tl) (((k+1:Nat):Int))=_;exact L2.CB (by rw[Yc];exact t)
  simp only[PH,Af,AC,gMt,Ab,Ah,Ad,gC,Ae,Aa,Ac,Yb,Yc];refine⟨DM Ap,?_⟩;rw[show ∀ G,ixW (.tup (.str w0::tl)) (.int 0) G=some (.str w0)from λG=>L2.CB (j:=0) rfl,An];refine⟨k,w0,rfl,Ea Ap (by rw[Yh];exact C9 (by lia)) ?_⟩;rw[AR];refine⟨DM Ap,?_⟩;rw[Hd,o,An];obtain⟨s,u,r⟩:=m g Ye;refine⟨g,⟨rfl,s,u,r⟩,Ea Ap (by rw[Yj,Yh];exact C9 (by simp only[Yg,Yi];lia)) ?_⟩;rw[AR]
  have z:=Zc d l e gs (k+1) (a++[gap k w0,g.txt]) (some (.int (k:Nat))) (some (.str g.sort)) (λi f h=>by have:=hi (i+1) f h;rwa [show k+(i+1)=k+1+i by lia]at this) (λf h=>m f (Yd _ h)) (by simp only[Yj,Yg,Yi];lia) (λc b=>by
   have:=q c b;rw[show a++B9 w0 k (g::gs)=a++[gap k w0,g.txt]++B9 w0 (k+1) gs by rw[Yv];rfl]at this;exact this)
  rw[Yy,show[gap k w0,g.txt].map W.str=[W.str (gap k w0)]++[W.str g.txt]from rfl,<- Yv]at z;exact z
variable {a:Adr}{G G1:Hw}{ω:Sw} in
theorem rA{ge:GE}{a:GG}{gb:GS}{D:Ew}{ω:Sw}{G:Hw}(h:ge ω G λx G1=>∃ xs,[x]=[W.tup xs]/\BU (λ_=>True) a gb D (D5 0 xs) ω G1):BC (Fb (Aa ge Ac)) a gb D ω G:=by
 simp only[BC,Fb,Aa,Ac];exact h
theorem rB(a:ω[0]?=some (some (.tup (.str w0::tl))))(q:Q (D6 AK w0) G):Ah OU XF (Aa (Ad (Ae ixW) (Ab 0) (gC (.int 0))) Ac) ω G Q:=by
 simp only[Ah,Ad,Ae,Ab,gC,Aa,Ac,a];rw[show ∀ G,ixW (.tup (.str w0::tl)) (.int 0) G=some (.str w0)from λG=>L2.CB (j:=0) rfl,An];exact⟨w0,rfl,q⟩
theorem FE(T:Tx K mg base a):∀ n:Nat,Df P w K mg base "term_written" (2*n+25) 1 (PB n)
 | 0=>Da T.TJ A6 λo G Q E⟨t,⟨_,b,h,_⟩,_⟩=>by
  cases t with
  | nd w r=>have:1+r.dp<=0:=h;lia
  | raw v=>cases b
 | n+1=>by
  have D:=FE T n;have DT:=LH T (by lia) D;refine mk0 (k:=2*n+26) T.TJ rfl Y3 A6 (λo G Q E⟨x,⟨e,_⟩,_⟩=>by rw[e];rfl) (rf T (Cu T) (by lia) (ET T) (by lia) DT (Yr _)) λo G Q E A q=>?_;obtain⟨t,⟨rfl,b,hd,hc⟩,q⟩:=q;cases t with
  | raw v=>cases b
  | nd w0 r =>
   have s:=Gy b;obtain⟨h1,h2⟩:=Qf.mp (show(decide (KTD.datumAt w0 AK=some r.sorts)&&r.ok)=true from b);have c:=Qi h1;have m:=IK c;have B:1+r.dp<=n+1:=hd;have z:1+r.cnt<=40:=hc;have u:r.gs.length<=3:=by rw[Je,Yh]at m;exact m
   unfold Y4;show Af (Aq 1 _) _ (Ax Q) [some (.tup (.str w0::r.enc)),none,none,none] G;simp only[Af,Aq,Av,Ad,Ae,Ab,gC,Aa,Ac,Yb];rw[show ∀ G,ixW (.tup (.str w0::r.enc)) (.int 0) G=some (.str w0)from λG=>L2.CB (j:=0) rfl,An];refine⟨sz rfl,λp f=>?_⟩;refine rA (rB rfl ⟨r.sorts.map W.str,by rw[KQ c],?_⟩);rw[Je,YB];refine Zc (n:=n) (w0:=w0) (tl:=r.enc) (λ_=>trivial) f (by rw[Y8,Yh];lia) r.gs 0 [w0,"("] none none (λi g h=>by rw[Y8,Nat.zero_add,YN,h];rfl) (λg d=>⟨Y9 r h2 g d,by have:=Pw r g d;lia,by have:=Pw r g d;lia⟩) (by simp only[Yg,Yi];lia) λN L=>?_;have b1:=FH h2 w0 0;have b2:=Zb c;have O:=Za c;rw[<- Pv]
   have J:(r.pcs w0 0).length<=6:=by
    rw[Pv]
    have:∀(l:List Ag)(k:Nat),(B9 w0 k l).length=2*l.length:=λl=>by
     induction l with
     | nil=>intro k;rfl
     | cons g l F=>intro k;show(B9 w0 (k+1) l).length+1+1=2*(l.length+1);rw[F];lia
    rw[this];lia
   dsimp only;simp only[Af,AC,gMt,Ai,Ab,gC,Aa,Ac,Yb,Yc];refine⟨DM Ap,Ea Ap (by rw[Yh];exact C9 (by simp only[Yj,Yg,Yi];lia)) ?_⟩;rw[AR];refine⟨⟨_,rfl⟩,Jd (ys:=w0::"("::(r.pcs w0 0++[(")":Str)])) (by rw[Ap];simp) ?_ (A _ _ _ (Sub.refl.put f) q)⟩;have I:("":Str).length=0:=rfl;have y:("(":Str).length=1:=rfl;have H:(")":Str).length=1:=rfl;simp only[Ym,Yy,YI,List.sum_cons,List.sum_append,List.sum_nil,I,y,H,Nat.mul_zero];lia
abbrev rD:Spw:=spR (λ(t:Te)ws _=>ws=[t.enc]/\t.ok=true/\t.dp<=10/\t.cnt<=40) λt=>.str t.txt
theorem LP(T:Tx K mg base a):Df P w K mg base "term_shown" 46 1 rD:=by
 refine mkX (k:=45) T.kW rfl Y6 A6 (λc G Q E⟨x,⟨e,_⟩,_⟩=>by rw[e];rfl) (g:=λE=>Ps _ _ E) (rg T (KZ T) (by lia) (FE T 10) (by lia)) λc G Q E f d q=>?_;obtain⟨t,⟨rfl,b,hd,hc⟩,q⟩:=q;unfold Ps;show Af _ _ (Ax Q) [some t.enc] G;simp only[Af,AC,Ai,Ah,Ab,Aa,Ac,Yb];exact .inl ⟨t,rfl,⟨b,hc,hd⟩,t,⟨rfl,b,hd,hc⟩,q⟩
def stp(s:Sg):Prop:=∀ c,s.head?=some c->Bv c=false
theorem BR{p:Str}{s:Sg}:eat p (cs p++s)=some s:=by
 unfold eat;rw[<- CU,List.take_left,if_pos rfl,List.drop_left]
theorem Gz{w:Str}{s:Sg}(hw:∀ c∈cs w,Bv c=true)(h:stp s):wrd (cs w++s)=w/\aft (cs w++s)=s:=by
 have e:(cs w++s).takeWhile Bv=cs w/\(cs w++s).dropWhile Bv=s:=by
  have:∀ l:List Nat,(∀ c∈l,Bv c=true)->(l++s).takeWhile Bv=l/\(l++s).dropWhile Bv=s:=by
   intro l;induction l with
   | nil =>
    intro _;cases s with
    | nil=>exact⟨rfl,rfl⟩
    | cons c s =>
     have:=h c rfl;simp[this]
   | cons c l f =>
    intro hl;obtain⟨a,b⟩:=f λd hd=>hl d (Yd _ hd);have hc:=hl c Ye;simp[hc,a,b]
  exact this _ hw
 exact⟨OA (by unfold wrd;rw[mx];exact e.1),e.2⟩
theorem EV{p:Str}{s:Sg}(a:cs p=c::t)(b:s=d::u)(h:c≠d):eat p s=none:=by
 unfold eat;rw[if_neg];rw[b,a,<- CU,a,Yg,List.take_succ_cons];intro z;exact h (Qg z).1.symm
theorem Zd:cs "any"=[97,110,121]:=by decide +kernel
theorem Ze:cs "num"=[110,117,109]:=by decide +kernel
theorem Zf:cs "truth"=[116,114,117,116,104]:=by decide +kernel
theorem PJ:cs "["=[91]:=by decide +kernel
theorem rE:cs "]"=[93]:=by decide +kernel
theorem LQ:cs "("=[40]:=by decide +kernel
theorem Jf:cs ")"=[41]:=by decide +kernel
theorem PK:cs "{"=[123]:=by decide +kernel
theorem LR:cs "}"=[125]:=by decide +kernel
theorem rG:cs " > "=[32,62,32]:=by decide +kernel
theorem c_q:cs "?"=[63]:=by decide +kernel
theorem Jg:cs ": "=[58,32]:=by decide +kernel
theorem Ht:cs ", "=[44,32]:=by decide +kernel
theorem PL:cs ".."=[46,46]:=by decide +kernel
theorem Jh(h:AA x=true):(∀ c∈cs x,Bv c=true)/\1<=x.length:=by
 unfold AA at h;simp only[YG,YO]at h;exact⟨List.all_eq_true.mp h.2,h.1.1⟩
theorem PM(h:AA x=true)(s:Sg):∃ c t,cs x++s=c::t/\Bv c=true:=by
 obtain⟨h1,h2⟩:=Jh h;rw[<- CU]at h2;cases e:cs x with
 | nil=>rw[e]at h2;simp at h2
 | cons c t=>exact⟨c,t++s,rfl,h1 c (by rw[e];exact Ye)⟩
theorem GB{p:Str}(b:cs p=d::t)(hd:Bv d=false){s:Sg}(a:s=c::u)(hc:Bv c=true):eat p s=none:=EV b a λe=>by rw[e,hc]at hd;cases hd
theorem Dt{p:Str}(a:cs p=d::t)(hd:Bv d=false)(s:Sg):stp (cs p++s):=λc hc=>by
 rw[a]at hc;cases hc;exact hd
theorem Zg{f:Sg->Option (Kd×Sg)}{x:Fd}(g:AA x.1=true)(a:∀ s,stp s->f (cs x.2.2.txt++s)=some (x.2.2,s))(b:stp X):pf f (cs (pc x)++X)=some (x,X):=by
 obtain⟨nm,m,k⟩:=x;have e:cs (pc (nm,m,k))++X=cs nm++(cs (Dr m)++(cs ": "++(cs k.txt++X))):=by unfold pc;simp only[Ci,Yv]
 rw[e];have h:=Jh g
 have c:stp (cs (Dr m)++(cs ": "++(cs k.txt++X))):=by
  cases m
  ·exact Dt c_q (by decide +kernel) _
  ·exact Dt Jg (by decide +kernel) _
 obtain⟨d,i⟩:=Gz h.1 c;unfold pf;rw[d,i];cases m
 ·rw[show cs (Dr false)=cs "?" from rfl,BR];dsimp only;rw[BR];show(f _).map _=_;rw[a X b];rfl
 ·rw[show cs (Dr true)=[]from rfl,Yw,EV c_q (by rw[Jg];rfl) (by decide)];dsimp only;rw[BR];show(f _).map _=_;rw[a X b];rfl
theorem Zh{f:Sg->Option (Kd×Sg)}(o:Bool)(s:Sg):∀(l:List Fd)(m:Nat)(a:List Fd),(∀ x∈l,AA x.1=true/\∀ s,stp s->f (cs x.2.2.txt++s)=some (x.2.2,s))->l.length+1<=m->(l≠[]\/o=true)->
  pr f m (cs (Str.join ", " (l.map pc++AQ o))++(cs "}"++s)) a=some (.row (ofL (a++l)) o,s)
 | [],0,a,_,h,_=>by simp at h
 | [],m+1,a,_,_,g=>by
  have g:o=true:=g.resolve_left λh=>h rfl;subst g;unfold pr;rw[show Str.join ", " ([].map pc++AQ true)=".." from rfl,BR];dsimp only;rw[BR,Yx];rfl
 | x::l,0,a,_,h,_=>by simp at h
 | x::l,m+1,a,hl,h,_=>by
  obtain⟨h1,h2⟩:=hl x Ye;rw[Yg]at h
  have hd:∀ X,∃ c t,cs (pc x)++X=c::t/\Bv c=true:=λX=>by
   unfold pc;simp only[Ci,Yv];exact PM h1 _
  cases d:l.map pc++AQ o with
  | nil =>
   obtain⟨b,i⟩:=List.append_eq_nil_iff.mp d;have b:l=[]:=by cases l with | nil=>rfl | cons _ _=>cases b
   have i:o=false:=by cases o with | false=>rfl | true=>cases i
   subst b i;unfold pr;rw[show Str.join ", " ([x].map pc++AQ false)=pc x from rfl];obtain⟨c,t,e,hc⟩:=hd (cs "}"++s);rw[GB PL (by decide +kernel) e hc];dsimp only;rw[Zg h1 h2 (Dt LR (by decide +kernel) s)];rw[Option.bind_some];dsimp only;rw[BR]
  | cons y r =>
   have j:Str.join ", " ((x::l).map pc++AQ o)=pc x++", "++Str.join ", " (l.map pc++AQ o):=by
    show Str.join ", " (pc x::(l.map pc++AQ o))=_;rw[d];rfl
   rw[j];have e:cs (pc x++", "++Str.join ", " (l.map pc++AQ o))++(cs "}"++s)=cs (pc x)++(cs ", "++(cs (Str.join ", " (l.map pc++AQ o))++(cs "}"++s))):=by simp only[Ci,Yv]
   rw[e];unfold pr;obtain⟨c,t,e,hc⟩:=hd (cs ", "++(cs (Str.join ", " (l.map pc++AQ o))++(cs "}"++s)));rw[GB PL (by decide +kernel) e hc];dsimp only;rw[Zg h1 h2 (Dt Ht (by decide +kernel) _)];rw[Option.bind_some];dsimp only;rw[EV LR (by rw[Ht];rfl) (by decide)];dsimp only;rw[BR];show pr f m _ (a++[x])=_
   rw[Zh o s l m (a++[x]) (λy k=>hl y (Yd _ k)) (by lia) (by
    cases l with
    | nil=>right;cases o with | true=>rfl | false=>cases d
    | cons _ _=>left;exact List.cons_ne_nil _ _),Yv]
   rfl
theorem Zi:∀(l:List Str),(∀ x∈l,1<=x.length)->l.length<=(Str.join ", " l).length
 | [],_=>YU _
 | [x],h=>h x Ye
 | x::y::r,h=>by
  show r.length+1+1<=(x++", "++Str.join ", " (y::r)).length;have h1:=Zi (y::r) λz a=>h z (Yd _ a);have h2:=h x Ye;rw[Yg]at h1;rw[AW,AW];lia
theorem rH{x:Fd}(h:AA x.1=true):1<=(pc x).length:=by
 have:=(Jh h).2;unfold pc;simp only[AW];lia
theorem Zj:∀ fs:Fs,ofL fs.toL=fs
 | .nil=>rfl
 | .cons n m k r=>by show Fs.cons n m k (ofL r.toL)=_;rw[Zj r]
theorem rJ(x:Str):∀ r:List Str,∃ z,cs (Str.join ", " (x::r))=cs x++z
 | []=>⟨[],(Yx _).symm⟩
 | y::r=>⟨cs ", "++cs (Str.join ", " (y::r)),by
  show cs (x++", "++Str.join ", " (y::r))=_;simp only[Ci,Yv]⟩
theorem Ji:∀(n:Nat){k:Kd},k.ok=true->k.dp<=n->∀ s,stp s->pk n (cs k.txt++s)=some (k,s)
 | 0,k,_,h,_,_=>by have:=Np k;lia
 | n+1,k,B,hd,s,D=>by
  unfold pk
  have A:∀(w:Str)(c:Nat)(t:List Nat),cs w=c::t->Bv c=true->(∀ c∈cs w,Bv c=true)->eat "(" (cs w++s)=none/\eat "[" (cs w++s)=none/\eat "{" (cs w++s)=none/\wrd (cs w++s)=w/\aft (cs w++s)=s:=λw c t hw hc F=>by
   have e:cs w++s=c::(t++s):=by rw[hw];rfl
   exact⟨GB LQ (by decide +kernel) e hc,GB PJ (by decide +kernel) e hc,GB PK (by decide +kernel) e hc,Gz F D⟩
  cases k with
  | any =>
   obtain⟨g,a,b,m,p⟩:=A "any" 97 _ Zd (by decide +kernel) (by rw[Zd];decide +kernel);rw[show Kd.any.txt="any" from rfl,g,a,b];dsimp only;rw[m,p];rfl
  | num =>
   obtain⟨g,a,b,m,p⟩:=A "num" 110 _ Ze (by decide +kernel) (by rw[Ze];decide +kernel);rw[show Kd.num.txt="num" from rfl,g,a,b];dsimp only;rw[m,p];rfl
  | truth =>
   obtain⟨g,a,b,m,p⟩:=A "truth" 116 _ Zf (by decide +kernel) (by rw[Zf];decide +kernel);rw[show Kd.truth.txt="truth" from rfl,g,a,b];dsimp only;rw[m,p];rfl
  | to x y =>
   obtain⟨h1,h2⟩:=Qf.mp (show(x.ok&&y.ok)=true from B);have q:1+max x.dp y.dp<=n+1:=hd
   rw[show cs (Kd.to x y).txt++s=cs "("++(cs x.txt++(cs " > "++(cs y.txt++(cs ")"++s)))) by
    show cs ("("++x.txt++" > "++y.txt++")")++s=_;simp only[Ci,Yv],BR]
   dsimp only;rw[Ji n h1 (by lia) _ (Dt rG (by decide +kernel) _),Option.bind_some];dsimp only;rw[BR,Option.bind_some,Ji n h2 (by lia) _ (Dt Jf (by decide +kernel) _),Option.bind_some];dsimp only;rw[BR];rfl
  | box x =>
   have q:1+x.dp<=n+1:=hd
   rw[show cs (Kd.box x).txt++s=cs "["++(cs x.txt++(cs "]"++s)) by
    show cs ("["++x.txt++"]")++s=_;simp only[Ci,Yv],EV LQ (by rw[PJ];rfl) (by decide)]
   dsimp only;rw[BR];dsimp only;rw[Ji n (k:=x) B (by lia) _ (Dt rE (by decide +kernel) _),Option.bind_some];dsimp only;rw[BR];rfl
  | row fs o =>
   obtain⟨h1,h2⟩:=Qf.mp (show(By fs.names&&fs.ok)=true from B);have q:1+fs.dp<=n+1:=hd
   rw[show cs (Kd.row fs o).txt++s=cs "{"++(cs (Str.join ", " (fs.toL.map pc++AQ o))++(cs "}"++s)) by
    show cs ("{"++Txt.join ", " (fs.pcs++AQ o)++"}")++s=_;rw[CK,Hm];simp only[Ci,Yv],EV LQ (by rw[PK];rfl) (by decide)]
   dsimp only;rw[EV PJ (by rw[PK];rfl) (by decide)];dsimp only;rw[BR];dsimp only
   have v:=Zh (f:=pk n) o s fs.toL ((cs (Str.join ", " (fs.toL.map pc++AQ o))++(cs "}"++s)).length+1) [] (λx i=>⟨(EU h2 x i).1,Ji n (EU h2 x i).2 (LK (by lia) x i)⟩) (by
    have:=Zi (fs.toL.map pc++AQ o) λz j=>by
     rcases Yz.mp j with j | j
     ·obtain⟨x,i,rfl⟩:=YC.mp j;exact rH (EU h2 x i).1
     ·cases o with
      | true=>rw[YA.mp j];decide
      | false=>cases j
    rw[Yj,CU];rw[Yj,Yh]at this
    lia)
   by_cases r:fs.toL≠[]\/o=true
   ·have v:=v r;rw[Yw,Zj]at v;rw[show eat "}" (cs (Str.join ", " (fs.toL.map pc++AQ o))++(cs "}"++s))=none from ?_]
    ·exact v
    ·cases hl:fs.toL with
     | nil =>
      have a:o=true:=r.resolve_left λh=>h hl;subst a;exact EV (d:=46) (u:=46::(cs "}"++s)) LR (by rw[show Str.join ", " (([]:List Fd).map pc++AQ true)=".." from rfl,PL];rfl) (by decide)
     | cons x l =>
      have i:=(EU h2 x (by rw[hl];exact Ye)).1;obtain⟨z,E⟩:=rJ (pc x) (l.map pc++AQ o);obtain⟨c,t,e,hc⟩:=PM i (cs (Dr x.2.1)++(cs ": "++(cs x.2.2.txt++(z++(cs "}"++s)))));refine GB (c:=c) (u:=t) LR (by decide +kernel) ?_ hc;rw[<- e];show cs (Str.join ", " (pc x::(l.map pc++AQ o)))++_=_;rw[E];unfold pc;simp only[Ci,Yv]
   ·have g:fs.toL=[]:=Classical.not_not.mp λh=>r (.inl h);have a:o=false:=by cases o with | false=>rfl | true=>exact Qk (.inr rfl) r
    have b:fs=.nil:=by cases fs with | nil=>rfl | cons _ _ _ _=>cases g
    subst a b;rw[show cs (Str.join ", " (Fs.nil.toL.map pc++AQ false))=[]from rfl,Yw,BR]
abbrev dsN(m:Nat):Sg:=(Nat.toDigits 10 m).map Char.toNat
theorem Zk(m:Nat):∀ c∈dsN m,B1 c=true:=λc hc=>by
 obtain⟨b,a,rfl⟩:=YC.mp hc;have r:=PyProof.Rows.digit_range (Nat.isDigit_of_mem_toDigits (by decide) (by decide) a);exact(XH _).mpr r
theorem rK(h:m < 10 ^ 20):(dsN m).length<=20:=by
 have:=(Nat.length_repr_le_iff (n:=m) (k:=20) (by decide)).mpr h;rw[<- String.length_toList,Nat.toList_repr]at this;rw[Yh];exact this
theorem Zl:∀ m:Nat,∃ c t,dsN m=c::t/\(c=48->m=0):=λm=>by
 induction m using Nat.strongRecOn with
 | _ m a =>
  by_cases h:m < 10
  ·refine⟨_,[],by show(Nat.toDigits 10 m).map Char.toNat=_;rw[Nat.toDigits_of_lt_base h];rfl,λe=>?_⟩;have:=PySem.W.KIN.digit_back m h;lia
  ·obtain⟨c,t,e,hc⟩:=a (m / 10) (by lia);refine⟨c,t++[(Nat.digitChar (m % 10)).toNat],?_,λz=>by have:=hc z;lia⟩;show(Nat.toDigits 10 m).map Char.toNat=_;rw[Nat.toDigits_of_base_le (by decide) (by lia),Yy];show dsN (m / 10)++_=_;rw[e];rfl
def stf(s:Sg):Prop:=∀ c,s.head?=some c->B1 c=false
theorem rL(f:stf X):∀ l:List Nat,(∀ c∈l,B1 c=true)->AV (l++X)=l/\afg (l++X)=X:=by
 intro l;unfold AV afg;induction l with
 | nil =>
  intro _;cases X with
  | nil=>exact⟨rfl,rfl⟩
  | cons c s =>
   have:=f c rfl;simp[this]
 | cons c l e =>
  intro hl;obtain⟨a,b⟩:=e λd hd=>hl d (Yd _ hd);have hc:=hl c Ye;simp[hc,a,b]
theorem rM:cs "-"=[45]:=by decide +kernel
theorem Zm(f:m < 10 ^ 20)(h:neg=true->m≠0)(d:stf X):De neg (dsN m++X)=some (if neg then -((m:Nat):Int)else((m:Nat):Int),X):=by
 obtain⟨g,b⟩:=rL d (dsN m) (Zk m);obtain⟨c,t,e,hc⟩:=Zl m;have hl:=rK f;unfold De;rw[g,b,if_neg (by rw[e]at hl ⊢;rw[Yg]at hl ⊢;lia),if_neg,PySem.W.KIN.val_back];rintro⟨h1,h2⟩;rw[e]at h1;have a:=hc (YE h1);rcases h2 with h2 | h2
 ·rw[a]at h2;exact Qk h2 (by decide +kernel)
 ·exact h h2 a
theorem rN(h:-NB<=i/\i<=NB)(b:stf X):Cy (cs (Str.ofString (toString i))++X)=some (i,X):=by
 unfold NB at h;cases i with
 | ofNat m =>
  have e:cs (Str.ofString (toString (Int.ofNat m)))=dsN m:=PySem.W.KIN.signs_num m;rw[e];obtain⟨c,t,a,_⟩:=Zl m;have hc:B1 c=true:=Zk m c (by rw[a];exact Ye);unfold Cy;rw[EV (d:=c) (u:=t++X) rM (by rw[a];rfl) (λz=>by rw[<- z]at hc;exact Qk hc (by decide +kernel))];dsimp only;rw[Zm (m:=m) (by have:=h.2;have f:Int.ofNat m=(m:Int):=rfl;rw[f]at this;lia) (λz=>by cases z) b];rfl
 | negSucc m =>
  have e:cs (Str.ofString (toString (Int.negSucc m)))=cs "-"++dsN (m+1):=by
   show(Str.ofString ("-"++Nat.repr (m+1))).cps.toList=_;rw[PyProof.Rows.signs_ofString,String.toList_append,Yy,Nat.toList_repr];rfl
  rw[e,Yv];unfold Cy;rw[BR];dsimp only;rw[Zm (m:=m+1) (by have:=h.1;lia) (λ_=>by lia) b];rfl
theorem PN:∀ l:List Str,cs (Str.join "" l)=(l.map cs).flatten
 | []=>rfl
 | [x]=>by show cs x=cs x++[];rw[Yx]
 | x::y::r=>by
  show cs (x++""++Str.join "" (y::r))=cs x++((y::r).map cs).flatten;rw[Ci,Ci,PN (y::r),show cs ""=[]from rfl,Yx]
theorem Zn{f:Sg->Option (Te×Sg)}(c:AA x.1=true)(a:∀ s,f (cs x.2.txt++s)=some (x.2,s))(X:Sg):pfd f (cs (fpc x)++X)=some (x,X):=by
 obtain⟨nm,t⟩:=x;rw[show cs (fpc (nm,t))++X=cs nm++(cs ": "++(cs t.txt++X)) by unfold fpc;simp only[Ci,Yv]];obtain⟨b,d⟩:=Gz (Jh c).1 (Dt Jg (by decide +kernel) (cs t.txt++X));unfold pfd;rw[b,d,BR,Option.bind_some,a];rfl
def flt(l:List (Str×Te))(s:Sg):Sg:=(l.map λx=>cs ", "++cs (fpc x)).flatten++(cs ")"++s)
theorem PP(x:Str×Te)(l:List (Str×Te))(s:Sg):flt (x::l) s=cs ", "++(cs (fpc x)++flt l s):=by
 unfold flt;simp only[Ym,List.flatten_cons,Yv]
theorem Zo(s:Sg):∀ l:List (Str×Te),l.length<=(flt l s).length
 | []=>YU _
 | x::l=>by
  have:=Zo s l;rw[PP,Yj,Yj,Ht,Yg];simp only[Yg,Yi];lia
theorem Zp(x:Str×Te)(s:Sg):∀ l:List (Str×Te),cs (Str.join ", " ((x::l).map fpc))++(cs ")"++s)=cs (fpc x)++flt l s
 | []=>rfl
 | y::l=>by
  show cs (fpc x++", "++Str.join ", " ((y::l).map fpc))++_=_;rw[Ci,Ci,Yv,Yv,Zp y s l,PP]
theorem Zq{f:Sg->Option (Te×Sg)}(s:Sg):∀(l:List (Str×Te))(m:Nat)(a:List (Str×Te)),(∀ x∈l,AA x.1=true/\∀ s,f (cs x.2.txt++s)=some (x.2,s))->l.length+1<=m->pfl f m (flt l s) a=some (a++l,cs ")"++s)
 | _,0,_,_,h=>by lia
 | [],m+1,a,_,_=>by
  unfold pfl;rw[show flt [] s=cs ")"++s from rfl,EV Ht (by rw[Jf];rfl) (by decide),Yx]
 | x::l,m+1,a,hl,h=>by
  obtain⟨h1,h2⟩:=hl x Ye;rw[Yg]at h;unfold pfl;rw[PP,BR];dsimp only;rw[Zn h1 h2,Option.bind_some];dsimp only;rw[Zq s l m (a++[x]) (λy b=>hl y (Yd _ b)) (by lia),Yv];rfl
theorem rO{f:Sg->Option (Te×Sg)}(s:Sg)(l:List (Str×Te))(hl:∀ x∈l,AA x.1=true/\∀ s,f (cs x.2.txt++s)=some (x.2,s)):pfs f (cs (Str.join ", " (l.map fpc))++(cs ")"++s))=some (l,cs ")"++s):=by
 cases l with
 | nil =>
  unfold pfs;rw[show cs (Str.join ", " (([]:List (Str×Te)).map fpc))=[]from rfl,Yw,BR]
 | cons x l =>
  obtain⟨h1,h2⟩:=hl x Ye;unfold pfs;rw[Zp];obtain⟨c,t,e,hc⟩:=PM h1 (cs ": "++(cs x.2.txt++flt l s));rw[GB (c:=c) (u:=t) Jf (by decide +kernel) (by rw[<- e];unfold fpc;simp only[Ci,Yv]) hc];dsimp only;rw[Zn h1 h2,Option.bind_some];dsimp only;rw[Zq s l _ [x] (λy a=>hl y (Yd _ a)) (by have:=Zo s l;lia)];rfl
theorem Zr:∀ f:Fl,BQ f.tl=f
 | .nil=>rfl
 | .cons x t r=>by show Fl.cons x t (BQ r.tl)=_;rw[Zr r]
theorem rP:cs "yes"=[121,101,115]:=by decide +kernel
theorem rQ:cs "no"=[110,111]:=by decide +kernel
theorem rR{f:Sg->Option (Te×Sg)}(l:∀ t:Te,t.ok=true->t.dp<=n->∀ s,f (cs t.txt++s)=some (t,s))(d:g.ok=true)(hd:g.dp<=n)(j:stp X)(y:stf X)(p:∀ c,g=.fld c->∃ s,X=cs ")"++s):pth f g.sort (cs g.txt++X)=some (g,X):=by
 generalize a:g.sort=so;unfold pth;cases g with
 | num i =>
  have a:so=("number":Str):=a.symm;rw[if_pos a];show(Cy (cs (Str.ofString (toString i))++X)).map _=_;rw[rN (Qi d) y];rfl
 | tru b =>
  have a:so=("truth":Str):=a.symm;rw[if_neg (by rw[a];decide),if_pos a];unfold DU;cases b with
  | true =>
   obtain⟨e,h⟩:=Gz (w:="yes") (s:=X) (by rw[rP];decide +kernel) j;rw[show(Ag.tru true).txt="yes" from rfl,e,h,if_pos rfl];rfl
  | false =>
   obtain⟨e,h⟩:=Gz (w:="no") (s:=X) (by rw[rQ];decide +kernel) j;rw[show(Ag.tru false).txt="no" from rfl,e,h,if_neg (by decide),if_pos rfl];rfl
 | knd k =>
  have a:so=("kind":Str):=a.symm;rw[if_neg (by rw[a];decide),if_neg (by rw[a];decide),if_pos a];obtain⟨o,v⟩:=Qf.mp (show(k.ok&&BP k)=true from d);have z:k.cnt<=40/\k.dp<=8:=Qi v;show(pk 8 (cs k.txt++X)).map _=_;rw[Ji 8 o z.2 X j];rfl
 | fld c =>
  have a:so=("fields":Str):=a.symm;rw[if_neg (by rw[a];decide),if_neg (by rw[a];decide),if_neg (by rw[a];decide),if_pos a];obtain⟨s,rfl⟩:=p c rfl;have r:=Qf.mp (show(By c.names&&c.ok)=true from d);show(pfs f (cs (Txt.join ", " c.pcs)++_)).map _=_
  rw[CK,LN,rO s c.tl (λx u=>by
   obtain⟨q,A,m,B⟩:=LO r.2 x u;exact⟨q,l _ A (Yt m hd)⟩)]
  show some (Ag.fld (BQ c.tl),_)=_;rw[Zr]
 | trm t =>
  have a:so=("term":Str):=a.symm;rw[if_neg (by rw[a];decide),if_neg (by rw[a];decide),if_neg (by rw[a];decide),if_neg (by rw[a];decide),if_pos a];show(f (cs t.txt++X)).map _=_;rw[l t d hd];rfl
 | nam x =>
  have a:so=("name":Str):=a.symm;rw[if_neg (by rw[a];decide),if_neg (by rw[a];decide),if_neg (by rw[a];decide),if_neg (by rw[a];decide),if_neg (by rw[a];decide)];obtain⟨e,h⟩:=Gz (Jh (x:=x) d).1 j;show some (Ag.nam (wrd (cs x++X)),aft (cs x++X))=_;rw[e,h]
theorem rS:(AK.all λp=>(!p.2.contains "fields")||decide (p.2.length<=1))=true:=by decide +kernel
theorem rT{w:Str}(h:KTD.datumAt w AK=some ss)(a:("fields":Str)∈ss):ss.length<=1:=by
 have:=List.all_eq_true.mp rS _ (EK h);rcases Bool.or_eq_true_iff.mp this with z | z
 ·rw[List.contains_iff_mem.mpr a]at z;cases z
 ·exact Qi z
theorem rV:(AK.all λp=>(cs p.1).all Bv)=true:=by decide +kernel
theorem rW{w:Str}(h:KTD.datumAt w AK=some ss):∀ c∈cs w,Bv c=true:=List.all_eq_true.mp (List.all_eq_true.mp rV _ (EK h))
theorem PQ{p:Str}(a:cs p=d::t)(hd:B1 d=false)(s:Sg):stf (cs p++s):=λc hc=>by
 rw[a]at hc;cases hc;exact hd
theorem Zs{f:Sg->Option (Te×Sg)}(i:∀ t:Te,t.ok=true->t.dp<=n->∀ s,f (cs t.txt++s)=some (t,s))(w:Str)(s:Sg):∀(gs:List Ag)(k:Nat)(a:List Ag),(∀ g∈gs,g.ok=true/\g.dp<=n)->(∀ b,Ag.fld b∈gs->gs.length<=1)->
  pas f w k (gs.map Ag.sort) (((B9 w k gs).map cs).flatten++(cs ")"++s)) a=some (a++gs,cs ")"++s)
 | [],k,a,_,_=>by show some (a,_)=_;rw[Yx];rfl
 | g::gs,k,a,l,m=>by
  have e:((B9 w k (g::gs)).map cs).flatten++(cs ")"++s)=cs (gap k w)++(cs g.txt++(((B9 w (k+1) gs).map cs).flatten++(cs ")"++s))):=by
   show((gap k w::g.txt::B9 w (k+1) gs).map cs).flatten++_=_;simp only[Ym,List.flatten_cons,Yv]
  rw[e];show((eat (gap k w) _).bind λp=>(pth f g.sort p).bind λx=>pas f w (k+1) (gs.map Ag.sort) x.2 (a++[x.1]))=_;rw[BR,Option.bind_some];obtain⟨h1,h2⟩:=l g Ye
  have j:stp (((B9 w (k+1) gs).map cs).flatten++(cs ")"++s))/\stf (((B9 w (k+1) gs).map cs).flatten++(cs ")"++s)):=by
   cases gs with
   | nil=>exact⟨Dt Jf (by decide +kernel) s,PQ Jf (by decide +kernel) s⟩
   | cons c gs =>
    have d:∃ Y,((B9 w (k+1) (c::gs)).map cs).flatten++(cs ")"++s)=cs (gap (k+1) w)++Y:=⟨_,by
     show((gap (k+1) w::c.txt::B9 w (k+1+1) gs).map cs).flatten++_=_;simp only[Ym,List.flatten_cons,Yv]
     rfl⟩
    obtain⟨Y,d⟩:=d;rw[d];unfold gap;rw[if_neg (by lia)];split
    ·exact⟨Dt Jg (by decide +kernel) Y,PQ Jg (by decide +kernel) Y⟩
    ·exact⟨Dt Ht (by decide +kernel) Y,PQ Ht (by decide +kernel) Y⟩
  rw[rR i h1 h2 j.1 j.2 (λb o=>by
   have hl:=m b (by rw[o];exact Ye);rw[Yg]at hl;have:gs=[]:=List.length_eq_zero_iff.mp (by lia);subst this;exact⟨s,rfl⟩),Option.bind_some]
  dsimp only;rw[Zs i w s gs (k+1) (a++[g]) (λc h=>l c (Yd _ h)) (λb h=>by have:=m b (Yd _ h);rw[Yg]at this;lia),Yv];rfl
theorem Zt:∀(n:Nat)(t:Te),t.ok=true->t.dp<=n->∀ s,pt n (cs t.txt++s)=some (t,s)
 | 0,.nd w r,_,h,_=>by have:1+r.dp<=0:=h;lia
 | _,.raw v,h,_,_=>by cases h
 | n+1,.nd w r,j,hd,s=>by
  obtain⟨h1,h2⟩:=Qf.mp (show(decide (KTD.datumAt w AK=some r.sorts)&&r.ok)=true from j);have a:=Qi h1;have i:1+r.dp<=n+1:=hd
  have e:cs (Te.nd w r).txt++s=cs w++(cs "("++(((B9 w 0 r.gs).map cs).flatten++(cs ")"++s))):=by
   show cs (Txt.join "" (w::"("::(r.pcs w 0++[(")":Str)])))++s=_;rw[CK,PN,Pv];simp only[Ym,Yy,YI,List.flatten_cons,List.flatten_append,List.flatten_nil,Yv,Yx]
  rw[e];obtain⟨k,f⟩:=Gz (rW a) (Dt LQ (by decide +kernel) (((B9 w 0 r.gs).map cs).flatten++(cs ")"++s)));show pt1 (pt n) _=_;unfold pt1;rw[k,f,a];dsimp only
  rw[BR,Option.bind_some,Je,Zs (n:=n) (λt h1 h2 s=>Zt n t h1 h2 s) w s r.gs 0 [] (λg b=>⟨Y9 r h2 g b,by have:=Pw r g b;lia⟩) (λl c=>by
   have d:("fields":Str)∈r.sorts:=by rw[Je];exact YC.mpr ⟨_,c,rfl⟩
   have:=rT a d;rw[Je,Yh]at this;exact this),Option.bind_some]
  dsimp only;rw[BR,Yw,rs];rfl
set_option hygiene false in
set_option hygiene false in
set_option hygiene false in
set_option hygiene false in
set_option hygiene false in
abbrev Zu:List Str:=["kind","parts","name","mark","inner"]
theorem Zv:Az Zu ["kind"] (Ak N3):=by walk_at "s"
def Zw(Dg:Spw):GS:=(Af (gIf (gTB (Ad (Ae (eqF false)) (Ad (Ae ixW) (Ab 0) (gC (.int 0))) (gC (.str "to")))) (Ai (Ad (Ay) (Ad (Ay) (Ad (Ay) (Ad (Ay) (gC (.str "(")) (Ah Dg XF (Aa (Ad (Ae ixW) (Ab 0) (gC (.int 1))) Ac))) (gC (.str " > "))) (Ah Dg XF (Aa (Ad (Ae ixW) (Ab 0) (gC (.int 2))) Ac))) (gC (.str ")")))) Aj) (Af (gIf (gTB (Ad (Ae (eqF false)) (Ad (Ae ixW) (Ab 0) (gC (.int 0))) (gC (.str "box")))) (Ai (Ad (Ay) (Ad (Ay) (gC (.str "[")) (Ah Dg XF (Aa (Ad (Ae ixW) (Ab 0) (gC (.int 1))) Ac))) (gC (.str "]")))) Aj) (Af (gIf (gTB (Ad (Ae (eqF true)) (Ad (Ae ixW) (Ab 0) (gC (.int 0))) (gC (.str "row")))) (Ai (Ad (Ae ixW) (Ab 0) (gC (.int 0)))) Aj) (Af (Aq 1 (Av Ac)) (Af (BC (DC (Ad (Ae ixW) (Ab 0) (gC (.int 1)))) (F0 2 3 4) (AC (gMt BF BH (Ab 1) (Aa (Ad (Ay) (Ad (Ay) (Ab 2) (Ad (Ae ixK) (Ex ["must","may"] (Aa (gC (.str ": ")) (Aa (gC (.str "?: ")) Ac))) (Ab 3))) (Ah Dg XF (Aa (Ab 4) Ac))) Ac)))) (Ai (Ad (Ay) (Ad (Ay) (gC (.str "{")) (gMt isStr Eu (gC (.str ", ")) (Aa (Ad (Ay) (Ab 1) (Ad (Cr) (Av (Aa (gC (.str "..")) Ac)) (gB (rF C5) (Aa (Ad (Ae ixW) (Ab 0) (gC (.int 2))) Ac)))) Ac))) (gC (.str "}")))))))))
theorem rX(T:Tx K mg base a)(rY:Df P w K mg base "_law_kind_text" FI 1 Dg)(rZ:FI<=k):Dn P w K mg base Zu "_law_kind_text" N3 k (Zw Dg):=λ{f cdv A outer s H E}hr=>
 have hu:=AM hr
 have hN:=Zv.nd
 (Aw (by walk_at "v") (Aw (by walk_at "v") (Aw (by walk_at "v") (Aw (by walk_at "v") (Aw (HJ PassesOwn.never rfl (λ_=>rfl) (by walk_at "v") (by walk_at "v") (AD (B2 rfl (CN HQ rfl rfl rfl rfl rfl (by walk_at "v") (AT rfl (GW (GW (by walk_at "v") (SN (λ_ _=>rfl) (Nf (ks:=["must","may"]) (by rfl) (by intro h;cases h) (by exact(by decide:2<=15)) (by decide) (F6 E3 (F6 E3 Nd))) (by walk_at "v"))) (by walk_at "v")) Bk))))) (by walk_at "v"))))))
abbrev Zx:List Str:=["term","head","parts"]
theorem LS:Az Zx ["term"] (Ak JY):=by walk_at "s"
def Zy(CW:Spw)(EW:Spw)(Dg:Spw):GS:=(Af (Aq 1 (Ad (Ae ixW) (Ab 0) (gC (.int 0)))) (Af (Aq 2 (AZ (AY (Ah CW XF (Aa (Ab 0) Ac))) 1 (gNm 0) AX (Ah EW XF (Aa (Ab 0) Ac)))) (Af (gIf (gTB (Ad (Ae (eqF false)) (Ab 1) (gC (.str "num")))) (Aq 2 (Av (Aa (gB (rF F7) (Aa (Ad (Ae ixW) (Ab 0) (gC (.int 1))) Ac)) Ac))) Aj) (Af (gIf (gTB (Ad (Ae (eqF false)) (Ab 1) (gC (.str "truth")))) (Aq 2 (Av (Aa (Ad (Ae ixW) (Av (Aa (gC (.str "no")) (Aa (gC (.str "yes")) Ac))) (gB (rF C5) (Aa (Ad (Ae ixW) (Ab 0) (gC (.int 1))) Ac))) Ac))) Aj) (Af (gIf (gTB (Ad (Ae (eqF false)) (Ab 1) (gC (.str "name")))) (Aq 2 (Av (Aa (Ad (Ae ixW) (Ab 0) (gC (.int 1))) Ac))) Aj) (Af (gIf (gTB (Ad (Ae (eqF false)) (Ab 1) (gC (.str "fun")))) (Aq 2 (Ad (Ay) (Av (Aa (Ad (Ay) (Ad (Ay) (Ad (Ae ixW) (Ab 0) (gC (.int 1))) (gC (.str ": "))) (Ah Dg XF (Aa (Ad (Ae ixW) (Ab 0) (gC (.int 2))) Ac))) Ac)) (Ab 2))) Aj) (Af (gIf (gTB (Ad (Ae (eqF false)) (Ab 1) (gC (.str "rec")))) (Aq 2 (Cc (D2 (Aa (gB (rF AL) (Aa (Ab 2) Ac)) Ac)) 1 [0,2] (gNm 0) AX (Ad (Ay) (Ad (Ay) (Ad (Ae ixW) (Ad (Ae ixW) (Ad (Ae ixW) (Ab 1) (gC (.int 1))) (Ab 0)) (gC (.int 0))) (gC (.str ": "))) (Ad (Ae ixW) (Ab 2) (Ab 0))))) Aj) (Af (gIf (gTB (Ad (Ae (inF false)) (Ab 1) (Av (Aa (gC (.str "get")) (Aa (gC (.str "or")) Ac))))) (Aq 2 (Ad (Ay) (Av (Aa (Ad (Ae ixW) (Ab 2) (gC (.int 0))) (Aa (Ad (Ae ixW) (Ab 0) (gC (.int 2))) Ac))) (B4 (Ab 2) (Bl (gC (.int 1))) Bu))) Aj) (Af (gIf (gTB (Ad (Ae (eqF false)) (Ab 1) (gC (.str "as")))) (AC (gMt BF BH (Ab 2) (Aa (Ah Dg XF (Aa (Ad (Ae ixW) (Ab 0) (gC (.int 2))) Ac)) Ac))) Aj) (Ai (Ad (Ay) (Ad (Ay) (Ad (Ay) (Ab 1) (gC (.str "("))) (gMt isStr Eu (gC (.str ", ")) (Aa (Ab 2) Ac))) (gC (.str ")")))))))))))))
theorem sd(T:Tx K mg base a){Dq:Nat}(W7:Df P w K mg base "_law_parts" Dq 1 CW)(W8:Dq<=k)(se:Df P w K mg base "_law_text" FJ 1 EW)(sf:FJ<=k)(rY:Df P w K mg base "_law_kind_text" FI 1 Dg)(rZ:FI<=k):Dn P w K mg base Zx "_law_text" JY k (Zy CW EW Dg):=λ{f cdv A outer s H E}hr=>
 have hu:=AM hr
 have hN:=LS.nd
 (Aw (by walk_at "v") (Aw (MW (i:=2) LS.nd rfl rfl rfl rfl (Cq (Nc:=["part"]) rfl (Cj rfl (by decide +kernel) (by decide +kernel)) (λ_=>rfl) (by walk_at "v") (C3 (i:=0) (by decide) rfl rfl) (λC fp s1 H1=>BX) (λC fp s1 H1=>(by walk_at "v")))) (Aw (by walk_at "v") (Aw (by walk_at "v") (Aw (by walk_at "v") (Aw (by walk_at "v") (Aw (Bg (by walk_at "v") (AD (MW (i:=2) LS.nd rfl rfl rfl rfl (R5 rfl (HU (own:=["k"]) (fr:=["term","parts"]) (js:=[0,2]) (scX:=Ak JY) (n:=s.heap.objs.size+1) rfl (by decide +kernel) (by decide +kernel) (by decide +kernel) (by decide +kernel) rfl rfl rfl (by decide +kernel) rfl) (λ_=>rfl) (by walk_at "v") (MU (i:=0) (by decide) rfl rfl) (λC fp s1 H1=>BX) (λC fp s1 H1=>(by walk_at "v"))))) Bf) (by walk_at "v"))))))))
abbrev Zz:List Str:=["found"]
theorem ZA:Az Zz ["found"] (Ak N4):=by walk_at "s"
def ZC(EX:Spw):GS:=(Af (gIf (AB (A5 "tuple" (Ab 0))) (Ai (gB (rF BG) (Aa (AZ (AY (Ab 0)) 1 (gNm 0) AX (Ah EX XF (Aa (Ab 0) Ac))) Ac))) Aj) (Ai (Ng "str" "bool" "int" (Ab 0))))
theorem sg(T:Tx K mg base a)(sh:Df P w K mg base "_law_is_term" FK 1 EX)(si:FK<=k):Dn P w K mg base Zz "_law_is_term" N4 k (ZC EX):=λ{f cdv A outer s H E}hr=>
 have hu:=AM hr
 have hN:=ZA.nd
 (Aw (Bg (by walk_at "v") (AD (A3 (Co Er (Eo rfl) rfl T.Ey (by decide) rfl rfl rfl (AT rfl (Cq (Nc:=["part"]) rfl (Cj rfl (by decide +kernel) (by decide +kernel)) (λ_=>rfl) (by walk_at "v") (C3 (i:=0) (by decide) rfl rfl) (λC fp s1 H1=>BX) (λC fp s1 H1=>(by walk_at "v"))) Bk)))) Bf) (AD (A3 (jd (T:="str") (U:="bool") (V9:="int") (by decide) (by decide) (by decide) MQ RQ JM T.N6 T.TR T.JZ T.Hb rfl rfl rfl rfl (by decide) (by decide) (by decide) rfl rfl rfl rfl rfl rfl rfl rfl (by walk_at "v")))))
abbrev ZD:List Str:=["one","other"]
theorem ZE:Az ZD ["one","other"] (Ak N5):=by walk_at "s"
def ZF(EY:Spw)(Jj:Spw):GS:=(Af (gIf (Bp (AB (A5 "tuple" (Ab 0))) (AB (A5 "tuple" (Ab 1)))) (Af (gIf (gTB (Ad (Ae (eqF true)) (gB (rF AL) (Aa (Ab 0) Ac)) (gB (rF AL) (Aa (Ab 1) Ac)))) (Ai (gC (.bl false))) Aj) (Ai (gB (rF BG) (Aa (AZ (F3 (Aa (Ab 0) (Aa (Ab 1) Ac))) 2 (Bi 0 1) AX (Ah EY XF (Aa (Ab 0) (Aa (Ab 1) Ac)))) Ac)))) Aj) (Ai (BE (Ad (Ae (eqF false)) (Ab 0) (Ab 1)) (Ad (Ae (eqF false)) (Ah Jj XF (Aa (Ab 0) Ac)) (Ah Jj XF (Aa (Ab 1) Ac))))))
theorem sj(T:Tx K mg base a)(sk:Df P w K mg base "_law_same" FL 2 EY)(sm:FL<=k)(tV:Df P w K mg base "_law_whole" LU 1 Jj)(tW:LU<=k):Dn P w K mg base ZD "_law_same" N5 k (ZF EY Jj):=λ{f cdv A outer s H E}hr=>
 have hu:=AM hr
 have hN:=ZE.nd
 (Aw (Bg (by walk_at "v") (Aw (by walk_at "v") (AD (A3 (Co Er (Eo rfl) rfl T.Ey (by decide) rfl rfl rfl (AT rfl (Cq (Nc:=["first","second"]) rfl (Cj rfl (by decide +kernel) (by decide +kernel)) (λ_=>rfl) (M5 T.J1 rfl rfl rfl (by walk_at "v")) (JB (i:=0) (j:=1) rfl (by decide) rfl rfl rfl rfl) (λC fp s1 H1=>BX) (λC fp s1 H1=>(by walk_at "v"))) Bk))))) Bf) (by walk_at "v"))
abbrev ZG:List Str:=["script","term","text","found"]
theorem ZH:Az ZG ["script"] (Ak Ha):=by walk_at "s"
def ZI(LV:Spw)(LW:Spw)(EW:Spw)(LX:Spw)(EX:Spw)(EY:Spw):GS:=(Af (Aq 1 (Ah LV XF (Aa (Ab 0) (Aa (gC (.int 0)) Ac)))) (Af (Aq 2 (Ah LW XF (Aa (Ab 1) Ac))) (Af (gIf (gOr (gNt (AB (A5 "str" (Ab 2)))) (gTB (Ad (Ae (eqF true)) (Ab 2) (Ah EW XF (Aa (Ab 1) Ac))))) (Ai (gC (.bl false))) Aj) (Af (Aq 3 (Ah LX XF (Aa (Ab 2) Ac))) (Ai (BE (Ah EX XF (Aa (Ab 3) Ac)) (Ah EY XF (Aa (Ab 3) (Aa (Ab 1) Ac)))))))))
theorem sr(T:Tx K mg base a){Le:Nat}(tX:Df P w K mg base "_law_drawn_term" Le 2 LV)(tY:Le<=k){LP:Nat}(tZ:Df P w K mg base "term_shown" LP 1 LW)(t0:LP<=k)(se:Df P w K mg base "_law_text" FJ 1 EW)(sf:FJ<=k){Lz:Nat}(t3:Df P w K mg base "term_read" Lz 1 LX)(t4:Lz<=k)(sh:Df P w K mg base "_law_is_term" FK 1 EX)(si:FK<=k)(sk:Df P w K mg base "_law_same" FL 2 EY)(sm:FL<=k){f:Addr}{s:Shared}(hr:Room k (A.deeper (envOfC "law" (Ak Ha) s.heap.objs.size f cdv))):Ssm (cxW P w K mg base ZG "law" (Ak Ha) f cdv A outer s H E).nox (λB=>B=H) (AO Ha) (ZI LV LW EW LX EX EY):=
 have hu:=AM hr
 have hN:=ZH.nd
 (by walk_at "v")
def pl:Nat->W->Prop
 | 0,_=>False
 | n+1,.tup xs=>xs.length<=100000/\∀ x∈xs,pl n x
 | _+1,.str _=>True
 | _+1,.int _=>True
 | _+1,.bl _=>True
 | _+1,_=>False
abbrev ZJ(n:Nat):Spw:=spR (λ(x:W)ws _=>ws=[x]/\pl n x) λ_=>.bl true
theorem PR:∀ l:List W,DA (l.map λ_=>W.bl true)=some (l.map λ_=>true)
 | []=>rfl
 | x::l=>by show(DA (l.map λ_=>W.bl true)).map _=_;rw[PR l];rfl
theorem FK(T:Tx K mg base a):∀ n:Nat,Df P w K mg base "_law_is_term" n 1 (ZJ n)
 | 0=>Da T.TN A6 λc G Q E⟨x,⟨_,h⟩,_⟩=>h
 | n+1=>by
  have D:=FK T n;refine mk0 (k:=n) T.TN rfl ZA A6 (λc G Q E⟨x,⟨e,_⟩,_⟩=>by rw[e];rfl) (sg T D (Yr _)) λc G Q E l q=>?_;obtain⟨x,⟨rfl,h⟩,q⟩:=q;unfold ZC;cases x with
  | tup xs =>
   obtain⟨h1,h2⟩:=h;walk_at "rd";rw[if_pos (by decide)]
   have z:=Hj (enc:=id) (f:=λ_=>W.bl true) (gd:=yes) (ge:=Ah (ZJ n) XF (Aa (Ab 0) Ac)) (R:=λys G2=>∀(p:Addr),G2 p=none->opt ((DY (put G2 p (HW.lst ys)) (W.ref p)).bind λxs=>Option.map (λbs=>W.bl (bs.all id)) (DA xs)) λw=>Q w (put G2 p (HW.lst ys))) (G:=G) trivial xs none [] (λx g m j=>⟨x,⟨rfl,h2 x g⟩,j⟩) (by rw[Yi];exact A7 (by lia)) (λp d=>by
    rw[CP Ap,Option.bind_some,Yw,PR,YD,An];rw[show(xs.map λ_=>true).all id=true by simp];exact l _ _ _ (Sub.refl.put d) q)
   rw[List.map_id]at z;exact z
  | str z=>walk_at "rd";rw[if_neg (by decide)];exact q
  | int i=>walk_at "rd";rw[if_neg (by decide)];exact q
  | bl b=>walk_at "rd";rw[if_neg (by decide)];exact q
  | non=>cases h
  | rol xs=>cases h
  | ref p=>cases h
def whW:W->Bool
 | .int _=>true
 | _=>false
abbrev su:Spw:=spR (λ(x:W)ws _=>ws=[x]/\pl 1 x/\∀ xs,x≠.tup xs) λx=>.bl (whW x)
theorem LU(T:Tx K mg base a):Df P w K mg base "_law_whole" 1 1 su:=by
 refine mk0 (k:=0) T.kA rfl Wg A6 (λc G Q E⟨x,⟨e,_⟩,_⟩=>by rw[e];rfl) (nr T) λc G Q E f q=>?_;obtain⟨x,⟨rfl,h,d⟩,q⟩:=q;unfold Wh;cases x with
 | tup xs=>exact Qk rfl (d xs)
 | str z=>walk_at "rd";exact q
 | int i=>walk_at "rd";exact q
 | bl b=>walk_at "rd";exact q
 | non=>cases h
 | rol xs=>cases h
 | ref p=>cases h
theorem ZK(a:gd G):∀(l:List W)(b c:Option W)(ys:List W),(∀ x∈l,∀ Q:Kw,Q (.bl true) G->ge [some x,some x] G Q)->
  ys.length+l.length<=sizeLine->R (ys++l.map λ_=>W.bl true) G->Bj gd (Bi 0 1) AX ge R (BV l l) [b,c] G ys
 | [],b,c,ys,_,_,r=>⟨a,by simpa using r⟩
 | x::l,b,c,ys,h,hl,r=>by
  walk_at "pi";show ge [some x,some x] G λy d=>Bj gd (Bi 0 1) AX ge R (BV l l) [some x,some x] d (ys++[y]);refine h x Ye _ (ZK a l (some x) (some x) (ys++[.bl true]) (λy e=>h y (Yd _ e)) ?_ ?_)
  ·simp only[Yj,Yg,Yi]at hl ⊢;lia
  ·simpa[Yv]using r
abbrev sv(n:Nat):Spw:=spR (λ(x:W)ws _=>ws=[x,x]/\pl n x) λ_=>.bl true
theorem FL(T:Tx K mg base a):∀ n:Nat,Df P w K mg base "_law_same" (n+1) 2 (sv n)
 | 0=>Da T.TQ A6 λc G Q E⟨x,⟨_,h⟩,_⟩=>h
 | n+1=>by
  have D:=FL T n;refine mk0 (k:=n+1) T.TQ rfl ZE A6 (λc G Q E⟨x,⟨e,_⟩,_⟩=>by rw[e];rfl) (sj T D (Yr _) (LU T) (by lia)) λc G Q E j q=>?_;obtain⟨x,⟨rfl,h⟩,q⟩:=q;unfold ZF;cases x with
  | tup xs =>
   obtain⟨h1,h2⟩:=h;walk_at "rd";rw[if_pos (by decide),if_pos (by decide),if_neg (by simp)];refine⟨xs,xs,rfl,?_⟩;refine ZK (G:=G) trivial xs none none [] (λx f l g=>⟨x,⟨rfl,h2 x f⟩,g⟩) (by rw[Yi];exact A7 (by lia)) (λp d=>?_);rw[CP Ap,Option.bind_some,Yw,PR,YD,An];rw[show(xs.map λ_=>true).all id=true by simp];exact j _ _ _ (Sub.refl.put d) q
  | str z =>
   walk_at "rd";rw[if_neg (by decide)];walk_at "pe";exact⟨.str z,⟨rfl,trivial,λ_ e=>by cases e⟩,.str z,⟨rfl,trivial,λ_ e=>by cases e⟩,by dsimp only;rw[DH,An];exact q⟩
  | int i =>
   walk_at "rd";rw[if_neg (by decide)];walk_at "pe";exact⟨.int i,⟨rfl,trivial,λ_ e=>by cases e⟩,.int i,⟨rfl,trivial,λ_ e=>by cases e⟩,by dsimp only;rw[DH,An];exact q⟩
  | bl b =>
   walk_at "rd";rw[if_neg (by decide)];walk_at "pe";exact⟨.bl b,⟨rfl,trivial,λ_ e=>by cases e⟩,.bl b,⟨rfl,trivial,λ_ e=>by cases e⟩,by dsimp only;rw[DH,An];exact q⟩
  | non=>cases h
  | rol xs=>cases h
  | ref p=>cases h
theorem sw:ixK (.ref l) (.str (Cs m)) (put G l (.dct (kvW ["must","may"] [W.str ": ",W.str "?: "])))=some (.str (Dr m++": ")):=by
 unfold ixK;dsimp only;rw[Ap];cases m <;> kernel_rfl
theorem sx(q:Q (.str (Dr m++": ")) (put G l (.dct (kvW ["must","may"] [W.str ": ",W.str "?: "])))):Ae ixK (.ref l) (.str (Cs m)) (put G l (.dct (kvW ["must","may"] [W.str ": ",W.str "?: "]))) Q:=by
 show opt (ixK _ _ _) _;rw[sw,An];exact q
theorem sy{a:GG}{Au:GS}(b:ω[0]?=some (some (.tup (x::.tup xs::l))))(q:BU yes a gb {D with nx:=Au D} xs ω G):Af (BC (DC (Ad (Ae ixW) (Ab 0) (gC (.int 1)))) a gb) Au D ω G:=by
 simp only[Af,BC,DC,Ad,Ae,Ab,b,gC,ixW,B5,An];exact q
theorem sA(x:Str×Bool×Kd):x.1++(Dr x.2.1++": ")++x.2.2.txt=pc x:=OA (by unfold pc;simp only[Ci,Yv])
abbrev gKt(sp:Spw):GS:=AC (gMt BF BH (Ab 1) (Aa (Ad (Ay) (Ad (Ay) (Ab 2) (Ad (Ae ixK) (Ex ["must","may"] (Aa (gC (.str ": ")) (Aa (gC (.str "?: ")) Ac))) (Ab 3))) (Ah sp XF (Aa (Ab 4) Ac))) Ac))
theorem ZL(b:∀ G,gd G)(s:j p=none):∀(l:List (Str×Bool×Kd))(a:List Str)(G:Hw)(d c g:Option W),L3.Sub j G->G p=some (.lst (a.map W.str))->(∀ x∈l,AA x.1=true/\x.2.2.ok=true/\x.2.2.dp<=n/\x.2.2.cnt<=1000)->a.length+l.length<=1000->
  (∀ G' d c g,L3.Sub j G'->G' p=some (.lst ((a++l.map pc).map W.str))->D.nx [o0,some (.ref p),d,c,g] G')->
  BU gd (F0 2 3 4) (gKt (FG n)) D (l.map Jc) [o0,some (.ref p),d,c,g] G
 | [],a,G,d,c,g,i,h,_,_,q=>⟨b _,q _ _ _ _ i (by rw[YI,Yx];exact h)⟩
 | x::l,a,G,d,c,g,i,h,m,hl,q=>by
  rw[Yg]at hl;refine⟨b _,?_⟩;obtain⟨B,t,v,A⟩:=m x Ye;have h1:=CZ t;have h2:=DL B;have F:=Pu x.2.1;have E:(": ":Str).length=2:=rfl;show gKt (FG n) _ [o0,some (.ref p),some (.str x.1),some (.str (Cs x.2.1)),some x.2.2.enc] G;simp only[gKt,AC,gMt,Ad,Ex,Ah,Ab,gC,Aa,Ac,Yb,Yc];refine⟨DM h,by decide +kernel,λr k=>sx ?_⟩;have f:=i.trans (AE (o:=.dct (kvW ["must","may"] [W.str ": ",W.str "?: "])) k);have e:=AE (o:=.dct (kvW ["must","may"] [W.str ": ",W.str "?: "])) k _ _ h;generalize put G r (.dct (kvW ["must","may"] [W.str ": ",W.str "?: "]))=G2 at f e ⊢;refine⟨A7 (by rw[AW];lia),x.2.2,⟨rfl,t,v,A⟩,?_⟩;refine⟨A7 (by rw[AW,AW];lia),Ea e (by rw[Yh];exact C9 (by lia)) ?_⟩;have z:=ZL b s l (a++[pc x]) (put G2 p (.lst (a.map W.str++[.str (pc x)]))) (some (.str x.1)) (some (.str (Cs x.2.1))) (some x.2.2.enc) (f.put s) (by rw[Ap,Yy];rfl) (λy u=>m y (Yd _ u)) (by simp only[Yj,Yg,Yi];lia) (λG' p2 p3 p4 s' w=>q G' p2 p3 p4 s' (by rw[w,Yv];rfl));rw[sA];exact z
theorem sB(h:G q=some (.lst xs))(b:0<=k)(h1:k<=1)(hl:xs.length<=2000)(z:∀ p,G p=none->Q (.ref p) (put G p (.lst (List.replicate k.toNat xs).flatten))):Cr (.ref q) (.int k) G Q:=by
 unfold Cr;dsimp only;rw[h];have a:(2:Int) ^ 63=9223372036854775808:=by decide
 refine⟨by rw[a];lia,by rw[a];lia,Ce ?_,z⟩;have:k.toNat<=1:=by lia
 calc xs.length*k.toNat<=xs.length*1:=Nat.mul_le_mul_left _ this
  _<=100000:=by lia
theorem FI(T:Tx K mg base a):∀ n:Nat,Df P w K mg base "_law_kind_text" (n+1) 1 (FG n)
 | 0=>Da T.TK A6 λv G Q E⟨k,⟨_,_,h,_⟩,_⟩=>by have:=Np k;lia
 | n+1=>by
  have D:=FI T n;refine mk0 (k:=n+1) T.TK rfl Zv A6 (λv G Q E⟨x,⟨e,_⟩,_⟩=>by rw[e];rfl) (rX T D (Yr _)) λv G Q E N q=>?_;obtain⟨k,⟨rfl,r,hd,hc⟩,q⟩:=q;unfold Zw;cases k with
  | any=>exact Eq.mpr (by kernel_rfl) q
  | num=>exact Eq.mpr (by kernel_rfl) q
  | truth=>exact Eq.mpr (by kernel_rfl) q
  | to x y =>
   have c:(x.ok&&y.ok)=true:=r;simp only[YG]at c;have i:1+max x.dp y.dp<=n+1:=hd;have g:1+(x.cnt+y.cnt)<=1000:=hc;have h1:=CZ c.1;have h2:=CZ c.2;have m:("(":Str).length=1:=rfl;have e2:(" > ":Str).length=3:=rfl;have t:(")":Str).length=1:=rfl;simp only[Kd.enc];walk_at "rd";walk_at "pd";refine⟨x,⟨rfl,c.1,by lia,by lia⟩,A7 (by lia),A7 (by rw[AW];lia),y,⟨rfl,c.2,by lia,by lia⟩,A7 (by rw[AW,AW];lia),A7 (by rw[AW,AW,AW];lia),q⟩
  | box x =>
   have i:1+x.dp<=n+1:=hd;have g:1+x.cnt<=1000:=hc;have h1:=CZ (k:=x) r;have m:("[":Str).length=1:=rfl;have t:("]":Str).length=1:=rfl;simp only[Kd.enc];walk_at "rd";walk_at "pd";exact⟨x,⟨rfl,r,by lia,by lia⟩,A7 (by lia),A7 (by rw[AW];lia),q⟩
  | row fs o =>
   have c:(By fs.names&&fs.ok)=true:=r;simp only[YG]at c;have i:1+fs.dp<=n+1:=hd;have g:1+fs.cnt<=1000:=hc;have A:=LM c.2;have hl:=LL fs;show Af _ _ (Ax Q) [some (.tup [.str "row",.tup fs.enc,.bl o]),none,none,none,none] G;refine Hl (b:=false) rfl n2 ?_;rw[if_neg (by decide)];refine Hl (b:=false) rfl n3 ?_;rw[if_neg (by decide)];refine Gp (λZ O=>?_) ?_
   ·simp only[gTB,Ad,Ae,Ab,gC,Yb,ixW,Bx,An,BD,beq_self_eq_true,show(true != true)=false from rfl];exact O
   refine Bd ⟨sz rfl,λp u=>?_⟩;walk_at "pa";refine sy rfl ?_;rw[LJ];refine ZL (n:=n) (gd:=yes) (λ_=>trivial) u fs.toL [] _ none none none (AE u) Ap (λx l=>⟨(EU c.2 x l).1,(EU c.2 x l).2,LK (by lia) x l,Yt (Pt x l) (by lia)⟩) (by rw[Yi];lia) λG1 Y X o4 J d=>?_;rw[Yw,<- Hm]at d;have S:fs.pcs.length<=1000:=by rw[Hm,Yh];lia
   simp only[Ai,Ad,gMt,gB,Av,Ab,gC,Aa,Ac,Yb,Yc];refine⟨⟨_,rfl⟩,sz rfl,λp1 f=>?_⟩;have z:=J.trans (AE (o:=.lst [.str ".."]) f);have d:=AE (o:=.lst [.str ".."]) f _ _ d;have L:put G1 p1 (.lst [.str ".."]) p1=some (.lst [.str ".."]):=Ap;generalize put G1 p1 (.lst [.str ".."])=G2 at *;simp only[rF,Ae,ixW,CO,An,C5];refine sB L (by cases o <;> decide) (by cases o <;> decide) (by decide) λp2 j=>?_;have H:(List.replicate (if o=true then(1:Int)else 0).toNat [W.str ".."]).flatten=(AQ o).map W.str:=by cases o <;> rfl
   rw[H];have R:=z.trans (AE (o:=.lst ((AQ o).map W.str)) j);have d:=AE (o:=.lst ((AQ o).map W.str)) j _ _ d;have U:put G2 p2 (.lst ((AQ o).map W.str)) p2=some (.lst ((AQ o).map W.str)):=Ap;have l:((AQ o).map (·.length)).sum+(AQ o).length*2<=4:=by cases o <;> decide
   generalize put G2 p2 (.lst ((AQ o).map W.str))=G3 at *;refine Fy d U (by rw[Yh,Yh];lia) λp3 s=>?_;have F:=R.trans (AE (o:=.lst (fs.pcs.map W.str++(AQ o).map W.str)) s);have I:put G3 p3 (.lst (fs.pcs.map W.str++(AQ o).map W.str)) p3=some (.lst ((fs.pcs++AQ o).map W.str)):=by rw[Ap,Yy]
   generalize put G3 p3 (.lst (fs.pcs.map W.str++(AQ o).map W.str))=G4 at *;have B:(", ":Str).length=2:=rfl;have hj:=Hn (", ":Str) (fs.pcs++AQ o)
   have hs:((fs.pcs++AQ o).map (·.length)).sum+(fs.pcs++AQ o).length*(", ":Str).length<=33*fs.cnt+4:=by
    rw[Yy,List.sum_append,Yj,B];lia
   have m:("{":Str).length=1:=rfl;have t:("}":Str).length=1:=rfl;refine Jd I (by lia) ?_;exact⟨A7 (by rw[CK,m];lia),A7 (by rw[AW,CK,m,t];lia),N _ _ _ F q⟩
abbrev Jk:GS:=Ai (Ad Ay (Ad Ay (Ad Ay (Ab 1) (gC (.str "("))) (gMt isStr Eu (gC (.str ", ")) (Aa (Ab 2) Ac))) (gC (.str ")")))
theorem ZM(a:Str):∀ l:List Str,(l.map (·.length)).sum+l.length*a.length<=(Str.join a l).length+a.length
 | []=>by simp
 | [x]=>by simp[Str.join]
 | x::y::r=>by
  show _<=(x++a++Str.join a (y::r)).length+_;rw[AW,AW];have:=ZM a (y::r);simp only[Ym,List.sum_cons,Yg,Nat.add_mul,Nat.one_mul]at this ⊢;lia
theorem sC{w:Str}{o:Option W}{n:Nat}(d:x=w++"("++Txt.join ", " ps++")")(hl:x.length<=90000)(c:G p=some (.lst (ps.map W.str)))(q:Q (.str x) G):Jk (Ax Q) [o,some (.str w),some (.ref p)] G:=by
 have h1:=ZM (", ":Str) ps;have b:("(":Str).length=1:=rfl;have e:(", ":Str).length=2:=rfl;have a:(")":Str).length=1:=rfl;subst d;rw[CK]at hl q;simp only[AW,b,a]at hl;simp only[Jk,Ai,Ad,gMt,Ab,gC,Aa,Ac,Yb,Yc];rw[Fg];refine⟨A7 (by lia),⟨_,rfl⟩,Jd c (by lia) ?_⟩;rw[Fg,CK];refine⟨A7 (by rw[AW];lia),?_⟩;rw[Fg];exact⟨A7 (by rw[AW,AW];lia),q⟩
theorem LY{w:Str}(h:((r.pcs w 0).map cs).flatten=cs (Str.join ", " ps)):(Te.nd w r).txt=w++"("++Txt.join ", " ps++")":=by
 refine OA ?_;show cs (Txt.join "" (w::"("::(r.pcs w 0++[(")":Str)])))=_;rw[CK,CK,PN];simp only[Ym,Yy,YI,List.flatten_cons,List.flatten_append,List.flatten_nil,Yv,Yx,Ci,h]
theorem Hu{w:Str}{Au:GS}(h1:ω[1]?=some (some (.str w)))(h:x {D with nx:=Au D} ω G):Af (gIf (gTB (Ad (Ae (eqF false)) (Ab 1) (gC (.str w)))) x Aj) Au D ω G:=by
 simp only[Af,gIf,gTB,Ad,Ae,Ab,h1,gC,BD,An,beq_self_eq_true,show(true != false)=true from rfl,if_true];exact h
theorem AJ{w:Str}{Au:GS}(h1:ω[1]?=some (some (.str w)))(a:(w==t)=false)(h:Au D ω G):Af (gIf (gTB (Ad (Ae (eqF false)) (Ab 1) (gC (.str t)))) x Aj) Au D ω G:=by
 simp only[Af,gIf,gTB,Ad,Ae,Ab,h1,gC,BD,An,a,bne_self_eq_false,Yq,if_false,Aj];exact h
theorem LZ{w:Str}{Au:GS}(h1:ω[1]?=some (some (.str w)))(c:(["get","or"]:List Str).any (·==w)=b)(h:∀ G',L3.Sub G G'->if b=true then x {D with nx:=Au D} ω G' else Au D ω G'):Af (gIf (gTB (Ad (Ae (inF false)) (Ab 1) (Av (Aa (gC (.str "get")) (Aa (gC (.str "or")) Ac))))) x Aj) Au D ω G:=by
 simp only[Af,gIf,gTB,Ad,Ae,Ab,h1,gC,Av,Aa,Ac,Aj];refine⟨sz rfl,λp a=>?_⟩;rw[O8 (xs:=[.str "get",.str "or"]) ["get","or"] w Ap rfl,An,c];have:=h _ (AE (o:=.lst ((["get","or"]:List Str).map W.str)) a);cases b <;> exact this
theorem PU{α:Type}{enc f:α->W}{c:Sw}(a:gd G):∀(l:List α)(o:Option W)(ys:List W),(∀ x∈l,∀ Q:Kw,Q (f x) G->ge (some (enc x)::c) G Q)->
  ys.length+l.length<=sizeLine->R (ys++l.map f) G->Bj gd (gNm 0) AX ge R (l.map enc) (o::c) G ys
 | [],o,ys,_,_,r=>⟨a,by simpa using r⟩
 | x::l,o,ys,h,hl,r=>by
  walk_at "pi";show ge (some (enc x)::c) G λy b=>Bj gd (gNm 0) AX ge R (l.map enc) (some (enc x)::c) b (ys++[y]);refine h x Ye _ (PU a l (some (enc x)) (ys++[f x]) (λy d=>h y (Yd _ d)) ?_ ?_)
  ·simp only[Yj,Yg,Yi]at hl ⊢;lia
  ·simpa[Yv]using r
theorem ZN:∀ f:Fl,f.terms=f.tl.map (·.2)
 | .nil=>rfl
 | .cons x t r=>by show t::r.terms=t::r.tl.map (·.2);rw[ZN r]
theorem FJ(T:Tx K mg base a):∀ n:Nat,Df P w K mg base "_law_text" (n+10) 1 (PB n)
 | 0=>Da T.TL A6 λws G Q E⟨t,⟨_,_,h,_⟩,_⟩=>by have:=OR t;lia
 | n+1=>by
  have D:=FJ T n;refine mk0 (k:=n+10) T.TL rfl LS A6 (λws G Q E⟨x,⟨e,_⟩,_⟩=>by rw[e];rfl) (sd T (Dq T) (by lia) D (Yr _) (FI T 8) (by lia)) λws S Q E hC q=>?_;obtain⟨t,⟨rfl,ho,hd,hc⟩,q⟩:=q;have hlen:=Gy ho;have F:∀{w:Str}{l:Hw}{p:Addr}{ps:List Str}{o:Option W},t.txt=w++"("++Txt.join ", " ps++")"->L3.Sub S l->l p=some (.lst (ps.map W.str))->Jk (Ax Q) [o,some (.str w),some (.ref p)] l:=λe hs s=>sC (n:=0) e (by lia) s (hC _ _ _ hs q);cases t with
  | raw v=>cases ho
  | nd d r =>
  unfold Zy;show Af (Aq 1 _) _ (Ax Q) [some (.tup (.str d::r.enc)),none,none] S;refine Bd ?_;simp only[Ad,Ae,Ab,gC,Yb,ixW,Bx,An,Yk,Yl];refine Bd ?_;simp only[AZ,AY,Ah,Ab,Aa,Ac,Yb,List.replicate];refine⟨.nd d r,⟨rfl,ho,by lia⟩,λp s=>?_⟩;simp only[Ap];refine PU (c:=[]) (enc:=Te.enc) (f:=λc=>.str c.txt) Ap (Te.nd d r).parts none [] (λc O Q' q'=>⟨c,⟨rfl,KO ho c O,by have:=O0 O;lia,by have:=O1 O;lia⟩,q'⟩) (by have:=mP (Te.nd d r);simp only[Yi];exact A7 (by lia)) λp2 N=>?_;rw[Yw];have Y:=(AE (o:=.lst ((Te.nd d r).parts.map Te.enc)) s).trans (AE (o:=.lst ((Te.nd d r).parts.map λc=>W.str c.txt)) N);have m:put (put S p (.lst ((Te.nd d r).parts.map Te.enc))) p2 (.lst ((Te.nd d r).parts.map λc=>W.str c.txt)) p2=some (.lst ((Te.nd d r).parts.map λc=>W.str c.txt)):=Ap;generalize put (put S p (.lst ((Te.nd d r).parts.map Te.enc))) p2 (.lst ((Te.nd d r).parts.map λc=>W.str c.txt))=G at Y m ⊢;walk_at "pa";obtain⟨h3,h2⟩:=Fp ho;have hd':1+r.dp<=n+1:=hd;have hc':1+r.cnt<=40:=hc;by_cases hr:d="rec"
  ·subst hr;obtain⟨f,rfl⟩:=(KR h3).1 rfl;have hf:=Qf.mp (Qf.mp (show((By f.names&&f.ok)&&true)=true from h2)).1;refine AJ rfl (by decide +kernel) (AJ rfl (by decide +kernel) (AJ rfl (by decide +kernel) (AJ rfl (by decide +kernel) (Hu rfl ?_))));have hcf:1+(f.cnt+0)<=40:=hc;have hn:=Pz f;have e0:(Te.nd "rec" (.fld f .nil)).parts=f.tl.map (·.2):=by show f.terms++[]=_;rw[Yx,ZN]
   rw[e0,YB]at m;simp only[Aq,Cc,D2,gB,rF,AL,BL,Aa,Ac,Ab,Yb,Yc,BN,Ym,YI,List.replicate,List.cons_append,Yw,Option.getD_some];rw[m];simp only[YD,An,Yh];refine⟨by lia,by lia,?_⟩;rw[Int.toNat_natCast]
   have hm:(List.range f.tl.length).map (λi=>W.str (((f.tl[i]?).map fpc).getD ""))=(f.tl.map fpc).map W.str:=by
    apply List.ext_getElem
    ·simp
    ·intro i h1 h2;simp only[Yh,List.length_range]at h1 h2;simp only[List.getElem_map,List.getElem_range,Yp h1,YD,Option.getD_some]
   refine PU (enc:=λi:Nat=>W.int i) (f:=λi=>W.str (((f.tl[i]?).map fpc).getD "")) trivial (List.range f.tl.length) none [] (λi hi Q' q'=>?_) (by rw[Yi,List.length_range];exact A7 (by lia)) λp3 hp3=>?_
   ·have hi:=List.mem_range.mp hi;have R:=Yp hi;have hx:=LO hf.2 _ (Qd hi);generalize f.tl[i]=x at R hx;rw[R]at q';have b1:=DL hx.1;have b2:=Gy hx.2.1;have X:(": ":Str).length=2:=rfl;have a1:atI f.enc (i:Int)=some (Cg x):=L2.CB (by rw[Py,YN,R];rfl)
    have a2:ixW (.ref p2) (.int (i:Int)) G=some (.str x.2.txt):=by
     rw[F9 m];exact L2.CB (by rw[YN,R];rfl)
    simp only[Ad,Ae,Ab,gC,Yb,Yc,As.enc];rw[show ∀ G,ixW (.tup [.str "rec",.tup f.enc]) (.int 1) G=some (.tup f.enc)from λG=>B5,An,show ∀ G,ixW (.tup f.enc) (.int (i:Int)) G=some (Cg x)from λG=>a1,An,show ∀ G,ixW (Cg x) (.int 0) G=some (.str x.1)from λG=>Bx,An,Fg];refine⟨A7 (by lia),?_⟩;rw[a2,An,Fg];exact⟨A7 (by rw[AW];lia),q'⟩
   ·rw[Yw,hm];refine LZ (b:=false) rfl (by decide +kernel) λG2 A=>?_;rw[if_neg (by decide)];refine AJ rfl (by decide +kernel) (F (ps:=f.pcs) (LY ?_) ((Y.trans (AE hp3)).trans A) (A _ _ (by rw[Ap,LN])));show(cs (gap 0 "rec")++(cs (Txt.join ", " f.pcs)++[]))=_;rw[CK,Yx];rfl
  have j:∀{l:Hw}{I:Addr}{ps:List Str},(["get","or"]:List Str).any (·==d)=false->(d=="as")=false->L3.Sub G l->l I=some (.lst (ps.map W.str))->((r.pcs d 0).map cs).flatten=cs (Str.join ", " ps)->Af (gIf (gTB (Ad (Ae (inF false)) (Ab 1) (Av (Aa (gC (.str "get")) (Aa (gC (.str "or")) Ac))))) (Aq 2 (Ad (Ay) (Av (Aa (Ad (Ae ixW) (Ab 2) (gC (.int 0))) (Aa (Ad (Ae ixW) (Ab 0) (gC (.int 2))) Ac))) (B4 (Ab 2) (Bl (gC (.int 1))) Bu))) Aj) (Af (gIf (gTB (Ad (Ae (eqF false)) (Ab 1) (gC (.str "as")))) (AC (gMt BF BH (Ab 2) (Aa (Ah (FG 8) XF (Aa (Ad (Ae ixW) (Ab 0) (gC (.int 2))) Ac)) Ac))) Aj) Jk) (Ax Q) [some (.tup (.str d::r.enc)),some (.str d),some (.ref I)] l:=λ{l I ps}X e2 hs s he=>
   LZ rfl X λG2 A=>by
    rw[if_neg (by decide)];exact AJ rfl e2 (F (LY he) ((Y.trans hs).trans A) (A _ _ s))
  have B:cs ""=[]:=rfl
  have sl:∀{xs:List W}{I:Addr}{l:Hw}{Z:Kw},l I=some (.lst xs)->(∀ r,l r=none->Z (.ref r) (put l r (.lst (xs.drop 1))))->slA (.ref I) (some 1) none l Z:=λ{xs I l Z}s hz=>by
   show slW (.ref I) (some 1) none l Z;unfold slW;dsimp only;rw[s];dsimp only;rw[Gb];exact hz
  have L:∀{x y:W}{xs:List W}{l:Hw},ixW (.tup (.str d::x::y::xs)) (.int 2) l=some y:=λ{x y xs l}=>CO;have H:∀{x:W}{xs:List W}{l:Hw},ixW (.tup (.str d::x::xs)) (.int 1) l=some x:=λ{x xs l}=>B5
  have gor:∀{t1:Te}{x:Str}{us:List Str}{r':As},r=.trm t1 (.nam x r')->m=m->G p2=some (.lst (W.str t1.txt::us.map W.str))->us.length<=5->(["get","or"]:List Str).any (·==d)=true->(d=="as")=false->((r.pcs d 0).map cs).flatten=cs (Str.join ", " (t1.txt::x::us))->Af (gIf (gTB (Ad (Ae (inF false)) (Ab 1) (Av (Aa (gC (.str "get")) (Aa (gC (.str "or")) Ac))))) (Aq 2 (Ad (Ay) (Av (Aa (Ad (Ae ixW) (Ab 2) (gC (.int 0))) (Aa (Ad (Ae ixW) (Ab 0) (gC (.int 2))) Ac))) (B4 (Ab 2) (Bl (gC (.int 1))) Bu))) Aj) (Af (gIf (gTB (Ad (Ae (eqF false)) (Ab 1) (gC (.str "as")))) (AC (gMt BF BH (Ab 2) (Aa (Ah (FG 8) XF (Aa (Ad (Ae ixW) (Ab 0) (gC (.int 2))) Ac)) Ac))) Aj) Jk) (Ax Q) [some (.tup (.str d::r.enc)),some (.str d),some (.ref p2)] G:=λ{t1 x us r'}er _ s hu X e2 he=>by
   subst er;refine LZ rfl X λG2 A=>?_;rw[if_pos rfl];have s:=A _ _ s;simp only[Aq,Ad,Ae,Av,B4,Bl,Bu,Ab,gC,Aa,Ac,Yb,Yc,As.enc];rw[F9 s,Bx,An,L,An];refine⟨sz rfl,λq1 g=>sl (AE g _ _ s) λq2 z=>?_⟩;refine Fy (AE z _ _ Ap) Ap (by simp only[List.drop_succ_cons,List.drop_zero,Yg,Yi,Yh];lia) λq3 hq3=>?_;walk_at "pa";exact AJ rfl e2 (F (LY he) ((((Y.trans A).trans (AE g)).trans (AE z)).trans (AE hq3)) Ap)
  rcases Xk h3 hr with⟨rfl,i,rfl⟩|⟨rfl,b,rfl⟩|⟨rfl,x,rfl⟩|⟨rfl,x,k,t,rfl⟩|⟨rfl,t,x,rfl⟩|⟨rfl,t,x,u,rfl⟩|⟨rfl,t,u,v,rfl⟩|⟨rfl,t,k,rfl⟩|⟨hw,t,rfl⟩|⟨hw,t,u,rfl⟩
  ·obtain⟨U,_⟩:=Qf.mp (show(decide (-NB<=i/\i<=NB)&&true)=true from h2);have U:=Qi U;refine Hu rfl ?_;walk_at "pj";rw[H,An];unfold F7;dsimp only;rw[if_pos (YH (by unfold NB at U;lia)),An];refine⟨sz rfl,λq1 g=>?_⟩;walk_at "pa";refine AJ rfl (by decide +kernel) (AJ rfl (by decide +kernel) (AJ rfl (by decide +kernel) (AJ rfl (by decide +kernel) (j (ps:=[Str.ofString (toString i)]) (by decide +kernel) (by decide +kernel) (AE g) Ap ?_))));show cs ""++(cs (Str.ofString (toString i))++[])=_;rw[B,Yx];rfl
  ·refine AJ rfl (by decide +kernel) (Hu rfl ?_);walk_at "pj";refine⟨sz rfl,λq1 g=>?_⟩;rw[H,An]
   have R:ixW (.ref q1) (.int (if b=true then 1 else 0)) (put G q1 (.lst [W.str "no",.str "yes"]))=some (.str (if b then "yes" else "no")):=by
    rw[F9 Ap];cases b <;> rfl
   unfold C5;dsimp only;rw[An,R,An];refine⟨sz rfl,λq2 z=>?_⟩;walk_at "pa";refine AJ rfl (by decide +kernel) (AJ rfl (by decide +kernel) (AJ rfl (by decide +kernel) (j (ps:=[if b then "yes" else "no"]) (by decide +kernel) (by decide +kernel) ((AE g).trans (AE z)) Ap ?_)));show cs ""++(cs (if b then "yes" else "no")++[])=_;rw[B,Yx];rfl
  ·refine AJ rfl (by decide +kernel) (AJ rfl (by decide +kernel) (Hu rfl ?_));walk_at "pj";rw[H,An];refine⟨sz rfl,λq1 g=>?_⟩;walk_at "pa";refine AJ rfl (by decide +kernel) (AJ rfl (by decide +kernel) (j (ps:=[x]) (by decide +kernel) (by decide +kernel) (AE g) Ap ?_));show cs ""++(cs x++[])=_;rw[B,Yx];rfl
  ·obtain⟨U,h6⟩:=Qf.mp (show(AA x&&((k.ok&&BP k)&&(t.ok&&true)))=true from h2);obtain⟨h7,J⟩:=Qf.mp (Qf.mp h6).1;have J:k.cnt<=40/\k.dp<=8:=Qi J;have b1:=DL U;have b2:=CZ h7;have X:(": ":Str).length=2:=rfl;refine AJ rfl (by decide +kernel) (AJ rfl (by decide +kernel) (AJ rfl (by decide +kernel) (Hu rfl ?_)));simp only[Aq,Av,Ah,Ad,Ae,Ab,gC,Aa,Ac,Yb,Yc,As.enc];rw[H,An,Fg];refine⟨A7 (by lia),?_⟩;rw[L,An];refine⟨k,⟨rfl,h7,J.2,by lia⟩,?_⟩;refine⟨A7 (by rw[AW];lia),sz rfl,λq1 g=>?_⟩;refine Fy Ap (AE g _ _ m) (show 1+1<=100000 by decide) λq2 z=>?_;walk_at "pa";refine AJ rfl (by decide +kernel) (j (ps:=[x++": "++k.txt,t.txt]) (by decide +kernel) (by decide +kernel) ((AE g).trans (AE z)) Ap ?_);show cs ""++(cs x++(cs ": "++(cs k.txt++(cs ", "++(cs t.txt++[])))))=cs (x++": "++k.txt++", "++t.txt);walk_at "ph"
  ·refine AJ rfl (by decide +kernel) (AJ rfl (by decide +kernel) (AJ rfl (by decide +kernel) (AJ rfl (by decide +kernel) (AJ rfl (by decide +kernel) (gor (us:=[]) rfl rfl m (by decide) (by decide +kernel) (by decide +kernel) ?_)))));show cs ""++(cs t.txt++(cs ", "++(cs x++[])))=cs (t.txt++", "++x);walk_at "ph"
  ·refine AJ rfl (by decide +kernel) (AJ rfl (by decide +kernel) (AJ rfl (by decide +kernel) (AJ rfl (by decide +kernel) (AJ rfl (by decide +kernel) (gor (us:=[u.txt]) rfl rfl m (show 1<=5 by decide) (by decide +kernel) (by decide +kernel) ?_)))));show cs ""++(cs t.txt++(cs ", "++(cs x++(cs ", "++(cs u.txt++[])))))=cs (t.txt++", "++(x++", "++u.txt));walk_at "ph"
  ·refine AJ rfl (by decide +kernel) (AJ rfl (by decide +kernel) (AJ rfl (by decide +kernel) (AJ rfl (by decide +kernel) (AJ rfl (by decide +kernel) (j (ps:=[t.txt,u.txt,v.txt]) (by decide +kernel) (by decide +kernel) Sub.refl m ?_)))));show cs ""++(cs t.txt++(cs ", "++(cs u.txt++(cs ", "++(cs v.txt++[])))))=cs (t.txt++", "++(u.txt++", "++v.txt));walk_at "ph"
  ·obtain⟨_,h6⟩:=Qf.mp (show(t.ok&&((k.ok&&BP k)&&true))=true from h2);obtain⟨h7,J⟩:=Qf.mp (Qf.mp h6).1;have J:k.cnt<=40/\k.dp<=8:=Qi J;refine AJ rfl (by decide +kernel) (AJ rfl (by decide +kernel) (AJ rfl (by decide +kernel) (AJ rfl (by decide +kernel) (AJ rfl (by decide +kernel) (LZ (b:=false) rfl (by decide +kernel) λG2 A=>?_)))));rw[if_neg (by decide)];refine Hu rfl ?_;have m:=A _ _ m;simp only[AC,gMt,Ah,Ad,Ae,Ab,gC,Aa,Ac,Yb,Yc,As.enc];refine⟨DM m,?_⟩;rw[L,An];refine⟨k,⟨rfl,h7,J.2,by lia⟩,Ea m (C9 (show 1<=100000 by decide)) ?_⟩
   have hp0:S p2=none:=by
    cases e:S p2 with
    | none=>rfl
    | some u=>rw[AE (o:=.lst ((Te.nd "as" (.trm t (.knd k .nil))).parts.map Te.enc)) s _ _ e]at N;cases N
   refine F (ps:=[t.txt,k.txt]) (LY ?_) ((Y.trans A).put hp0) Ap;show cs ""++(cs t.txt++(cs ", "++(cs k.txt++[])))=cs (t.txt++", "++k.txt);walk_at "ph"
  ·rcases hw with rfl | rfl <;>
   ·refine AJ rfl (by decide +kernel) (AJ rfl (by decide +kernel) (AJ rfl (by decide +kernel) (AJ rfl (by decide +kernel) (AJ rfl (by decide +kernel) (j (ps:=[t.txt]) (by decide +kernel) (by decide +kernel) Sub.refl m ?_)))));show cs ""++(cs t.txt++[])=cs t.txt;simp only[B,Yw,Yx]
  ·rcases hw with rfl | rfl | rfl | rfl <;>
   ·refine AJ rfl (by decide +kernel) (AJ rfl (by decide +kernel) (AJ rfl (by decide +kernel) (AJ rfl (by decide +kernel) (AJ rfl (by decide +kernel) (j (ps:=[t.txt,u.txt]) (by decide +kernel) (by decide +kernel) Sub.refl m ?_)))));show cs ""++(cs t.txt++(cs ", "++(cs u.txt++[])))=cs (t.txt++", "++u.txt);walk_at "ph"
theorem C0:∀{n m:Nat}{x:W},pl n x->n<=m->pl m x
 | 0,_,_,h,_=>h.elim
 | n+1,0,_,_,c=>by lia
 | n+1,m+1,x,h,c=>by
  cases x with
  | tup xs=>exact⟨h.1,λy a=>C0 (h.2 y a) (by lia)⟩
  | str z=>exact trivial
  | int i=>exact trivial
  | bl b=>exact trivial
  | non=>cases h
  | rol xs=>cases h
  | ref p=>cases h
theorem plT(hl:xs.length<=100000)(h:∀ x∈xs,pl n x):pl (n+1) (.tup xs):=⟨hl,h⟩
theorem pl0{P:W->Prop}:∀ x∈([]:List W),pl n x:=λx h=>by cases h
theorem plC(h:pl n x)(h':∀ y∈l,pl n y):∀ y∈x::l,pl n y:=λy a=>by
 walk_at "pf"
 ·exact h
 ·exact h' y a
mutual
theorem Jl:∀(k:Kd),k.cnt<=1000->pl (3*k.dp+2) k.enc
 | .any,_=>plT (by decide) (plC trivial (pl0 (P:=λ_=>True)))
 | .num,_=>plT (by decide) (plC trivial (pl0 (P:=λ_=>True)))
 | .truth,_=>plT (by decide) (plC trivial (pl0 (P:=λ_=>True)))
 | .to x y,h=>by
  have h':1+(x.cnt+y.cnt)<=1000:=h;show pl (3*(1+max x.dp y.dp)+2) (.tup [.str "to",x.enc,y.enc]);rw[show 3*(1+max x.dp y.dp)+2=(3*max x.dp y.dp+4)+1 by lia];exact plT (show 3<=100000 by decide) (plC trivial (plC (C0 (Jl x (by lia)) (by lia)) (plC (C0 (Jl y (by lia)) (by lia)) (pl0 (P:=λ_=>True)))))
 | .box x,h=>by
  have h':1+x.cnt<=1000:=h;show pl (3*(1+x.dp)+2) (.tup [.str "box",x.enc]);rw[show 3*(1+x.dp)+2=(3*x.dp+4)+1 by lia];exact plT (show 2<=100000 by decide) (plC trivial (plC (C0 (Jl x (by lia)) (by lia)) (pl0 (P:=λ_=>True))))
 | .row fs o,h=>by
  have h':1+fs.cnt<=1000:=h;have hl:=LL fs;show pl (3*(1+fs.dp)+2) (.tup [.str "row",.tup fs.enc,.bl o]);rw[show 3*(1+fs.dp)+2=(3*fs.dp+3+1)+1 by lia];exact plT (show 3<=100000 by decide) (plC trivial (plC (plT (by rw[LJ,Yh];lia) (ZO fs (by lia))) (plC trivial (pl0 (P:=λ_=>True)))))
theorem ZO:∀(fs:Fs),fs.cnt<=1000->∀ x∈fs.enc,pl (3*fs.dp+3) x
 | .nil,_=>pl0 (P:=λ_=>True)
 | .cons n m k r,h=>by
  have h':k.cnt+r.cnt<=1000:=h;show ∀ x∈W.tup [.str n,.str (Cs m),k.enc]::r.enc,pl (3*max k.dp r.dp+2+1) x;exact plC (plT (show 3<=100000 by decide) (plC trivial (plC trivial (plC (C0 (Jl k (by lia)) (by lia)) (pl0 (P:=λ_=>True)))))) (λy a=>C0 (ZO r (by lia) y a) (by lia))
end
mutual
theorem PV:∀{t:Te},t.ok=true->t.cnt<=1000->pl (3*t.dp+26) t.enc
 | .raw _,h,_=>by cases h
 | .nd w r,h,hc=>by
  obtain⟨h1,h2⟩:=Fp h;have c:=IK h1;have b:=EJ r;have a:1+r.cnt<=1000:=hc;show pl (3*(1+r.dp)+26) (.tup (.str w::r.enc));rw[show 3*(1+r.dp)+26=(3*r.dp+28)+1 by lia];exact plT (by rw[Yg];lia) (plC trivial (GC h2 (by lia)))
theorem GC:∀{r:As},r.ok=true->r.cnt<=1000->∀ x∈r.enc,pl (3*r.dp+28) x
 | .nil,_,_=>pl0 (P:=λ_=>True)
 | .num i r,h,hc=>plC trivial (GC (r:=r) (Qf.mp (show(decide (-NB<=i/\i<=NB)&&r.ok)=true from h)).2 hc)
 | .tru b r,h,hc=>plC trivial (GC (r:=r) h hc)
 | .nam x r,h,hc=>plC trivial (GC (r:=r) (Qf.mp (show(AA x&&r.ok)=true from h)).2 hc)
 | .knd k r,h,hc=>by
  obtain⟨h1,h2⟩:=Qf.mp (show((k.ok&&BP k)&&r.ok)=true from h);have d:k.cnt<=40/\k.dp<=8:=Qi (Qf.mp h1).2;have a:r.cnt<=1000:=hc;show ∀ x∈k.enc::r.enc,pl (3*r.dp+28) x;exact plC (C0 (Jl k (by lia)) (by lia)) (GC h2 a)
 | .trm t r,h,hc=>by
  obtain⟨h1,h2⟩:=Qf.mp (show(t.ok&&r.ok)=true from h);have a:t.cnt+r.cnt<=1000:=hc;show ∀ x∈t.enc::r.enc,pl (3*max t.dp r.dp+28) x;exact plC (C0 (PV h1 (by lia)) (by lia)) (λy c=>C0 (GC h2 (by lia) y c) (by lia))
 | .fld f r,h,hc=>by
  obtain⟨h1,h2⟩:=Qf.mp (show((By f.names&&f.ok)&&r.ok)=true from h);have a:f.cnt+r.cnt<=1000:=hc;have hl:=KS f;show ∀ x∈W.tup f.enc::r.enc,pl (3*max f.dp r.dp+27+1) x;exact plC (plT (by lia) λy c=>C0 (ZP (Qf.mp h1).2 (by lia) y c) (by lia)) (λy c=>C0 (GC h2 (by lia) y c) (by lia))
theorem ZP:∀{f:Fl},f.ok=true->f.cnt<=1000->∀ x∈f.enc,pl (3*f.dp+27) x
 | .nil,_,_=>pl0 (P:=λ_=>True)
 | .cons n t r,h,hc=>by
  obtain⟨h1,h2⟩:=Qf.mp (show((AA n&&t.ok)&&r.ok)=true from h);have b:t.cnt+r.cnt<=1000:=hc;show ∀ x∈W.tup [.str n,t.enc]::r.enc,pl (3*max t.dp r.dp+26+1) x;exact plC (plT (show 2<=100000 by decide) (plC trivial (plC (C0 (PV (Qf.mp h1).2 (by lia)) (by lia)) (pl0 (P:=λ_=>True))))) (λy a=>C0 (ZP h2 (by lia) y a) (by lia))
end
theorem sD(T:Tx K mg base a){f:Addr}(F:Fun K "law" "law" Ha f fd):FnOk P w K mg base (CXe P w) 71 f fd ["script"] (C2 K JT):=by
 refine ok0 F ZH (λj G Q E⟨ns,e,_⟩=>by rw[e];rfl) (sr (k:=70) T (Le T) (by lia) (LP T) (by lia) (FJ T 10) (by lia) (Lz T) (by lia) (FK T 56) (by lia) (FL T 56) (by lia)) λj G Q E o q=>?_;obtain⟨ns,rfl,h,q⟩:=q;unfold ZI;show Af (Aq 1 _) _ (Ax Q) [some (.rol (ns.map W.int)),none,none,none] G;refine Bd ?_;walk_at "pg";refine⟨ns,0,rfl,by decide,λt G1 i n=>?_⟩;obtain⟨b,d,c⟩:=i;have hl:=Gy b;have g:=C0 (PV b (by lia)) (show 3*t.dp+26<=56 by lia);refine Bd ?_;walk_at "pg";refine⟨t,⟨rfl,b,c,d⟩,?_⟩;refine Gp (λZ l=>?_) ?_
 ·simp only[gOr,gNt,AB,gTB,Ad,Ae,A5,Ah,Aa,Ac,Ab,Yb,Yc,tyN,A8,An];rw[if_neg (by decide +kernel)];refine⟨t,⟨rfl,b,c,d⟩,?_⟩;simp only[BD,beq_self_eq_true,show(true != true)=false from rfl,An];exact l
 refine Bd ?_;walk_at "pg";refine⟨t.txt,t,rfl,by lia,by have:=Zt 10 t b c [];rwa [Yx]at this,.inl ⟨t,rfl,⟨b,d,c⟩,rfl⟩,λG2 m=>?_⟩;simp only[Ai,BE,Ah,Aa,Ac,Ab,gC,Yk,Yl,Yb,Yc];refine⟨t.enc,⟨rfl,g⟩,?_⟩;simp only[A8,An,if_true];exact⟨t.enc,⟨rfl,g⟩,q _⟩
theorem Hv(h1:e.key=.str x t)(h2:e.val=.int i u)(r:KTD.Rows (KTD.Dat.At base) es D):KTD.Rows (KTD.Dat.At base) (e::es) ((x,KTD.Dat.flat (.int i))::D):=
 .cons h1 (by rw[h2];exact PyProof.V.Flat.int i u) r
theorem ZQ{st:Stmt}{f:Addr}{d:Option Addr}{kV a:Value}(l:K.lookup f=some ⟨e,g,.func (PySem.W.fnOf m qual (BS st) (AO st) (Ak st) .none kV a pm d cdv ct),b⟩)(c:PySem.W.codeIn K cdv qual=true)(k:PySem.W.keepIn K (.ref f)=true):Fun K m qual st f (PySem.W.fnOf m qual (BS st) (AO st) (Ak st) .none kV a pm d cdv ct):=
 ⟨⟨e,g,kV,a,pm,d,cdv,ct,b,rfl,l,c⟩,k⟩
theorem Hx{st:Stmt}{f:Addr}{d:Option Addr}{kV a:Value}(h:PySem.W.findIn K (.ref C) m=some (some (.ref f)))(g:PySem.W.isFn K (.ref f)=true)(l:K.lookup f=some ⟨i,j,.func (PySem.W.fnOf m qual (BS st) (AO st) (Ak st) .none kV a pm d cdv ct),e⟩)(c:PySem.W.codeIn K cdv qual=true)(k:PySem.W.keepIn K (.ref f)=true)(b:∀(kV a pm:Value)(d:Option Addr)(cdv ct:Value)(us:List Value),us.length=ps.length->bindArgs (PySem.W.fnOf m qual (BS st) (AO st) (Ak st) .none kV a pm d cdv ct) ⟨us,[]⟩=pure (ps.zip us)):FnM K C st m qual ps :=
 ⟨f,_,⟨h,g,k⟩,ZQ l c k,Binds.all λus hl=>b _ _ _ _ _ _ us hl⟩
variable {K:PySem.W.Frag}{mg:Str->Option Value}{a:Adr}{f:Bool}{G:Hw}{o:HW}{n d:Nat} in
theorem sE{K:PySem.W.Frag}{h:Heap}{mg:Str->Option Value}(X:K.In h)(G:h.Ns mainGlobals mg){x:Str}{C:Addr}{qual:Str}{st:Stmt}{ps:List Str}{f:Addr}{j:Value}{o d:Option Addr}{e:Array (Option Value)}{kV a pm cdv ct:Value}(n:PySem.W.nsIn K mainGlobals x=some (some (.ref C)))
  (m:PySem.W.makesIn K C=true) (kc:PySem.W.keepIn K (.ref C)=true) (i:PySem.W.findIn K (.ref C) "__init__"=some (some (.ref f))) (g:PySem.W.isFn K (.ref f)=true)
  (l:K.lookup f=some ⟨j,o,.func (PySem.W.fnOf "__init__" qual (BS st) (AO st) (Ak st) .none kV a pm d cdv ct),e⟩) (c:PySem.W.codeIn K cdv qual=true) (k:PySem.W.keepIn K (.ref f)=true)
  (b:∀(kV a pm:Value)(d:Option Addr)(cdv ct:Value)(us:List Value),us.length=ps.length->bindArgs (PySem.W.fnOf "__init__" qual (BS st) (AO st) (Ak st) .none kV a pm d cdv ct) ⟨us,[]⟩=pure (ps.zip us)):FnI K mg x C st qual ps :=
 ⟨f,_,PySem.W.mg_of X G n,⟨m,i,g,kc⟩,ZQ l c k,Binds.all λus hl=>b _ _ _ _ _ _ us hl⟩
variable {P:Program}{w:World}{K:PySem.W.Frag}{mg:Str->Option Value}{base:Heap}{a:Adr}{f:Bool}{s p:Addr}{G:Hw}{o:HW}{n d:Nat} in
theorem sF{K:PySem.W.Frag}{h:Heap}{mg:Str->Option Value}(X:K.In h)(G:h.Ns mainGlobals mg)(FF:Fns K mg)(NN:Bls mg){N x vs b:Addr}{vu:Addr}{vv Y:Tok}{vx:Nat}{vy:Array (Option Value)}{vz:Tok}{vA:Tok}{vB:Tok}{vC:Tok}{vD:Tok}{vE:Tok}{vF:Tok}{n:Addr}{vH:Nat}{p o j f c q:DictEntry}{vO vP vQ vR vS vT vU vV vW vX vY vZ:Tok}{w:Addr}{v1:Nat}{v:DictEntry}{v3:Tok}{v4:Addr}{v5:Nat}{v6:Array (Option Value)}{Z:Tok}{d:DictEntry}{v9:Tok}{ja:Addr}{jb:Nat}{jc:Array (Option Value)}{I:Tok}{l:DictEntry}{jf:Tok}{jg:Addr}{jh:Nat}{ji:Array (Option Value)}{U:Tok}{g:DictEntry}{jl:Tok}{jm:Addr}{jn:Nat}{jo:Array (Option Value)}{J:Tok}{jq:Tok}{jr:Tok}{js:DictEntry}{jt:Tok}{z:Addr}{jv:Nat}{jw:Array (Option Value)}{P:Tok}{jy:Tok}{m:DictEntry}{jA:Tok}{H:Addr}{jC:Nat}{jD:Array (Option Value)}{jE:Tok}{u:DictEntry}{jG:Tok}{Q:Addr}{jI:Nat}{jJ:Array (Option Value)}{jK:Tok}{jL:Tok}{i:DictEntry}{jN:Tok}{y:Addr}{jP:Nat}{jQ:Array (Option Value)}{A:Tok}{F:Tok}{jT:Tok}{k:DictEntry}{jV:Tok}{jW:Addr}{jX:Nat}{jY:Array (Option Value)}{jZ:Tok}{O:Tok}{j1:Tok}{t:DictEntry}{j3:Tok}{j4:Addr}{j5:Nat}{j6:Array (Option Value)}{R:Tok}{D:Tok}{r:DictEntry}{pa:Tok}{T:Addr}{pc:Nat}{pd:Array (Option Value)}{E:Tok}{pf:Tok}{pg:DictEntry}{ph:Tok}{S:Addr}{pj:Nat}{pk:Array (Option Value)}{pl:Tok}{pn:DictEntry}{po:Tok}{pp:Addr}{pq:Nat}{pr:Array (Option Value)}{pt:Tok}{s:DictEntry}{pv:Tok}{pw:Addr}{px:Nat}{py:Array (Option Value)}{pz:Tok}{pA:Tok}{e:DictEntry}{pC:Tok}{pD:Addr}{pE:Nat}{pF:Array (Option Value)}{pG:Tok}{L:Tok}
  (qa:PySem.W.nsIn K mainGlobals "CastError"=some (some (.ref N)))
  (qb:PySem.W.nsIn K mainGlobals "NoTerm"=some (some (.ref x)))
  (qc:PySem.W.nsIn K mainGlobals "BadNote"=some (some (.ref vs)))
  (qd:PySem.W.nsIn K mainGlobals "Reader"=some (some (.ref b)))
  (qe:PySem.W.excIn K vs [.type "ValueError",.type "Exception",.type "BaseException",.type "object"] "ValueError.__new__"=true)
  (qf:PySem.W.excIn K x [.type "ValueError",.type "Exception",.type "BaseException",.type "object"] "ValueError.__new__"=true)
  (qg:PySem.W.nsIn K mainGlobals "MARKS"=some (some (.ref vu)))
  (qh:K.lookup vu=some ⟨.type "tuple",none,.seq #[.str "must" vv,.str "may" Y] vx,vy⟩)
  (qi:PySem.W.nsIn K mainGlobals "MOST_DEPTH"=some (some (.int 8 vz)))
  (qj:PySem.W.nsIn K mainGlobals "MOST_FIGURES"=some (some (.int 20 vA)))
  (qk:PySem.W.nsIn K mainGlobals "MOST_KINDS"=some (some (.int 40 vB)))
  (ql:PySem.W.nsIn K mainGlobals "MOST_LETTERS"=some (some (.int 8 vC)))
  (qm:PySem.W.nsIn K mainGlobals "MOST_NUMBER"=some (some (.int 99999999999999999999 vD)))
  (qn:PySem.W.nsIn K mainGlobals "MOST_TERMS"=some (some (.int 40 vE)))
  (qo:PySem.W.nsIn K mainGlobals "MOST_TERM_DEPTH"=some (some (.int 10 vF)))
  (qp:PySem.W.nsIn K mainGlobals "LENGTHS"=some (some (.ref n)))
  (qq:K.lookup n=some ⟨.type "dict",none,.dict #[p,o,j,f,c,q] vH,#[]⟩)
  (qr:(n==sysModules)=false)
  (qs:p.key=.str "any" vO)
  (qt:p.val=.int 1 vP)
  (qu:o.key=.str "num" vQ)
  (qv:o.val=.int 1 vR)
  (qw:j.key=.str "truth" vS)
  (qx:j.val=.int 1 vT)
  (qy:f.key=.str "to" vU)
  (qz:f.val=.int 3 vV)
  (qA:c.key=.str "box" vW)
  (qB:c.val=.int 2 vX)
  (qC:q.key=.str "row" vY)
  (qD:q.val=.int 3 vZ)
  (qE:PySem.W.nsIn K mainGlobals "FORMS"=some (some (.ref w)))
  (qF:K.lookup w=some ⟨.type "dict",none,.dict #[v,d,l,g,js,m,u,i,k,t,r,pg,pn,s,e] v1,#[]⟩)
  (qG:(w==sysModules)=false)
  (qH:v.key=.str "num" v3)
  (qI:v.val=.ref v4)
  (qJ:K.lookup v4=some ⟨.type "tuple",none,.seq #[.str "number" Z] v5,v6⟩)
  (qK:d.key=.str "truth" v9)
  (qL:d.val=.ref ja)
  (qM:K.lookup ja=some ⟨.type "tuple",none,.seq #[.str "truth" I] jb,jc⟩)
  (qN:l.key=.str "name" jf)
  (qO:l.val=.ref jg)
  (qP:K.lookup jg=some ⟨.type "tuple",none,.seq #[.str "name" U] jh,ji⟩)
  (qQ:g.key=.str "fun" jl)
  (qR:g.val=.ref jm)
  (qS:K.lookup jm=some ⟨.type "tuple",none,.seq #[.str "name" J,.str "kind" jq,.str "term" jr] jn,jo⟩)
  (qT:js.key=.str "call" jt)
  (qU:js.val=.ref z)
  (qV:K.lookup z=some ⟨.type "tuple",none,.seq #[.str "term" P,.str "term" jy] jv,jw⟩)
  (qW:m.key=.str "rec" jA)
  (qX:m.val=.ref H)
  (qY:K.lookup H=some ⟨.type "tuple",none,.seq #[.str "fields" jE] jC,jD⟩)
  (qZ:u.key=.str "get" jG)
  (q0:u.val=.ref Q)
  (q1:K.lookup Q=some ⟨.type "tuple",none,.seq #[.str "term" jK,.str "name" jL] jI,jJ⟩)
  (q2:i.key=.str "or" jN)
  (q3:i.val=.ref y)
  (q4:K.lookup y=some ⟨.type "tuple",none,.seq #[.str "term" A,.str "name" F,.str "term" jT] jP,jQ⟩)
  (q5:k.key=.str "if" jV)
  (q6:k.val=.ref jW)
  (q7:K.lookup jW=some ⟨.type "tuple",none,.seq #[.str "term" jZ,.str "term" O,.str "term" j1] jX,jY⟩)
  (q8:t.key=.str "plus" j3)
  (q9:t.val=.ref j4)
  (va:K.lookup j4=some ⟨.type "tuple",none,.seq #[.str "term" R,.str "term" D] j5,j6⟩)
  (vb:r.key=.str "less" pa)
  (vc:r.val=.ref T)
  (vd:K.lookup T=some ⟨.type "tuple",none,.seq #[.str "term" E,.str "term" pf] pc,pd⟩)
  (ve:pg.key=.str "new" ph)
  (vf:pg.val=.ref S)
  (vg:K.lookup S=some ⟨.type "tuple",none,.seq #[.str "term" pl] pj,pk⟩)
  (vh:pn.key=.str "read" po)
  (vi:pn.val=.ref pp)
  (vj:K.lookup pp=some ⟨.type "tuple",none,.seq #[.str "term" pt] pq,pr⟩)
  (vk:s.key=.str "write" pv)
  (vl:s.val=.ref pw)
  (vm:K.lookup pw=some ⟨.type "tuple",none,.seq #[.str "term" pz,.str "term" pA] px,py⟩)
  (vn:e.key=.str "as" pC)
  (vo:e.val=.ref pD)
  (vp:K.lookup pD=some ⟨.type "tuple",none,.seq #[.str "term" pG,.str "kind" L] pE,pF⟩)
  (AF:Cls K b)
  (B6:NoAttr K b "place")
  (CQ:NoAttr K b "text")
  (J2:FnI K mg "Reader" b H9 "Reader.__init__" ["self","text"])
  (J3:FnM K b Ia "sees" "Reader.sees" ["self","piece"])
  (J4:FnM K b Ib "takes" "Reader.takes" ["self","piece"])
  (J5:FnM K b Gd "wants" "Reader.wants" ["self","piece"])
  (J6:FnM K b Ge "wants_end" "Reader.wants_end" ["self"])
  (J7:FnM K b Ic "word" "Reader.word" ["self"])
  (J8:FnM K b Ie "figures" "Reader.figures" ["self"]):
  ∃ a:Adr,∀ base:Heap,K.In base->Tx K mg base a:=by
 refine⟨⟨N,x,vs,b⟩,λbase B=>?_⟩
 exact{
  toFns:=FF
  toBls:=NN
  kZ:=PySem.W.mg_of X G qa
  T1:=PySem.W.mg_of X G qb
  DI:=PySem.W.mg_of X G qc
  k6:=PySem.W.mg_of X G qd
  DJ:=qe
  T2:=qf
  T3:=j0 X G (dd:=none) (ts:=[("must",vv),("may",Y)]) qg qh (by simp)
  T4:=Gc X G qi
  T5:=Gc X G qj
  T6:=Gc X G qk
  T7:=Gc X G ql
  T8:=Gc X G qm
  T9:=Gc X G qn
  Ua:=Gc X G qo
  Ub:=j2 X G B qp qq qr ⟨rfl,rfl,rfl⟩ rfl (Hv qs qt (Hv qu qv (Hv qw qx (Hv qy qz (Hv qA qB (Hv qC qD .nil))))))
  Uc:=iy X G B qE qF qG ⟨rfl,rfl,rfl⟩ rfl (CG (dd:=none) (ts:=[("number",Z)]) qH qI qJ (by simp) (CG (dd:=none) (ts:=[("truth",I)]) qK qL qM (by simp) (CG (dd:=none) (ts:=[("name",U)]) qN qO qP (by simp) (CG (dd:=none) (ts:=[("name",J),("kind",jq),("term",jr)]) qQ qR qS (by simp) (CG (dd:=none) (ts:=[("term",P),("term",jy)]) qT qU qV (by simp) (CG (dd:=none) (ts:=[("fields",jE)]) qW qX qY (by simp) (CG (dd:=none) (ts:=[("term",jK),("name",jL)]) qZ q0 q1 (by simp) (CG (dd:=none) (ts:=[("term",A),("name",F),("term",jT)]) q2 q3 q4 (by simp) (CG (dd:=none) (ts:=[("term",jZ),("term",O),("term",j1)]) q5 q6 q7 (by simp) (CG (dd:=none) (ts:=[("term",R),("term",D)]) q8 q9 va (by simp) (CG (dd:=none) (ts:=[("term",E),("term",pf)]) vb vc vd (by simp) (CG (dd:=none) (ts:=[("term",pl)]) ve vf vg (by simp) (CG (dd:=none) (ts:=[("term",pt)]) vh vi vj (by simp) (CG (dd:=none) (ts:=[("term",pz),("term",pA)]) vk vl vm (by simp) (CG (dd:=none) (ts:=[("term",pG),("kind",L)]) vn vo vp (by simp) .nil)))))))))))))))
  AF:=AF
  B6:=B6
  CQ:=CQ
  J2:=J2
  J3:=J3
  J4:=J4
  J5:=J5
  J6:=J6
  J7:=J7
  J8:=J8}
end KY
open PySem PySem.W PyProof.Rows
set_option hygiene false in
local macro_rules | `(tactic| walk_at "fb") => `(tactic| (intro _ _ _ _ _ _ us hl; first | (obtain rfl := L3.ln0 hl; rfl) | (obtain ⟨_, _, rfl, g0⟩ := L3.ln1 hl; first | (obtain rfl := L3.ln0 g0; rfl) | (obtain ⟨_, _, rfl, g1⟩ := L3.ln1 g0; first | (obtain rfl := L3.ln0 g1; rfl) | (obtain ⟨_, _, rfl, g2⟩ := L3.ln1 g1; first | (obtain rfl := L3.ln0 g2; rfl) | (obtain ⟨_, _, rfl, g3⟩ := L3.ln1 g2; first | (obtain rfl := L3.ln0 g3; rfl) | (obtain ⟨_, _, rfl, g4⟩ := L3.ln1 g3; obtain rfl := L3.ln0 g4; rfl)))))))
set_option hygiene false in
local macro_rules | `(tactic| walk_at "fk") => `(tactic| (dsimp only [L2.KOf]; refine' L3.jU KX G ?e ?l ?c ?k ?b; (case e => k_is); (case l => k_is); (case c => k_is); (case k => k_is); (case b => walk_at "fb")))
set_option maxRecDepth 100000 in
set_option maxHeartbeats 0 in
theorem PySem.Challenge.cw_castwright_k85_terms_written_holds : PySem.Challenge.rw_castwright_k85_terms_written.Holds := by
 show KY.rwS.Holds
 w_on;o_law
 refine holds_open (r:=KY.rwS.row) (q:=KY.vwS) (loose:=["LENGTHS","FORMS"]) (N:=6612)
  (Yf:=(kHook KY.KF KY.KL KY.kfe).obs) (Ya:=(kHook KY.KF KY.KL KY.kfe).val) (YP:=(kHook KY.KF KY.KL KY.kfe).says)
  (Xt:=λs=>xlAt KY.vwS [] s&&recOk (RowW.records KY.rwS.row.toRowW) s)
  (XP:=XL KY.vwS []) ?hl (kHook KY.KF KY.KL KY.kfe).of (kHook KY.KF KY.KL KY.kfe).keeps ?g1 XL.keeps rfl rfl rfl ?g2 rfl
  ?g3 (by decide +kernel) ?g4 ?hw ?hc
 case g1=>exact λs e=>xl_of s (Qf.mp e).1
 case g2=>exact λs e=>recFacts_of (Qf.mp e).2
 case g3=>first | assumption | decide +kernel
 case g4=>exact⟨rfl,rfl,rfl,rfl,rfl,by decide +kernel⟩
 case hw=>w_witness2
 case hl=>exact byRow2 "special-get-raises" KY.lbf KY.lbt
 k_fill
 refine L3.j7 (l:=KY.rwS) (k:=71) ⟨rfl,by decide,by decide⟩ rfl rfl (λw h Y=>PySem.W.kIn_of Y) ?F
 case F =>
  intro w mg fa h KX G hmg
  have FF:KY.Fns (L2.KOf KX) mg:=by constructor <;> walk_at "fk"
  have NN:KY.Bls mg:=by constructor <;> exact PySem.W.mg_none_of KX G (by k_is)
  have HR:∃ C:Addr,PySem.W.nsIn (L2.KOf KX) mainGlobals "Reader"=some (some (.ref C))/\L2.Cls (L2.KOf KX) C/\L2.NoAttr (L2.KOf KX) C "place"/\L2.NoAttr (L2.KOf KX) C "text"/\L3.FnI (L2.KOf KX) mg "Reader" C KY.H9 "Reader.__init__" ["self","text"]/\L3.FnM (L2.KOf KX) C KY.Ia "sees" "Reader.sees" ["self","piece"]/\L3.FnM (L2.KOf KX) C KY.Ib "takes" "Reader.takes" ["self","piece"]/\L3.FnM (L2.KOf KX) C KY.Gd "wants" "Reader.wants" ["self","piece"]/\L3.FnM (L2.KOf KX) C KY.Ge "wants_end" "Reader.wants_end" ["self"]/\L3.FnM (L2.KOf KX) C KY.Ic "word" "Reader.word" ["self"]/\L3.FnM (L2.KOf KX) C KY.Ie "figures" "Reader.figures" ["self"]:=by
   dsimp only[L2.KOf]
   refine' ⟨_,?e,⟨?p1,?p2,?p3,?p4⟩,?B6,?CQ,KY.sE KX G ?i0 ?i1 ?i2 ?i3 ?i4 ?i5 ?i6 ?i7 ?i8,KY.Hx ?Reader_sees0 ?Reader_sees1 ?Reader_sees2 ?Reader_sees3 ?Reader_sees4 ?Reader_sees5,KY.Hx ?Reader_takes0 ?Reader_takes1 ?Reader_takes2 ?Reader_takes3 ?Reader_takes4 ?Reader_takes5,KY.Hx ?Reader_wants0 ?Reader_wants1 ?Reader_wants2 ?Reader_wants3 ?Reader_wants4 ?Reader_wants5,KY.Hx ?Reader_wants_end0 ?Reader_wants_end1 ?Reader_wants_end2 ?Reader_wants_end3 ?Reader_wants_end4 ?Reader_wants_end5,KY.Hx ?Reader_word0 ?Reader_word1 ?Reader_word2 ?Reader_word3 ?Reader_word4 ?Reader_word5,KY.Hx ?Reader_figures0 ?Reader_figures1 ?Reader_figures2 ?Reader_figures3 ?Reader_figures4 ?Reader_figures5⟩
   (case e=>k_is)
   (case p1=>k_is)
   (case p2=>k_is)
   (case p3=>k_is)
   (case p4=>k_is)
   (case B6=>(show PySem.W.findIn _ _ _=some none);k_is)
   (case CQ=>(show PySem.W.findIn _ _ _=some none);k_is)
   (case i0=>k_is)
   (case i1=>k_is)
   (case i2=>k_is)
   (case i3=>k_is)
   (case i4=>k_is)
   (case i5=>k_is)
   (case i6=>k_is)
   (case i7=>k_is)
   (case i8=>walk_at "fb")
   (case Reader_sees0=>k_is)
   (case Reader_sees1=>k_is)
   (case Reader_sees2=>k_is)
   (case Reader_sees3=>k_is)
   (case Reader_sees4=>k_is)
   (case Reader_sees5=>walk_at "fb")
   (case Reader_takes0=>k_is)
   (case Reader_takes1=>k_is)
   (case Reader_takes2=>k_is)
   (case Reader_takes3=>k_is)
   (case Reader_takes4=>k_is)
   (case Reader_takes5=>walk_at "fb")
   (case Reader_wants0=>k_is)
   (case Reader_wants1=>k_is)
   (case Reader_wants2=>k_is)
   (case Reader_wants3=>k_is)
   (case Reader_wants4=>k_is)
   (case Reader_wants5=>walk_at "fb")
   (case Reader_wants_end0=>k_is)
   (case Reader_wants_end1=>k_is)
   (case Reader_wants_end2=>k_is)
   (case Reader_wants_end3=>k_is)
   (case Reader_wants_end4=>k_is)
   (case Reader_wants_end5=>walk_at "fb")
   (case Reader_word0=>k_is)
   (case Reader_word1=>k_is)
   (case Reader_word2=>k_is)
   (case Reader_word3=>k_is)
   (case Reader_word4=>k_is)
   (case Reader_word5=>walk_at "fb")
   (case Reader_figures0=>k_is)
   (case Reader_figures1=>k_is)
   (case Reader_figures2=>k_is)
   (case Reader_figures3=>k_is)
   (case Reader_figures4=>k_is)
   (case Reader_figures5=>walk_at "fb")
  obtain⟨C,h_e,sG,sH,sI,sJ,sK,sL,sM,Zip,sN,sO⟩:=HR
  have T:∃ a:KY.Adr,∀ base:Heap,(L2.KOf KX).In base->KY.Tx (L2.KOf KX) mg base a:=by
   dsimp only[L2.KOf]at *
   refine' KY.sF KX G FF NN ?qa ?qb ?qc h_e ?qe ?qf ?qg ?qh ?qi ?qj ?qk ?ql ?qm ?qn ?qo ?qp ?qq ?qr ?qs ?qt ?qu ?qv ?qw ?qx ?qy ?qz ?qA ?qB ?qC ?qD ?qE ?qF ?qG ?qH ?qI ?qJ ?qK ?qL ?qM ?qN ?qO ?qP ?qQ ?qR ?qS ?qT ?qU ?qV ?qW ?qX ?qY ?qZ ?q0 ?q1 ?q2 ?q3 ?q4 ?q5 ?q6 ?q7 ?q8 ?q9 ?va ?vb ?vc ?vd ?ve ?vf ?vg ?vh ?vi ?vj ?vk ?vl ?vm ?vn ?vo ?vp sG sH sI sJ sK sL sM Zip sN sO
   (case qa=>k_is)
   (case qb=>k_is)
   (case qc=>k_is)
   (case qe=>k_exc)
   (case qf=>k_exc)
   (case qg=>k_is)
   (case qh=>k_is)
   (case qi=>k_is)
   (case qj=>k_is)
   (case qk=>k_is)
   (case ql=>k_is)
   (case qm=>k_is)
   (case qn=>k_is)
   (case qo=>k_is)
   (case qp=>k_is)
   (case qq=>k_is)
   (case qr=>decide)
   (case qs=>exact rfl)
   (case qt=>exact rfl)
   (case qu=>exact rfl)
   (case qv=>exact rfl)
   (case qw=>exact rfl)
   (case qx=>exact rfl)
   (case qy=>exact rfl)
   (case qz=>exact rfl)
   (case qA=>exact rfl)
   (case qB=>exact rfl)
   (case qC=>exact rfl)
   (case qD=>exact rfl)
   (case qE=>k_is)
   (case qF=>k_is)
   (case qG=>decide)
   (case qH=>exact rfl)
   (case qI=>exact rfl)
   (case qJ=>k_is)
   (case qK=>exact rfl)
   (case qL=>exact rfl)
   (case qM=>k_is)
   (case qN=>exact rfl)
   (case qO=>exact rfl)
   (case qP=>k_is)
   (case qQ=>exact rfl)
   (case qR=>exact rfl)
   (case qS=>k_is)
   (case qT=>exact rfl)
   (case qU=>exact rfl)
   (case qV=>k_is)
   (case qW=>exact rfl)
   (case qX=>exact rfl)
   (case qY=>k_is)
   (case qZ=>exact rfl)
   (case q0=>exact rfl)
   (case q1=>k_is)
   (case q2=>exact rfl)
   (case q3=>exact rfl)
   (case q4=>k_is)
   (case q5=>exact rfl)
   (case q6=>exact rfl)
   (case q7=>k_is)
   (case q8=>exact rfl)
   (case q9=>exact rfl)
   (case va=>k_is)
   (case vb=>exact rfl)
   (case vc=>exact rfl)
   (case vd=>k_is)
   (case ve=>exact rfl)
   (case vf=>exact rfl)
   (case vg=>k_is)
   (case vh=>exact rfl)
   (case vi=>exact rfl)
   (case vj=>k_is)
   (case vk=>exact rfl)
   (case vl=>exact rfl)
   (case vm=>k_is)
   (case vn=>exact rfl)
   (case vo=>exact rfl)
   (case vp=>k_is)
  obtain⟨a,T⟩:=T
  obtain⟨f,fd,hm,F,_⟩:=FF.kX
  have e0:=hmg.symm.trans hm
  cases e0
  obtain⟨oc,od,kV,doc,pm,an,cdv,ct,osl,rfl,lk,hcd⟩:=F.ex
  exact⟨_,λs u=>.of_eq rfl,λbase kb nb=>KY.sD (T base kb) F⟩
