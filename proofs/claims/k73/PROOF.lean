import PyProof.Rows.All
import Wide.All
import Wide.FinOn
import Lean
import PyProof.EqAt
import PyProof.EqKinds
import PyProof.TupleCall
import PyProof.AttrMissHeap
import KE.KDictOf
import PyProof.SetRoads
import PyProof.CollectWalk
import PyProof.ZipIter
import PyProof.TupleIter
import PyProof.NeKinds
import PyProof.DictStraight
import PyProof.WalksMore
import KE.KDictList
import KE.KSortTup
import KE.KItemsList
import PyProof.EnumMake
import PyProof.EnumStmt
import PyProof.EnumFor
import PyProof.Rows.EnumRows
import KE.KFromBytes
import KE.KIsAll
import KE.KItem
import KE.KSortAsk
import KE.KTab
import KE.KxBytes
import Open.Claim
import Open.Fast
import Open.FastLooks
import Open.FastTabs
import Open.Head
import Open.Line
import Open.Recs
import Open.Row
import Open.Strs
import OpenK.KCall
import OpenK.KCls
import OpenK.KDescr
import OpenK.KFacts
import OpenK.KGet
import OpenK.KLine
import OpenK.KMake
import OpenK.KMore
import OpenK.KOwn
import OpenK.KRaise
import OpenK.KWalk
import OpenK.Peek
import PySem.Challenge.RW_castwright_k73_forgettings
set_option Elab.async false
set_option linter.all false
set_option maxRecDepth 100000
set_option maxHeartbeats 4000000
set_option compiler.extract_closed false
noncomputable section
abbrev Yb:=@List.getElem?_cons_zero
abbrev Yc:=@List.getElem?_cons_succ
abbrev Yd:=@List.mem_cons_of_mem
abbrev Ye:=@List.mem_cons_self
abbrev Yg:=@List.length_cons
abbrev Yh:=@List.length_map
abbrev Yi:=@List.length_nil
abbrev Yj:=@List.length_append
abbrev Yk:=@List.set_cons_zero
abbrev Yl:=@List.set_cons_succ
abbrev Ym:=@List.map_cons
abbrev Yn:=@List.size_toArray
abbrev Yo:=@List.mem_cons
abbrev Yp:=@List.getElem?_eq_getElem
abbrev Yq:=@Bool.false_eq_true
abbrev Yr:=@Nat.le_refl
abbrev Ys:=@Nat.ne_of_lt
abbrev Yt:=@Nat.le_trans
abbrev Yu:=@Nat.lt_of_lt_of_le
abbrev Yv:=@List.append_assoc
abbrev Yw:=@List.nil_append
abbrev Yx:=@List.append_nil
abbrev Yy:=@List.map_append
abbrev Yz:=@List.mem_append
abbrev YA:=@List.mem_singleton
abbrev YB:=@List.map_map
abbrev YC:=@List.mem_map
abbrev YD:=@Option.some.inj
abbrev YE:=@Bool.not_true
abbrev YF:=@Bool.and_eq_true
abbrev YG:=@decide_eq_true
abbrev YH:=@List.map_nil
abbrev YI:=@List.getElem?_append_left
abbrev YJ:=@Nat.lt_irrefl
abbrev YK:=@List.mem_append_right
abbrev YL:=@Bool.not_false
abbrev YM:=@List.getElem?_map
abbrev YN:=@decide_eq_true_eq
abbrev YO:=@Option.map_eq_some_iff
abbrev YQ:=@List.nodup_cons
abbrev YR:=@Array.length_toList
abbrev YS:=@Bool.false_ne_true
abbrev YT:=@Nat.zero_le
abbrev YU:=@Ne.symm
abbrev YV:=@Array.getElem?_eq_getElem
abbrev YW:=@List.getElem?_eq_some_iff
abbrev YX:=@Nat.le_add_right
abbrev YY:=@List.not_mem_nil
abbrev YZ:=@List.getD_eq_getElem?_getD
abbrev Qa:=@List.flatMap_cons
abbrev Qb:=@Option.bind_eq_some_iff
abbrev Qc:=@PyProof.Rows.callWith_type1
abbrev Qd:=@List.getElem?_eq_none
abbrev Qe:=@List.getElem_mem
abbrev Qf:=@False.elim
open PySem in
abbrev Qg:=@wpAny_bind
open PySem in
abbrev Qh:=@wpAny_pure
open PySem in
abbrev Qi:=@Heap.get?_push_of_some
open PySem in
abbrev Qj:=@Heap.lt_size
open PySem in
abbrev Qk:=@Heap.get?_push_size
open PySem in
abbrev Ql:=@Heap.size_push
set_option hygiene false in
local macro_rules | `(tactic| walk_at "pa")=>`(tactic| (simp only [YF] at h'))
set_option hygiene false in
local macro_rules | `(tactic| walk_at "pb")=>`(tactic| (refine DY (fun h=>?_) (fun h=>?_)))
set_option hygiene false in
local macro_rules | `(tactic| walk_at "pc")=>`(tactic| (refine Qg (wpAny_letGo (Qh ?_));refine Qg (Qg (wpAny_onRaise ?_));refine Qg (m:=Builtin.SmallTypes.nextOf (.ref F)) ?_))
set_option hygiene false in
local macro_rules | `(tactic| walk_at "pd")=>`(tactic| (simp only [Yk,Yl]))
set_option hygiene false in
local macro_rules | `(tactic| walk_at "pe")=>`(tactic| (exact wpAny_letOwnedTupleGo_zip j fun h' I g=>p h' ⟨I,g.extBut _ _ D.TIz d,⟨a,b,g.extBut _ _ D.TOz f⟩,h1.extBut g.extBut D.i1z,h2.extBut g.extBut D.i2z,g1.extBut g.extBut D.l1z,g2.extBut g.extBut D.l2z⟩ fun c o hc e=>g.extBut _ _ (fun x=>hc (by simp [x])) e))
set_option hygiene false in
local macro_rules | `(tactic| walk_at "pf")=>`(tactic| (simp only [List.drop_succ_cons,List.drop_zero,AV,gNm,AA,if_true,List.replicate,Ym,YH,Yb,Option.getD_some,Yk,List.cons_append,Yw,Aa,Ac,Ab,Yc]))
set_option hygiene false in
local macro_rules | `(tactic| walk_at "pg")=>`(tactic| (exact ⟨⟨_,g,rfl⟩,h _ g g3 g4 ⟨_,g1,rfl,rfl⟩ ⟨_,g2,rfl,rfl⟩ l fun c o x=>Qi _ (Qi _ (Qi _ (Qi _ (Qi _ x))))⟩))
set_option hygiene false in
local macro_rules | `(tactic| walk_at "ph")=>`(tactic| (have lt:∀ {b:Addr} {o:Obj},s.heap.get? b=some o→b≠T:=fun e q=>absurd (Yu (Qj e) hT) (by rw [q];exact YJ _)))
set_option hygiene false in
local macro_rules | `(tactic| walk_at "pi")=>`(tactic| (exact hQ p k (u _ _ D.TOz hTO₅) ⟨o1,u _ _ D.i1z e1,r1⟩ ⟨o2,u _ _ D.i2z e2,r2⟩ hT₈ fun c o R c2 c3 c4 e=>u c o R (j.extBut _ _ c2 (i.extBut _ _ c4 (g.extBut _ _ c2 (h.extBut _ _ c3 (f.extBut _ _ R e)))))))
set_option hygiene false in
local macro_rules | `(tactic| walk_at "pj")=>`(tactic| (refine Qg (Qg (wpAny_onRaise ?_));refine Qg (m:=Builtin.SmallTypes.nextOf (.ref G)) ?_))
set_option hygiene false in
local macro_rules | `(tactic| walk_at "pk")=>`(tactic| (refine Call_ (DZ I P L boot_zip (Qc (thn (F pos pins s σ H _ I h) fun U l t=>?_) (by rw [hs,d]) (by rw [d];rfl)))))
set_option hygiene false in
local macro_rules | `(tactic| walk_at "pl")=>`(tactic| (refine D0 (fun ω' A=>∃ J L,ω'=[some (.ref s),some k.enc,some (.ref p),some (.int ((m+1:Nat):Int)),some (.int r),some (.ref z),some one.enc,some a.enc,none,none,none,J,L]∧Hs s G A) ?_ (fun Ao=>?_)))
set_option hygiene false in
local macro_rules | `(tactic| walk_at "pm")=>`(tactic| (simp only [AW,Au,Ad,Ae,Ab,gC,Yb,Yc,Kd.enc,ixW,A0,Ak,Hu,Bi,List.replicate,Ym,YH,Option.getD_some,List.cons_append,Yw]))
set_option hygiene false in
local macro_rules | `(tactic| walk_at "pn")=>`(tactic| (refine ⟨.ref T,_,I2,rfl,⟨T,_,_,Z,rfl,rfl,fun xs' ys' hx' hy'=>?_⟩,⟨r.1,r.2.1,r.2.2.1,r.2.2.2.1,r.2.2.2.2.1⟩,fun b n=>?_⟩))
set_option hygiene false in
local macro_rules | `(tactic| walk_at "po")=>`(tactic| (exact wpAny_setField_rec l (by simp) fun y _ r=>hE y e (fun c o I c2 P c4 q=>r.extBut _ _ I (j _ _ c4 (g.extBut _ _ c2 (f.extBut _ _ P (d.extBut _ _ I q))))) ⟨N,r.extBut _ _ u i,k⟩))
set_option hygiene false in
local macro_rules | `(tactic| walk_at "pp")=>`(tactic| (rw [if_neg (by decide +kernel)]))
set_option hygiene false in
local macro_rules | `(tactic| walk_at "pq")=>`(tactic| (exact ⟨(U1 (by decide +kernel)).trans (congrArg (_::·) a),(U2 (by decide +kernel)).trans b⟩))
set_option hygiene false in
local macro_rules | `(tactic| walk_at "pr")=>`(tactic| (refine I1.track Z ?_ (fun x c e=>?_) (fun p hp=>?_) ?_ ⟨by show 2≤sizeLine;decide,[v1,v2],.cons rv1 (.cons rv2 .nil),L⟩))
set_option hygiene false in
local macro_rules | `(tactic| walk_at "ps")=>`(tactic| (simp only [Af,gIf,gTB,Ad,Ae,Ab,gC,Yb,ixW,Bf,Ak,Bn]))
set_option hygiene false in
local macro_rules | `(tactic| walk_at "pt")=>`(tactic| (refine Qg (wpAny_letGo (Qh (Qh ?_)));refine Qg (wpAny_seqItems hTO₅ rfl (Qg (wpAny_newTuple ?_ (by show (2:Nat)≤sizeLine;decide))))))
set_option hygiene false in
local macro_rules | `(tactic| walk_at "pu")=>`(tactic| (have I1:Inv X pins σ H { s with heap:=G,toks:=tk }:=Inv.turneds I hf fun b o n e=>S b o (O b n) (hk b o (O b n) e)))
set_option hygiene false in
local macro_rules | `(tactic| walk_at "pv")=>`(tactic| (simp only [Yo,YY,or_false] at hc ⊢))
set_option hygiene false in
local macro_rules | `(tactic| walk_at "pw")=>`(tactic| (simp only [EK Aj,Option.bind_some,Hv,Option.map_some,Ak]))
set_option hygiene false in
local macro_rules | `(tactic| walk_at "px")=>`(tactic| (simp only [show (false != false)=false from rfl,Yq,if_false,Al]))
set_option hygiene false in
local macro_rules | `(tactic| walk_at "py")=>`(tactic| (simp only [b,c,YE,Yq,if_false]))
set_option hygiene false in
local macro_rules | `(tactic| walk_at "pz")=>`(tactic| (have lt:∀ {c o},s.heap.get? c=some o→s.heap.objs.size≠c:=fun e=>Nat.ne_of_gt (Qj e)))
set_option hygiene false in
local macro_rules | `(tactic| walk_at "pA")=>`(tactic| (simp only [Yo,YY,or_false] at n))
set_option hygiene false in
local macro_rules | `(tactic| walk_at "pB")=>`(tactic| (have h':(decide (-NB≤i∧i≤NB)&&r.ok)=true:=h))
set_option hygiene false in
local macro_rules | `(tactic| walk_at "pC")=>`(tactic| (rcases Yo.mp h with rfl | h))
set_option hygiene false in
local macro_rules | `(tactic| walk_at "pD")=>`(tactic| (simp only [List.zipIdx_cons,List.zipIdx_nil,List.forIn_cons,List.forIn_nil]))
set_option hygiene false in
local macro_rules | `(tactic| walk_at "pE")=>`(tactic| (simp only [Ad,Ap,Ag,Ab,gC,Aa,Ac,Yb,Yc]))
set_option hygiene false in
local macro_rules | `(tactic| walk_at "pF")=>`(tactic| (simp only [Ah,Ag,Ab,gC,Aa,Ac,Yb,Yc]))
set_option hygiene false in
local macro_rules | `(tactic| walk_at "pG")=>`(tactic| (refine Qg (m:=Builtin.SmallTypes.ownedTupleIsFree (.ref z)) ?_))
set_option hygiene false in
local macro_rules | `(tactic| walk_at "pH")=>`(tactic| (rcases Yo.mp a with rfl | a))
set_option hygiene false in
local macro_rules | `(tactic| walk_at "pI")=>`(tactic| (refine ⟨(show 3≤sizeLine by decide),?_⟩))
set_option hygiene false in
local macro_rules | `(tactic| walk_at "pJ")=>`(tactic| (obtain ⟨a,b,c⟩:=J5 r us (fun z=>d (Yd _ z)) hl))
set_option hygiene false in
local macro_rules | `(tactic| walk_at "pK")=>`(tactic| (exact J6 r _ _ _ (fun z=>a (Yd _ z)) (by omega) h))
set_option hygiene false in
local macro_rules | `(tactic| walk_at "pL")=>`(tactic| (obtain ⟨a,b⟩:=J7 r us (fun z=>c (Yd _ z)) hl))
set_option hygiene false in
local macro_rules | `(tactic| walk_at "pM")=>`(tactic| (simp only [Yo,YY,or_false] at S))
set_option hygiene false in
local macro_rules | `(tactic| walk_at "pN")=>`(tactic| (intro X hP hw hK hc i pins s σ H E I hf st hg))
set_option hygiene false in
local macro_rules | `(tactic| walk_at "pO")=>`(tactic| (obtain ⟨j,d,⟨a,b,f⟩,h1,h2,g1,g2⟩:=st))
namespace L2
open PySem PySem.Spec PyProof.Rows
def EL(s:Stmt):Arguments:=match s with
 | .FunctionDef _ a _ _ _ _ _ _ _ _=>a
 | _=>{posonlyargs:=[],args:=[],vararg:=none,kwonlyargs:=[],kw_defaults:=[],kwarg:=none,defaults:=[]}
def Cb(s:Stmt):List Stmt:=match s with
 | .FunctionDef _ _ b _ _ _ _ _ _ _=>b
 | _=>[]
def Ar(s:Stmt):Scope:=match s with
 | .FunctionDef _ _ _ _ _ _ sc _ _ _=>sc
 | _=>{kind:=.function,names:=[],isGenerator:=false,isCoroutine:=false}
end L2
namespace KS
open PySem PySem.Spec PyProof.Rows L2
 def top (i:Nat):Stmt:=PySem.Challenge.pw_castwright_k73_forgettings.main.body.getD i (.Pass ⟨0,0,0,0⟩)
abbrev pwS:Program:=PySem.Challenge.pw_castwright_k73_forgettings
abbrev rwS:PySem.W.OpenLaw:=PySem.Challenge.rw_castwright_k73_forgettings
noncomputable def vwS:Program:=PySem.W.view pwS [1,2,4,5,6,7,8,9,10,11,12,13,14,15,16,17,18,19,21,22,23,24,25,26,27,28,29,30,31,32,33,35,36,37,38,39,40,41,42,43,44,46,47,48,49,50,51,52,53,54,55,56,57,58,59,60,61,62,63,64]
abbrev en(P:Params)(k:Str)(t:Tok)(v:Value):DictEntry:=⟨PyData.keyHash P k,.str k t,v⟩
abbrev co(n:Str)(a l g r f e:Nat)(x y:Value)(z t u:Nat):Obj:=.mk (.type "code") Option.none (.fields #[.str n a,.str n (a+1),.str "/claim/cut.py" (a+2),.int l 0,.int g 0,.int 0 0,.int 0 0,.int 3 0,.ref r,.bool Bool.true,.int f 0,.ref e,.none,x,y,.ref z,.int t 0,.int l 0,.str "/claim/cut.py" u]) #[]
abbrev fo(n:Str)(s:Stmt)(q:Str)(t c:Nat):Obj:=.mk (.type "function") Option.none (.func (PySem.W.fnOf n n (EL s) (Cb s) (Ar s) .none .none .none (.str q t) Option.none (.ref c) .none)) #[]
noncomputable def KF:Params->PySem.W.Frag:=λP=>
 (nat_lit 2,.mk .none Option.none (.dict #[]) #[])::
 (nat_lit 3,.mk (.type "dict") Option.none (.dict #[en P "__name__" 165 (.str "law_castwright_k73_forgettings" 526),en P "__doc__" 166 .none,en P "__package__" 167 .none,en P "__loader__" 168 (.builtin "__main__.__loader__#opaque"),en P "__spec__" 169 .none,en P "__annotations__" 170 (.ref 6),en P "__builtins__" 171 (.ref 4),en P "__file__" 173 (.str "/claim/cut.py" 172),en P "__cached__" 174 .none,en P "CastError" 206 (.ref 24),en P "NoTerm" 222 (.ref 37),en P "MOST_KINDS" 226 (.int 40 225),en P "MOST_DEPTH" 228 (.int 8 227),en P "MOST_LETTERS" 230 (.int 8 229),en P "MARKS" 233 (.ref 40),en P "LENGTHS" 252 (.ref 41),en P "is_kind" 259 (.ref 48),en P "is_made_of" 265 (.ref 53),en P "layer_within" 275 (.ref 60),en P "kinds_in" 284 (.ref 67),en P "kinds_within" 290 (.ref 72),en P "has_form" 297 (.ref 79),en P "are_fields" 303 (.ref 84),en P "is_field" 310 (.ref 91),en P "is_name" 316 (.ref 96),en P "is_small_letter" 323 (.ref 103),en P "names_rise" 329 (.ref 108),en P "MOST_TERMS" 333 (.int 40 332),en P "MOST_TERM_DEPTH" 335 (.int 10 334),en P "MOST_NUMBER" 337 (.int 99999999999999999999 336),en P "FORMS" 395 (.ref 109),en P "check_term" 402 (.ref 131),en P "is_term" 409 (.ref 138),en P "form_of" 416 (.ref 145),en P "parts_of" 422 (.ref 150),en P "has_term_form" 428 (.ref 155),en P "is_of_sort" 436 (.ref 162),en P "is_number" 443 (.ref 169),en P "are_term_fields" 449 (.ref 174),en P "is_term_field" 456 (.ref 181),en P "forgettings" 465 (.ref 188),en P "kinds_told" 471 (.ref 193),en P "told_by" 477 (.ref 198),en P "all_told" 486 (.ref 205),en P "less_terms" 492 (.ref 210),en P "less_kinds" 498 (.ref 215),en P "with_one" 507 (.ref 222),en P "with_kinds_within" 513 (.ref 227),en P "with_kind" 519 (.ref 232),en P "with_parts" 525 (.ref 237),en P "_law_state" 536 (.ref 244),en P "_law_take" 546 (.ref 251),en P "_law_whole" 553 (.ref 258),en P "_law_kind" 565 (.ref 265),en P "_law_least" 571 (.ref 270),en P "_law_dim" 577 (.ref 275),en P "_law_blur" 585 (.ref 282),en P "_law_by_name" 591 (.ref 287),en P "_law_term" 610 (.ref 294),en P "_law_any_first" 623 (.ref 301),en P "_law_around" 639 (.ref 308),en P "_law_parts" 645 (.ref 313),en P "_law_size" 651 (.ref 318),en P "_law_drawn" 663 (.ref 325),en P "_law_less_kinds" 676 (.ref 332),en P "_law_less_terms" 687 (.ref 339),en P "_law_count" 693 (.ref 344),en P "_law_told" 699 (.ref 349),en P "law" 705 (.ref 354)] 69) #[])::
 (nat_lit 15,.mk (.type "tuple") Option.none (.seq #[.type "ValueError"]) #[])::
 (nat_lit 22,.mk (.type "tuple") Option.none (.seq #[]) #[])::
 (nat_lit 23,.mk (.type "dict") Option.none (.dict #[en P "__module__" 196 (.str "castwright.errors" 187),en P "__firstlineno__" 200 (.int 2 199),en P "__static_attributes__" 201 (.ref 22),en P "__weakref__" 203 (.ref 25),en P "__doc__" 204 .none] 3) #[])::
 (nat_lit 24,.mk (.type "type") Option.none (.cls (.mk "CastError" [.type "ValueError"] [.ref 24,.type "ValueError",.type "Exception",.type "BaseException",.type "object"] 23 "CastError" Bool.true [] [.ref 37] Bool.false Option.none Bool.false)) #[Option.some (.ref 15),Option.none,Option.some (.str "CastError" 189),Option.some (.str "CastError" 197),Option.some (.builtin "ValueError.__new__"),Option.some (.bool Bool.true)])::
 (nat_lit 25,.mk (.type "getset_descriptor") Option.none (.fields #[.str "__weakref__" 202,.ref 24,.builtin "ExceptionGroup.__weakref__",.none]) #[])::
 (nat_lit 28,.mk (.type "tuple") Option.none (.seq #[.ref 24]) #[])::
 (nat_lit 35,.mk (.type "tuple") Option.none (.seq #[]) #[])::
 (nat_lit 36,.mk (.type "dict") Option.none (.dict #[en P "__module__" 214 (.str "castwright.errors" 187),en P "__firstlineno__" 218 (.int 4 217),en P "__static_attributes__" 219 (.ref 35),en P "__doc__" 220 .none] 2) #[])::
 (nat_lit 37,.mk (.type "type") Option.none (.cls (.mk "NoTerm" [.ref 24] [.ref 37,.ref 24,.type "ValueError",.type "Exception",.type "BaseException",.type "object"] 36 "NoTerm" Bool.true [] [] Bool.false Option.none Bool.false)) #[Option.some (.ref 28),Option.none,Option.some (.str "NoTerm" 207),Option.some (.str "NoTerm" 215),Option.some (.builtin "ValueError.__new__"),Option.some (.bool Bool.true)])::
 (nat_lit 40,.mk (.type "tuple") Option.none (.seq #[.str "must" 231,.str "may" 232]) #[])::
 (nat_lit 41,.mk (.type "dict") Option.none (.dict #[en P "any" 234 (.int 1 235),en P "num" 236 (.int 1 237),en P "truth" 238 (.int 1 239),en P "to" 240 (.int 3 241),en P "box" 242 (.int 2 243),en P "row" 244 (.int 3 245)] 6) #[])::
 (nat_lit 47,co "is_kind" 253 12 1 42 181 43 (.ref 44) (.ref 45) 46 257 258)::
 (nat_lit 48,fo "is_kind" (top 9) "castwright.kinds" 223 47)::
 (nat_lit 52,co "is_made_of" 260 14 5 49 181 50 .none .none 51 263 264)::
 (nat_lit 53,fo "is_made_of" (top 10) "castwright.kinds" 223 52)::
 (nat_lit 59,co "layer_within" 266 27 2 54 181 55 (.ref 56) (.ref 57) 58 273 274)::
 (nat_lit 60,fo "layer_within" (top 11) "castwright.kinds" 223 59)::
 (nat_lit 66,co "kinds_in" 276 32 1 61 181 62 (.ref 63) (.ref 64) 65 282 283)::
 (nat_lit 67,fo "kinds_in" (top 12) "castwright.kinds" 223 66)::
 (nat_lit 71,co "kinds_within" 285 37 1 68 181 69 .none .none 70 288 289)::
 (nat_lit 72,fo "kinds_within" (top 13) "castwright.kinds" 223 71)::
 (nat_lit 78,co "has_form" 291 41 1 73 181 74 (.ref 75) (.ref 76) 77 295 296)::
 (nat_lit 79,fo "has_form" (top 14) "castwright.kinds" 223 78)::
 (nat_lit 83,co "are_fields" 298 47 1 80 181 81 .none .none 82 301 302)::
 (nat_lit 84,fo "are_fields" (top 15) "castwright.kinds" 223 83)::
 (nat_lit 90,co "is_field" 304 51 1 85 181 86 (.ref 87) (.ref 88) 89 308 309)::
 (nat_lit 91,fo "is_field" (top 16) "castwright.kinds" 223 90)::
 (nat_lit 95,co "is_name" 311 55 1 92 181 93 .none .none 94 314 315)::
 (nat_lit 96,fo "is_name" (top 17) "castwright.kinds" 223 95)::
 (nat_lit 102,co "is_small_letter" 317 59 1 97 181 98 (.ref 99) (.ref 100) 101 321 322)::
 (nat_lit 103,fo "is_small_letter" (top 18) "castwright.kinds" 223 102)::
 (nat_lit 107,co "names_rise" 324 61 1 104 181 105 .none .none 106 327 328)::
 (nat_lit 108,fo "names_rise" (top 19) "castwright.kinds" 223 107)::
 (nat_lit 109,.mk (.type "dict") Option.none (.dict #[en P "num" 338 (.ref 110),en P "truth" 340 (.ref 111),en P "name" 342 (.ref 112),en P "fun" 344 (.ref 113),en P "call" 348 (.ref 114),en P "rec" 351 (.ref 115),en P "get" 353 (.ref 116),en P "or" 356 (.ref 117),en P "if" 360 (.ref 118),en P "plus" 364 (.ref 119),en P "less" 367 (.ref 120),en P "new" 370 (.ref 121),en P "read" 372 (.ref 122),en P "write" 374 (.ref 123),en P "as" 377 (.ref 124)] 15) #[])::
 (nat_lit 110,.mk (.type "tuple") Option.none (.seq #[.str "number" 339]) #[])::
 (nat_lit 111,.mk (.type "tuple") Option.none (.seq #[.str "truth" 341]) #[])::
 (nat_lit 112,.mk (.type "tuple") Option.none (.seq #[.str "name" 343]) #[])::
 (nat_lit 113,.mk (.type "tuple") Option.none (.seq #[.str "name" 345,.str "kind" 346,.str "term" 347]) #[])::
 (nat_lit 114,.mk (.type "tuple") Option.none (.seq #[.str "term" 349,.str "term" 350]) #[])::
 (nat_lit 115,.mk (.type "tuple") Option.none (.seq #[.str "fields" 352]) #[])::
 (nat_lit 116,.mk (.type "tuple") Option.none (.seq #[.str "term" 354,.str "name" 355]) #[])::
 (nat_lit 117,.mk (.type "tuple") Option.none (.seq #[.str "term" 357,.str "name" 358,.str "term" 359]) #[])::
 (nat_lit 118,.mk (.type "tuple") Option.none (.seq #[.str "term" 361,.str "term" 362,.str "term" 363]) #[])::
 (nat_lit 119,.mk (.type "tuple") Option.none (.seq #[.str "term" 365,.str "term" 366]) #[])::
 (nat_lit 120,.mk (.type "tuple") Option.none (.seq #[.str "term" 368,.str "term" 369]) #[])::
 (nat_lit 121,.mk (.type "tuple") Option.none (.seq #[.str "term" 371]) #[])::
 (nat_lit 122,.mk (.type "tuple") Option.none (.seq #[.str "term" 373]) #[])::
 (nat_lit 123,.mk (.type "tuple") Option.none (.seq #[.str "term" 375,.str "term" 376]) #[])::
 (nat_lit 124,.mk (.type "tuple") Option.none (.seq #[.str "term" 378,.str "kind" 379]) #[])::
 (nat_lit 130,co "check_term" 396 68 1 125 181 126 (.ref 127) (.ref 128) 129 400 401)::
 (nat_lit 131,fo "check_term" (top 25) "castwright.terms" 330 130)::
 (nat_lit 137,co "is_term" 403 71 1 132 181 133 (.ref 134) (.ref 135) 136 407 408)::
 (nat_lit 138,fo "is_term" (top 26) "castwright.terms" 330 137)::
 (nat_lit 144,co "form_of" 410 73 1 139 181 140 (.ref 141) (.ref 142) 143 414 415)::
 (nat_lit 145,fo "form_of" (top 27) "castwright.terms" 330 144)::
 (nat_lit 149,co "parts_of" 417 75 1 146 181 147 .none .none 148 420 421)::
 (nat_lit 150,fo "parts_of" (top 28) "castwright.terms" 330 149)::
 (nat_lit 154,co "has_term_form" 423 79 1 151 181 152 .none .none 153 426 427)::
 (nat_lit 155,fo "has_term_form" (top 29) "castwright.terms" 330 154)::
 (nat_lit 161,co "is_of_sort" 429 86 2 156 181 157 (.ref 158) (.ref 159) 160 434 435)::
 (nat_lit 162,fo "is_of_sort" (top 30) "castwright.terms" 330 161)::
 (nat_lit 168,co "is_number" 437 98 1 163 181 164 (.ref 165) (.ref 166) 167 441 442)::
 (nat_lit 169,fo "is_number" (top 31) "castwright.terms" 330 168)::
 (nat_lit 173,co "are_term_fields" 444 102 1 170 181 171 .none .none 172 447 448)::
 (nat_lit 174,fo "are_term_fields" (top 32) "castwright.terms" 330 173)::
 (nat_lit 180,co "is_term_field" 450 106 1 175 181 176 (.ref 177) (.ref 178) 179 454 455)::
 (nat_lit 181,fo "is_term_field" (top 33) "castwright.terms" 330 180)::
 (nat_lit 187,co "forgettings" 459 109 1 182 181 183 (.ref 184) (.ref 185) 186 463 464)::
 (nat_lit 188,fo "forgettings" (top 35) "castwright.forgets" 457 187)::
 (nat_lit 192,co "kinds_told" 466 112 1 189 181 190 .none .none 191 469 470)::
 (nat_lit 193,fo "kinds_told" (top 36) "castwright.forgets" 457 192)::
 (nat_lit 197,co "told_by" 472 115 1 194 181 195 .none .none 196 475 476)::
 (nat_lit 198,fo "told_by" (top 37) "castwright.forgets" 457 197)::
 (nat_lit 204,co "all_told" 478 117 1 199 181 200 (.ref 201) (.ref 202) 203 484 485)::
 (nat_lit 205,fo "all_told" (top 38) "castwright.forgets" 457 204)::
 (nat_lit 209,co "less_terms" 487 122 1 206 181 207 .none .none 208 490 491)::
 (nat_lit 210,fo "less_terms" (top 39) "castwright.forgets" 457 209)::
 (nat_lit 214,co "less_kinds" 493 130 1 211 181 212 .none .none 213 496 497)::
 (nat_lit 215,fo "less_kinds" (top 40) "castwright.forgets" 457 214)::
 (nat_lit 221,co "with_one" 499 138 3 216 181 217 (.ref 218) (.ref 219) 220 505 506)::
 (nat_lit 222,fo "with_one" (top 41) "castwright.forgets" 457 221)::
 (nat_lit 226,co "with_kinds_within" 508 140 2 223 181 224 .none .none 225 511 512)::
 (nat_lit 227,fo "with_kinds_within" (top 42) "castwright.forgets" 457 226)::
 (nat_lit 231,co "with_kind" 514 145 2 228 181 229 .none .none 230 517 518)::
 (nat_lit 232,fo "with_kind" (top 43) "castwright.forgets" 457 231)::
 (nat_lit 236,co "with_parts" 520 148 2 233 181 234 .none .none 235 523 524)::
 (nat_lit 237,fo "with_parts" (top 44) "castwright.forgets" 457 236)::
 (nat_lit 243,co "_law_state" 528 158 2 238 181 239 (.ref 240) (.ref 241) 242 534 535)::
 (nat_lit 244,fo "_law_state" (top 46) "law_castwright_k73_forgettings" 526 243)::
 (nat_lit 250,co "_law_take" 537 165 2 245 181 246 (.ref 247) (.ref 248) 249 544 545)::
 (nat_lit 251,fo "_law_take" (top 47) "law_castwright_k73_forgettings" 526 250)::
 (nat_lit 257,co "_law_whole" 547 175 1 252 181 253 (.ref 254) (.ref 255) 256 551 552)::
 (nat_lit 258,fo "_law_whole" (top 48) "law_castwright_k73_forgettings" 526 257)::
 (nat_lit 264,co "_law_kind" 554 177 2 259 181 260 (.ref 261) (.ref 262) 263 563 564)::
 (nat_lit 265,fo "_law_kind" (top 49) "law_castwright_k73_forgettings" 526 264)::
 (nat_lit 269,co "_law_least" 566 191 2 266 181 267 .none .none 268 569 570)::
 (nat_lit 270,fo "_law_least" (top 50) "law_castwright_k73_forgettings" 526 269)::
 (nat_lit 274,co "_law_dim" 572 202 2 271 181 272 .none .none 273 575 576)::
 (nat_lit 275,fo "_law_dim" (top 51) "law_castwright_k73_forgettings" 526 274)::
 (nat_lit 281,co "_law_blur" 578 208 2 276 181 277 (.ref 278) (.ref 279) 280 583 584)::
 (nat_lit 282,fo "_law_blur" (top 52) "law_castwright_k73_forgettings" 526 281)::
 (nat_lit 286,co "_law_by_name" 586 210 4 283 181 284 .none .none 285 589 590)::
 (nat_lit 287,fo "_law_by_name" (top 53) "law_castwright_k73_forgettings" 526 286)::
 (nat_lit 293,co "_law_term" 592 225 4 288 181 289 (.ref 290) (.ref 291) 292 608 609)::
 (nat_lit 294,fo "_law_term" (top 54) "law_castwright_k73_forgettings" 526 293)::
 (nat_lit 300,co "_law_any_first" 611 261 4 295 181 296 (.ref 297) (.ref 298) 299 621 622)::
 (nat_lit 301,fo "_law_any_first" (top 55) "law_castwright_k73_forgettings" 526 300)::
 (nat_lit 307,co "_law_around" 624 267 4 302 181 303 (.ref 304) (.ref 305) 306 637 638)::
 (nat_lit 308,fo "_law_around" (top 56) "law_castwright_k73_forgettings" 526 307)::
 (nat_lit 312,co "_law_parts" 640 296 1 309 181 310 .none .none 311 643 644)::
 (nat_lit 313,fo "_law_parts" (top 57) "law_castwright_k73_forgettings" 526 312)::
 (nat_lit 317,co "_law_size" 646 302 1 314 181 315 .none .none 316 649 650)::
 (nat_lit 318,fo "_law_size" (top 58) "law_castwright_k73_forgettings" 526 317)::
 (nat_lit 324,co "_law_drawn" 652 305 2 319 181 320 (.ref 321) (.ref 322) 323 661 662)::
 (nat_lit 325,fo "_law_drawn" (top 59) "law_castwright_k73_forgettings" 526 324)::
 (nat_lit 331,co "_law_less_kinds" 664 313 1 326 181 327 (.ref 328) (.ref 329) 330 674 675)::
 (nat_lit 332,fo "_law_less_kinds" (top 60) "law_castwright_k73_forgettings" 526 331)::
 (nat_lit 338,co "_law_less_terms" 677 329 1 333 181 334 (.ref 335) (.ref 336) 337 685 686)::
 (nat_lit 339,fo "_law_less_terms" (top 61) "law_castwright_k73_forgettings" 526 338)::
 (nat_lit 343,co "_law_count" 688 344 1 340 181 341 .none .none 342 691 692)::
 (nat_lit 344,fo "_law_count" (top 62) "law_castwright_k73_forgettings" 526 343)::
 (nat_lit 348,co "_law_told" 694 348 1 345 181 346 .none .none 347 697 698)::
 (nat_lit 349,fo "_law_told" (top 63) "law_castwright_k73_forgettings" 526 348)::
 (nat_lit 353,co "law" 700 353 1 350 181 351 .none .none 352 703 704)::
 (nat_lit 354,fo "law" (top 64) "law_castwright_k73_forgettings" 526 353)::
 []
noncomputable def KL:List Addr:=2::3::15::22::23::24::25::28::35::36::37::40::41::47::48::52::53::59::60::66::67::71::72::78::79::83::84::90::91::95::96::102::103::107::108::109::110::111::112::113::114::115::116::117::118::119::120::121::122::123::124::130::131::137::138::144::145::149::150::154::155::161::162::168::169::173::174::180::181::187::188::192::193::197::198::204::205::209::210::214::215::221::222::226::227::231::232::236::237::243::244::250::251::257::258::264::265::269::270::274::275::281::282::286::287::293::294::300::301::307::308::312::313::317::318::324::325::331::332::338::339::343::344::348::349::353::354::[]
theorem kfe(P:Params):KL=(KF P).map (·.1):=by kernel_rfl
section
open PySem.W
abbrev OE(w:World):=openEnds treeTable pwS w 4730
abbrev FS(s:Shared):=openSeen vwS ["LENGTHS","FORMS"] (importedModules pwS.main.body) (λs=>xlAt vwS [] s&&recOk (RowW.records rwS.row.toRowW) s) true s
abbrev OB(s:Shared):=(kHook KF KL kfe).obs s
abbrev VA(w:World):=(kHook KF KL kfe).val w
abbrev GD:=openGood vwS ["LENGTHS","FORMS"]
abbrev LB(w:World):Prop:=(OE w).map (λs=>(FS s,OB s))=some (GD,VA w)
theorem mp2{α β γ:Type}{o:Option α}{f:α->β×γ}{g:β×γ}(h1:o.map (λs=>(f s).1)=some g.1)(h2:o.map (λs=>(f s).2)=some g.2):o.map f=some g:=by
 cases o with
 | none=>cases h1
 | some s=>exact congrArg some (Prod.ext (YD h1) (YD h2))
theorem U3(w:World):(OE (w.withFollow "special-get-raises" false)).map (λs=>OB s)=some (VA (w.withFollow "special-get-raises" false)):=by kernel_rfl
theorem U4(w:World):(OE (w.withFollow "special-get-raises" false)).map (λs=>FS s)=some (GD):=by kernel_rfl
theorem lbf(w:World):LB (w.withFollow "special-get-raises" false):=mp2 (f:=λs=>(FS s,OB s)) (g:=(GD,VA (w.withFollow "special-get-raises" false))) (U4 w) (U3 w)
theorem U5(w:World):(OE (w.withFollow "special-get-raises" true)).map (λs=>OB s)=some (VA (w.withFollow "special-get-raises" true)):=by kernel_rfl
theorem U6(w:World):(OE (w.withFollow "special-get-raises" true)).map (λs=>FS s)=some (GD):=by kernel_rfl
theorem lbt(w:World):LB (w.withFollow "special-get-raises" true):=mp2 (f:=λs=>(FS s,OB s)) (g:=(GD,VA (w.withFollow "special-get-raises" true))) (U6 w) (U5 w)
end
end KS
namespace L2
open PySem PySem.Spec PyProof.Rows
abbrev Key:=Sum Int Str
def D1:Key->Value->Bool
 | .inl k,v=>Value.isInt k v
 | .inr x,v=>Value.isStrOf x v
def U7(w:World):Key->Int
 | .inl k=>hashInt k
 | .inr x=>hashStr w x
theorem C6:∀{k:Key}{v:Value},D1 k v=true->(∃ i t,k=Sum.inl i/\v=Value.int i t)\/(∃ x t,k=Sum.inr x/\v=Value.str x t)
 | .inl i,v,h=>by
  obtain⟨t,e⟩:=Value.isInt_shape (k:=i) (v:=v) h
  exact .inl ⟨i,t,rfl,e⟩
 | .inr x,v,h=>by
  obtain⟨t,e⟩:=Value.isStrOf_shape (x:=x) (v:=v) h
  exact .inr ⟨x,t,rfl,e⟩
theorem U8(x:Str)(t:Tok):D1 (.inr x) (.str x t)=true:=by simp[D1,Value.isStrOf]
theorem U9(a b:Int):decide ((Sum.inl a:Key)=Sum.inl b)=(a==b):=by
 by_cases e:a=b
 ·subst e;simp
 ·have h:¬ (Sum.inl a:Key)=Sum.inl b:=λq=>e (Sum.inl.inj q)
  rw[decide_eq_false h]
  exact(beq_eq_false_iff_ne.mpr e).symm
theorem Va(a b:Str):decide ((Sum.inr a:Key)=Sum.inr b)=decide (a=b):=by
 by_cases e:a=b
 ·subst e;simp
 ·have h:¬ (Sum.inr a:Key)=Sum.inr b:=λq=>e (Sum.inr.inj q)
  rw[decide_eq_false h,decide_eq_false e]
theorem Vb(a:Int)(b:Str):decide ((Sum.inl a:Key)=Sum.inr b)=false:=decide_eq_false (λq=>nomatch q)
theorem Vc(a:Str)(b:Int):decide ((Sum.inr a:Key)=Sum.inl b)=false:=decide_eq_false (λq=>nomatch q)
def Bs(prog:Program)(w:World):PySem.KeyKind prog w Key where
 is:=D1
 hash:=U7 w
 inj:=λv a b ha hb=>by
  rcases C6 ha with⟨i,t,rfl,rfl⟩|⟨x,t,rfl,rfl⟩
  ·rcases C6 hb with⟨j,u,rfl,e⟩|⟨y,u,rfl,e⟩
   ·injection e with e1 _;rw[e1]
   ·exact nomatch e
  ·rcases C6 hb with⟨j,u,rfl,e⟩|⟨y,u,rfl,e⟩
   ·exact nomatch e
   ·injection e with e1 _;rw[e1]
 byValue:=λk v h=>by
  rcases C6 h with⟨i,t,rfl,rfl⟩|⟨x,t,rfl,rfl⟩ <;> rfl
 pyHash:=λhv h=>by
  rcases C6 hv with⟨i,t,rfl,rfl⟩|⟨x,t,rfl,rfl⟩
  ·exact wpAny_pyHash_int h
  ·exact wpAny_pyHash_str h
 eqBool:=λhu hv h=>by
  rcases C6 hu with⟨i,t,rfl,rfl⟩|⟨x,t,rfl,rfl⟩
  ·rcases C6 hv with⟨j,u,rfl,rfl⟩|⟨y,u,rfl,rfl⟩
   ·rw[U9]at h;exact wpAny_eqBool_int h
   ·rw[Vb]at h;exact SeqAt.EqAt.int_str i t y u _ _ _ _ h
  ·rcases C6 hv with⟨j,u,rfl,rfl⟩|⟨y,u,rfl,rfl⟩
   ·rw[Vc]at h;exact SeqAt.EqAt.str_int x t j u _ _ _ _ h
   ·rw[Va]at h;exact wpAny_eqBool_str h
 «strs»:=λk x t v h=>by
  rcases C6 h with⟨i,u,rfl,e⟩|⟨y,u,rfl,e⟩
  ·exact nomatch e
  ·injection e with e1 _
   subst e1
   cases v <;> rfl
theorem Vd(prog:Program)(w:World)(x:Str)(t:Tok):(Bs prog w).is (.inr x) (.str x t)=true:=U8 x t
inductive V where
 | non | bl (b:Bool)| int (i:Int)| str (x:Str)| byt (b:Array UInt8)| flt (b:UInt64)| ref (a:Addr)| ty (n:String)
 deriving DecidableEq
def RelV:V->Value->Prop
 | .non,u=>u=Value.none
 | .bl b,u=>u=Value.bool b
 | .int i,u=>∃ t,u=Value.int i t
 | .str x,u=>∃ t,u=Value.str x t
 | .byt b,u=>∃ t,u=Value.bytes b t
 | .flt b,u=>∃ t,u=Value.float b t
 | .ref a,u=>u=Value.ref a
 | .ty n,u=>u=Value.type n
abbrev Vals:List V->List Value->Prop:=Paired RelV
variable {us:List Value}
theorem Vals.length{xs:List V}(r:Vals xs us):xs.length=us.length:=Paired.length r
theorem Vals.get:∀{xs:List V}{us:List Value}{i:Nat}{x:V},Vals xs us->xs[i]?=some x->∃ u,us[i]?=some u/\RelV x u
 | _,_,_,_,.nil,e=>by simp at e
 | _,_,0,_,.cons r _,e=>by simp at e;subst e;exact⟨_,rfl,r⟩
 | _,_,i+1,x,.cons _ t,e=>by
  obtain⟨u,h1,h2⟩:=Vals.get (i:=i) (x:=x) t (by simpa using e)
  exact⟨u,by simpa using h1,h2⟩
theorem Vals.set{x:V}{u:Value}(r:RelV x u):∀{xs:List V}{us:List Value}(i:Nat),Vals xs us->Vals (xs.set i x) (us.set i u)
 | _,_,_,.nil=>.nil
 | _,_,0,.cons _ t=>.cons r t
 | _,_,i+1,.cons q t=>.cons q (Vals.set r i t)
theorem Vals.append:∀{xs ys:List V}{us a:List Value},Vals xs us->Vals ys a->Vals (xs++ys) (us++a)
 | _,_,_,_,.nil,s=>s
 | _,_,_,_,.cons r t,s=>.cons r (Vals.append t s)
theorem Vals.take:∀{xs:List V}{us:List Value}(n:Nat),Vals xs us->Vals (xs.take n) (us.take n)
 | _,_,0,_=>.nil
 | _,_,_+1,.nil=>.nil
 | _,_,n+1,.cons r t=>.cons r (Vals.take n t)
theorem Vals.drop:∀{xs:List V}{us:List Value}(n:Nat),Vals xs us->Vals (xs.drop n) (us.drop n)
 | _,_,0,r=>r
 | _,_,_+1,.nil=>.nil
 | _,_,n+1,.cons _ t=>Vals.drop n t
def Nd:Option V->Option Value->Prop
 | some v,some u=>RelV v u
 | none,none=>True
 | _,_=>False
def KV{κ:Type}:List (κ×V)->List (κ×Value)->Prop:=Paired λ(p:κ×V)(q:κ×Value)=>p.1=q.1/\RelV p.2 q.2
def kV:Key->V
 | .inl i=>.int i
 | .inr x=>.str x
inductive HO where
 | lst (xs:List V)
 | tup (xs:List V)
 | dK (kvs:List (Key×V))| dT (kvs:List (List Key×V))
 | set (S:Int->Bool) (n:Nat)
 | ins (C dx:Addr) (fs:List (Str×V))
 | own (x:Addr)
 | xd (fs:List (Str×V))
 | met (f x:Addr)
 | rng (lo hi:Int)
 | frz (o:Obj) (u:HO)
 | tbl (ps:Array Value)
 | ext (φ:Heap->Prop)
abbrev Hp:=Addr->Option HO
def upd(H:Hp)(a:Addr)(o:HO):Hp:=λb=>if b=a then some o else H b
variable {H:Hp}{a:Addr}{o:HO}
theorem BO:upd H a o a=some o:=by unfold upd;rw[if_pos rfl]
variable {b:Addr}
theorem A4(h:b≠a):upd H a o b=H b:=by unfold upd;rw[if_neg h]
theorem EM(h:H a=some o)(h':H b=none):a≠b:=by
 intro e;subst e;rw[h]at h';cases h'
def TupP(h:Heap)(a:Addr)(items:Array Value):Prop:=∃ o,h.get? a=some o/\o.cls=.type "tuple"/\o.dict=none/\∃ n,o.data=.seq items n
theorem TupP.new(h:Heap)(items:Array Value):TupP (h.push {cls:=.type "tuple",data:=.seq items}) h.objs.size items:=⟨_,Qk _ rfl,rfl,rfl,_,rfl⟩
variable {h:Heap}
theorem TupP.up{items:Array Value}(x:TupP h a items):IsTup h a items:=let⟨o,e,c,_,d⟩:=x;⟨o,e,c,d⟩
def NoD(h:Heap)(a:Addr):Prop:=∃ o,h.get? a=some o/\o.dict=none
section
variable (P:Program) (w:World)
def ObjOk(H:Hp)(h:Heap)(a:Addr):HO->Prop
 | .lst xs=>xs.length<=sizeLine/\∃(its:List Value)(n:Nat),Vals xs its/\h.get? a=some {cls:=.type "list",data:=.seq its.toArray n}
 | .tup xs=>xs.length<=sizeLine/\∃ its:List Value,Vals xs its/\TupP h a its.toArray
 | .dK kvs=>kvs.length<=sizeLine/\(a==sysModules)=false/\∃ vs,KV kvs vs/\h.DictOf (Bs P w) a vs
 | .dT kvs=>kvs.length<=sizeLine/\(a==sysModules)=false/\∃ xs:List (List Key×Addr×Value),
   Paired (λ(p:List Key×V)(q:List Key×Addr×Value)=>p.1=q.1/\H q.2.1=some (.tup (p.1.map kV))/\RelV p.2 q.2.2) kvs xs/\
   ∃ o es ep,h.get? a=some o/\o.ExactDict/\o.data=.dict es ep/\es.toList=xs.map (entryOfKey (tupleKind (Bs P w)))/\(xs.map (·.1)).Nodup
 | .set S n=>h.SetOf (intKind P w) a S n
 | .ins C dx fs=>H dx=some (.own a)/\fs.length<=1000/\dx≠a/\h.get? a=some (PySem.W.instObj C dx)/\
   ∃ mA,h.Ns1 dx mA/\(∀ f,Nd (fs.lookup f) (mA f))/\PySem.Within mA (fs.map (·.1))
 | .own _=>∃ o,h.get? a=some o
 | .xd fs=>∃ mA,h.Ns1 a mA/\∀ f,Nd (fs.lookup f) (mA f)
 | .rng lo hi=>∃ t u v,h.get? a=some {cls:=.type "range",data:=.fields #[.int lo t,.int hi u,.int 1 v]}
 | .frz o u=>h.get? a=some o/\ObjOk H h a u
 | .tbl ps=>h.get? a=some {cls:=.none,data:=.fields ps}
 | .met f x=>h.get? a=some (PySem.W.methodObj (.ref f) (.ref x))
 | .ext φ=>φ h/\(∃ o,h.get? a=some o)/\∀ h1 h2:Heap,φ h1->(∀ o,h1.get? a=some o->h2.get? a=some o)->φ h2
def HOk(H:Hp)(h:Heap):Prop:=∀ a o,H a=some o->ObjOk P w H h a o
end
section
variable {P:Program} {w:World} {H H':Hp} {h h':Heap} {a:Addr} {o:HO}
theorem ObjOk.lt(x:ObjOk P w H h a o):a < h.objs.size:=by
 cases o with
 | lst xs=>obtain⟨_,_,_,_,e⟩:=x;exact Qj e
 | tup xs=>obtain⟨_,_,_,p⟩:=x;exact p.up.lt
 | dK b=>obtain⟨_,_,_,_,o,_,_,e,_⟩:=x;exact Qj e
 | dT b=>obtain⟨_,_,_,_,o,_,_,e,_⟩:=x;exact Qj e
 | set S n=>obtain⟨o,_,_,_,e,_⟩:=x;exact Qj e
 | ins C dx fs=>obtain⟨_,_,_,e,_⟩:=x;exact Qj e
 | own y=>obtain⟨_,e⟩:=x;exact Qj e
 | xd fs=>obtain⟨_,⟨_,_,_,e,_⟩,_⟩:=x;exact Qj e
 | rng lo hi=>obtain⟨_,_,_,e⟩:=x;exact Qj e
 | frz c u=>obtain⟨e,_⟩:=x;exact Qj e
 | tbl ps=>exact Qj (show h.get? a=some _ from x)
 | met f y=>exact Qj (show h.get? a=some _ from x)
 | ext φ=>obtain⟨_,⟨_,e⟩,_⟩:=x;exact Qj e
theorem Paired.mapP{α β:Type}{F G:α->β->Prop}:∀{c:List α}{d:List β},Paired F c d->(∀ a b,F a b->G a b)->Paired G c d
 | _,_,.nil,_=>.nil
 | _,_,.cons r t,f=>.cons (f _ _ r) (Paired.mapP t f)
theorem ObjOk.stay(x:ObjOk P w H h a o)(k:∀ b u,(b=a\/H b=some (.own a))->h.get? b=some u->h'.get? b=some u)
  (B:∀ b,H b=some (.own a)->H' b=some (.own a)) (A:∀ b xs,H b=some (.tup xs)->H' b=some (.tup xs)):ObjOk P w H' h' a o:=by
 induction o with
 | lst xs=>obtain⟨z,j,n,r,e⟩:=x;exact⟨z,j,n,r,k _ _ (.inl rfl) e⟩
 | tup xs=>obtain⟨z,j,r,g,e,c⟩:=x;exact⟨z,j,r,g,k _ _ (.inl rfl) e,c⟩
 | dK l=>obtain⟨z,y,s,r,g,es,i,e,c⟩:=x;exact⟨z,y,s,r,g,es,i,k _ _ (.inl rfl) e,c⟩
 | dT l =>
  obtain⟨z,y,xs,r,g,es,i,e,c⟩:=x
  exact⟨z,y,xs,Paired.mapP r λp q z=>⟨z.1,A _ _ z.2.1,z.2.2⟩,g,es,i,k _ _ (.inl rfl) e,c⟩
 | set S n=>obtain⟨g,es,i,t,e,c⟩:=x;exact⟨g,es,i,t,k _ _ (.inl rfl) e,c⟩
 | ins C dx fs =>
  obtain⟨d,z,ne,e,mA,⟨m,es,i,E,c⟩,r⟩:=x
  exact⟨B _ d,z,ne,k _ _ (.inl rfl) e,mA,⟨m,es,i,k _ _ (.inr d) E,c⟩,r⟩
 | own y=>obtain⟨g,e⟩:=x;exact⟨g,k _ _ (.inl rfl) e⟩
 | xd fs=>obtain⟨mA,⟨m,es,i,e,c⟩,r⟩:=x;exact⟨mA,⟨m,es,i,k _ _ (.inl rfl) e,c⟩,r⟩
 | rng lo hi=>obtain⟨t,u,v,e⟩:=x;exact⟨t,u,v,k _ _ (.inl rfl) e⟩
 | frz g u D=>obtain⟨e,q⟩:=x;exact⟨k _ _ (.inl rfl) e,D q⟩
 | tbl ps =>
  have e:h.get? a=some {cls:=.none,data:=.fields ps}:=x
  show h'.get? a=some {cls:=.none,data:=.fields ps}
  exact k a _ (.inl rfl) e
 | met f y =>
  have e:h.get? a=some (PySem.W.methodObj (.ref f) (.ref y)):=x
  show h'.get? a=some (PySem.W.methodObj (.ref f) (.ref y))
  exact k a _ (.inl rfl) e
 | ext φ=>obtain⟨p,⟨o,e⟩,st⟩:=x;exact⟨st _ _ p λo q=>k _ _ (.inl rfl) q,⟨o,k _ _ (.inl rfl) e⟩,st⟩
theorem HOk.lt(x:HOk P w H h)(e:H a=some o):a < h.objs.size:=(x a o e).lt
theorem HOk.fresh(x:HOk P w H h)(e:h.objs.size<=a):H a=none:=by
 cases q:H a with
 | none=>rfl
 | some u=>exact absurd (Yu (x.lt q) e) (YJ _)
theorem HOk.kept(x:HOk P w H h)(k:∀ b u,h.get? b=some u->h'.get? b=some u):HOk P w H h':=λa o e=>
 (x a o e).stay (λb u _ q=>k b u q) (λ_ q=>q) λ_ _ q=>q
theorem HOk.laid(x:HOk P w H h)(k:∀ b u,h.get? b=some u->h'.get? b=some u)(g:h.objs.size<=a)(new:ObjOk P w (upd H a o) h' a o):HOk P w (upd H a o) h':=λb u e=>by
 have d:=x.fresh g
 by_cases f:b=a
 ·subst f;rw[BO]at e;cases e;exact new
 ·rw[A4 f]at e
  exact(x b u e).stay (λc v _ q=>k c v q) (λc q=>by rw[A4 (EM q d)];exact q) λc xs q=>by rw[A4 (EM q d)];exact q
end
def Rd(H:Hp)(a:Addr)(u:HO):Prop:=H a=some u\/∃ o,H a=some (.frz o u)
theorem Rd.of{u:HO}(h:H a=some u):Rd H a u:=.inl h
variable {P:Program}{w:World}
theorem Rd.ok{u:HO}(r:Rd H a u)(x:HOk P w H h):ObjOk P w H h a u:=by
 rcases r with r |⟨o,r⟩
 ·exact x a u r
 ·obtain⟨_,q⟩:=x a _ r
  exact q
def Mut:Option HO->Prop
 | some (.lst _)=>True
 | some (.dK _)=>True
 | some (.dT _)=>True
 | some (.set _ _)=>True
 | some (.ins _ _ _)=>True
 | some (.ext _)=>True
 | _=>False
section
variable {P:Program} {w:World} {H:Hp} {h h':Heap} {x e:Addr} {o':HO}
theorem HOk.write(ok:HOk P w H h)(i:Mut (H x))(l:e=x\/H e=some (.own x))(k:∀ b u,b≠e->h.get? b=some u->h'.get? b=some u)(j:∃ u,h'.get? e=some u)
  (new:ObjOk P w (upd H x o') h' x o'):HOk P w (upd H x o') h':=λb u q=>by
 have d:∀ c y,H c=some (.own y)->c≠x:=λc y r z=>by subst z;rw[r]at i;exact i
 have f:∀ c xs,H c=some (.tup xs)->c≠x:=λc xs r z=>by subst z;rw[r]at i;exact i
 by_cases g:b=x
 ·subst g;rw[BO]at q;cases q;exact new
 ·rw[A4 g]at q
  by_cases a:b=e
  ·have m:H b=some (.own x):=by
    rcases l with z | z
    ·exact absurd (a.trans z) g
    ·rw[a];exact z
   rw[q]at m;cases m
   obtain⟨v,n⟩:=j
   exact⟨v,by rw[a];exact n⟩
  ·refine(ok b u q).stay (λc v hc r=>k c v ?_ r) (λc r=>by rw[A4 (d c b r)];exact r) λc xs r=>by rw[A4 (f c xs r)];exact r
   rcases hc with rfl | hc
   ·exact a
   ·rintro rfl
    rcases l with z | z
    ·exact d c b hc z
    ·rw[hc]at z;cases z;exact g rfl
end
structure Un(fs ex:List Addr)(H H':Hp)(h h':Heap):Prop where
 keep:∀ b o,h.get? b=some o->H b=none->b∉fs->b∉ex->h'.get? b=some o
 slot:∀ b o,h.get? b=some o->H b=none->b∈fs->b∉ex->∃ sl,h'.get? b=some {o with slots:=sl}
 free:∀ b o,h.get? b=some o->H b=none->b∉ex->H' b=none
 there:∀ b o,h.get? b=some o->b∉ex->∃ o',h'.get? b=some o'
 tups:∀ b xs,H b=some (.tup xs)->H' b=some (.tup xs)
 frzs:∀ b o u,H b=some (.frz o u)->H' b=some (.frz o u)
 tbls:∀ b ps,H b=some (.tbl ps)->∃ more,H' b=some (.tbl (ps++more))
section
variable {fs fs' ex ex':List Addr} {H H1 H2:Hp} {h h1 h2 h':Heap} {a x e:Addr} {o:HO}
theorem Un.any(u:Un fs ex H H1 h h1){a:Obj}(q:h.get? b=some a)(n:H b=none)(c:b∉ex):∃ e,h1.get? b=some {a with slots:=e}:=by
 by_cases d:b∈fs
 ·exact u.slot b a q n d c
 ·exact⟨a.slots,u.keep b a q n d c⟩
theorem Un.trans(a:Un fs ex H H1 h h1)(b:Un fs ex H1 H2 h1 h2):Un fs ex H H2 h h2 where
 keep:=λc d q n hc e=>b.keep c d (a.keep c d q n hc e) (a.free c d q n e) hc e
 slot:=λc d q n hc e=>by
  obtain⟨l,f⟩:=a.slot c d q n hc e
  obtain⟨g,i⟩:=b.slot c _ f (a.free c d q n e) hc e
  exact⟨g,i⟩
 free:=λc d q n e=>by
  obtain⟨o',f⟩:=a.there c d q e
  exact b.free c o' f (a.free c d q n e) e
 there:=λc d q e=>by
  obtain⟨o',f⟩:=a.there c d q e
  exact b.there c o' f e
 tups:=λc xs q=>b.tups c xs (a.tups c xs q)
 frzs:=λc d xs q=>b.frzs c d xs (a.frzs c d xs q)
 tbls:=λc ps q=>by
  obtain⟨j,f⟩:=a.tbls c ps q
  obtain⟨k,i⟩:=b.tbls c _ f
  exact⟨j++k,by rw[i,Array.append_assoc]⟩
theorem Un.kept(k:∀ b u,h.get? b=some u->h'.get? b=some u):Un fs ex H H h h' :=
 ⟨λb a q _ _ _=>k b a q,λb a q _ _ _=>⟨a.slots,k b a q⟩,λ_ _ _ n _=>n,λb a q _=>⟨a,k b a q⟩,λ_ _ q=>q,λ_ _ _ q=>q,λ_ ps q=>⟨#[],by rw[q];simp⟩⟩
theorem Un.refl:Un fs ex H H h h:=Un.kept λ_ _ q=>q
theorem Un.laid(k:∀ b u,h.get? b=some u->h'.get? b=some u)(d:h.objs.size<=a)(c:H a=none):Un fs ex H (upd H a o) h h' where
 keep:=λb u q _ _ _=>k b u q
 slot:=λb u q _ _ _=>⟨u.slots,k b u q⟩
 free:=λb u q n _=>by rw[A4 (Ys (Yu (Qj q) d))];exact n
 there:=λb u q _=>⟨u,k b u q⟩
 tups:=λb xs q=>by rw[A4 (EM q c)];exact q
 frzs:=λb u xs q=>by rw[A4 (EM q c)];exact q
 tbls:=λb ps q=>⟨#[],by rw[A4 (EM q c),q];simp⟩
theorem Un.write(c:Mut (H x))(j:e=x\/H e=some (.own x))(k:∀ b u,b≠e->h.get? b=some u->h'.get? b=some u)(d:∃ u,h'.get? e=some u):Un fs ex H (upd H x o) h h':=by
 have g:∀ b,H b=none->b≠x:=λb n z=>by subst z;rw[n]at c;exact c
 have i:∀ b,H b=none->b≠e:=λb n z=>by
  subst z
  rcases j with r | r
  ·exact g b n r
  ·rw[n]at r;cases r
 have f:∀ b u,H b=some u->¬ Mut (some u)->b≠x:=λb u q nm z=>by subst z;rw[q]at c;exact nm c
 refine⟨λb u q n _ _=>k b u (i b n) q,λb u q n _ _=>⟨u.slots,k b u (i b n) q⟩,λb u q n _=>by rw[A4 (g b n)];exact n,λb u q _=>?_,
  λb xs q=>by rw[A4 (f b _ q λz=>z)];exact q,λb u xs q=>by rw[A4 (f b _ q λz=>z)];exact q,λb ps q=>⟨#[],by rw[A4 (f b _ q λz=>z),q];simp⟩⟩
 by_cases a:b=e
 ·subst a;exact d
 ·exact⟨u,k b u a q⟩
theorem Un.mono(u:Un fs ex H H1 h h1)(hs:∀ b∈fs,b∈fs')(d:∀ b∈ex,b∈ex'):Un fs' ex' H H1 h h1 :=
 ⟨λb c q n e a=>u.keep b c q n (λz=>e (hs b z)) λz=>a (d b z),λ_ _ q n _ a=>u.any q n λz=>a (d _ z),λb c q n a=>u.free b c q n λz=>a (d b z),λb c q a=>u.there b c q λz=>a (d b z),u.tups,u.frzs,u.tbls⟩
end
def trk(h:Heap)(H:Hp):List Addr:=(List.range h.objs.size).filter λa=>(H a).isSome
def Dm(h:Heap)(H:Hp):Heap:=PySem.W.hideAll h (trk h H)
theorem Ve(h:Heap)(H:Hp):(Dm h H).objs.size=h.objs.size:=PySem.W.hideAll_size _ _
theorem Vf{o:Obj}(e:h.get? b=some o)(n:H b=none):(Dm h H).get? b=some o :=
 PySem.W.hideAll_get _ e λa=>by
  have q:(H b).isSome=true:=(List.mem_filter.mp a).2
  rw[n]at q;simp at q
theorem Vg{o:Obj}(e:(Dm h H).get? b=some o):h.get? b=some o/\H b=none:=by
 have a:h.get? b=some o:=PySem.W.of_hideAll (trk h H) e
 refine⟨a,?_⟩
 cases q:H b with
 | none=>rfl
 | some x =>
  have c:b∈trk h H:=List.mem_filter.mpr ⟨List.mem_range.mpr (Qj a),by simp[q]⟩
  have z:(Dm h H).get? b=none:=PySem.W.hideAll_none (trk h H) c
  rw[z]at e;cases e
def Vh(g h:Heap)(L:Addr):List (Addr×Obj):=(List.range h.objs.size).filterMap λa=>if a=L\/(g.get? a).isSome=true then none else(h.get? a).map λo=>(a,o)
def Ao(g h:Heap)(L d:Addr):List (Addr×Obj):=(Vh g h L).filter λp=>decide (p.1≠d)
structure Mod(K:PySem.W.Frag)(mg:Str->Option Value)(base:Heap):Prop where
 kin:K.In base
 glob:base.Ns mainGlobals mg
 blt:∃ mb,base.Ns builtinsNs mb/\∀ x:Str,x≠"__name__"->mb x=bootBuiltins x
 nolimit:base.NoLimit
structure Cx where
 prog:Program
 w:World
 K:PySem.W.Frag
 mg:Str->Option Value
 base:Heap
 A:Around
 N:List Str
 s₀:Shared
 H₀:Hp
 env:Env
 outer:List Env
 stack:List Env
 ex:List Addr
 fn:Str->Bool
 calm:Bool
 pn:List (Addr×Obj)
 xe:Value->Shared->Prop
def frs(l:List Env):List Addr:=l.filterMap (·.frame)
abbrev Cx.fs(X:Cx):List Addr:=frs X.outer
def Vis(sc:Scope)(x:Str):Prop:=sc.names.lookup x=some .local\/sc.names.lookup x=some .cell\/sc.names.lookup x=some .free
def Loc(sc:Scope)(x:Str):Prop:=sc.names.lookup x=some .local\/sc.names.lookup x=some .cell
def Vi(env:Env)(h:Heap)(m:Str->Option Value)(x:Str)(u:Value):Prop :=
 (env.kindOf x=some .local/\m x=some u)\/((env.kindOf x=some .cell\/env.kindOf x=some .free)/\∃ c,env.cells.lookup x=some c/\h.IsCell c (some u))
structure Cx.Ok(X:Cx):Prop where
 mod:Mod X.K X.mg X.base
 kind:X.env.scope.kind=.function
 glob:X.env.globals=mainGlobals
 blt:X.env.builtins=builtinsNs
 above:X.s₀.heap.objs.size<=X.env.locals
 inj:∀ x y c,X.env.cells.lookup x=some c->X.env.cells.lookup y=some c->x=y
 has:∀ x,(X.env.kindOf x=some .cell\/X.env.kindOf x=some .free)->∃ c,X.env.cells.lookup x=some c
 cab:∀ x c,X.fn x=true->X.env.cells.lookup x=some c->X.s₀.heap.objs.size<=c
 hd:X.calm=true->X.A.handled=none
 frames:X.A.frames=some X.stack
 stk:X.stack=X.outer\/(X.stack=X.env::X.outer/\X.env.frame=some X.env.locals)
 exf:∀ b∈X.ex,b≠X.env.locals/\∀ x c,X.env.cells.lookup x=some c->c≠b
 bs:∀ b o,X.base.get? b=some o->X.s₀.heap.get? b=some o/\X.H₀ b=none
 bsz:X.base.objs.size<=X.s₀.heap.objs.size
 noex:∀ b o,X.base.get? b=some o->b∉X.ex
 exfs:∀ b∈X.ex,b∉X.fs
 funs:X.s₀.heap.FunFrames X.base X.outer
 frf:∀ b∈X.fs,X.H₀ b=none
structure Inv(X:Cx)(pins:List (Addr×Obj))(σ:List (Option V))(H:Hp)(s:Shared):Prop where
 ok:X.Ok
 os:s.os=X.s₀.os
 bare:AllBare s.gens
 base:Un X.fs X.ex X.H₀ H X.s₀.heap s.heap
 loc:∃ m,s.heap.Ns X.env.locals m/\∀(i:Nat)(x:Str)(v:V),X.N[i]?=some x->σ[i]?=some (some v)->Vis X.env.scope x->∃ u,RelV v u/\Vi X.env s.heap m x u
 cell:∀ x c,X.env.cells.lookup x=some c->∃ v,s.heap.IsCell c v
 free:H X.env.locals=none
 freeC:∀ x c,X.env.cells.lookup x=some c->H c=none
 pin:∀ p∈X.pn++pins,s.heap.get? p.1=some p.2/\H p.1=none/\p.1≠X.env.locals/\p.1∉X.fs/\∀ v,p.2.data≠.cell v
 hok:HOk X.prog X.w H s.heap
 len:σ.length=X.N.length
section
variable {X:Cx} {pins:List (Addr×Obj)} {σ:List (Option V)} {H H':Hp} {s:Shared} {h':Heap}
theorem Cx.Ok.nofr(ok:X.Ok){o:Obj}(e:X.base.get? b=some o):b∉X.fs:=λa=>by
 have:=(ok.funs.mem a).1
 rw[e]at this;cases this
theorem Inv.bs(I:Inv X pins σ H s):∀ b o,X.base.get? b=some o->s.heap.get? b=some o/\H b=none:=λb o e=>
 ⟨I.base.keep b o (I.ok.bs b o e).1 (I.ok.bs b o e).2 (I.ok.nofr e) (I.ok.noex b o e),I.base.free b o (I.ok.bs b o e).1 (I.ok.bs b o e).2 (I.ok.noex b o e)⟩
theorem Inv.bk(I:Inv X pins σ H s):∀ b o,X.base.get? b=some o->s.heap.get? b=some o:=λb o e=>(I.bs b o e).1
theorem Inv.mod(I:Inv X pins σ H s):Mod X.K X.mg X.base:=I.ok.mod
theorem Inv.kIn(I:Inv X pins σ H s):X.K.In s.heap:=I.ok.mod.kin.keeps I.bk
theorem Inv.nolimit(I:Inv X pins σ H s):s.heap.NoLimit:=I.ok.mod.nolimit.keeps I.bk
theorem Inv.fr(I:Inv X pins σ H s):∃ m,Fr X.base X.env.locals s.heap m :=
 let⟨m,hn,_⟩:=I.loc
 ⟨m,hn,I.bk,Yt I.ok.bsz I.ok.above⟩
theorem Inv.lt(I:Inv X pins σ H s):X.env.locals < s.heap.objs.size:=let⟨_,hn,_⟩:=I.loc;hn.lt
theorem Inv.sz(I:Inv X pins σ H s):X.s₀.heap.objs.size<=s.heap.objs.size:=Yt I.ok.above (Nat.le_of_lt I.lt)
theorem Inv.nofs(I:Inv X pins σ H s)(h:s.heap.objs.size<=a):a∉X.fs:=λc=>by
 obtain⟨_,o,b,_⟩:=I.ok.funs.mem c
 exact absurd (Yu (Qj b) (Yt I.sz h)) (YJ _)
theorem Inv.cne(I:Inv X pins σ H s):∀ x c,X.env.cells.lookup x=some c->c≠X.env.locals:=λx c e z=>by
 obtain⟨v,o,d,hd⟩:=I.cell x c e
 obtain⟨m,⟨o',es,f,b,a,_⟩,_⟩:=I.loc
 rw[z,b]at d;cases d;rw[a]at hd;cases hd
theorem Inv.funs(I:Inv X pins σ H s):s.heap.FunFrames X.base X.outer:=by
 have all:∀(l:List Env),(∀ b∈frs l,b∈X.fs)->X.s₀.heap.FunFrames X.base l->s.heap.FunFrames X.base l:=by
  intro l
  induction l with
  | nil=>intro _ _;trivial
  | cons env r j =>
   intro hs hl
   obtain⟨i,⟨L,o,c,f,h,hd⟩,g⟩:=hl
   have d:L∈X.fs:=hs L (by unfold frs;rw[List.filterMap_cons,c];exact Ye)
   obtain⟨k,e⟩:=I.base.slot L o h (I.ok.frf L d) d λz=>I.ok.exfs L z d
   exact⟨i,⟨L,_,c,f,e,hd⟩,j (λb a=>hs b (by unfold frs;rw[List.filterMap_cons,c];exact Yd _ a)) g⟩
 exact all X.outer (λ_ a=>a) I.ok.funs
theorem Inv.stack(I:Inv X pins σ H s):s.heap.FunFrames X.base X.stack:=by
 rcases I.ok.stk with e |⟨e,b⟩
 ·rw[e];exact I.funs
 ·rw[e]
  obtain⟨m,a,_⟩:=I.loc
  refine .cons (by rw[I.ok.kind];decide) b a ?_ I.funs
  exact Heap.get?_none_of_le (Yt I.ok.bsz I.ok.above)
theorem Inv.stkSub(I:Inv X pins σ H s):∀ b∈frs X.stack,b∈X.env.locals::X.fs:=λb a=>by
 rcases I.ok.stk with e |⟨e,c⟩
 ·rw[e]at a;exact Yd _ a
 ·rw[e]at a
  unfold frs at a
  rw[List.filterMap_cons,c]at a
  exact a
theorem Inv.stkFree(I:Inv X pins σ H s):∀ b∈frs X.stack,H b=none:=λb a=>by
 rcases Yo.mp (I.stkSub b a)with e | a
 ·rw[e];exact I.free
 ·obtain⟨_,o,c,_⟩:=I.ok.funs.mem a
  exact I.base.free b o c (I.ok.frf b a) λz=>I.ok.exfs b z a
variable {g':Array GenState}{t':Nat}{d':Drawn}{ch:List Addr}
theorem Inv.step(I:Inv X pins σ H s)
  (f:∀ b∈ch,(b∈X.ex\/X.s₀.heap.objs.size<=b)/\b≠X.env.locals/\(∀ x c,X.env.cells.lookup x=some c->c≠b)/\∀ p∈X.pn++pins,p.1≠b)
  (keep:∀ b o,b≠X.env.locals->b∉X.fs->b∉ch->s.heap.get? b=some o->H b=none->h'.get? b=some o)
  (slot:∀ b o,b≠X.env.locals->b∈X.fs->b∉ch->s.heap.get? b=some o->H b=none->∃ F,h'.get? b=some {o with slots:=F}) (free:∀ b o,b∉ch->s.heap.get? b=some o->H b=none->H' b=none)
  (there:∀ b o,b∉ch->s.heap.get? b=some o->∃ o',h'.get? b=some o')
  (tups:∀ b xs,H b=some (.tup xs)->H' b=some (.tup xs)) (frzs:∀ b o u,H b=some (.frz o u)->H' b=some (.frz o u)) (tbls:∀ b ps,H b=some (.tbl ps)->∃ E,H' b=some (.tbl (ps++E)))
  (ns:∀ m,s.heap.Ns X.env.locals m->h'.Ns X.env.locals m) (hok:HOk X.prog X.w H' h') (N:AllBare g'):
  Inv X pins σ H' {s with heap:=h',gens:=g',drawn:=d',toks:=t'}:=by
 have B:∀ b o,X.s₀.heap.get? b=some o->b≠X.env.locals:=λb o e=>Ys (Yu (Qj e) I.ok.above)
 have t:∀ b o,X.s₀.heap.get? b=some o->b∉X.ex->b∉ch:=λb o e a y=>by
  rcases(f b y).1 with z | z
  ·exact a z
  ·exact absurd (Yu (Qj e) z) (YJ _)
 have h:∀ x c,X.env.cells.lookup x=some c->∀ v,s.heap.IsCell c v->h'.IsCell c v:=by
  rintro x c e v ⟨o,A,hd⟩
  have g:c∉ch:=λz=>(f c z).2.2.1 x c e rfl
  by_cases hc:c∈X.fs
  ·obtain⟨F,q⟩:=slot c o (I.cne x c e) hc g A (I.freeC x c e)
   exact⟨_,q,hd⟩
  ·exact⟨o,keep c o (I.cne x c e) hc g A (I.freeC x c e),hd⟩
 refine⟨I.ok,I.os,N,⟨λb o e n y a=>?_,λb o e n y a=>?_,λb o e n a=>?_,λb o e a=>?_,λb xs e=>tups b xs (I.base.tups b xs e),λb o xs e=>frzs b o xs (I.base.frzs b o xs e),λb ps e=>?_⟩,?_,λx c e=>?_,?_,λx c e=>?_,λp K=>?_,hok,I.len⟩
 ·exact keep b o (B b o e) y (t b o e a) (I.base.keep b o e n y a) (I.base.free b o e n a)
 ·obtain⟨F,j⟩:=I.base.slot b o e n y a
  obtain⟨G,D⟩:=slot b _ (B b o e) y (t b o e a) j (I.base.free b o e n a)
  exact⟨G,D⟩
 ·obtain⟨o',j⟩:=I.base.there b o e a
  exact free b o' (t b o e a) j (I.base.free b o e n a)
 ·obtain⟨o',j⟩:=I.base.there b o e a
  exact there b o' (t b o e a) j
 ·obtain⟨Q,j⟩:=I.base.tbls b ps e
  obtain⟨L,D⟩:=tbls b _ j
  exact⟨Q++L,by rw[D,Array.append_assoc]⟩
 ·obtain⟨m,P,hl⟩:=I.loc
  refine⟨m,ns m P,λi x v j D O=>?_⟩
  obtain⟨u,r,l⟩:=hl i x v j D O
  refine⟨u,r,?_⟩
  rcases l with l |⟨k,c,e,z⟩
  ·exact .inl l
  ·exact .inr ⟨k,c,e,h x c e _ z⟩
 ·obtain⟨v,z⟩:=I.cell x c e
  exact⟨v,h x c e v z⟩
 ·obtain⟨m,⟨o,_,_,A,_⟩,_⟩:=I.loc
  exact free _ o (λz=>(f _ z).2.1 rfl) A I.free
 ·obtain⟨v,o,A,hd⟩:=I.cell x c e
  exact free c o (λz=>(f c z).2.2.1 x c e rfl) A (I.freeC x c e)
 ·obtain⟨e,n,ne,J,d⟩:=I.pin p K
  have g:p.1∉ch:=λz=>(f p.1 z).2.2.2 p K rfl
  exact⟨keep p.1 p.2 ne J g e n,free p.1 p.2 g e n,ne,J,d⟩
theorem Inv.un(I:Inv X pins σ H s)(u:Un X.fs [] H H' s.heap h')(hok:HOk X.prog X.w H' h'):Inv X pins σ H' {s with heap:=h',toks:=t'}:=by
 obtain⟨m,⟨o,es,k,f,r⟩,_⟩:=id I.loc
 obtain⟨i,h⟩:=u.any f I.free (by simp)
 exact I.step (g':=s.gens) (d':=s.drawn) (ch:=[]) (λ_ z=>nomatch z) (λb o _ d _ e n=>u.keep b o e n d (by simp)) (λb o _ d _ e n=>u.slot b o e n d (by simp)) (λb o _ e n=>u.free b o e n (by simp)) (λb o _ e=>u.there b o e (by simp)) u.tups u.frzs u.tbls (λj g=>by
  obtain⟨o',es',c,a,r'⟩:=g
  rw[f]at a;cases a
  exact⟨_,es',c,h,r'⟩) hok I.bare
theorem Inv.call(I:Inv X pins σ H s)(u:Un (frs X.stack) ch H H' s.heap h')(hok:HOk X.prog X.w H' h')(k:AllBare g')
  (a:∀ b∈ch,(b∈X.ex\/X.s₀.heap.objs.size<=b)/\b≠X.env.locals/\(∀ x c,X.env.cells.lookup x=some c->c≠b)/\∀ p∈X.pn++pins,p.1≠b):
  Inv X pins σ H' {s with heap:=h',gens:=g',drawn:=d',toks:=t'}:=by
 obtain⟨m,⟨o,es,t,h,r⟩,_⟩:=id I.loc
 obtain⟨l,g⟩:=u.any h I.free λz=>(a _ z).2.1 rfl
 exact I.step (ch:=ch) a (λb o g i hc e n=>u.keep b o e n (λz=>(Yo.mp (I.stkSub b z)).elim g i) hc) (λb o _ _ hc e n=>u.any e n hc) (λb o hc e n=>u.free b o e n hc) (λb o hc e=>u.there b o e hc) u.tups u.frzs u.tbls (λq j=>by
  obtain⟨o',es',f,d,r'⟩:=j
  rw[h]at d;cases d
  exact⟨_,es',f,g,r'⟩) hok k
theorem Inv.turned(I:Inv X pins σ H s)(k:∀ b o,b≠a->s.heap.get? b=some o->h'.get? b=some o)(g:H a=none)(f:a≠X.env.locals)
  (h1:a∈X.ex\/X.s₀.heap.objs.size<=a) (h2:∀ x c,X.env.cells.lookup x=some c->c≠a) (t:∀ p∈X.pn++pins,p.1≠a):Inv X pins σ H {s with heap:=h',toks:=t'}:=by
 have d:∀ b u,H b=some u->b≠a:=λb u e z=>by rw[z,g]at e;cases e
 refine I.step (g':=s.gens) (d':=s.drawn) (ch:=[a]) (λb i=>?_) (λb o _ _ hc e _=>k b o (λz=>hc (by simp[z])) e) (λb o _ _ hc e _=>⟨o.slots,k b o (λz=>hc (by simp[z])) e⟩) (λ_ _ _ _ n=>n)
  (λb o hc e=>⟨o,k b o (λz=>hc (by simp[z])) e⟩) (λ_ _ e=>e) (λ_ _ _ e=>e) (λb ps e=>⟨#[],by rw[e];simp⟩) (λm j=>?_) (λb u e=>?_) I.bare
 ·have e:b=a:=by simpa using i
  subst e
  exact⟨h1,f,h2,t⟩
 ·obtain⟨o,es,l,h,r⟩:=j
  exact⟨o,es,l,k _ o (YU f) h,r⟩
 ·refine(I.hok b u e).stay (λc v hc q=>k c v ?_ q) (λ_ q=>q) λ_ _ q=>q
  rcases hc with z | z
  ·rw[z];exact d b u e
  ·exact d c _ z
theorem Inv.tok(I:Inv X pins σ H s)(t:Nat):Inv X pins σ H {s with toks:=t}:=I.un (h':=s.heap) (t':=t) Un.refl I.hok
theorem Inv.kept(I:Inv X pins σ H s)(k:∀ b u,s.heap.get? b=some u->h'.get? b=some u):Inv X pins σ H {s with heap:=h',toks:=t'}:=I.un (Un.kept k) (I.hok.kept k)
theorem Inv.laid(I:Inv X pins σ H s)(k:∀ b u,s.heap.get? b=some u->h'.get? b=some u)(c:s.heap.objs.size<=a)(new:ObjOk X.prog X.w (upd H a o) h' a o):
  Inv X pins σ (upd H a o) {s with heap:=h',toks:=t'}:=I.un (Un.laid k c (I.hok.fresh c)) (I.hok.laid k c new)
theorem Inv.write{x e:Addr}(I:Inv X pins σ H s)(c:Mut (H x))(d:e=x\/H e=some (.own x))(k:∀ b u,b≠e->s.heap.get? b=some u->h'.get? b=some u)(a:∃ u,h'.get? e=some u)
  (new:ObjOk X.prog X.w (upd H x o) h' x o):Inv X pins σ (upd H x o) {s with heap:=h',toks:=t'}:=I.un (Un.write c d k a) (I.hok.write c d k a new)
theorem Inv.pins_of{a:List (Addr×Obj)}(I:Inv X pins σ H s)(h:∀ p∈a,s.heap.get? p.1=some p.2/\H p.1=none/\p.1≠X.env.locals/\p.1∉X.fs/\∀ v,p.2.data≠.cell v):Inv X a σ H s :=
 ⟨I.ok,I.os,I.bare,I.base,I.loc,I.cell,I.free,I.freeC,λp b=>(Yz.mp b).elim (λz=>I.pin p (List.mem_append_left _ z)) (h p),I.hok,I.len⟩
variable {i:Nat}{x:Str}
theorem Nf{N:List Str}(d:N.Nodup){j:Nat}(a:N[i]?=some x)(b:N[j]?=some x):i=j:=by
 obtain⟨h1,c⟩:=YW.mp a
 obtain⟨h2,e⟩:=YW.mp b
 exact(List.getElem_inj d).mp (c.trans e.symm)
variable {A:Around}{E:Value->Shared->Prop}{v:V}{u:Value}{Q:Unit->Shared->Prop}
theorem Vj{M:Model}(I:Inv X pins σ H s)(hN:X.N.Nodup)(hi:X.N[i]?=some x)(g:Loc X.env.scope x)(r:RelV v u)
  (h:∀ s',Inv X pins (σ.set i (some v)) H s'->(∃ a,Heap.SameBut a s.heap s'.heap/\(a=X.env.locals\/X.env.cells.lookup x=some a))->Q () s') (hf:X.fn x=true\/X.env.scope.names.lookup x=some .local:=by first | exact .inl rfl | exact .inr rfl | assumption):wpAny M A (storeName X.env x u) Q E s:=by
 obtain⟨m,hn,hl⟩:=id I.loc
 have J:(X.env.scope.kind==.class||(X.env.scope.kind==.module&&X.env.locals != X.env.globals))=false:=by rw[I.ok.kind];rfl
 have hiσ:i < σ.length:=by rw[I.len];exact(YW.mp hi).1
 have cne:=I.cne
 have tracked:∀{a:Addr}{h':Heap},(∃ o,s.heap.get? a=some o/\H a=none)->Heap.SameBut a s.heap h'->HOk X.prog X.w H h':=λ{a h'}ha hs b ob e=>by
  obtain⟨_,_,l⟩:=ha
  refine(I.hok b ob e).stay (λc S hc q=>(hs.2 c ?_).trans q) (λ_ q=>q) λ_ _ q=>q
  rintro rfl
  rcases hc with rfl | hc
  ·rw[l]at e;cases e
  ·rw[l]at hc;cases hc
 rcases g with B | B
 ·refine wpAny_storeName_local B hn (λh' hn' hs=>?_) J
  obtain⟨oL,_,_,hoL,_⟩:=id hn
  refine h _ ⟨I.ok,I.os,I.bare,⟨λb o e n D g=>?_,λb o e n D g=>?_,I.base.free,λb o e g=>?_,I.base.tups,I.base.frzs,I.base.tbls⟩,⟨_,hn',λj y v' f t e3=>?_⟩,λy c e=>?_,I.free,I.freeC,λp Y=>?_,tracked ⟨oL,hoL,I.free⟩ hs,by simpa using I.len⟩ ⟨_,hs,.inl rfl⟩
  ·exact(hs.2 b (Ys (Yu (Qj e) I.ok.above))).trans (I.base.keep b o e n D g)
  ·obtain⟨U,f⟩:=I.base.slot b o e n D g
   exact⟨U,(hs.2 b (Ys (Yu (Qj e) I.ok.above))).trans f⟩
  ·obtain⟨o',f⟩:=I.base.there b o e g
   exact⟨o',(hs.2 b (Ys (Yu (Qj e) I.ok.above))).trans f⟩
  ·by_cases F:j=i
   ·subst F
    rw[hi]at f;cases f
    rw[List.getElem?_set_self hiσ]at t
    cases t
    exact⟨u,r,.inl ⟨B,by simp⟩⟩
   ·rw[List.getElem?_set_ne (YU F)]at t
    obtain⟨Z,r',q⟩:=hl j y v' f t e3
    refine⟨Z,r',?_⟩
    rcases q with⟨k,e⟩|⟨k,c,e,z⟩
    ·refine .inl ⟨k,?_⟩
     have:y≠x:=λe=>F (Nf hN f (e▸hi))
     simp[this,e]
    ·exact .inr ⟨k,c,e,z.sameBut hs (cne y c e)⟩
  ·obtain⟨S,z⟩:=I.cell y c e
   exact⟨S,z.sameBut hs (cne y c e)⟩
  ·obtain⟨e,n,ne,T,d⟩:=I.pin p Y
   exact⟨(hs.2 p.1 ne).trans e,n,ne,T,d⟩
 ·have G:X.fn x=true:=by
   rcases hf with z | z
   ·exact z
   ·rw[z]at B;cases B
  obtain⟨c,hc⟩:=I.ok.has x (.inl B)
  obtain⟨S,z⟩:=I.cell x c hc
  refine wpAny_storeName_cell I.ok.kind B hc z (λh' O hs=>?_)
  obtain⟨oc,L,P⟩:=id z
  refine h {s with heap:=h'} ⟨I.ok,I.os,I.bare,⟨λb o e n D g=>?_,λb o e n D g=>?_,I.base.free,λb o e g=>?_,I.base.tups,I.base.frzs,I.base.tbls⟩,⟨m,hn.sameBut hs (YU (cne x c hc)),λj y v' f t e3=>?_⟩,λy R e=>?_,I.free,I.freeC,λp Y=>?_,tracked ⟨oc,L,I.freeC x c hc⟩ hs,by simpa using I.len⟩ ⟨c,hs,.inr hc⟩
  ·exact(hs.2 b (Ys (Yu (Qj e) (I.ok.cab x c G hc)))).trans (I.base.keep b o e n D g)
  ·obtain⟨U,f⟩:=I.base.slot b o e n D g
   exact⟨U,(hs.2 b (Ys (Yu (Qj e) (I.ok.cab x c G hc)))).trans f⟩
  ·obtain⟨o',f⟩:=I.base.there b o e g
   exact⟨o',(hs.2 b (Ys (Yu (Qj e) (I.ok.cab x c G hc)))).trans f⟩
  ·by_cases F:j=i
   ·subst F
    rw[hi]at f;cases f
    rw[List.getElem?_set_self hiσ]at t
    cases t
    exact⟨u,r,.inr ⟨.inl B,c,hc,O⟩⟩
   ·rw[List.getElem?_set_ne (YU F)]at t
    obtain⟨Z,r',q⟩:=hl j y v' f t e3
    refine⟨Z,r',?_⟩
    rcases q with q |⟨k,R,e,z'⟩
    ·exact .inl q
    ·refine .inr ⟨k,R,e,z'.sameBut hs ?_⟩
     rintro rfl
     exact F (Nf hN f (I.ok.inj _ _ _ e hc▸hi))
  ·by_cases K:R=c
   ·subst K;exact⟨_,O⟩
   ·obtain⟨w2,z2⟩:=I.cell y R e
    exact⟨w2,z2.sameBut hs K⟩
  ·obtain⟨e,n,ne,T,d⟩:=I.pin p Y
   refine⟨(hs.2 p.1 ?_).trans e,n,ne,T,d⟩
   intro q
   rw[q,L]at e
   have q':oc=p.2:=YD e
   exact d S (by rw[<- q'];exact P)
theorem Hx{M:Model}(I:Inv X pins σ H s)(c:X.N.Nodup)(hi:X.N[i]?=some x)(d:Loc X.env.scope x)(r:RelV v u)
  (h:∀ s',Inv X pins (σ.set i (some v)) H s'->Q () s') (b:X.fn x=true\/X.env.scope.names.lookup x=some .local:=by first | exact .inl rfl | exact .inr rfl | assumption):wpAny M A (storeName X.env x u) Q E s :=
 Vj I c hi d r (λs' a _=>h s' a) b
theorem Inv.call'{s':Shared}(I:Inv X pins σ H s)(f:s'.os=s.os)(u:Un (frs X.stack) ch H H' s.heap s'.heap)(hok:HOk X.prog X.w H' s'.heap)(d:AllBare s'.gens)
  (a:∀ b∈ch,(b∈X.ex\/X.s₀.heap.objs.size<=b)/\b≠X.env.locals/\(∀ x c,X.env.cells.lookup x=some c->c≠b)/\∀ p∈X.pn++pins,p.1≠b):Inv X pins σ H' s':=by
 obtain⟨h',g',d',t',o'⟩:=s'
 have e:o'=s.os:=f
 subst e
 exact I.call (g':=g') (t':=t') (d':=d') u hok d a
end
abbrev XK:=Value->Option Addr->Hp->Prop
abbrev St:=List (Option V)
abbrev VK:=V->Hp->Prop
abbrev TE:=St->Hp->VK->Prop
abbrev TT:=St->Hp->(Bool->Hp->Prop)->Prop
abbrev TA:=St->Hp->(List V->Hp->Prop)->Prop
structure Fv where
 nx:St->Hp->Prop
 rt:VK
 bk:St->Hp->Prop:=λ_ _=>False
 ct:St->Hp->Prop:=λ_ _=>False
abbrev TS:=Fv->St->Hp->Prop
def EP(X:Cx)(pins:List (Addr×Obj))(σ:St)(Q:VK)(u:Value)(s':Shared):Prop:=∃ v H',Inv X pins σ H' s'/\RelV v u/\Q v H'
def TP(X:Cx)(pins:List (Addr×Obj))(σ:St)(Q:Bool->Hp->Prop)(b:Bool)(s':Shared):Prop:=∃ H',Inv X pins σ H' s'/\Q b H'
def AP(X:Cx)(pins:List (Addr×Obj))(σ:St)(Q:List V->Hp->Prop)(us:List Value)(s':Shared):Prop:=∃ vs H',Inv X pins σ H' s'/\Vals vs us/\Q vs H'
def SP(X:Cx)(pins:List (Addr×Obj))(D:Fv)(f:Flow)(s':Shared):Prop :=
 match f with
 | .next=>∃ σ' H',Inv X pins σ' H' s'/\D.nx σ' H'
 | .brk=>∃ σ' H',Inv X pins σ' H' s'/\D.bk σ' H'
 | .cont=>∃ σ' H',Inv X pins σ' H' s'/\D.ct σ' H'
 | .ret u=>∃ v σ' H',Inv X pins σ' H' s'/\RelV v u/\D.rt v H'
def PE(X:Cx)(e:Expr)(t:TE):Prop :=
 ∀(pins:List (Addr×Obj))(s:Shared)(σ:St)(H:Hp)(Q:VK),Inv X pins σ H s->t σ H Q->wpAny (model X.prog X.w) X.A (eval e X.env) (EP X pins σ Q) X.xe s
def PT(X:Cx)(e:Expr)(t:TT):Prop :=
 ∀(pins:List (Addr×Obj))(s:Shared)(σ:St)(H:Hp)(Q:Bool->Hp->Prop),Inv X pins σ H s->t σ H Q->wpAny (model X.prog X.w) X.A (isTrue e X.env (eval e X.env)) (TP X pins σ Q) X.xe s
def PW(X:Cx)(e:Expr)(t:TT):Prop :=
 ∀(whole:Sem Value)(pins:List (Addr×Obj))(s:Shared)(σ:St)(H:Hp)(Q:Bool->Hp->Prop),Inv X pins σ H s->t σ H Q->wpAny (model X.prog X.w) X.A (isTrue e X.env whole) (TP X pins σ Q) X.xe s
variable {X:Cx}
theorem PW.pt{e:Expr}{t:TT}(h:PW X e t):PT X e t:=h _
def PA(X:Cx)(es:List Expr)(t:TA):Prop :=
 ∀(pos:Pos)(pins:List (Addr×Obj))(s:Shared)(σ:St)(H:Hp)(Q:List V->Hp->Prop),Inv X pins σ H s->t σ H Q->wpAny (model X.prog X.w) X.A (spliced (backTo pos (starEach es X.env))) (AP X pins σ Q) X.xe s
def PS(X:Cx)(st:Stmt)(t:TS):Prop :=
 ∀(pins:List (Addr×Obj))(s:Shared)(σ:St)(H:Hp)(D:Fv),Inv X pins σ H s->t D σ H->wpAny (model X.prog X.w) X.A (exec st X.env) (SP X pins D) X.xe s
def PSs(X:Cx)(st:List Stmt)(t:TS):Prop :=
 ∀(pins:List (Addr×Obj))(s:Shared)(σ:St)(H:Hp)(D:Fv),Inv X pins σ H s->t D σ H->wpAny (model X.prog X.w) X.A (execs st X.env) (SP X pins D) X.xe s
variable {A:Around}{E:Value->Shared->Prop}{s:Shared}
theorem thn{α:Type}{t:Sem α}{Q b:α->Shared->Prop}{M:Model}(h:wpAny M A t Q E s)(c:∀ a s,Q a s->b a s):wpAny M A t b E s:=wpAny_mono h c λ_ _ x=>x
section
variable {X:Cx}
variable {pins:List (Addr×Obj)}{σ:St}
theorem bin{a b:Expr}{ta tb:TE}(j:PE X a ta)(k:PE X b tb){R:V->V->Hp->Prop}(I:Inv X pins σ H s)(h:ta σ H λx H1=>tb σ H1 λy H2=>R x y H2)
  {α:Type} {Q:α->Shared->Prop} {f:Value->Value->Sem α}
  (n:∀ v u e x y H2,Inv X pins σ H2 e->RelV x v->RelV y u->R x y H2->wpAny (model X.prog X.w) X.A (f v u) Q X.xe e):
  wpAny (model X.prog X.w) X.A (eval a X.env) (λv d=>wpAny (model X.prog X.w) X.A (eval b X.env) (λu c=>wpAny (model X.prog X.w) X.A (f v u) Q X.xe c) X.xe d) X.xe s:=by
 refine thn (j pins s σ H _ I h) λv m g=>?_
 obtain⟨x,H1,l,r1,q1⟩:=g
 refine thn (k pins m σ H1 _ l q1) λu e i=>?_
 obtain⟨y,H2,p,o,q2⟩:=i
 exact n v u e x y H2 p r1 o q2
def Vk(i:Nat):TE:=λσ H Q=>∃ v,σ[i]?=some (some v)/\Q v H
def tC(v:V):TE:=λ_ H Q=>Q v H
variable {x:Str}{pos:Pos}
theorem Vl{i:Nat}(j:X.N[i]?=some x)(n:Vis X.env.scope x)(hd:(x==("__debug__":Str))=false:=by decide)(f:(x==("__classdict__":Str))=false:=by decide):PE X (.Name x pos) (Vk i):=by
 intro pins s σ H Q I h
 obtain⟨v,e,h⟩:=h
 obtain⟨m,g,hl⟩:=I.loc
 obtain⟨u,r,l⟩:=hl i x v j e n
 have b:EP X pins σ Q u s:=⟨v,H,I,r,h⟩
 rcases l with⟨d,k⟩|⟨d,c,hc,a⟩
 ·exact wpAny_Name (wpAny_loadName_local I.ok.kind d g k b) hd
 ·rcases d with d | d
  ·exact wpAny_Name (wpAny_loadName_cell I.ok.kind d hc a b) hd
  ·exact wpAny_Name (wpAny_loadName_free I.ok.kind d hc a b f) hd
theorem Vm{i j pos}:PE X (.Constant (.int i) j pos) (tC (.int i)):=λ_ _ _ H _ I h=>wpAny_Constant_int ⟨.int i,H,I.tok _,⟨_,rfl⟩,h⟩
theorem Vn{b j pos}:PE X (.Constant (.bool b) j pos) (tC (.bl b)):=λ_ _ _ H _ I h=>Constant_bool ⟨.bl b,H,I,rfl,h⟩
theorem Vo{j pos}:PE X (.Constant .none j pos) (tC .non):=λ_ _ _ H _ I h=>Constant_none ⟨.non,H,I,rfl,h⟩
theorem Ng{x j pos}:PE X (.Constant (.str x) j pos) (tC (.str x)):=λ_ _ _ H _ I h=>Calls.Constant_str ⟨.str x,H,I.tok _,⟨_,rfl⟩,h⟩
def Gl(X:Cx)(x:Str):Prop:=X.env.kindOf x=some .globalImplicit
variable {u:Value}{Q:Value->Shared->Prop}
theorem Gg(I:Inv X pins σ H s)(a:Gl X x)(b:X.mg x=some u)(h:Q u s)
  (hd:(x==("__debug__":Str))=false:=by decide):wpAny (model X.prog X.w) X.A (eval (.Name x pos) X.env) Q E s :=
 Calls.Name_function_global I.ok.kind a (Calls.loadGlobal_global (by rw[I.ok.glob];exact I.mod.glob.keeps I.bk) b h) hd
theorem DZ(I:Inv X pins σ H s)(d:Gl X x)(b:X.mg x=none)(c:bootBuiltins x=some u)(h:Q u s)
  (a:x≠"__name__":=by decide) (hd:(x==("__debug__":Str))=false:=by decide):wpAny (model X.prog X.w) X.A (eval (.Name x pos) X.env) Q E s:=by
 obtain⟨e,h1,h2⟩:=I.mod.blt
 exact Calls.Name_function_global I.ok.kind d (Calls.loadGlobal_builtin (by rw[I.ok.glob];exact I.mod.glob.keeps I.bk) b (by rw[I.ok.blt];exact h1.keeps I.bk) ((h2 x a).trans c) h) hd
variable {v:V}
theorem Vp(a:Gl X x)(b:X.mg x=some u)(r:RelV v u)(hd:(x==("__debug__":Str))=false:=by decide):PE X (.Name x pos) (tC v):=
 λ_ _ _ H _ I h=>Gg I a b ⟨v,H,I,r,h⟩ hd
theorem Vq(c:Gl X x)(d:X.mg x=none)(b:bootBuiltins x=some u)(r:RelV v u)(a:x≠"__name__":=by decide)(hd:(x==("__debug__":Str))=false:=by decide):PE X (.Name x pos) (tC v):=
 λ_ _ _ H _ I h=>DZ I c d b ⟨v,H,I,r,h⟩ a hd
def t2I(ta tb:TE)(k:Int->Int->Hp->Prop):St->Hp->Prop:=λσ H=>ta σ H λx H1=>tb σ H1 λy H2=>∃ i j,x=.int i/\y=.int j/\k i j H2
def Vr(ta tb:TE):TE:=λσ H Q=>t2I ta tb (λi j H2=>Q (.int (i - j)) H2) σ H
variable {a b:Expr} {ta tb:TE} {pos:Pos}
theorem Bg(c:PE X a ta)(f:PE X b tb):PE X (.BinOp a .Sub b pos) (Vr ta tb):=by
 intro pins s σ H Q I h
 refine wpAny_BinOp (bin c f I h λv u k x y H2 g e d q=>?_)
 obtain⟨i,j,rfl,rfl,q⟩:=q
 obtain⟨t,rfl⟩:=e
 obtain⟨t',rfl⟩:=d
 exact sub_int ⟨.int _,H2,g.tok _,⟨_,rfl⟩,q⟩
variable {tA tB':TT} {Ao:List Expr}
def Vs(t u:TT):TT:=λσ H Q=>t σ H λc H1=>if c=true then u σ H1 Q else Q false H1
def tOr(t u:TT):TT:=λσ H Q=>t σ H λc H1=>if c=true then Q true H1 else u σ H1 Q
def Vt(t:TT):TT:=λσ H Q=>t σ H λc H1=>Q (!c) H1
theorem Vu(b:PT X a tA):PW X (.BoolOp .And [a] pos) tA:=by
 intro f pins s σ H Q I h
 refine isTrue_and (thn (b pins s σ H Q I h) λc d e=>?_)
 cases c with
 | true=>exact isTrue_and_nil e
 | false=>exact e
theorem Vv(b:PT X a tA):PW X (.BoolOp .Or [a] pos) tA:=by
 intro f pins s σ H Q I h
 refine isTrue_or (thn (b pins s σ H Q I h) λc d e=>?_)
 cases c with
 | false=>exact isTrue_or_nil e
 | true=>exact e
theorem Vw(f:PT X a tA)(g:PW X (.BoolOp .And (b::Ao) pos) tB'):PW X (.BoolOp .And (a::b::Ao) pos) (Vs tA tB'):=by
 intro j pins s σ H Q I h
 refine isTrue_and (thn (f pins s σ H _ I h) λc i d=>?_)
 obtain⟨H1,e,q1⟩:=d
 cases c with
 | true=>exact g j pins i σ H1 Q e q1
 | false=>exact⟨H1,e,q1⟩
theorem Vx(f:PT X a tA)(g:PW X (.BoolOp .Or (b::Ao) pos) tB'):PW X (.BoolOp .Or (a::b::Ao) pos) (tOr tA tB'):=by
 intro j pins s σ H Q I h
 refine isTrue_or (thn (f pins s σ H _ I h) λc i d=>?_)
 obtain⟨H1,e,q1⟩:=d
 cases c with
 | true=>exact⟨H1,e,q1⟩
 | false=>exact g j pins i σ H1 Q e q1
theorem Vy(b:PT X a tA):PT X (.UnaryOp .Not a pos) (Vt tA):=by
 intro pins s σ H Q I h
 exact isTrue_not (b pins s σ H (λc H1=>Q (!c) H1) I h)
def Vz(ta tb:TE):TE:=λσ H Q=>ta σ H λx H1=>∃ c,x=.bl c/\if c=true then tb σ H1 Q else Q (.bl false) H1
def VB(ta tb:TE):TE:=λσ H Q=>ta σ H λx H1=>∃ c,x=.bl c/\if c=true then Q (.bl true) H1 else tb σ H1 Q
def VC(ta:TE):TE:=λσ H Q=>ta σ H λx H1=>∃ c,x=.bl c/\Q (.bl (!c)) H1
theorem VD{op}{t:TE}(h:PE X a t):PE X (.BoolOp op [a] pos) t:=λpins s σ H Q I hw=>BoolOp_one (h pins s σ H Q I hw)
theorem VE(f:PE X a ta)(g:PE X (.BoolOp .And (b::Ao) pos) tb):PE X (.BoolOp .And (a::b::Ao) pos) (Vz ta tb):=by
 intro pins s σ H Q I h
 refine BoolOp_and (thn (f pins s σ H _ I h) λv i d=>?_)
 obtain⟨x,H1,e,r1,q1⟩:=d
 obtain⟨c,rfl,q1⟩:=q1
 cases r1
 refine wpAny_truthy_bool ?_
 cases c with
 | true=>exact g pins i σ H1 Q e q1
 | false=>exact⟨.bl false,H1,e,rfl,q1⟩
theorem VF(f:PE X a ta)(g:PE X (.BoolOp .Or (b::Ao) pos) tb):PE X (.BoolOp .Or (a::b::Ao) pos) (VB ta tb):=by
 intro pins s σ H Q I h
 refine BoolOp_or (thn (f pins s σ H _ I h) λv i d=>?_)
 obtain⟨x,H1,e,r1,q1⟩:=d
 obtain⟨c,rfl,q1⟩:=q1
 cases r1
 refine wpAny_truthy_bool ?_
 cases c with
 | false=>exact g pins i σ H1 Q e q1
 | true=>exact⟨.bl true,H1,e,rfl,q1⟩
theorem VG(d:PE X a ta):PE X (.UnaryOp .Not a pos) (VC ta):=by
 intro pins s σ H Q I h
 refine UnaryOp_ (thn (d pins s σ H _ I h) λv f b=>?_)
 obtain⟨x,H1,e,r1,q1⟩:=b
 obtain⟨c,rfl,q1⟩:=q1
 cases r1
 exact not_of (wpAny_truthy_bool ⟨.bl (!c),H1,e,rfl,q1⟩)
def tIf(t:TT)(ta tb:TE):TE:=λσ H Q=>t σ H λc H1=>if c=true then ta σ H1 Q else tb σ H1 Q
theorem VH{c:Expr}(hc:PT X c tA)(i:PE X a ta)(j:PE X b tb):PE X (.IfExp c a b pos) (tIf tA ta tb):=by
 intro pins s σ H Q I h
 refine wpAny_IfExp (thn (hc pins s σ H _ I h) λd f e=>?_)
 obtain⟨H1,g,q1⟩:=e
 cases d with
 | true=>exact i pins f σ H1 Q g q1
 | false=>exact j pins f σ H1 Q g q1
end
def SqL(K:PySem.W.Frag)(H:Hp)(a:Addr)(xs:List V):Prop :=
 Rd H a (.lst xs)\/
  ∃(o:Obj)(its:Array Value)(n:Nat),K.lookup a=some o/\o.cls=.type "list"/\o.dict=none/\o.data=.seq its n/\its.size<=sizeLine/\Vals xs its.toList
def SqT(K:PySem.W.Frag)(H:Hp)(a:Addr)(xs:List V):Prop :=
 Rd H a (.tup xs)\/
  ∃(o:Obj)(its:Array Value)(n:Nat),K.lookup a=some o/\o.cls=.type "tuple"/\o.dict=none/\o.data=.seq its n/\its.size<=sizeLine/\Vals xs its.toList
def VI:Value->Option V
 | .none=>some .non
 | .bool b=>some (.bl b)
 | .int i _=>some (.int i)
 | .str x _=>some (.str x)
 | .bytes b _=>some (.byt b)
 | .float b _=>some (.flt b)
 | .ref a=>some (.ref a)
 | .type n=>some (.ty n)
 | _=>none
variable {x:V}{u:Value}
theorem RelV.abs(r:RelV x u):VI u=some x:=by
 cases x with
 | non=>cases r;rfl
 | bl _=>cases r;rfl
 | int _=>obtain⟨t,rfl⟩:=r;rfl
 | str _=>obtain⟨t,rfl⟩:=r;rfl
 | byt _=>obtain⟨t,rfl⟩:=r;rfl
 | flt _=>obtain⟨t,rfl⟩:=r;rfl
 | ref _=>cases r;rfl
 | ty _=>cases r;rfl
theorem RelV.inj{y:V}(r:RelV x u)(q:RelV y u):x=y:=YD (r.abs.symm.trans q.abs)
theorem Vals.inj:∀{xs ys:List V}{us:List Value},Vals xs us->Vals ys us->xs=ys
 | _,_,_,.nil,.nil=>rfl
 | _,_,_,.cons r t,.cons r' t'=>by rw[r.inj r',Vals.inj t t']
section
variable {X:Cx} {pins:List (Addr×Obj)} {σ:St} {H:Hp} {s:Shared} {a:Addr} {xs ys:List V}
variable {K:PySem.W.Frag}
theorem SqL.of(h:H a=some (.lst xs)):SqL K H a xs:=.inl (.inl h)
theorem SqT.of(h:H a=some (.tup xs)):SqT K H a xs:=.inl (.inl h)
theorem Inv.list(I:Inv X pins σ H s)(h:SqL X.K H a xs):∃ b:List Value,Vals xs b/\PlainL s.heap a b.toArray/\xs.length<=sizeLine:=by
 rcases h with h |⟨o,b,n,c,hc,hd,hs,d,r⟩
 ·obtain⟨z,b,n,r,e⟩:=h.ok I.hok
  exact⟨b,r,⟨_,n,e,rfl,rfl,rfl⟩,z⟩
 ·refine⟨b.toList,r,⟨o,n,I.kIn a o c,hc,hd,by simpa using hs⟩,?_⟩
  have e:=r.length
  simp only[YR]at e
  omega
theorem Inv.tupP(I:Inv X pins σ H s)(h:SqT X.K H a xs):∃ b:List Value,Vals xs b/\TupP s.heap a b.toArray/\xs.length<=sizeLine:=by
 rcases h with h |⟨o,b,n,c,hc,hd,hs,d,r⟩
 ·obtain⟨z,b,r,p⟩:=h.ok I.hok
  exact⟨b,r,p,z⟩
 ·refine⟨b.toList,r,⟨o,I.kIn a o c,hc,hd,n,by simpa using hs⟩,?_⟩
  have e:=r.length
  simp only[YR]at e
  omega
theorem Inv.tuple(I:Inv X pins σ H s)(h:SqT X.K H a xs):∃ b:List Value,Vals xs b/\IsTup s.heap a b.toArray/\xs.length<=sizeLine :=
 let⟨b,r,p,z⟩:=I.tupP h
 ⟨b,r,p.up,z⟩
theorem Inv.list_inj(I:Inv X pins σ H s)(h:SqL X.K H a xs)(h':SqL X.K H a ys):xs=ys:=by
 obtain⟨c,r,⟨o,n,e,_,_,d⟩,_⟩:=I.list h
 obtain⟨b,r',⟨o',i,g,_,_,f⟩,_⟩:=I.list h'
 rw[e]at g;cases g
 rw[d]at f
 injection f with d1 _
 have:c=b:=by simpa using congrArg Array.toList d1
 subst this
 exact r.inj r'
theorem Inv.tuple_inj(I:Inv X pins σ H s)(h:SqT X.K H a xs)(h':SqT X.K H a ys):xs=ys:=by
 obtain⟨c,r,⟨o,e,_,n,d⟩,_⟩:=I.tuple h
 obtain⟨b,r',⟨o',g,_,i,f⟩,_⟩:=I.tuple h'
 rw[e]at g;cases g
 rw[d]at f
 injection f with d1 _
 have:c=b:=by simpa using congrArg Array.toList d1
 subst this
 exact r.inj r'
end
abbrev Cx.wish(X:Cx)(E:Value->Shared->Prop):Cx:={X with xe:=E}
abbrev Cx.nox(X:Cx):Cx:=X.wish λ_ _=>False
theorem Cx.Ok.wish(ok:X.Ok)(E:Value->Shared->Prop):(X.wish E).Ok :=
 ⟨ok.mod,ok.kind,ok.glob,ok.blt,ok.above,ok.inj,ok.has,ok.cab,ok.hd,ok.frames,ok.stk,ok.exf,ok.bs,ok.bsz,ok.noex,ok.exfs,ok.funs,ok.frf⟩
theorem Cx.Ok.unwish(ok:(X.wish E).Ok):X.Ok :=
 ⟨ok.mod,ok.kind,ok.glob,ok.blt,ok.above,ok.inj,ok.has,ok.cab,ok.hd,ok.frames,ok.stk,ok.exf,ok.bs,ok.bsz,ok.noex,ok.exfs,ok.funs,ok.frf⟩
section
variable {X:Cx} {pins:List (Addr×Obj)} {σ:St} {H:Hp} {s:Shared} {E:Value->Shared->Prop}
theorem Inv.wish(I:Inv X pins σ H s)(E:Value->Shared->Prop):Inv (X.wish E) pins σ H s:=⟨I.ok.wish E,I.os,I.bare,I.base,I.loc,I.cell,I.free,I.freeC,I.pin,I.hok,I.len⟩
theorem Inv.unwish(I:Inv (X.wish E) pins σ H s):Inv X pins σ H s:=⟨I.ok.unwish,I.os,I.bare,I.base,I.loc,I.cell,I.free,I.freeC,I.pin,I.hok,I.len⟩
theorem SP.unwish{D:Fv}{f:Flow}{s':Shared}(h:SP (X.wish E) pins D f s'):SP X pins D f s':=by
 cases f with
 | next=>obtain⟨σ',H',I,q⟩:=h;exact⟨σ',H',I.unwish,q⟩
 | brk=>obtain⟨σ',H',I,q⟩:=h;exact⟨σ',H',I.unwish,q⟩
 | cont=>obtain⟨σ',H',I,q⟩:=h;exact⟨σ',H',I.unwish,q⟩
 | ret u=>obtain⟨v,σ',H',I,r,q⟩:=h;exact⟨v,σ',H',I.unwish,r,q⟩
variable {e:Expr}
theorem PE.nox{t:TE}(h:PE X.nox e t):PE X e t:=λpins s σ H Q I hw=>
 wpAny_mono (h pins s σ H Q (I.wish _) hw) ((by rintro _ _ ⟨v,H',a,r,q⟩;exact⟨v,H',a.unwish,r,q⟩)) λ_ _ z=>Qf z
theorem PT.nox{t:TT}(h:PT X.nox e t):PT X e t:=λpins s σ H Q I hw=>
 wpAny_mono (h pins s σ H Q (I.wish _) hw) ((by rintro _ _ ⟨H',a,q⟩;exact⟨H',a.unwish,q⟩)) λ_ _ z=>Qf z
theorem PSs.nox{st:List Stmt}{t:TS}(h:PSs X.nox st t):PSs X st t:=λpins s σ H D I hw=>
 wpAny_mono (h pins s σ H D (I.wish _) hw) (λ_ _ q=>q.unwish) λ_ _ z=>Qf z
end
section
variable {X:Cx} {st:Stmt} {Ao:List Stmt} {t u:TS} {e:Expr} {te:TE} {pos:Pos}
def VJ:TS:=λD σ H=>D.nx σ H
def VL(t u:TS):TS:=λD σ H=>t {D with nx:=u D} σ H
theorem VM:PSs X [] VJ:=λ_ _ σ H _ I h=>wpAny_execs_nil ⟨σ,H,I,h⟩
theorem VN(h1:PS X st t)(h2:PSs X Ao u):PSs X (st::Ao) (VL t u):=by
 intro pins s σ H D I h
 refine wpAny_execs_cons (thn (h1 pins s σ H {D with nx:=u D} I h) λf b q=>?_)
 cases f with
 | next =>
  obtain⟨σ',H',a,q⟩:=q
  exact h2 pins b σ' H' D a q
 | ret v=>exact q
 | brk=>exact q
 | cont=>exact q
theorem VO(h1:PS X st t):PSs X [st] t:=by
 intro pins s σ H D I h
 refine wpAny_execs_cons (thn (h1 pins s σ H D I h) λf a q=>?_)
 cases f with
 | next=>exact wpAny_execs_nil q
 | ret v=>exact q
 | brk=>exact q
 | cont=>exact q
theorem Inv.quiet{pins:List (Addr×Obj)}{σ:St}(I:Inv X pins σ H s):interactive X.env=false:=by simp[interactive,I.ok.kind]
def VP(te:TE):TS:=λD σ H=>te σ H λ_ H1=>D.nx σ H1
theorem VQ(a:PE X e te)(hs:swapsWith e none pos.line X.env=pure false:=by rfl):PS X (.Expr e pos) (VP te):=by
 intro pins s σ H D I h
 exact wpAny_Expr_any (thn (a pins s σ H _ I h) (by rintro v c ⟨x,H1,b,r1,q1⟩;exact⟨σ,H1,b,q1⟩)) I.quiet hs
def VR(te:TE):TS:=λD σ H=>te σ H D.rt
theorem VS(a:PE X e te):PS X (.Return (some e) pos) (VR te):=by
 intro pins s σ H D I h
 exact wpAny_Return_some (thn (a pins s σ H _ I h) (by rintro v c ⟨x,H1,b,r1,q1⟩;exact⟨x,σ,H1,b,r1,q1⟩))
def VT(c:TT)(t u:TS):TS:=λD σ H=>c σ H λb H1=>if b=true then t D σ H1 else u D σ H1
theorem VU{c:Expr}{a b:List Stmt}{tc:TT}(hc:PT X c tc)(i:PSs X a t)(j:PSs X b u):PS X (.If c a b pos) (VT tc t u):=by
 intro pins s σ H D I h
 refine wpAny_If (thn (hc pins s σ H _ I h) λd f e=>?_)
 obtain⟨H1,g,q1⟩:=e
 cases d with
 | true=>exact i pins f σ H1 D g q1
 | false=>exact j pins f σ H1 D g q1
end
abbrev TG:=V->St->Hp->(St->Hp->Prop)->Prop
abbrev TGs:=List V->St->Hp->(St->Hp->Prop)->Prop
def PG(X:Cx)(target:Expr)(t:TG):Prop :=
 ∀(pins:List (Addr×Obj))(s:Shared)(σ:St)(H:Hp)(v:V)(u:Value)(Q:St->Hp->Prop),Inv X pins σ H s->RelV v u->t v σ H Q->
  wpAny (model X.prog X.w) X.A (assign target X.env u) (λ_ s'=>∃ σ' H',Inv X pins σ' H' s'/\Q σ' H') X.xe s
def PGs(X:Cx)(ts:List Expr)(t:TGs):Prop :=
 ∀(pins:List (Addr×Obj))(s:Shared)(σ:St)(H:Hp)(vs:List V)(us:List Value)(Q:St->Hp->Prop),Inv X pins σ H s->Vals vs us->t vs σ H Q->
  wpAny (model X.prog X.w) X.A (assignInOrder ((assignEach ts X.env).map (·.2)) us) (λ_ s'=>∃ σ' H',Inv X pins σ' H' s'/\Q σ' H') X.xe s
abbrev J8:=V->V->V->Hp->(Hp->Prop)->Prop
def J9(X:Cx)(t:J8):Prop :=
 ∀(pins:List (Addr×Obj))(s:Shared)(σ:St)(H:Hp)(o i v:V)(ov iv u:Value)(Q:Hp->Prop),Inv X pins σ H s->RelV o ov->RelV i iv->RelV v u->t o i v H Q->
  wpAny (model X.prog X.w) X.A (setItem ov iv u) (λ_ s'=>∃ H',Inv X pins σ H' s'/\Q H') X.xe s
abbrev TIp:=V->V->Hp->VK->Prop
def PIp(X:Cx)(op:Operator)(t:TIp):Prop :=
 ∀(pins:List (Addr×Obj))(s:Shared)(σ:St)(H:Hp)(x y:V)(v u:Value)(Q:VK),Inv X pins σ H s->RelV x v->RelV y u->t x y H Q->
  wpAny (model X.prog X.w) X.A (inplaceOp op v u) (EP X pins σ Q) X.xe s
section
variable {X:Cx} {pos:Pos}
def CC(i:Nat):TG:=λv σ H Q=>Q (σ.set i (some v)) H
variable {i:Nat}
theorem CD{x:Str}(c:X.N.Nodup)(hi:X.N[i]?=some x)(d:Loc X.env.scope x)(b:X.fn x=true\/X.env.scope.names.lookup x=some .local:=by first | exact .inl rfl | exact .inr rfl | assumption):PG X (.Name x pos) (CC i):=by
 intro pins s σ H v u Q I r h
 exact wpAny_assign_Name (Hx I c hi d r (λs' a=>⟨_,H,a,h⟩) b)
def Ch:TGs:=λvs σ H Q=>vs=[]/\Q σ H
def BT(t:TG)(u:TGs):TGs:=λvs σ H Q=>∃ v r,vs=v::r/\t v σ H λσ' H'=>u r σ' H' Q
theorem Hy:PGs X [] Ch:=by
 intro pins s σ H b a Q I r h
 obtain⟨e,h⟩:=h
 subst e
 cases r
 exact assignInOrder_nil ⟨σ,H,I,h⟩
variable {e:Expr}{es:List Expr}
theorem Do{t:TG}{u:TGs}(h1:PG X e t)(h2:PGs X es u)
  (hs:(assignEach (e::es) X.env).map (·.2)=assign e X.env::(assignEach es X.env).map (·.2):=by rfl):PGs X (e::es) (BT t u):=by
 intro pins s σ H g j Q I r h
 obtain⟨v,i,d,h⟩:=h
 subst d
 cases r with
 | cons r b =>
  rw[hs]
  refine assignInOrder_cons (thn (h1 pins s σ H _ _ _ I r h) λ_ c a=>?_)
  obtain⟨σ1,H1,f,q1⟩:=a
  exact h2 pins c σ1 H1 _ _ Q f b q1
def Cl(K:PySem.W.Frag)(n:Nat)(t:TGs):TG:=λv σ H Q=>∃ a xs,v=.ref a/\SqT K H a xs/\xs.length=n/\t xs σ H Q
theorem Hz{k:Nat}{t:TGs}{n:Nat}(hc:X.calm=true)(h:PGs X es t)
  (f:(assignEach es X.env).length=n:=by rfl) (c:(assignEach es X.env).findIdx? (·.1)=none:=by rfl):PG X (.Tuple es k pos) (Cl X.K n t):=by
 intro pins s σ H v u Q I r hw
 obtain⟨a,xs,l,j,hl,hw⟩:=hw
 subst l
 cases r
 obtain⟨i,d,g,q⟩:=I.tuple j
 refine assign_Tuple_tuple (I.ok.hd hc) g (by simp[f,<- hl,d.length]) c λh' m=>?_
 have p:Inv X pins σ H {s with heap:=h'}:=I.kept (t':=s.toks) λb o e=>m b o (Ys (Qj e)) e
 exact h pins _ σ H xs _ Q p (by simpa using d) hw
def VV(to ti:TE)(t:J8):TG:=λv σ H Q=>to σ H λo H1=>ti σ H1 λi H2=>t o i v H2 λH3=>Q σ H3
theorem Nh{o i:Expr}{to f:TE}{t:J8}(l:PE X o to)(hi:PE X i f)(hs:J9 X t)
  (j:∀ v,assign (.Subscript o i pos) X.env v=(do
   let a <- holding [v] (eval o X.env)
   let d <- holding [v,a] (eval i X.env)
   standAt pos
   holding [v,a,d] (setItem a d v)
   release [v,a,d] []):=by intro _;rfl):PG X (.Subscript o i pos) (VV to f t):=by
 intro pins s σ H v u Q I r h
 rw[j]
 refine Qg (wpAny_holding (thn (l pins s σ H _ I h) λa n b=>?_))
 obtain⟨x,H1,m,r1,q1⟩:=b
 refine Qg (wpAny_holding (thn (hi pins n σ H1 _ m q1) λd w c=>?_))
 obtain⟨y,H2,q,p,q2⟩:=c
 refine Qg (wpAny_standAt (Qg (wpAny_holding (thn (hs pins w σ H2 x y v a d u _ q r1 p r q2) λ_ z e=>?_))))
 obtain⟨k,g,q3⟩:=e
 exact wpAny_release ⟨σ,k,g,q3⟩
def Ka(te:TE)(g:TG):TS:=λD σ H=>te σ H λx H1=>g x σ H1 D.nx
variable {te:TE}
theorem Kb{tg:Expr}{g:TG}(b:PE X e te)(d:PG X tg g)(hs:swapsWithSole [tg] e pos.line X.env=pure false:=by rfl)(hw:swappedStores [tg] e X.env=pure none:=by rfl)
  (h1:(assignEach [tg] X.env).map (·.2)=[assign tg X.env]:=by rfl):PS X (.Assign [tg] e pos) (Ka te g):=by
 intro pins s σ H D I h
 refine wpAny_Assign_stores (thn (b pins s σ H _ I h) λv c a=>?_) hs hw
 obtain⟨x,H1,f,r1,q1⟩:=a
 rw[h1]
 exact thn (d pins c σ H1 x v _ f r1 q1) λ_ i q=>q
variable {pos':Pos}
theorem VW{x:Str}(b:X.N.Nodup)(hi:X.N[i]?=some x)(f:Loc X.env.scope x)(c:PE X e te)(hs:swapsWith e (some (.Name x pos')) pos.line X.env=pure false:=by rfl)(d:X.fn x=true\/X.env.scope.names.lookup x=some .local:=by first | exact .inl rfl | exact .inr rfl | assumption):
  PS X (.Assign [.Name x pos'] e pos) (Ka te (CC i)):=by
 intro pins s σ H D I h
 refine wpAny_Assign_Name (thn (c pins s σ H _ I h) λv k a=>?_) hs
 obtain⟨y,H1,j,r1,q1⟩:=a
 exact Hx j b hi f r1 (λl g=>⟨_,H1,g,q1⟩) d
def VX(i:Nat)(te:TE)(ti:TIp):TS:=λD σ H=>∃ x,σ[i]?=some (some x)/\te σ H λy H1=>ti x y H1 λz H2=>D.nx (σ.set i (some z)) H2
theorem VY{x:Str}{op:Operator}{p:TIp}(G:X.N.Nodup)(hi:X.N[i]?=some x)(n:Loc X.env.scope x)(O:PE X e te)(t:PIp X op p)(F:X.fn x=true\/X.env.scope.names.lookup x=some .local:=by first | exact .inl rfl | exact .inr rfl | assumption):
  PS X (.AugAssign (.Name x pos') op e pos) (VX i te p):=by
 intro pins s σ H D I h
 obtain⟨v,B,h⟩:=h
 obtain⟨m,L,hl⟩:=I.loc
 have o:Vis X.env.scope x:=by rcases n with k | k;exact .inl k;exact .inr (.inl k)
 obtain⟨u,r,l⟩:=hl i x v hi B o
 refine wpAny_AugAssign_Name ?_
 have go:wpAny (model X.prog X.w) X.A (eval e X.env) (λw g=>wpAny (model X.prog X.w) X.A (inplaceOp op u w) (λr f=>wpAny (model X.prog X.w) X.A (storeName X.env x r) (λ_=>SP X pins D .next) X.xe f) X.xe g) X.xe s:=by
  refine thn (O pins s σ H _ I h) λw P d=>?_
  obtain⟨y,H1,E,r1,q1⟩:=d
  refine thn (t pins P σ H1 v y u w _ E r r1 q1) λz R j=>?_
  obtain⟨T,H2,K,Q,q2⟩:=j
  exact Hx K G hi n Q (λS q=>⟨_,H2,q,q2⟩) F
 rcases l with⟨a,J⟩|⟨a,c,hc,b⟩
 ·exact wpAny_loadName_local I.ok.kind a L J go
 ·rcases a with a | a
  ·exact wpAny_loadName_cell I.ok.kind a hc b go
  ·rcases n with k | k
   ·have:X.env.scope.names.lookup x=some .free:=a
    rw[k]at this;cases this
   ·have:X.env.scope.names.lookup x=some .free:=a
    rw[k]at this;cases this
end
section
variable {X:Cx} {pos:Pos}
def VZ(c:TT)(tb:TS):TS:=λD σ H=>∃ W:Nat->St->Hp->Prop,(∃ m,W m σ H)/\∀ m σ H,W m σ H->
 c σ H λb H1=>if b=true then ∃ N:St->Hp->Prop,(∀ σ' H',N σ' H'->∃ m',m' < m/\W m' σ' H')/\tb {D with nx:=N,ct:=N,bk:=D.nx} σ H1 else D.nx σ H1
theorem V0{c:Expr}{body:List Stmt}{tc:TT}{tb:TS}(m:PassesOwn (model X.prog X.w) X.A X.env X.xe)(hc:PT X c tc)(q:PSs X body tb):PS X (.While c body [] pos) (VZ tc tb):=by
 intro pins s σ H D I h
 obtain⟨W,⟨z,x⟩,a⟩:=h
 refine wpAny_While (codeAny_whileLoop (λn s'=>∃ σ' H',Inv X pins σ' H' s'/\W n σ' H') ?_ z ⟨σ,H,I,x⟩)
 rintro n y ⟨σ1,H1,r,u⟩
 refine wpAny_passesOwn m (thn (hc pins y σ1 H1 _ r (a n σ1 H1 u)) λb t e=>?_)
 obtain⟨H2,p,q2⟩:=e
 cases b with
 | true =>
  obtain⟨N,o,q2⟩:=q2
  rw[if_pos rfl]
  refine wpAny_passesOwn m (thn (q pins t σ1 H2 _ p q2) λf B q3=>?_)
  cases f with
  | next =>
   obtain⟨σ3,d,g,j⟩:=q3
   obtain⟨l,k,i⟩:=o σ3 d j
   exact⟨l,k,σ3,d,g,i⟩
  | cont =>
   obtain⟨σ3,d,g,j⟩:=q3
   obtain⟨l,k,i⟩:=o σ3 d j
   exact⟨l,k,σ3,d,g,i⟩
  | brk=>exact q3
  | ret v=>exact q3
 | false =>
  rw[if_neg YS]
  exact wpAny_execs_nil ⟨σ1,H2,p,q2⟩
end
structure It where
 go:Nat->Hp->Prop
 yld:Nat->Hp->V->Hp->Prop
 stop:Nat->Hp->Prop
def CP(X:Cx)(pins:List (Addr×Obj))(H:Hp)(b:Addr):Prop :=
 H b=none/\b≠X.env.locals/\b∉X.fs/\(b∈X.ex\/X.s₀.heap.objs.size<=b)/\(∀ x c,X.env.cells.lookup x=some c->c≠b)/\∀ p∈X.pn++pins,p.1≠b
theorem Inv.fpOk{pins:List (Addr×Obj)}{σ:St}{H':Hp}(I:Inv X pins σ H s)(a:s.heap.objs.size<=b)(d:H' b=none):CP X pins H' b:=by
 refine⟨d,Nat.ne_of_gt (Yu I.lt a),I.nofs a,.inr (Yt I.sz a),λx c e z=>?_,λp f z=>?_⟩
 ·obtain⟨v,q⟩:=I.cell x c e
  exact absurd (Yu q.lt (by rw[z];exact a)) (YJ _)
 ·exact absurd (Yu (Qj (I.pin p f).1) (by rw[z];exact a)) (YJ _)
structure CQ(P:Program)(w:World)(K:PySem.W.Frag)(tg:Expr)(J:It)(fp:List Addr)(it:Addr)(tn:Nat->Heap->Prop):Prop where
 mem:it∈fp
 obj:∀ i h,tn i h->∀ b∈fp,∃ o,h.get? b=some o/\∀ v,o.data≠.cell v
 keep:∀ i h h',tn i h->(∀ b∈fp,∀ o,h.get? b=some o->h'.get? b=some o)->tn i h'
 item:∀(X:Cx),X.prog=P->X.w=w->X.K=K->X.calm=true->∀(i:Nat)(pins:List (Addr×Obj))(s:Shared)(σ:St)(H:Hp)(E:Value->Shared->Prop),Inv X pins σ H s->(∀ b∈fp,CP X pins H b)->tn i s.heap->J.go i H->
  wpAny (model P w) X.A (pyNext (.ref it)) (λr s1=>∃ u,r=some u/\
   wpAny (model P w) X.A (letOwnedTupleGo tg (.ref it) u) (λ_ s2=>∃ x H',Inv X pins σ H' s2/\RelV x u/\J.yld i H x H'/\tn (i+1) s2.heap/\∀ b∈fp,H' b=none) E s1) E s
 done:∀(X:Cx),X.prog=P->X.w=w->X.K=K->X.calm=true->∀(i:Nat)(pins:List (Addr×Obj))(s:Shared)(σ:St)(H:Hp)(E:Value->Shared->Prop),Inv X pins σ H s->(∀ b∈fp,CP X pins H b)->tn i s.heap->J.stop i H->
  wpAny (model P w) X.A (pyNext (.ref it)) (λr s1=>r=none/\Inv X pins σ H s1) E s
 self:∀(A:Around)(i:Nat)(s:Shared)(Q:Value->Shared->Prop)(E:Value->Shared->Prop),tn i s.heap->Q (.ref it) s->wpAny (model P w) A (pyIter (.ref it)) Q E s
abbrev TI:=St->Hp->(It->Hp->Prop)->Prop
def PIE(X:Cx)(pins:List (Addr×Obj))(σ:St)(tg:Expr)(R:It->Hp->Prop)(itv:Value)(s2:Shared):Prop :=
 ∃(it:Addr)(fp:List Addr)(tn:Nat->Heap->Prop)(J:It)(H':Hp),itv=.ref it/\Inv X pins σ H' s2/\CQ X.prog X.w X.K tg J fp it tn/\tn 0 s2.heap/\(∀ b∈fp,CP X pins H' b)/\R J H'
def PI(X:Cx)(tg iter:Expr)(wi:TI):Prop :=
 ∀(pins:List (Addr×Obj))(s:Shared)(σ:St)(H:Hp)(R:It->Hp->Prop),Inv X pins σ H s->wi σ H R->
  wpAny (model X.prog X.w) X.A (eval iter X.env) (λv s1=>wpAny (model X.prog X.w) X.A (pyIter v) (PIE X pins σ tg R) X.xe s1) X.xe s
theorem Kc{M:Model}{tg:Expr}{o:Obj}{n:String}{vs:Array Value}{Q:Unit->Shared->Prop}(d:s.heap.get? b=some o)(hc:o.cls=.type n)(hd:o.data=.fields vs)
  (c:["enumerate","zip","dict_itemiterator","dict_reverseitemiterator","odict_iterator","itertools.zip_longest","itertools.pairwise"].contains n=false) (a:Q () s):wpAny M A (letOwnedTupleGo tg (.ref b) u) Q E s:=by
 unfold letOwnedTupleGo
 cases tg <;> first
  | exact Qh a
  |(cases u <;> first
    | exact Qh a
    |(refine Qg (wpAny_load d ?_)
      rw[hc,hd]
      show wpAny M A (if(["enumerate","zip","dict_itemiterator","dict_reverseitemiterator","odict_iterator","itertools.zip_longest","itertools.pairwise"].contains n&&vs[0]?==some (rawInt _))=true then _ else _) Q E s
      rw[if_neg (by intro h;rw[c,Bool.false_and]at h;cases h)]
      exact Qh a))
def Itl(K:PySem.W.Frag)(a:Addr):It :=
 ⟨λi H=>∃ xs x,SqL K H a xs/\xs[i]?=some x,λi H x H'=>H'=H/\∀ xs,SqL K H a xs->xs[i]?=some x,λi H=>∃ xs,SqL K H a xs/\xs.length<=i⟩
def Itt(K:PySem.W.Frag)(a:Addr):It :=
 ⟨λi H=>∃ xs x,SqT K H a xs/\xs[i]?=some x,λi H x H'=>H'=H/\∀ xs,SqT K H a xs->xs[i]?=some x,λi H=>∃ xs,SqT K H a xs/\xs.length<=i⟩
def Itr(lo:Int)(n:Nat):It:=⟨λi _=>i < n,λi H x H'=>H'=H/\x=.int (lo+i),λi _=>n<=i⟩
variable {K:PySem.W.Frag}
theorem V1{tg:Expr}(a g:Addr):CQ P w K tg (Itl K a) [g] g (λi h=>h.IsListIter g a i) where
 mem:=by simp
 obj:=λi h st b f=>by
  have e:b=g:=by simpa using f
  subst e
  obtain⟨o,e,c,d⟩:=st
  exact⟨o,e,λv z=>by rw[d]at z;cases z⟩
 keep:=λi h h' st k=>st.at λo e=>k g (by simp) o e
 item:=by
  intro X q hw A hc i pins s σ H E I l st F
  subst q hw A
  obtain⟨xs,x,m,r⟩:=F
  obtain⟨n,G,p,R⟩:=I.list m
  obtain⟨u,N,O⟩:=G.get r
  obtain⟨D,y,T,J,B,t⟩:=l g (by simp)
  refine wpAny_pyNext_list_item st p.isList (x:=u) (by simpa using N) λh' j S=>?_
  have Q:Inv X pins σ H {s with heap:=h'}:=I.turned (t':=s.toks) (λb o f e=>(S.2 b f).trans e) D y J B t
  obtain⟨o,e,c,d⟩:=id j
  exact⟨u,rfl,Kc (s:={s with heap:=h'}) e c d (by decide) ⟨x,H,Q,O,⟨rfl,λys L=>by rw[I.list_inj L m];exact r⟩,j,λb f=>(l b f).1⟩⟩
 done:=by
  intro X q hw A hc i pins s σ H E I l st F
  subst q hw A
  obtain⟨xs,m,r⟩:=F
  obtain⟨n,G,p,R⟩:=I.list m
  obtain⟨D,y,T,J,B,t⟩:=l g (by simp)
  have hl:=G.length
  exact wpAny_pyNext_list_end (I.ok.hd hc) st p.isList (by simp;omega) λh' eb=>⟨rfl,I.turned (t':=s.toks) (λb o f e=>eb b o f e) D y J B t⟩
 self:=λ_ _ _ _ _ st h=>wpAny_pyIter_listiter st h
theorem V2{tg:Expr}(a j:Addr):CQ P w K tg (Itt K a) [j] j (λi h=>h.IsTupleIter j a i) where
 mem:=by simp
 obj:=λi h st b g=>by
  have e:b=j:=by simpa using g
  subst e
  obtain⟨o,e,c,d⟩:=st
  exact⟨o,e,λv z=>by rw[d]at z;cases z⟩
 keep:=λi h h' st k=>st.at λo e=>k j (by simp) o e
 item:=by
  intro X q hw A hc i pins s σ H E I m st F
  subst q hw A
  obtain⟨xs,x,n,r⟩:=F
  obtain⟨f,G,p,R⟩:=I.tuple n
  obtain⟨u,N,O⟩:=G.get r
  obtain⟨D,y,T,J,B,t⟩:=m j (by simp)
  refine wpAny_pyNext_tuple_item st (show s.heap.IsTuple a f.toArray from p) (x:=u) (by simpa using N) λh' l S=>?_
  have Q:Inv X pins σ H {s with heap:=h'}:=I.turned (t':=s.toks) (λb o g e=>(S.2 b g).trans e) D y J B t
  obtain⟨o,e,c,d⟩:=id l
  exact⟨u,rfl,Kc (s:={s with heap:=h'}) e c d (by decide) ⟨x,H,Q,O,⟨rfl,λys L=>by rw[I.tuple_inj L n];exact r⟩,l,λb g=>(m b g).1⟩⟩
 done:=by
  intro X q hw A hc i pins s σ H E I m st F
  subst q hw A
  obtain⟨xs,n,r⟩:=F
  obtain⟨f,G,p,R⟩:=I.tuple n
  obtain⟨D,y,T,J,B,t⟩:=m j (by simp)
  have hl:=G.length
  exact wpAny_pyNext_tuple_end (I.ok.hd hc) st (show s.heap.IsTuple a f.toArray from p) (by simp;omega) λh' eb=>⟨rfl,I.turned (t':=s.toks) (λb o g e=>eb b o g e) D y J B t⟩
 self:=λ_ _ _ _ _ st h=>wpAny_pyIter_tupleiter st h
theorem V3{tg:Expr}(a:Addr)(lo:Int)(n:Nat):CQ P w K tg (Itr lo n) [a] a (λi h=>IsRangeIter h a (lo+(i:Nat)*1) ((n:Int) -(i:Nat)) 1) where
 mem:=by simp
 obj:=λi h st b c=>by
  have e:b=a:=by simpa using c
  subst e
  exact⟨_,st,λv z=>by
   have x:Data.fields _=Data.cell v:=z
   cases x⟩
 keep:=λi h h' st k=>k a (by simp) _ st
 item:=by
  intro X p hw m hc i pins s σ H E I f st r
  subst p hw m
  obtain⟨l,g,y,q,j,u⟩:=f a (by simp)
  have W:=Walks.range (prog:=X.prog) (w:=X.w) (I.ok.hd hc) a lo 1 n
  refine W.item i s _ _ r st λv h' tk B d A=>?_
  obtain⟨t,rfl⟩:=B
  have D:Inv X pins σ H {s with heap:=h',toks:=tk}:=I.turned (λb o c e=>A b o (by simpa using c) e) l g q j u
  refine⟨_,rfl,Kc (s:={s with heap:=h',toks:=tk}) (n:="range_iterator") d rfl rfl (by decide) ⟨.int (lo+i),H,D,⟨t,?_⟩,⟨rfl,rfl⟩,d,λb c=>(f b c).1⟩⟩
  rw[Int.mul_one]
 done:=by
  intro X p hw m hc i pins s σ H E I f st r
  subst p hw m
  obtain⟨l,g,y,q,j,u⟩:=f a (by simp)
  exact wpAny_pyNext_range_end (I.ok.hd hc) st (by have:n<=i:=r;omega) λh' eb=>⟨rfl,I.turned (t':=s.toks) (λb o c e=>eb b o c e) l g q j u⟩
 self:=λ_ _ _ _ _ st h=>wpAny_pyIter_rangeiter st h
section
variable {X:Cx} {tg:Expr}
variable {pins:List (Addr×Obj)}{σ:St}
theorem Ni{R:It->Hp->Prop}{lo hi:Int}{t u v:Tok}{tk:Nat}(I:Inv X pins σ H s)(h1:-(2 ^ 62)<=lo)(h2:lo < 2 ^ 62)(g:-(2 ^ 62)<=hi)(c:hi < 2 ^ 62)
  (q:R (Itr lo (hi - lo).toNat) H):wpAny (model X.prog X.w) X.A (pyIter (.ref s.heap.objs.size)) (PIE X pins σ tg R) E {s with heap:=s.heap.push {cls:=.type "range",data:=.fields #[.int lo t,.int hi u,.int 1 v]},toks:=tk}:=by
 refine wpAny_pyIter_range (IsRange.new ..) (small_one h1 h2 g c) ?_
 have a:Inv X pins σ H {s with heap:=s.heap.push {cls:=.type "range",data:=.fields #[.int lo t,.int hi u,.int 1 v]},toks:=tk}:=I.kept λb o e=>Qi _ e
 refine⟨(s.heap.push {cls:=.type "range",data:=.fields #[.int lo t,.int hi u,.int 1 v]}).objs.size,[(s.heap.push {cls:=.type "range",data:=.fields #[.int lo t,.int hi u,.int 1 v]}).objs.size],_,_,H,rfl,
  a.kept (t':=tk) λb o e=>Qi _ e,V3 _ lo (hi - lo).toNat,?_,λb d=>?_,q⟩
 ·have f:lo+((0:Nat):Int)*1=lo:=by simp
  have h:(((hi - lo).toNat:Nat):Int) -((0:Nat):Int)=Builtin.Range.rangeSize lo hi 1:=by rw[rangeSize_one];split <;> omega
  show IsRangeIter _ _ (lo+((0:Nat):Int)*1) ((((hi - lo).toNat:Nat):Int) -((0:Nat):Int)) 1
  rw[f,h]
  exact Qk _ rfl
 ·have e:b=(s.heap.push {cls:=.type "range",data:=.fields #[.int lo t,.int hi u,.int 1 v]}).objs.size:=by simpa using d
  subst e
  exact a.fpOk (Yr _) (a.hok.fresh (Yr _))
def V4(ta:TA):TI:=λσ H R=>ta σ H λvs H1=>∃ j:Int,vs=[.int j]/\-(2 ^ 62)<=j/\j < 2 ^ 62/\R (Itr 0 j.toNat) H1
def V5(ta:TA):TI:=λσ H R=>ta σ H λvs H1=>∃ i j:Int,vs=[.int i,.int j]/\(-(2 ^ 62)<=i/\i < 2 ^ 62/\-(2 ^ 62)<=j/\j < 2 ^ 62)/\R (Itr i (j - i).toNat) H1
variable {ta:TA}{p pos:Pos}
theorem V6{a:Expr}(c:Gl X "range")(g:X.mg "range"=none)(d:PA X [a] ta)(hs:starEach [a] X.env=[(false,eval a X.env)]:=by rfl):PI X tg (.Call (.Name "range" p) [a] [] pos) (V4 ta):=by
 intro pins s σ H R I h
 refine Call_ (DZ I c g boot_range (Qc (thn (d pos pins s σ H _ I h) λm l b=>?_) hs rfl))
 obtain⟨k,H1,i,r1,q1⟩:=b
 obtain⟨j,e,q1,q2,q⟩:=q1
 subst e
 cases r1 with
 | cons r f =>
  cases f
  obtain⟨t,rfl⟩:=r
  exact call_range_1 (Ni i (by omega) (by omega) q1 q2 (by simpa using q))
theorem V7{a b:Expr}(g:Gl X "range")(m:X.mg "range"=none)(l:PA X [a,b] ta)(hs:starEach [a,b] X.env=[(false,eval a X.env),(false,eval b X.env)]:=by rfl)(c:starEach [b] X.env=[(false,eval b X.env)]:=by rfl):
  PI X tg (.Call (.Name "range" p) [a,b] [] pos) (V5 ta):=by
 intro pins s σ H R I h
 refine Call_ (DZ I g m boot_range (Qc (thn (l pos pins s σ H _ I h) λv u d=>?_) (by rw[hs,c]) (by rw[c];rfl)))
 obtain⟨o,H1,n,r1,q1⟩:=d
 obtain⟨i,j,e,⟨q1,q2,q3,k⟩,q⟩:=q1
 subst e
 cases r1 with
 | cons r f =>
  cases f with
  | cons r' f =>
   cases f
   obtain⟨t,rfl⟩:=r
   obtain⟨t',rfl⟩:=r'
   exact call_range_2 (Ni n q1 q2 q3 k q)
def V8(wi:TI)(g:TG)(tb:TS):TS:=λD σ H=>wi σ H λJ H1=>∃ W:Nat->Nat->St->Hp->Prop,(∃ m,W 0 m σ H1)/\∀ i m σ H,W i m σ H->
 (J.stop i H/\D.nx σ H)\/(J.go i H/\∃ N:St->Hp->Prop,(∀ σ' H',N σ' H'->∃ m',m' < m/\W (i+1) m' σ' H')/\∀ x H',J.yld i H x H'->g x σ H' λσ2 H2=>tb {D with nx:=N,ct:=N,bk:=D.nx} σ2 H2)
def Fw(fp:List Addr)(h:Heap):List (Addr×Obj):=fp.filterMap λb=>(h.get? b).map λo=>(b,o)
variable {fp:List Addr}
theorem Gh{o:Obj}(a:b∈fp)(e:h.get? b=some o):(b,o)∈Fw fp h:=List.mem_filterMap.mpr ⟨b,a,by rw[e];rfl⟩
theorem V9{p:Addr×Obj}(a:p∈Fw fp h):p.1∈fp/\h.get? p.1=some p.2:=by
 obtain⟨b,d,e⟩:=List.mem_filterMap.mp a
 cases q:h.get? b with
 | none=>rw[q]at e;cases e
 | some o =>
  rw[q]at e
  have c:(b,o)=p:=YD e
  subst c
  exact⟨d,q⟩
theorem Inv.pinned(I:Inv X pins σ H s)(k:∀ b∈fp,CP X pins H b)(j:∀ b∈fp,∃ o,s.heap.get? b=some o/\∀ v,o.data≠.cell v):Inv X (pins++Fw fp s.heap) σ H s :=
 I.pins_of λp i=>(Yz.mp i).elim (λz=>I.pin p (YK _ z)) λz=>by
  obtain⟨a,e⟩:=V9 z
  obtain⟨h,f,g,_⟩:=k p.1 a
  obtain⟨o,c,d⟩:=j p.1 a
  rw[e]at c;cases c
  exact⟨e,h,f,g,d⟩
theorem Inv.unpinned{pl:List (Addr×Obj)}(I:Inv X (pins++pl) σ H s):Inv X pins σ H s:=I.pins_of λp a=>I.pin p (YK _ (List.mem_append_left _ a))
theorem Wa{iter:Expr}{body:List Stmt}{wi:TI}{g:TG}{tb:TS}(y:PassesOwn (model X.prog X.w) X.A X.env X.xe)(hc:X.calm=true)(hi:PI X tg iter wi)(hg:PG X tg g)(c:PSs X body tb)
  (hs:∀ x,foldedSetIterable iter X.env x=pure x:=by intro _;rfl):PS X (.For tg iter body [] pos) (V8 wi g tb):=by
 intro pins s σ H D I h
 refine wpAny_For (thn (hi pins s σ H _ I h) λv s1 h1=>thn h1 λitv s2 h2=>?_) hs
 obtain⟨it,F,Z,J,H2,e,I2,T,U,f2,W,⟨m0,w0⟩,t⟩:=h2
 subst e
 have j:∀{H':Hp},(∀ b∈F,H' b=none)->∀ b∈F,CP X pins H' b:=λhn b c=>⟨hn b c,(f2 b c).2⟩
 refine codeAny_forLoop_any (λn s'=>∃ i σ' H',Inv X pins σ' H' s'/\Z i s'.heap/\(∀ b∈F,H' b=none)/\W i n σ' H') ?_ m0 ⟨0,σ,H2,I2,U,λb c=>(f2 b c).1,w0⟩
 rintro n s3 ⟨i,σ3,O,Y,G,z,w3⟩
 rcases t i n σ3 O w3 with⟨stop,qn⟩|⟨go,N,hN,step⟩
 ·refine wpAny_passesOwn y (thn (T.done X rfl rfl rfl hc i pins s3 σ3 O X.xe Y (j z) G stop) λr s4 L=>?_)
  obtain⟨R,I4⟩:=L
  subst R
  exact wpAny_execs_nil ⟨σ3,O,I4,qn⟩
 ·refine wpAny_passesOwn y (thn (T.item X rfl rfl rfl hc i pins s3 σ3 O X.xe Y (j z) G go) λr s4 B=>?_)
  obtain⟨u,R,h4⟩:=B
  subst R
  refine wpAny_passesOwn y (thn h4 λ_ s5 q=>?_)
  obtain⟨x,H5,I5,r5,y5,p,P⟩:=q
  have S:=I5.pinned (j P) (T.obj _ _ p)
  refine wpAny_passesOwn y (thn (hg _ s5 σ3 H5 x u _ S r5 (step x H5 y5)) λ_ s6 K=>?_)
  obtain⟨σ6,H6,I6,q6⟩:=K
  refine wpAny_passesOwn y (thn (c _ s6 σ6 H6 _ I6 q6) λf Q l=>?_)
  have again:∀{σ7:St}{k:Hp},Inv X (pins++Fw F s5.heap) σ7 k Q->N σ7 k->∃ m,m < n/\∃ i σ' H',Inv X pins σ' H' Q/\Z i Q.heap/\(∀ b∈F,H' b=none)/\W i m σ' H':=λ{σ7 k}a E=>by
   obtain⟨m',hm,w7⟩:=hN σ7 k E
   refine⟨m',hm,i+1,σ7,k,a.unpinned,T.keep _ _ _ p λb c o e=>(a.pin (b,o) (YK _ (YK _ (Gh c e)))).1,λb c=>?_,w7⟩
   obtain⟨o,e,d⟩:=T.obj _ _ p b c
   exact(a.pin (b,o) (YK _ (YK _ (Gh c e)))).2.1
  cases f with
  | next=>obtain⟨σ7,k,a,E⟩:=l;exact again a E
  | cont=>obtain⟨σ7,k,a,E⟩:=l;exact again a E
  | brk=>obtain⟨σ7,k,a,l⟩:=l;exact⟨σ7,k,a.unpinned,l⟩
  | ret v=>obtain⟨x7,σ7,k,a,r7,l⟩:=l;exact⟨x7,σ7,k,a.unpinned,r7,l⟩
end
abbrev R2:=V->V->Hp->VK->Prop
def OpR(X:Cx)(f:Value->Value->Sem Value)(r:R2):Prop :=
 ∀(pins:List (Addr×Obj))(s:Shared)(σ:St)(H:Hp)(x y:V)(v u:Value)(Q:VK),Inv X pins σ H s->RelV x v->RelV y u->r x y H Q->
  wpAny (model X.prog X.w) X.A (f v u) (EP X pins σ Q) X.xe s
def UnR(X:Cx)(f:Value->Sem Value)(r:V->Hp->VK->Prop):Prop :=
 ∀(pins:List (Addr×Obj))(s:Shared)(σ:St)(H:Hp)(x:V)(v:Value)(Q:VK),Inv X pins σ H s->RelV x v->r x H Q->
  wpAny (model X.prog X.w) X.A (f v) (EP X pins σ Q) X.xe s
def CallR(X:Cx)(f:Value)(r:List V->Hp->VK->Prop):Prop :=
 ∀(pins:List (Addr×Obj))(s:Shared)(σ:St)(H:Hp)(xs:List V)(us:List Value)(Q:VK),Inv X pins σ H s->Vals xs us->r xs H Q->
  wpAny (model X.prog X.w) X.A (call f us) (EP X pins σ Q) X.xe s
def Wb(X:Cx)(r:V->Hp->(Bool->Hp->Prop)->Prop):Prop :=
 ∀(pins:List (Addr×Obj))(s:Shared)(σ:St)(H:Hp)(x:V)(v:Value)(Q:Bool->Hp->Prop),Inv X pins σ H s->RelV x v->r x H Q->
  wpAny (model X.prog X.w) X.A (truthy v) (TP X pins σ Q) X.xe s
def tOp(r:R2)(ta tb:TE):TE:=λσ H Q=>ta σ H λx H1=>tb σ H1 λy H2=>r x y H2 Q
def tUn(r:V->Hp->VK->Prop)(ta:TE):TE:=λσ H Q=>ta σ H λx H1=>r x H1 Q
def rI(C:Int->Int->Prop)(g:Int->Int->V):R2:=λx y H Q=>∃ i j,x=.int i/\y=.int j/\C i j/\Q (g i j) H
def rI0(g:Int->Int->V):R2:=λx y H Q=>∃ i j,x=.int i/\y=.int j/\Q (g i j) H
def rU(g:Int->V):V->Hp->VK->Prop:=λx H Q=>∃ i,x=.int i/\Q (g i) H
section
variable {X:Cx} {a b c:Expr} {ta tb tc:TE} {pos:Pos}
variable {f:Value->Value->Sem Value}
theorem Ke(j:PE X a ta)(k:PE X b tb){pins:List (Addr×Obj)}{σ:St}{R:V->V->Hp->Prop}(I:Inv X pins σ H s)
  (h:ta σ H λx H1=>tb σ H1 λy H2=>R x y H2) {Q:Value->Shared->Prop} 
  (n:∀ v u i x y H2,Inv X pins σ H2 i->RelV x v->RelV y u->R x y H2->wpAny (model X.prog X.w) X.A (f v u) Q X.xe i):
  wpAny (model X.prog X.w) X.A (eval a X.env) (λv e=>wpAny (model X.prog X.w) X.A (eval b X.env) (λu d=>wpAny (model X.prog X.w) X.A (f v u) Q X.xe d) X.xe e) X.xe s:=by
 refine thn (j pins s σ H _ I h) λv m c=>?_
 obtain⟨x,H1,l,r1,q1⟩:=c
 refine thn (k pins m σ H1 _ l q1) λu i g=>?_
 obtain⟨y,H2,p,o,q2⟩:=g
 exact n v u i x y H2 p r1 o q2
theorem Wc{op:Operator}{r:R2}(g:OpR X (binaryOp op) r)(c:PE X a ta)(e:PE X b tb):PE X (.BinOp a op b pos) (tOp r ta tb):=by
 intro pins s σ H Q I h
 exact wpAny_BinOp (Ke c e I h λv u j x y H2 i f d q=>g pins j σ H2 x y v u Q i f d q)
theorem Wd{op:UnaryOp}{r:V->Hp->VK->Prop}(d:UnR X (unaryOp op) r)(b:PE X a ta):PE X (.UnaryOp op a pos) (tUn r ta):=by
 intro pins s σ H Q I h
 exact UnaryOp_ (thn (b pins s σ H _ I h) (by rintro v c ⟨x,H1,e,r1,q1⟩;exact d pins c σ H1 x v Q e r1 q1))
variable {g:Int->Int->Int}
theorem opI{C:Int->Int->Prop}
  (a:∀(i j:Int)(t u:Tok)(s:Shared)(Q:Value->Shared->Prop)(E:Value->Shared->Prop),C i j->Q (.int (g i j) s.toks) {s with toks:=s.toks+1}->wpAny (model X.prog X.w) X.A (f (.int i t) (.int j u)) Q E s):
  OpR X f (rI C λi j=>.int (g i j)):=by
 intro pins s σ H x y v u Q I c b h
 obtain⟨i,j,rfl,rfl,hc,q⟩:=h
 obtain⟨t,rfl⟩:=c
 obtain⟨t',rfl⟩:=b
 exact a i j t t' s _ _ hc ⟨.int (g i j),H,I.tok _,⟨_,rfl⟩,q⟩
theorem Nj
  (a:∀(i j:Int)(t u:Tok)(s:Shared)(Q:Value->Shared->Prop)(E:Value->Shared->Prop),Q (.int (g i j) s.toks) {s with toks:=s.toks+1}->wpAny (model X.prog X.w) X.A (f (.int i t) (.int j u)) Q E s):
  OpR X f (rI0 λi j=>.int (g i j)):=by
 intro pins s σ H x y v u Q I c b h
 obtain⟨i,j,rfl,rfl,q⟩:=h
 obtain⟨t,rfl⟩:=c
 obtain⟨t',rfl⟩:=b
 exact a i j t t' s _ _ ⟨.int (g i j),H,I.tok _,⟨_,rfl⟩,q⟩
theorem HA{g:Int->Int->Bool}
  (a:∀(i j:Int)(t u:Tok)(s:Shared)(Q:Value->Shared->Prop)(E:Value->Shared->Prop),Q (.bool (g i j)) s->wpAny (model X.prog X.w) X.A (f (.int i t) (.int j u)) Q E s):
  OpR X f (rI0 λi j=>.bl (g i j)):=by
 intro pins s σ H x y v u Q I c b h
 obtain⟨i,j,rfl,rfl,q⟩:=h
 obtain⟨t,rfl⟩:=c
 obtain⟨t',rfl⟩:=b
 exact a i j t t' s _ _ ⟨.bl (g i j),H,I,rfl,q⟩
theorem We{x y:Int}(a:0 < y)(h:y < 1267650600228229401496703205376):Builtin.divisionGoesByPylong x y=false:=by
 refine PyProof.noPylong_of_log2 ?_
 have h1:y.natAbs≠0:=by omega
 have h2:y.natAbs.log2 < 100:=(Nat.log2_lt h1).mpr (by omega)
 omega
def EN(i j:Int):Prop:=0 < j/\j < 1267650600228229401496703205376
def EO(i j:Int):Prop:=0<=j/\j<=1000000/\i.natAbs < 2 ^ 64
def CMul(i j:Int):Prop:=(-(2 ^ 64) < i/\i < 2 ^ 64)\/(-(2 ^ 64) < j/\j < 2 ^ 64)
theorem CMul.ok{i j:Int}(h:CMul i j):IntMulOk i j:=by
 rcases h with⟨h1,h2⟩|⟨h1,h2⟩
 ·exact .of_left (intBits_le_64 h1 h2)
 ·exact .of_right (intBits_le_64 h1 h2)
theorem Wf:OpR X (binaryOp .Add) (rI0 λi j=>.int (i+j)):=Nj λ_ _ _ _ _ _ _ q=>add_int q
theorem Nk:OpR X (binaryOp .Mult) (rI CMul λi j=>.int (i*j)):=opI λ_ _ _ _ _ _ _ hc q=>mul_int q hc.ok
theorem Wg:OpR X (binaryOp .FloorDiv) (rI EN λi j=>.int (i / j)):=opI λi j _ _ _ _ _ hc q=>by
 have h1:(0:Int) < j:=hc.1
 have h2:j < 1267650600228229401496703205376:=hc.2
 exact floordiv_int (by omega) (by rw[Int.fdiv_eq_ediv_of_nonneg i (by omega)];exact q) (.inl (We h1 h2))
theorem Wh:OpR X (binaryOp .Mod) (rI (λ_ j=>0 < j) λi j=>.int (i % j)):=opI λi j _ _ _ _ _ hc q=>by
 have h1:(0:Int) < j:=hc
 exact mod_int' (by omega) (by rw[Int.fmod_eq_emod_of_nonneg i (by omega)];exact q)
theorem Wi:OpR X (binaryOp .Pow) (rI EO λi j=>.int (i ^ j.toNat)):=opI λ_ _ _ _ _ _ _ hc q=>pow_int_small hc.1 hc.2.1 hc.2.2 q
theorem Wj:OpR X (inplaceOp .Add) (rI0 λi j=>.int (i+j)):=Nj λ_ _ _ _ _ _ _ q=>iadd_int q
theorem unI{f:Value->Sem Value}{g:Int->Int}
  (a:∀(i:Int)(t:Tok)(s:Shared)(Q:Value->Shared->Prop)(E:Value->Shared->Prop),Q (.int (g i) s.toks) {s with toks:=s.toks+1}->wpAny (model X.prog X.w) X.A (f (.int i t)) Q E s):
  UnR X f (rU λi=>.int (g i)):=by
 intro pins s σ H x v Q I b h
 obtain⟨i,rfl,q⟩:=h
 obtain⟨t,rfl⟩:=b
 exact a i t s _ _ ⟨.int (g i),H,I.tok _,⟨_,rfl⟩,q⟩
theorem Wl:UnR X (unaryOp .USub) (rU λi=>.int (-i)):=unI λ_ _ _ _ _ q=>neg_int q
end
def EQ:V->V->Bool
 | .non,.non=>true | .non,.int _=>true | .int _,.non=>true | .non,.bl _=>true | .bl _,.non=>true | .non,.str _=>true | .str _,.non=>true
 | .int _,.int _=>true | .bl _,.bl _=>true | .str _,.str _=>true | .byt _,.byt _=>true
 | .int _,.str _=>true | .str _,.int _=>true | .bl _,.str _=>true | .str _,.bl _=>true
 | _,_=>false
def rEq:R2:=λx y H Q=>EQ x y=true/\Q (.bl (decide (x=y))) H
def rNe:R2:=λx y H Q=>EQ x y=true/\Q (.bl (!decide (x=y))) H
theorem Kf{i j:Int}:decide (V.int i=V.int j)=(i==j):=by
 rw[Bool.eq_iff_iff]
 simp
theorem Kg{i j:Bool}:decide (V.bl i=V.bl j)=(i==j):=by
 rw[Bool.eq_iff_iff]
 simp
theorem Kh{i j:Str}:decide (V.str i=V.str j)=(i==j):=by
 rw[Bool.eq_iff_iff]
 simp
theorem Nl{i j:Array UInt8}:decide (V.byt i=V.byt j)=(i.toList==j.toList):=by
 rw[Bool.eq_iff_iff]
 cases i
 cases j
 simp
section
variable {X:Cx} {a b c:Expr} {ta tb tc:TE} {pos:Pos}
theorem A8{pins:List (Addr×Obj)}{σ:St}{Q:VK}{k a:Bool}(I:Inv X pins σ H s)(q:Q (.bl k) H)(e:k=a):EP X pins σ Q (.bool a) s:=by
 subst e
 exact⟨.bl k,H,I,rfl,q⟩
theorem Wn:OpR X (compareOp .Eq) rEq:=by
 intro pins s σ H x y v u Q I b a h
 obtain⟨hs,q⟩:=h
 cases x with
 | non =>
  cases b
  cases y with
  | non=>cases a;exact PySem.EqNone.eq_none_none (A8 I q (by simp))
  | bl j=>cases a;exact PySem.EqNone.eq_none_bool (A8 I q (by simp))
  | int j=>obtain⟨t',rfl⟩:=a;exact PySem.EqNone.eq_none_int (A8 I q (by simp))
  | str j=>obtain⟨t',rfl⟩:=a;exact PySem.EqNone.eq_none_str (A8 I q (by simp))
  | _=>exact absurd (show false=true from hs) YS
 | bl i =>
  cases b
  cases y with
  | non=>cases a;exact PySem.EqNone.eq_bool_none (A8 I q (by simp))
  | bl j=>cases a;exact eq_bool (A8 I q Kg)
  | str j=>obtain⟨t',rfl⟩:=a;exact PySem.EqMixed.eq_bool_str (A8 I q (by simp))
  | _=>exact absurd (show false=true from hs) YS
 | int i =>
  obtain⟨t,rfl⟩:=b
  cases y with
  | non=>cases a;exact PySem.EqNone.eq_int_none (A8 I q (by simp))
  | int j=>obtain⟨t',rfl⟩:=a;exact eq_int (A8 I q Kf)
  | str j=>obtain⟨t',rfl⟩:=a;exact PySem.EqMixed.eq_int_str (A8 I q (by simp))
  | _=>exact absurd (show false=true from hs) YS
 | str i =>
  obtain⟨t,rfl⟩:=b
  cases y with
  | non=>cases a;exact PySem.EqNone.eq_str_none (A8 I q (by simp))
  | bl j=>cases a;exact PySem.EqMixed.eq_str_bool (A8 I q (by simp))
  | int j=>obtain⟨t',rfl⟩:=a;exact PySem.EqMixed.eq_str_int (A8 I q (by simp))
  | str j=>obtain⟨t',rfl⟩:=a;exact eq_str (A8 I q Kh)
  | _=>exact absurd (show false=true from hs) YS
 | byt i =>
  obtain⟨t,rfl⟩:=b
  cases y with
  | byt j=>obtain⟨t',rfl⟩:=a;exact PySem.W.eq_bytes (A8 I q Nl)
  | _=>exact absurd (show false=true from hs) YS
 | _=>cases y <;> exact absurd (show false=true from hs) YS
theorem Wo:OpR X (compareOp .NotEq) rNe:=by
 intro pins s σ H x y v u Q I b a h
 obtain⟨hs,q⟩:=h
 cases x with
 | non =>
  cases b
  cases y with
  | non=>cases a;exact PySem.EqNone.ne_none_none (A8 I q (by simp))
  | bl j=>cases a;exact PySem.EqNone.ne_none_bool (A8 I q (by simp))
  | int j=>obtain⟨t',rfl⟩:=a;exact PySem.EqNone.ne_none_int (A8 I q (by simp))
  | str j=>obtain⟨t',rfl⟩:=a;exact PySem.EqNone.ne_none_str (A8 I q (by simp))
  | _=>exact absurd (show false=true from hs) YS
 | bl i =>
  cases b
  cases y with
  | non=>cases a;exact PySem.EqNone.ne_bool_none (A8 I q (by simp))
  | bl j=>cases a;exact ne_bool (A8 I q (congrArg not Kg))
  | str j=>obtain⟨t',rfl⟩:=a;exact PySem.EqMixed.ne_bool_str (A8 I q (by simp))
  | _=>exact absurd (show false=true from hs) YS
 | int i =>
  obtain⟨t,rfl⟩:=b
  cases y with
  | non=>cases a;exact PySem.EqNone.ne_int_none (A8 I q (by simp))
  | int j=>obtain⟨t',rfl⟩:=a;exact ne_int (A8 I q (congrArg not Kf))
  | str j=>obtain⟨t',rfl⟩:=a;exact PySem.EqMixed.ne_int_str (A8 I q (by simp))
  | _=>exact absurd (show false=true from hs) YS
 | str i =>
  obtain⟨t,rfl⟩:=b
  cases y with
  | non=>cases a;exact PySem.EqNone.ne_str_none (A8 I q (by simp))
  | bl j=>cases a;exact PySem.EqMixed.ne_str_bool (A8 I q (by simp))
  | int j=>obtain⟨t',rfl⟩:=a;exact PySem.EqMixed.ne_str_int (A8 I q (by simp))
  | str j=>obtain⟨t',rfl⟩:=a;exact ne_str (A8 I q (congrArg not Kh))
  | _=>exact absurd (show false=true from hs) YS
 | byt i =>
  obtain⟨t,rfl⟩:=b
  cases y with
  | byt j=>obtain⟨t',rfl⟩:=a;exact PySem.W.ne_bytes (A8 I q (congrArg not Nl))
  | _=>exact absurd (show false=true from hs) YS
 | _=>cases y <;> exact absurd (show false=true from hs) YS
theorem Wp:OpR X (compareOp .Lt) (rI0 λi j=>.bl (decide (i < j))):=HA λ_ _ _ _ _ _ _ q=>lt_int q
theorem Wq:OpR X (compareOp .LtE) (rI0 λi j=>.bl (decide (i<=j))):=HA λ_ _ _ _ _ _ _ q=>le_int q
theorem Wr:OpR X (compareOp .Gt) (rI0 λi j=>.bl (decide (j < i))):=HA λ_ _ _ _ _ _ _ q=>gt_int q
theorem Ws:OpR X (compareOp .GtE) (rI0 λi j=>.bl (decide (j<=i))):=HA λ_ _ _ _ _ _ _ q=>ge_int q
theorem Wt:OpR X (compareOp .Lt) (λx y H Q=>∃ i j,x=.str i/\y=.str j/\Q (.bl (decide (i.cps.toList < j.cps.toList))) H):=by
 intro pins s σ H x y v u Q I b a h
 obtain⟨i,j,rfl,rfl,q⟩:=h
 obtain⟨t,rfl⟩:=b
 obtain⟨t',rfl⟩:=a
 exact lt_str (A8 I q rfl)
theorem Wu:OpR X (compareOp .Is) (λx y H Q=>y=.non/\Q (.bl (decide (x=.non))) H):=by
 intro pins s σ H x y v u Q I a b h
 obtain⟨rfl,q⟩:=h
 cases b
 refine is_none_gen (A8 I q ?_)
 cases x <;> first
  |(cases a;rfl)
  |(obtain⟨t,rfl⟩:=a;rfl)
variable {r r':R2}
theorem OpR.or{f:Value->Value->Sem Value}(h:OpR X f r)(h':OpR X f r'):OpR X f (λx y H Q=>r x y H Q\/r' x y H Q):=by
 intro pins s σ H x y v u Q I b a q
 rcases q with q | q
 ·exact h pins s σ H x y v u Q I b a q
 ·exact h' pins s σ H x y v u Q I b a q
variable {op:CmpOp}
theorem iA(b:Expr)(h:op≠.In:=by decide)(h2:op≠.NotIn:=by decide):behindInMarks op b=false:=by
 have a:(op==CmpOp.In)=false:=by cases op <;> first | rfl | exact absurd rfl h
 have c:(op==CmpOp.NotIn)=false:=by cases op <;> first | rfl | exact absurd rfl h2
 cases b <;> simp[behindInMarks,a,c]
theorem Wv(g:OpR X (compareOp op) r)(c:PE X a ta)(f:PE X b tb)(e:behindInMarks op b=false):PE X (.Compare a [op] [b] pos) (tOp r ta tb):=by
 intro pins s σ H Q I h
 exact wpAny_Compare1 (Ke c f I h λv u k x y H2 j i d q=>g pins k σ H2 x y v u Q j i d q) e
def Nn(t:TE):TT:=λσ H Q=>t σ H λx H'=>∃ k,x=.bl k/\Q k H'
theorem Ww(j:OpR X (compareOp op) r)(f:PE X a ta)(i:PE X b tb)(l:behindInMarks op b=false):PT X (.Compare a [op] [b] pos) (Nn (tOp r ta tb)):=by
 intro pins s σ H Q I h
 refine wpAny_isTrue_Compare1 (thn (f pins s σ H _ I h) λv m⟨x,H1,p,r1,q1⟩=>thn (i pins m σ H1 _ p q1) λu t⟨y,H2,q,o,q2⟩=>
  thn (j pins t σ H2 x y v u _ q r1 o q2) λc w⟨z,g,d,n,k,e,q3⟩=>?_) l
 subst e
 cases n
 exact wpAny_truthy_bool ⟨g,d,q3⟩
def Ki(r r':R2)(ta tb tc:TE):TE:=λσ H Q=>ta σ H λx H1=>tb σ H1 λy H2=>r x y H2 λz H3=>∃ k,z=.bl k/\
 (if k=true then tc σ H3 λw' H4=>r' y w' H4 Q else Q (.bl false) H3)
variable {op':CmpOp}
theorem Wx(n:OpR X (compareOp op) r)(f:OpR X (compareOp op') r')(B:PE X a ta)(p:PE X b tb)(hc:PE X c tc)
  (G:lastMarks [op,op'] [b,c]=false:=by with_unfolding_all rfl):PE X (.Compare a [op,op'] [b,c] pos) (Ki r r' ta tb tc):=by
 intro pins s σ H Q I h
 refine Compare_chain (thn (B pins s σ H _ I h) λv L⟨x,H1,w,r1,q1⟩=>chain_link (thn (p pins L σ H1 _ w q1) λu A⟨y,H2,K,j,q2⟩=>
  thn (n pins A σ H2 x y v u _ K r1 j q2) λd J⟨z,i,g,q,k,e,q3⟩=>?_)) G
 subst e
 cases q
 refine wpAny_truthy_bool ?_
 cases k with
 | false=>exact ite_ff ⟨.bl false,i,g,rfl,q3⟩
 | true=>exact ite_tt (chain_last (thn (hc pins J σ i _ g q3) (by rintro E o ⟨D,t,F,m,l⟩;exact f pins o σ t y D u E Q F j m l)))
theorem Wy(n:OpR X (compareOp op) r)(f:OpR X (compareOp op') r')(D:PE X a ta)(o:PE X b tb)(hc:PE X c tc)
  (J:lastMarks [op,op'] [b,c]=false:=by with_unfolding_all rfl):PT X (.Compare a [op,op'] [b,c] pos) (Nn (Ki r r' ta tb tc)):=by
 intro pins s σ H Q I h
 refine isTrue_chain (thn (D pins s σ H _ I h) λv R⟨x,H1,w,r1,q1⟩=>test_link (thn (o pins R σ H1 _ w q1) λu A⟨y,H2,N,j,q2⟩=>
  thn (n pins A σ H2 x y v u _ N r1 j q2) λd L⟨z,i,g,q,k,e,q3⟩=>?_)) J
 subst e
 cases q
 refine wpAny_truthy_bool ?_
 cases k with
 | false =>
  obtain⟨k',U,T⟩:=q3
  cases U
  exact ite_ff ⟨i,g,T⟩
 | true =>
  refine ite_tt (test_last (thn (hc pins L σ i _ g q3) λF p⟨E,t,G,m,l⟩=>thn (f pins p σ t y E u F _ G j m l) λY s5⟨z2,B,S,K,Z,O,P⟩=>?_))
  subst O
  cases K
  exact wpAny_truthy_bool ⟨B,S,P⟩
def Kj(K:PySem.W.Frag)(x:V)(H:Hp)(k:Bool):Prop :=
 match x with
 | .non=>k=false
 | .bl b=>k=b
 | .int i=>k=(i != 0)
 | .str y=>y.length<=sizeLine/\k=((y.length:Int) != 0)
 | .byt y=>y.size<=sizeLine/\k=((y.size:Int) != 0)
 | .ref p=>(∃ xs,SqL K H p xs/\k=!xs.isEmpty)\/(∃ xs,SqT K H p xs/\k=!xs.isEmpty)\/∃ kvs,H p=some (.dK kvs)/\k=!kvs.isEmpty
 | _=>False
theorem Wz{κ:Type}{kvs:List (κ×V)}{vs:List (κ×Value)}(r:KV kvs vs):(!vs.isEmpty)=!kvs.isEmpty:=by
 cases r <;> rfl
theorem Np{xs:List V}{a:List Value}(r:Vals xs a):(!a.toArray.isEmpty)=!xs.isEmpty:=by
 cases r <;> simp
theorem Fy:(sizeLine:Nat) < 2 ^ 63:=by rw[sizeLine_eq];decide
theorem WA:Wb X (λx H Q=>∃ k,Kj X.K x H k/\Q k H):=by
 intro pins s σ H x v Q I f h
 obtain⟨k,e,q⟩:=h
 have hl:=Fy
 have hs:sizeLine=16777216:=sizeLine_eq
 cases x with
 | non =>
  cases f
  have a:k=false:=e
  subst a
  exact truthy_none ⟨H,I,q⟩
 | bl b =>
  cases f
  have a:k=b:=e
  subst a
  exact wpAny_truthy_bool ⟨H,I,q⟩
 | int i =>
  obtain⟨t,rfl⟩:=f
  have a:k=(i != 0):=e
  subst a
  exact PySem.P.truthy_int ⟨H,I,q⟩
 | str y =>
  obtain⟨t,rfl⟩:=f
  obtain⟨o,a⟩:y.length<=sizeLine/\k=((y.length:Int) != 0):=e
  subst a
  exact PySem.P.truthy_str (by omega) ⟨H,I.tok _,q⟩
 | byt y =>
  obtain⟨t,rfl⟩:=f
  obtain⟨o,a⟩:y.size<=sizeLine/\k=((y.size:Int) != 0):=e
  subst a
  exact PySem.W.truthy_bytes (by omega) ⟨H,I.tok _,q⟩
 | ref p =>
  cases f
  have a:(∃ xs,SqL X.K H p xs/\k=!xs.isEmpty)\/(∃ xs,SqT X.K H p xs/\k=!xs.isEmpty)\/∃ c,H p=some (.dK c)/\k=!c.isEmpty:=e
  rcases a with⟨xs,g,a⟩|⟨xs,g,a⟩|⟨c,g,a⟩
  ·subst a
   obtain⟨l,r,pl,n⟩:=I.list g
   have d:=r.length
   exact wpAny_truthy_list pl.isList (by simp only[Yn];omega) ⟨H,I.tok _,by rw[Np r];exact q⟩
  ·subst a
   obtain⟨l,r,pl,n⟩:=I.tuple g
   have d:=r.length
   exact truthy_tuple pl (by simp only[Yn];omega) ⟨H,I.tok _,by rw[Np r];exact q⟩
  ·subst a
   obtain⟨n,u,j,r,m⟩:c.length<=sizeLine/\(p==sysModules)=false/\∃ j,KV c j/\s.heap.DictOf (Bs X.prog X.w) p j:=I.hok p _ g
   have d:c.length=j.length:=Paired.length r
   exact wpAny_truthy_dict u m (by omega) ⟨H,I.tok _,by rw[Wz r];exact q⟩
 | _=>exact(show False from e).elim
theorem WB(c:PE X a ta)(d:∀ b,isTrue a X.env b=(do let v <- b;standAt a.pos;holding [v] (truthy v))):
  PT X a (λσ H Q=>ta σ H λx H'=>∃ k,Kj X.K x H' k/\Q k H'):=by
 intro pins s σ H Q I h
 exact isTrue_plain (thn (c pins s σ H _ I h) (by rintro v e ⟨x,H1,f,r1,q1⟩;exact WA pins e σ H1 x v Q f r1 q1)) (d _)
theorem WC:OpR X (binaryOp .Add) (λx y H Q=>∃ i j,x=.str i/\y=.str j/\i.length+j.length<=sizeLine/\Q (.str (i++j)) H):=by
 intro pins s σ H x y v u Q I c b h
 obtain⟨i,j,rfl,rfl,a,q⟩:=h
 obtain⟨t,rfl⟩:=c
 obtain⟨t',rfl⟩:=b
 exact add_str (λt' tk=>⟨.str (i++j),H,I.tok _,⟨_,rfl⟩,q⟩) a
theorem WD:OpR X (inplaceOp .Add) (λx y H Q=>∃ i j,x=.str i/\y=.str j/\i.length+j.length<=sizeLine/\Q (.str (i++j)) H):=by
 intro pins s σ H x y v u Q I c b h
 obtain⟨i,j,rfl,rfl,a,q⟩:=h
 obtain⟨t,rfl⟩:=c
 obtain⟨t',rfl⟩:=b
 exact iadd_str (λt' tk=>⟨.str (i++j),H,I.tok _,⟨_,rfl⟩,q⟩) a
theorem Cq(r:Vals [x] us):∃ u,us=[u]/\RelV x u:=by
 cases r with
 | cons r1 a=>cases a;exact⟨_,rfl,r1⟩
theorem HB{y:V}(r:Vals [x,y] us):∃ u a,us=[u,a]/\RelV x u/\RelV y a:=by
 cases r with
 | cons r1 d =>
  cases d with
  | cons c b=>cases b;exact⟨_,_,rfl,r1,c⟩
theorem WE:CallR X (.type "int") (λxs H Q=>(∃ i,xs=[.int i]/\Q (.int i) H)\/∃ k,xs=[.bl k]/\Q (.int (if k then 1 else 0)) H):=by
 intro pins s σ H xs a Q I r h
 rcases h with⟨i,rfl,q⟩|⟨k,rfl,q⟩
 ·obtain⟨u,rfl,t,rfl⟩:=Cq r
  exact call_int_int ⟨.int i,H,I,⟨_,rfl⟩,q⟩
 ·obtain⟨u,rfl,r1⟩:=Cq r
  cases r1
  exact call_int_bool ⟨.int (if k then 1 else 0),H,I.tok _,⟨_,rfl⟩,q⟩
def Nq(K:PySem.W.Frag)(x:V)(H:Hp)(n:Nat):Prop :=
 match x with
 | .str y=>y.length<=sizeLine/\n=y.length
 | .byt y=>y.size<=sizeLine/\n=y.size
 | .ref p=>(∃ xs,SqL K H p xs/\n=xs.length)\/∃ xs,SqT K H p xs/\n=xs.length
 | _=>False
theorem WF:CallR X (.builtin "len") (λxs H Q=>∃ x n,xs=[x]/\Nq X.K x H n/\Q (.int n) H):=by
 intro pins s σ H xs j Q I r h
 obtain⟨x,n,rfl,e,q⟩:=h
 obtain⟨u,rfl,c⟩:=Cq r
 have hl:=Fy
 have hs:sizeLine=16777216:=sizeLine_eq
 cases x with
 | str y =>
  obtain⟨t,rfl⟩:=c
  obtain⟨i,b⟩:y.length<=sizeLine/\n=y.length:=e
  subst b
  exact len_str (by omega) ⟨.int _,H,I.tok _,⟨_,rfl⟩,q⟩
 | byt y =>
  obtain⟨t,rfl⟩:=c
  obtain⟨i,b⟩:y.size<=sizeLine/\n=y.size:=e
  subst b
  exact PySem.W.len_bytes (by omega) ⟨.int _,H,I.tok _,⟨_,rfl⟩,q⟩
 | ref p =>
  cases c
  have b:(∃ xs,SqL X.K H p xs/\n=xs.length)\/∃ xs,SqT X.K H p xs/\n=xs.length:=e
  rcases b with⟨xs,f,b⟩|⟨xs,f,b⟩
  ·subst b
   obtain⟨d,r',pl,g⟩:=I.list f
   have a:=r'.length
   exact Calls.call_len_list pl.isList (by simp only[Yn];omega) ⟨.int xs.length,H,I.tok _,⟨_,by simp only[Yn];rw[a]⟩,q⟩
  ·subst b
   obtain⟨d,r',pl,g⟩:=I.tuple f
   have a:=r'.length
   exact len_tuple pl (by simp only[Yn];omega) ⟨.int xs.length,H,I.tok _,⟨_,by simp only[Yn];rw[a]⟩,q⟩
 | _=>exact(show False from e).elim
end
section
variable {prog:Program} {w:World} {A:Around} {E:Value->Shared->Prop} {s:Shared} {K:PySem.W.Frag} {x dx C f:Addr} {mA:Str->Option Value} {name:Str} {v:Value}
end
section
variable {P:Program} {w:World} {H H':Hp} {h h':Heap} {a C dx:Addr} {fs fs':List (Str×V)}
end
structure Cls(K:PySem.W.Frag)(C:Addr):Prop where
 pg:PySem.W.plainGet K C Str.empty=true
 hd:PySem.W.hasDictIn K C=true
 po:PySem.W.plainOver K C=true
 sa:PySem.W.findIn K (.ref C) "__setattr__"=some (some (.builtin "object.__setattr__"))
theorem Cls.get{C:Addr}(c:Cls K C)(f:Str):PySem.W.plainGet K C f=true:=c.pg
section
variable {X:Cx} {pins:List (Addr×Obj)} {σ:St} {H:Hp} {s:Shared} {a C dx:Addr} {fs:List (Str×V)} {f:Str} {v:V} {A:Around} {E:Value->Shared->Prop}
theorem Inv.made(I:Inv X pins σ H s):Inv X pins σ (upd (upd H s.heap.objs.size (.own (s.heap.objs.size+1))) (s.heap.objs.size+1) (.ins C s.heap.objs.size []))
  {s with heap:=(s.heap.push PySem.W.emptyDict).push (PySem.W.instObj C s.heap.objs.size)}:=by
 have c:(s.heap.push PySem.W.emptyDict).get? s.heap.objs.size=some PySem.W.emptyDict:=Qk s.heap rfl
 have i:((s.heap.push PySem.W.emptyDict).push (PySem.W.instObj C s.heap.objs.size)).get? (s.heap.objs.size+1)=some (PySem.W.instObj C s.heap.objs.size):=by
  have:=Qk (s.heap.push PySem.W.emptyDict) (o:=PySem.W.instObj C s.heap.objs.size) rfl
  rwa [Ql]at this
 have h:(s.heap.push PySem.W.emptyDict).Ns s.heap.objs.size (λ_=>none):=⟨PySem.W.emptyDict,#[],_,c,rfl,(λe f=>absurd f (by simp)),λ_=>rfl⟩
 have g:=I.laid (a:=s.heap.objs.size) (o:=.own (s.heap.objs.size+1)) (h':=s.heap.push PySem.W.emptyDict) (t':=s.toks) (λb u q=>Qi _ q) (Yr _) ⟨_,c⟩
 refine g.laid (a:=s.heap.objs.size+1) (o:=.ins C s.heap.objs.size []) (t':=s.toks) (λb u q=>Qi _ q) (Nat.le_of_eq (Ql _ _)) ?_
 have ne:s.heap.objs.size≠s.heap.objs.size+1:=Ys (Nat.lt_succ_self _)
 refine⟨by rw[A4 ne,BO],YT _,ne,i,λ_=>none,(Heap.Ns1.of_empty h).at λo q=>Qi _ q,λ_=>True.intro,λy d=>absurd rfl d⟩
end
section
variable {X:Cx} {o e value:Expr} {f:Str} {pos pos' tpos:Pos} {ta tv:TE}
def Bo:V->V->Hp->VK->Prop:=λx y H Q=>∃ i j,x=.int i/\y=.int j/\Q (.int (i+j)) H
end
section
variable {X:Cx} {pins:List (Addr×Obj)} {σ:St} {H:Hp} {s:Shared} {A:Around} {E:Value->Shared->Prop} {Q:Value->Shared->Prop} {c:Value} {b:Bool}
end
structure Room(k:Nat)(A:Around):Prop where
 hd:A.handled=none
 dp:A.depth+3*k+5 < recursionLimit
 un:A.units+16*k+200 < cLine
variable {j k:Nat}
theorem Room.mono(r:Room k A)(h:j<=k):Room j A:=⟨r.hd,by have:=r.dp;omega,by have:=r.un;omega⟩
theorem Room.deeper(r:Room (k+1) A)(env:Env):Room k (A.deeper env):=
 ⟨r.hd,by have:=r.dp;show A.depth+1+3*k+5 < _;omega,by have:=r.un;show A.units+3+16*k+200 < _;omega⟩
theorem Room.in1(r:Room (k+1) A):Room k A.in1 :=
 ⟨r.hd,by have:=r.dp;show A.depth+3*k+5 < _;omega,by have:=r.un;show A.units+1+16*k+200 < _;omega⟩
theorem Room.depth(r:Room k A):A.depth < recursionLimit:=by have:=r.dp;omega
theorem Room.units(r:Room k A):A.units+64 < cLine:=by have:=r.un;omega
def Gi:TA:=λ_ H Q=>Q [] H
def Fz(ta:TE)(tr:TA):TA:=λσ H Q=>ta σ H λx H1=>tr σ H1 λxs H2=>Q (x::xs) H2
section
variable {X:Cx} {e:Expr} {es:List Expr} {te:TE} {t:TA} {pos:Pos}
theorem HC:PA X [] Gi:=λ_ _ _ _ H Q I h=>Calls.spliced_nil ⟨[],H,I,.nil,h⟩
theorem Gj(b:PE X e te)(c:PA X es t)(hs:starEach (e::es) X.env=(false,eval e X.env)::starEach es X.env:=by rfl):PA X (e::es) (Fz te t):=by
 intro pos pins s σ H Q I h
 rw[hs]
 show wpAny _ _ (spliced ((false,eval e X.env)::backTo pos (starEach es X.env))) _ _ s
 refine Calls.spliced_cons (thn (b pins s σ H _ I h) λu f a=>?_)
 obtain⟨x,H1,d,r1,q1⟩:=a
 exact thn (c pos pins f σ H1 _ d q1) (by rintro j k ⟨xs,H2,i,g,q2⟩;exact⟨x::xs,H2,i,.cons r1 g,q2⟩)
def WG(t:TA):TE:=λσ H Q=>t σ H λxs H1=>xs.length<=sizeLine/\∀ p,H1 p=none->Q (.ref p) (upd H1 p (.tup xs))
def WH(t:TA):TE:=λσ H Q=>t σ H λxs H1=>xs.length<=sizeLine/\∀ p,H1 p=none->Q (.ref p) (upd H1 p (.lst xs))
theorem WI{x1}(h:PA X es t):PE X (.Tuple es x1 pos) (WG t):=by
 intro pins s σ H Q I d
 refine wpAny_Tuple_spliced (thn (h pos pins s σ H _ I d) λg a⟨xs,H1,c,r,z,q⟩=>⟨by rw[<- r.length];exact z,?_⟩)
 have f:H1 a.heap.objs.size=none:=c.hok.fresh (Yr _)
 refine⟨.ref a.heap.objs.size,upd H1 a.heap.objs.size (.tup xs),c.laid (t':=a.toks) (λb u e=>Qi _ e) (Yr _) ?_,rfl,q _ f⟩
 exact⟨z,g,r,⟨_,Qk _ rfl,rfl,rfl,_,rfl⟩⟩
theorem WJ(h:PA X es t):PE X (.List es pos) (WH t):=by
 intro pins s σ H Q I d
 refine wpAny_List_spliced (thn (h pos pins s σ H _ I d) λg a⟨xs,H1,c,r,z,q⟩=>⟨by rw[<- r.length];exact z,?_⟩)
 have f:H1 a.heap.objs.size=none:=c.hok.fresh (Yr _)
 refine⟨.ref a.heap.objs.size,upd H1 a.heap.objs.size (.lst xs),c.laid (t':=a.toks) (λb u e=>Qi _ e) (Yr _) ?_,rfl,q _ f⟩
 exact⟨z,g,0,r,Qk _ rfl⟩
end
abbrev Sp:=List V->Hp->VK->XK->Prop
abbrev CXT:=List Env->Hp->Shared->XK->Value->Shared->Prop
structure Env0(P:Program)(w:World)(K:PySem.W.Frag)(mg:Str->Option Value)(base:Heap)(A:Around)(outer:List Env)(s:Shared)(H:Hp):Prop where
 frames:A.frames=some outer
 mod:Mod K mg base
 bs:∀ b o,base.get? b=some o->s.heap.get? b=some o/\H b=none
 bsz:base.objs.size<=s.heap.objs.size
 funs:s.heap.FunFrames base outer
 frf:∀ b∈frs outer,H b=none
 hok:HOk P w H s.heap
 bare:AllBare s.gens
def CE(outer:List Env)(P:Program)(w:World)(H:Hp)(s:Shared)(Q:VK)(u:Value)(s':Shared):Prop :=
 ∃ v H',s'.os=s.os/\AllBare s'.gens/\Un (frs outer) [] H H' s.heap s'.heap/\HOk P w H' s'.heap/\RelV v u/\Q v H'
def CR(CX:CXT)(outer:List Env)(P:Program)(w:World)(H:Hp)(s:Shared)(Q:VK)(E:XK)(r:Result)(s':Shared):Prop :=
 match r with
 | .ok (.ret u)=>CE outer P w H s Q u s'
 | .ok _=>False
 | .error e=>CX outer H s E e s'
structure FnOk(P:Program)(w:World)(K:PySem.W.Frag)(mg:Str->Option Value)(base:Heap)(CX:CXT)(k:Nat)(f:Addr)(fd:FuncData)(ps:List Str)(sp:Sp):Prop where
 len:∀ vs H Q E,sp vs H Q E->vs.length=ps.length
 run:∀(A:Around)(outer:List Env)(s:Shared)(H:Hp)(args:Args)(us:List Value)(vs:List V)(Q:VK)(E:XK),Room k A->Env0 P w K mg base A outer s H->BindsTo s fd args (ps.zip us)->Vals vs us->sp vs H Q E->
  codeAny (model P w) A (.call (.ref f) args) (CR CX outer P w H s Q E) s
variable {mg:Str->Option Value}{base:Heap}{CX:CXT}{f:Addr}{fd:FuncData}{ps:List Str}{sp:Sp}
theorem FnOk.mono(F:FnOk P w K mg base CX j f fd ps sp)(h:j<=k):
  FnOk P w K mg base CX k f fd ps sp:=⟨F.len,λA outer s H a c b Q E d=>F.run A outer s H a c b Q E (d.mono h)⟩
variable {outer:List Env}
theorem Env0.in1(e:Env0 P w K mg base A outer s H):
  Env0 P w K mg base A.in1 outer s H:=⟨e.frames,e.mod,e.bs,e.bsz,e.funs,e.frf,e.hok,e.bare⟩
section
variable {X:Cx} {pins:List (Addr×Obj)} {σ:St} {H:Hp} {s s':Shared}
theorem Inv.env0(I:Inv X pins σ H s):Env0 X.prog X.w X.K X.mg X.base X.A X.stack s H :=
 ⟨I.ok.frames,I.ok.mod,I.bs,Yt I.ok.bsz I.sz,I.stack,I.stkFree,I.hok,I.bare⟩
theorem Inv.after{Q:VK}(I:Inv X pins σ H s)(h:CE X.stack X.prog X.w H s Q u s'):EP X pins σ Q u s':=by
 obtain⟨v,H',os,bare,un,hok,r,q⟩:=h
 obtain⟨c,g,d,t,a⟩:=s'
 obtain rfl:a=s.os:=os
 exact⟨v,H',I.call (h':=c) (g':=g) (d':=d) (t':=t) (ch:=[]) un hok bare (λb z=>absurd z (by simp)),r,q⟩
end
def Binds(K:PySem.W.Frag)(fd:FuncData)(ps:List Str)(ds:List Value):Prop :=
 ∀(s:Shared)(us:List Value),K.In s.heap->(us++ds).length=ps.length->BindsTo s fd ⟨us,[]⟩ (ps.zip (us++ds))
theorem Binds.all(h:∀ us:List Value,us.length=ps.length->bindArgs fd ⟨us,[]⟩=pure (ps.zip us)):Binds K fd ps []:=λs us _ hl=>by
 rw[Yx]at hl ⊢
 exact .of_eq (h us hl)
def WK(CX:CXT)(X:Cx)(E:XK):Prop:=∀(pins:List (Addr×Obj))(σ:St)(H:Hp)(s:Shared)(e:Value)(s':Shared),Inv X pins σ H s->CX X.stack H s E e s'->X.xe e s'
section
variable {X:Cx} {CX:CXT} {k:Nat} {f C:Addr} {fd:FuncData} {ps:List Str} {sp:Sp} {dvs:List V} {ds:List Value} {E:XK} {x m:Str} {p pos apos:Pos} {e o:Expr} {es:List Expr} {ta:TE} {t:TA}
end
section
variable {X:Cx} {CX:CXT} {k:Nat} {f C:Addr} {fd:FuncData} {ps ks:List Str} {sp:Sp} {E:XK} {x m:Str} {p pos apos kpos:Pos} {e o:Expr} {es:List Expr} {kws:List Keyword} {te ta:TE} {t tk:TA} {nm:Option Str}
variable {g:List Value->List Value->List Value} {gV:List V->List V->List V}
end
structure AE(N P:List Str)(sc:Scope):Prop where
 kind:sc.kind=.function
 co:sc.isCoroutine=false
 gen:sc.isGenerator=false
 nd:N.Nodup
 pre:N.take P.length=P
 par:∀ x∈P,sc.names.lookup x=some .local\/sc.names.lookup x=some .cell
 nofree:∀ y∈sc.names,y.2≠.free
theorem Nr{kindOf:Str->Option NameKind}{x:Str}:∀{binds:List (Str×Value)}{m:Str->Option Value},(∀ v,(x,v)∉binds)->bindL kindOf binds m x=m x
 | [],_,_=>rfl
 |(n,v)::r,m,h=>by
  unfold bindL
  rw[Nr λw hw=>h w (Yd _ hw)]
  split
  ·have:x≠n:=by rintro rfl;exact h v Ye
   simp[this]
  ·rfl
theorem Nt{kindOf:Str->Option NameKind}{x:Str}:∀{binds:List (Str×Value)}{m:Str->Option Value},(∀ v,(x,v)∉binds)->bindC kindOf binds m x=m x
 | [],_,_=>rfl
 |(n,v)::r,m,h=>by
  unfold bindC
  rw[Nt λw hw=>h w (Yd _ hw)]
  split
  ·rfl
  ·have:x≠n:=by rintro rfl;exact h v Ye
   simp[this]
theorem Nu{kindOf:Str->Option NameKind}{x:Str}{v:Value}:∀{P:List Str}{vs:List Value}{i:Nat}{m:Str->Option Value},P.Nodup->P[i]?=some x->vs[i]?=some v->kindOf x=some .local->
  bindL kindOf (P.zip vs) m x=some v
 | [],_,_,_,_,h,_,_=>by simp at h
 | _::_,[],_,_,_,_,h,_=>by simp at h
 | p::P,w::vs,0,m,nd,h1,h2,a=>by
  simp at h1 h2;subst h1;subst h2
  show bindL kindOf ((p,w)::P.zip vs) m p=_
  unfold bindL
  rw[Nr λv b=>(YQ.mp nd).1 (List.of_mem_zip b).1,if_pos a]
  simp
 | p::P,w::vs,i+1,m,nd,h1,h2,a=>by
  show bindL kindOf ((p,w)::P.zip vs) m x=_
  unfold bindL
  exact Nu (i:=i) (YQ.mp nd).2 (by simpa using h1) (by simpa using h2) a
theorem Nv{kindOf:Str->Option NameKind}{x:Str}{v:Value}:∀{P:List Str}{vs:List Value}{i:Nat}{m:Str->Option Value},P.Nodup->P[i]?=some x->vs[i]?=some v->kindOf x≠some .local->
  bindC kindOf (P.zip vs) m x=some v
 | [],_,_,_,_,h,_,_=>by simp at h
 | _::_,[],_,_,_,_,h,_=>by simp at h
 | p::P,w::vs,0,m,nd,h1,h2,a=>by
  simp at h1 h2;subst h1;subst h2
  show bindC kindOf ((p,w)::P.zip vs) m p=_
  unfold bindC
  rw[Nt λv b=>(YQ.mp nd).1 (List.of_mem_zip b).1,if_neg a]
  simp
 | p::P,w::vs,i+1,m,nd,h1,h2,a=>by
  show bindC kindOf ((p,w)::P.zip vs) m x=_
  unfold bindC
  exact Nv (i:=i) (YQ.mp nd).2 (by simpa using h1) (by simpa using h2) a
def CS(N:List Str)(vs:List V):St:=vs.map some++List.replicate (N.length - vs.length) none
def Bp(CX:CXT)(P:Program)(w:World)(K:PySem.W.Frag)(mg:Str->Option Value)(base:Heap)(N:List Str)(qual:Str)(scope:Scope)(f:Addr)(cd:Value)(A:Around)(outer:List Env)(s:Shared)(H:Hp)(E:XK):Cx where
 prog:=P
 w:=w
 K:=K
 mg:=mg
 base:=base
 A:=A.deeper (envOfC qual scope s.heap.objs.size f cd)
 N:=N
 s₀:=s
 H₀:=H
 env:=envOfC qual scope s.heap.objs.size f cd
 outer:=outer
 stack:=envOfC qual scope s.heap.objs.size f cd::outer
 ex:=[]
 calm:=true
 fn:=λ_=>true
 pn:=[]
 xe:=λe s'=>wpAny (model P w) (A.deeper (envOfC qual scope s.heap.objs.size f cd)) (leaving (envOfC qual scope s.heap.objs.size f cd) e) (λ_ s''=>CX outer H s E e s'') (λe' s''=>CX outer H s E e' s'') s'
theorem Kk{a:Scope}{n:Nat}{x:Str}(h:a.names.lookup x=some .cell):∃ c,(cellsFrom n a.names []).lookup x=some c:=by
 have q:=PySem.W.cellsFrom_some a.names n [] (.inl h)
 exact Option.isSome_iff_exists.mp q
variable {N:List Str}{qual:Str}{scope:Scope}
theorem WL{cd:Value}{o:Shared}{E:XK}{vs:List V}
  (S:AE N ps scope) (hd:A.handled=none) (d:Env0 P w K mg base A outer s H) (hl:vs.length=ps.length) (r:Vals vs us)
  (x:InCallC s s.heap.objs.size (bindL (envOfC qual scope s.heap.objs.size f cd).kindOf (ps.zip us) λ_=>none) (cellsFrom (s.heap.objs.size+1) scope.names []) (bindC (envOfC qual scope s.heap.objs.size f cd).kindOf (ps.zip us) λ_=>none) o):
  Inv (Bp CX P w K mg base N qual scope f cd A outer s H E) [] (CS N vs) H o:=by
 have G:ps.length<=N.length:=by have:=congrArg List.length S.pre;rw[List.length_take]at this;omega
 obtain⟨h1,tk,rfl,B⟩:=x.done
 have g:∀ b:Addr,b∉(Bp CX P w K mg base N qual scope f cd A outer s H E).ex:=λb z=>absurd (show b∈([]:List Addr)from z) (by simp)
 refine⟨⟨d.mod,S.kind,rfl,rfl,Yr _,λy z c h1 h2=>?_,λy j=>?_,λy c _ h=>?_,λ_=>hd,Around.frames_deeper d.frames,.inr ⟨rfl,rfl⟩,λb z=>absurd z (g b),d.bs,d.bsz,λb _ _=>g b,λb z=>absurd z (g b),d.funs,d.frf⟩,
  rfl,d.bare,Un.kept B,⟨_,x.toInCall.ns,λi y v h1 h2 I=>?_⟩,λy c h=>⟨_,x.cell y c h⟩,d.hok.fresh (Yr _),λy c h=>?_,λp m=>absurd (show p∈([]:List (Addr×Obj))from m) (by simp),d.hok.kept B,?_⟩
 ·exact name_of_addr x.apart (PySem.mem_of_lookup h1) (PySem.mem_of_lookup h2)
 ·have j:scope.names.lookup y=some .cell\/scope.names.lookup y=some .free:=j
  rcases j with j | j
  ·exact Kk j
  ·exact absurd rfl (S.nofree _ (PySem.mem_of_lookup j))
 ·exact Nat.le_of_lt (x.above y c (PySem.mem_of_lookup h))
 ·have hi:i < vs.length:=by
   unfold CS at h2
   by_cases hi:i < vs.length
   ·exact hi
   ·rw[List.getElem?_append_right (by simpa using hi)]at h2
    rw[List.getElem?_replicate]at h2
    split at h2 <;> cases h2
  have D:vs[i]?=some v:=by
   unfold CS at h2
   rw[YI (by simpa using hi),YM]at h2
   cases e:vs[i]? with
   | none=>rw[e]at h2;cases h2
   | some a=>rw[e]at h2;cases h2;rfl
  obtain⟨u,t,F⟩:=r.get D
  have m:ps[i]?=some y:=by
   rw[<- S.pre,List.getElem?_take_of_lt (by omega)];exact h1
  have l:ps.Nodup:=by rw[<- S.pre];exact S.nd.sublist (List.take_sublist _ _)
  refine⟨u,F,?_⟩
  rcases S.par y (List.mem_of_getElem? m)with k | k
  ·exact .inl ⟨k,Nu l m t k⟩
  ·obtain⟨c,e⟩:=Kk (n:=s.heap.objs.size+1) k
   refine .inr ⟨.inl k,c,e,?_⟩
   have q:=x.cell y c e
   rw[Nv l m t (by show scope.names.lookup y≠_;rw[k];decide)]at q
   exact q
 ·exact d.hok.fresh (Nat.le_of_lt (x.above y c (PySem.mem_of_lookup h)))
 ·unfold CS
  show _=N.length
  rw[Yj,Yh,List.length_replicate]
  omega
theorem HD{name:Str}{params:Arguments}{body:List Stmt}{F kV d pm cdv ct U:Value}{D T:Option Addr}
  {p:Array (Option Value)}   (lk:K.lookup f=some ⟨U,T,.func (PySem.W.fnOf name qual params body scope F kV d pm D cdv ct),p⟩) (j:PySem.W.codeIn K cdv qual=true) (S:AE N ps scope)
  (len:∀ vs H Q E,sp vs H Q E->vs.length=ps.length)
  (a:∀(A:Around)(outer:List Env)(s:Shared)(H:Hp)(vs:List V)(Q:VK)(E:XK),Room k (A.deeper (envOfC qual scope s.heap.objs.size f cdv))->sp vs H Q E->
   ∃ t,PSs (Bp CX P w K mg base N qual scope f cdv A outer s H E) body t/\t {nx:=λ_ H'=>Q .non H',rt:=Q} (CS N vs) H):
  FnOk P w K mg base CX (k+1) f (PySem.W.fnOf name qual params body scope F kV d pm D cdv ct) ps sp:=by
 refine⟨len,λA outer s H B us vs Q E m g R r i=>?_⟩
 have hl:=len _ _ _ _ i
 have KX:K.In s.heap:=g.mod.kin.keeps λb o e=>(g.bs b o e).1
 have l:s.heap.NoLimit:=g.mod.nolimit.keeps λb o e=>(g.bs b o e).1
 have c:∀ y∈ps.zip us,scope.names.lookup y.1=some .local\/(scope.names.lookup y.1=some .cell/\((cellsFrom (s.heap.objs.size+1) scope.names []).lookup y.1).isSome=true):=by
  rintro⟨n,v⟩ O
  rcases S.par n (List.of_mem_zip O).1 with q | q
  ·exact .inl q
  ·exact .inr ⟨q,PySem.W.cellsFrom_some _ _ _ (.inl q)⟩
 refine codeAny_call_function m.depth (KX _ _ lk) rfl S.co S.gen rfl (PySem.W.codeRec_of KX j) (R _ _ _ _ ?_)
 refine wpAny_newFunctionEnv_cells S.kind c λenv Z G x=>?_
 subst Z
 refine⟨l.keeps x.toInCall.keep,codeAny_func ?_⟩
 obtain⟨t,L,X⟩:=a A outer s H vs Q E (m.deeper _) i
 have I:Inv (Bp CX P w K mg base N qual scope f cdv A outer s H E) [] (CS N vs) H G:=WL S m.hd g hl r x
 refine wpAny_mono (L [] G (CS N vs) H _ I X) (λY s' hs=>?_) λe s' hs=>hs
 have h:∀{σ':St}{H':Hp}{v:V}{u:Value},Inv (Bp CX P w K mg base N qual scope f cdv A outer s H E) [] σ' H' s'->RelV v u->Q v H'->CE outer P w H s Q u s' :=
  λ{σ' H' v u}J z q=>⟨v,H',J.os,J.bare,J.base,J.hok,z,q⟩
 cases Y with
 | ret u =>
  obtain⟨v,σ',H',J,z,q⟩:=hs
  exact h J z q
 | next =>
  obtain⟨σ',H',J,q⟩:=hs
  exact h (v:=V.non) (u:=Value.none) J rfl q
 | brk =>
  obtain⟨_,_,_,q⟩:=hs
  exact Qf q
 | cont =>
  obtain⟨_,_,_,q⟩:=hs
  exact Qf q
section
variable {X:Cx} {x:Str} {p pos:Pos} {e:Expr} {es:List Expr} {t:TA} {id T:String} {r:List V->Hp->VK->Prop}
def tCB(r:List V->Hp->VK->Prop)(t:TA):TE:=λσ H Q=>t σ H λvs H1=>r vs H1 Q
theorem WM(hc:CallR X (.builtin id) r)(d:Gl X x)(i:X.mg x=none)(l:bootBuiltins x=some (.builtin id))(g:PA X (e::es) t)(c:x≠"__name__":=by decide)(b:(x==("__debug__":Str))=false:=by decide)
  (j:starEach (e::es) X.env=(false,eval e X.env)::starEach es X.env:=by rfl) (a:(backTo pos (starEach es X.env)).any (·.1)=false:=by rfl):PE X (.Call (.Name x p) (e::es) [] pos) (tCB r t):=by
 intro pins s σ H Q I h
 refine wpAny_Call_Name_kw (DZ I d i l ?_ c b)
 exact PyProof.Rows.callWith_builtin1 (thn (g pos pins s σ H _ I h) (by rintro m k ⟨f,H1,n,r1,q1⟩;exact hc pins k σ H1 f m Q n r1 q1)) j a
theorem WN(hc:CallR X (.type T) r)(d:Gl X x)(i:X.mg x=none)(l:bootBuiltins x=some (.type T))(g:PA X (e::es) t)(c:x≠"__name__":=by decide)(b:(x==("__debug__":Str))=false:=by decide)
  (j:starEach (e::es) X.env=(false,eval e X.env)::starEach es X.env:=by rfl) (a:(backTo pos (starEach es X.env)).any (·.1)=false:=by rfl):PE X (.Call (.Name x p) (e::es) [] pos) (tCB r t):=by
 intro pins s σ H Q I h
 refine wpAny_Call_Name_kw (DZ I d i l ?_ c b)
 exact Qc (thn (g pos pins s σ H _ I h) (by rintro m k ⟨f,H1,n,r1,q1⟩;exact hc pins k σ H1 f m Q n r1 q1)) j a
end
end L2
namespace HT
open PySem PyProof.Rows
section
open PySem.SeqAt
open PySem.AutoSeq1 (wpAny_loadPart')
open PySem.MeetsSeq PySem.MeetsSeq2 PySem.MeetsSeq3
end
section
variable {prog:Program} {w:World} {A:Around} {E:Value->Shared->Prop} {s:Shared}
variable {t:Addr}{Q:Value->Shared->Prop}
theorem cat_tup{b:Addr}{vs a:List Value}(r:IsTup s.heap t vs.toArray)(u:IsTup s.heap b a.toArray)(p:vs≠[])
  (h1:a=[]->Q (.ref t) s) (h2:a≠[]->Q (.ref s.heap.objs.size) {s with heap:=s.heap.push {cls:=.type "tuple",data:=.seq (vs++a).toArray}})
  (k:vs.length+a.length<=sizeLine):wpAny (model prog w) A (binaryOp .Add (.ref t) (.ref b)) Q E s:=by
 obtain⟨⟨cls,o,data,l⟩,i,hc,n,hd⟩:=id r
 obtain⟨⟨q,h,j,f⟩,c,d,m,g⟩:=id u
 simp only at hc hd d g
 subst hc hd d g
 have e:vs.toArray++a.toArray=(vs++a).toArray:=by simp
 by_cases hw:a=[]
 ·exact concat_meets ⟨_,i,rfl⟩ ⟨_,c,rfl⟩ noFill_tuple_add seq_tuple_add PySem.F.slot_tuple_add PySem.F.entry_tuple_add (PySem.F.args_tuple_add_2 _ _)
   (tuple_addW1 t b vs.toArray a.toArray n m o h l f (by simpa using p) (by simp[hw])) ⟨i,c,h1 hw⟩
 ·refine concat_meets ⟨_,i,rfl⟩ ⟨_,c,rfl⟩ noFill_tuple_add seq_tuple_add PySem.F.slot_tuple_add PySem.F.entry_tuple_add (PySem.F.args_tuple_add_2 _ _)
   (tuple_addW2 t b vs.toArray a.toArray n m o h l f (by simpa using p) (by simpa using hw) (by rw[Yn,Yn];exact k)) ⟨i,c,?_⟩
  rw[e]
  exact h2 hw
def sIx(n d:Nat):Option Int->Nat
 | none=>d
 | some v=>if v < 0 then(v+(n:Int)).toNat else min v.toNat n
theorem sIx_none(n d:Nat):sIx n d none=d:=rfl
theorem sIx_nat(n d k:Nat):sIx n d (some (k:Int))=min k n:=by
 show(if(k:Int) < 0 then((k:Int)+(n:Int)).toNat else min (k:Int).toNat n)=min k n
 rw[if_neg (by omega),Int.toNat_natCast]
theorem WO(n d:Nat)(hd:d<=n)(o:Option Int):sIx n d o<=n:=by
 cases o with
 | none=>exact hd
 | some v =>
  show(if v < 0 then(v+(n:Int)).toNat else min v.toNat n)<=n
  by_cases a:v < 0
  ·rw[if_pos a];omega
  ·rw[if_neg a];exact Nat.min_le_right _ _
theorem Nw(v:Int)(n d:Nat):(if v < 0 then max (v+(n:Int)) 0 else min v (n:Int))=((sIx n d (some v):Nat):Int):=by
 show(if v < 0 then max (v+(n:Int)) 0 else min v (n:Int))=(((if v < 0 then(v+(n:Int)).toNat else min v.toNat n):Nat):Int)
 by_cases a:v < 0
 ·simp only[if_pos a];omega
 ·simp only[if_neg a];omega
theorem WP(lo hi:Option Int)(n:Nat):Builtin.Slice.sliceAdjust lo hi 1 (n:Int)=(((sIx n 0 lo:Nat):Int),((sIx n n hi:Nat):Int)):=by
 have h1:¬ ((1:Int) < 0):=by omega
 unfold Builtin.Slice.sliceAdjust
 simp only[h1,if_false]
 refine Prod.ext ?_ ?_
 ·cases lo with
  | none=>rfl
  | some v=>exact Nw v n 0
 ·cases hi with
  | none=>rfl
  | some v=>exact Nw v n n
theorem WQ(i j:Nat):Builtin.Slice.slicePlaces (i:Int) (j:Int) 1=j - i:=by
 unfold Builtin.Slice.slicePlaces
 have h1:(1:Int) > 0:=by omega
 simp only[h1,if_true,Int.ediv_one]
 split <;> omega
theorem Nx{v:Value}{o:Option Int}{Q:Option Int->Shared->Prop}(p:IsPart v o)(h:Q o s):wpAny (model prog w) A (Builtin.Slice.slicePartIndex v) Q E s:=by
 cases p with
 | none=>exact slicePart_none h
 | int i t=>exact slicePart_int h
variable {lo hi:Option Int}
theorem Ny{e:Addr}{c d:Value}{n:Nat}{Q:Int×Int×Nat->Shared->Prop}(hs:s.heap.IsSliceOf e c d .none)(pl:IsPart c lo)(g:IsPart d hi)
  (h:Q (((sIx n 0 lo:Nat):Int),1,sIx n n hi - sIx n 0 lo) s):wpAny (model prog w) A (Builtin.Slice.sliceApplied (.ref e) (pure (n:Int))) Q E s:=by
 obtain⟨os,a,f,b⟩:=id hs
 unfold Builtin.Slice.sliceApplied Builtin.Slice.sliceFields
 refine Qg (Qg (wpAny_field a b (x:=c) rfl (Qg (wpAny_field a b (x:=d) rfl (Qg (wpAny_field a b (x:=.none) rfl (Qh ?_)))))))
 refine Qg (slicePart_none ?_)
 show wpAny _ _ (if((1:Int)==0)=true then _ else _) _ _ s
 rw[if_neg (by decide)]
 refine Qg (Nx pl (Qg (Nx g (Qg (Qh ?_)))))
 show wpAny _ _ (match Builtin.Slice.sliceAdjust lo hi 1 (n:Int)with |(lo,hi)=>pure (lo,(1:Int),Builtin.Slice.slicePlaces lo hi 1)) _ _ s
 rw[WP lo hi n]
 show wpAny _ _ (pure (((sIx n 0 lo:Nat):Int),(1:Int),Builtin.Slice.slicePlaces ((sIx n 0 lo:Nat):Int) ((sIx n n hi:Nat):Int) 1)) _ _ s
 rw[WQ]
 exact Qh h
theorem WR(xs:Array Value)(i k:Nat):((List.range k).filterMap λ(m:Nat)=>xs[((i:Int)+(m:Int)*1).toNat]?).toArray=((xs.toList.drop i).take k).toArray:=by
 have e:(λ(m:Nat)=>xs[((i:Int)+(m:Int)*1).toNat]?)=λm=>xs[i+m]?:=by
  funext m
  have:((i:Int)+(m:Int)*1).toNat=i+m:=by omega
  rw[this]
 rw[e]
 have:=pick_run xs i k
 rw[List.filterMap_map]at this
 have a:((λx=>xs[x]?)∘λx=>i+x)=λm=>xs[i+m]?:=rfl
 rw[a]at this
 rw[this]
theorem getItem_tuple_cut{f:Addr}{items:Array Value}{i j:Value}(b:IsTup s.heap t items)(hs:s.heap.IsSliceOf f i j .none)(pl:IsPart i lo)(n:IsPart j hi)
  (hw:¬ (sIx items.size 0 lo=0/\sIx items.size items.size hi=items.size))
  (h:Q (.ref s.heap.objs.size) {s with heap:=s.heap.push {cls:=.type "tuple",data:=.seq ((items.toList.drop (sIx items.size 0 lo)).take (sIx items.size items.size hi - sIx items.size 0 lo)).toArray}})
  (k:items.size<=sizeLine):wpAny (model prog w) A (getItem (.ref t) (.ref f)) Q E s:=by
 have a:sizeOk (.seq ((items.toList.drop (sIx items.size 0 lo)).take (sIx items.size items.size hi - sIx items.size 0 lo)).toArray):=by
  show((items.toList.drop (sIx items.size 0 lo)).take (sIx items.size items.size hi - sIx items.size 0 lo)).toArray.size<=sizeLine
  rw[Yn,List.length_take,List.length_drop,YR]
  omega
 have o:sIx items.size items.size hi<=items.size:=WO _ _ (Yr _) hi
 obtain⟨os,d,c,l⟩:=id hs
 have e:s.TypeIs (.ref f) "slice":=⟨os,d,c⟩
 unfold getItem
 try with_reducible refine wpAny_holding ?_
 first | refine Qg (Qh ?_)| skip
 refine Qg (wpAny_sequenceKey b.typeIs (by decide) ?_)
 refine Qg (wpAny_callSpecial?_slot (name:=Str.ofString "__getitem__") b.typeIs PyProof.Rows.slot_tuple_getitem
  (wpAny_call_entry PyProof.Rows.slot_tuple_getitem b.typeIs entry_tuple_getitem ?_ (args_tuple_getitem _ _)))
 show wpAny _ _ (Builtin.Tuple.tupleItemsOf (.ref t) >>=_) _ _ s
 refine Qg (tupleItemsOf_ b ?_)
 refine Qg (wpAny_typeOf e ?_)
 rw[if_pos (by decide)]
 refine Qg (Ny hs pl n ?_)
 have g:¬ ((((sIx items.size 0 lo:Nat):Int)==0&&(1:Int)==1&&(sIx items.size items.size hi - sIx items.size 0 lo)==items.size)=true):=by
  intro q
  rw[YF,YF]at q
  have q1:((sIx items.size 0 lo:Nat):Int)=0:=eq_of_beq q.1.1
  have q2:sIx items.size items.size hi - sIx items.size 0 lo=items.size:=eq_of_beq q.2
  exact hw ⟨by omega,by omega⟩
 show wpAny _ _ (if(((sIx items.size 0 lo:Nat):Int)==0&&(1:Int)==1&&(sIx items.size items.size hi - sIx items.size 0 lo)==items.size)=true then _ else _) _ _ s
 rw[if_neg g,WR]
 first
  | exact Qg (m:=Builtin.Tuple.tupleExact _) (wpAny_newObj_type (Qh ⟨_,rfl,Qh h⟩) a)
  | exact Qg (m:=Builtin.Tuple.tupleExact _) (wpAny_newObj_type (Qg (Qh (Qh ⟨_,rfl,Qh h⟩))) a)
  | exact Qg (Qg (m:=Builtin.Tuple.tupleExact _) (wpAny_newObj_type (Qh (Qh ⟨_,rfl,Qh h⟩)) a))
  | exact Qg (Qg (m:=Builtin.Tuple.tupleExact _) (wpAny_newObj_type (Qh ⟨_,rfl,Qh h⟩) a))
end
end HT
namespace L2
open PySem PySem.Spec PyProof.Rows
abbrev TO:=St->Hp->(Option Int->Hp->Prop)->Prop
def PO(X:Cx)(e:Option Expr)(t:TO):Prop :=
 ∀(pins:List (Addr×Obj))(s:Shared)(σ:St)(H:Hp)(Q:Option Int->Hp->Prop),Inv X pins σ H s->t σ H Q->
  wpAny (model X.prog X.w) X.A (evalPart e X.env) (λu s'=>∃ o H',Inv X pins σ H' s'/\IsPart u o/\Q o H') X.xe s
def WS:TO:=λ_ H Q=>Q none H
def WT(t:TE):TO:=λσ H Q=>t σ H λx H1=>∃ i,x=.int i/\Q (some i) H1
section
variable {X:Cx} {e:Expr} {te:TE} {lo hi:Option Expr} {tl th:TO} {pos p2:Pos}
theorem WU:PO X none WS:=by
 intro pins s σ H Q I h
 rw[evalPart_none]
 exact Qh ⟨none,H,I,.none,h⟩
theorem WV(h:PE X e te):PO X (some e) (WT te):=by
 intro pins s σ H Q I hw
 rw[evalPart_some]
 refine thn (h pins s σ H _ I hw) λu c a=>?_
 obtain⟨x,H1,b,r1,q1⟩:=a
 obtain⟨i,rfl,q⟩:=q1
 obtain⟨t,rfl⟩:=r1
 exact⟨some i,H1,b,.int i t,q⟩
def SlR(X:Cx)(r:V->Option Int->Option Int->Hp->VK->Prop):Prop :=
 ∀(pins:List (Addr×Obj))(s:Shared)(σ:St)(H:Hp)(x:V)(v vl vu:Value)(lo hi:Option Int)(sl:Addr)(Q:VK),Inv X pins σ H s->RelV x v->s.heap.IsSliceOf sl vl vu .none->IsPart vl lo->IsPart vu hi->r x lo hi H Q->
  ∃ T id,typeLookup (.type T) "__getitem__"=pure (some (.builtin id))/\s.TypeIs v T/\wpAny (model X.prog X.w) X.A (getItem v (.ref sl)) (EP X pins σ Q) X.xe s
variable {r:V->Option Int->Option Int->Hp->VK->Prop}
theorem SlR.or{r':V->Option Int->Option Int->Hp->VK->Prop}(h:SlR X r)(h':SlR X r'):SlR X (λx lo hi H Q=>r x lo hi H Q\/r' x lo hi H Q):=by
 intro pins s σ H x v c e lo hi a Q I d hs pl b q
 rcases q with q | q
 ·exact h pins s σ H x v c e lo hi a Q I d hs pl b q
 ·exact h' pins s σ H x v c e lo hi a Q I d hs pl b q
def tSl(r:V->Option Int->Option Int->Hp->VK->Prop)(te:TE)(tl th:TO):TE:=λσ H Q=>te σ H λx H1=>tl σ H1 λl H2=>th σ H2 λu H3=>r x l u H3 Q
theorem Nz(p:SlR X r)(D:PE X e te)(hl:PO X lo tl)(k:PO X hi th):PE X (.Subscript e (.Slice lo hi none p2) pos) (tSl r te tl th):=by
 intro pins s σ H Q I h
 refine Subscript_ (thn (D pins s σ H _ I h) λv E c=>?_)
 obtain⟨x,H1,m,r1,q1⟩:=c
 refine wpAny_Slice (thn (hl pins E σ H1 _ m q1) λf n⟨l,H2,z,pl,q2⟩=>thn (k pins n σ H2 _ z q2) λd a⟨u,g,i,B,q3⟩=>?_)
 rw[evalPart_none]
 refine Qh ?_
 have t:Inv X pins σ g {a with heap:=a.heap.push {cls:=.type "slice",data:=.fields #[f,d,.none]}}:=i.kept (t':=a.toks) λb F q=>Qi _ q
 obtain⟨T,id,o,j,y⟩:=p pins {a with heap:=a.heap.push {cls:=.type "slice",data:=.fields #[f,d,.none]}} σ g x v f d l u a.heap.objs.size Q t r1 (Heap.IsSliceOf.new ..) pl B q3
 show wpAny (model X.prog X.w) X.A (subscriptTail e (.Slice lo hi none p2) v (.ref a.heap.objs.size)) (EP X pins σ Q) X.xe {a with heap:=a.heap.push {cls:=.type "slice",data:=.fields #[f,d,.none]}}
 exact tail_any (ops:=[.ref a.heap.objs.size,v]) j o y (by with_unfolding_all rfl)
def D2(xs:List V)(lo hi:Option Int):List V:=(xs.drop (HT.sIx xs.length 0 lo)).take (HT.sIx xs.length xs.length hi - HT.sIx xs.length 0 lo)
theorem NA(xs:List V)(lo hi:Option Int):(D2 xs lo hi).length<=xs.length:=by
 unfold D2
 rw[List.length_take,List.length_drop]
 omega
def Kl(K:PySem.W.Frag):V->Option Int->Option Int->Hp->VK->Prop:=λx lo hi H Q=>∃ a xs,x=.ref a/\SqT K H a xs/\
 ¬ (HT.sIx xs.length 0 lo=0/\HT.sIx xs.length xs.length hi=xs.length)/\∀ p,H p=none->Q (.ref p) (upd H p (.tup (D2 xs lo hi)))
theorem NC:SlR X (Kl X.K):=by
 intro pins s σ H x v l m lo hi k Q I i hs pl g h
 obtain⟨a,xs,rfl,j,hw,q⟩:=h
 cases i
 obtain⟨d,r,f,e⟩:=I.tuple j
 have c:d.toArray.size=xs.length:=by rw[Yn];exact r.length.symm
 refine⟨"tuple",_,PyProof.Rows.slot_tuple_getitem.lookup,f.typeIs,?_⟩
 refine HT.getItem_tuple_cut f hs pl g (by rw[c];exact hw) ?_ (by rw[c];exact e)
 rw[c]
 refine⟨.ref s.heap.objs.size,_,I.laid (t':=s.toks) (o:=.tup (D2 xs lo hi)) (λb n q=>Qi _ q) (Yr _) ?_,rfl,q _ (I.hok.fresh (Yr _))⟩
 exact⟨Yt (NA xs lo hi) e,_,(r.drop (HT.sIx xs.length 0 lo)).take (HT.sIx xs.length xs.length hi - HT.sIx xs.length 0 lo),TupP.new _ _⟩
def Km(K:PySem.W.Frag):R2:=λx y H Q=>∃ a b xs ys,x=.ref a/\y=.ref b/\SqT K H a xs/\SqT K H b ys/\xs≠[]/\xs.length+ys.length<=sizeLine/\
 (ys=[]->Q (.ref a) H)/\(ys≠[]->∀ p,H p=none->Q (.ref p) (upd H p (.tup (xs++ys))))
theorem Vals.nil_iff{xs:List V}{us:List Value}(r:Vals xs us):us=[]↔xs=[]:=by
 cases r with
 | nil=>simp
 | cons _ _=>simp
theorem WW:OpR X (binaryOp .Add) (Km X.K):=by
 intro pins s σ H x y v u Q I k g h
 obtain⟨a,b,xs,ys,rfl,rfl,f,i,l,d,q1,q2⟩:=h
 cases k
 cases g
 obtain⟨j,r1,p1,_⟩:=I.tuple f
 obtain⟨e,c,p2,_⟩:=I.tuple i
 refine HT.cat_tup p1 p2 (λz=>l (r1.nil_iff.mp z)) (λz=>⟨.ref a,H,I,rfl,q1 (c.nil_iff.mp z)⟩) (λz=>?_) (by rw[<- r1.length,<- c.length];exact d)
 refine⟨.ref s.heap.objs.size,_,I.laid (t':=s.toks) (o:=.tup (xs++ys)) (λb m q=>Qi _ q) (Yr _) ?_,rfl,q2 (λw=>z (c.nil_iff.mpr w)) _ (I.hok.fresh (Yr _))⟩
 exact⟨by rw[Yj];exact d,_,r1.append c,TupP.new _ _⟩
end
def ixN(n:Nat)(i:Int):Option Nat:=if 0<=i then(if i < n then some i.toNat else none)else if -(n:Int)<=i then some (i+n).toNat else none
def atI{α:Type}(xs:List α)(i:Int):Option α:=(ixN xs.length i).bind λj=>xs[j]?
variable {i:Int}{j:Nat}
theorem ND{n:Nat}(h:ixN n i=some j):seqIndex? i n=some j/\j < n/\-(n:Int)<=i/\i < n:=by
 unfold ixN at h
 by_cases a:0<=i
 ·rw[if_pos a]at h
  by_cases h1:i < n
  ·rw[if_pos h1]at h
   have e:i.toNat=j:=YD h
   exact⟨by rw[seqIndex_of a h1,e],by omega,by omega,h1⟩
  ·rw[if_neg h1]at h;cases h
 ·rw[if_neg a]at h
  by_cases h1:-(n:Int)<=i
  ·rw[if_pos h1]at h
   have e:(i+n).toNat=j:=YD h
   exact⟨by rw[seqIndex_neg (by omega) h1,e],by omega,h1,by omega⟩
  ·rw[if_neg h1]at h;cases h
theorem Kn{α:Type}{xs:List α}{v:α}(h:atI xs i=some v):∃ j,seqIndex? i xs.length=some j/\xs[j]?=some v/\j < xs.length/\-(xs.length:Int)<=i/\i < xs.length:=by
 unfold atI at h
 cases e:ixN xs.length i with
 | none=>rw[e]at h;cases h
 | some j =>
  rw[e]at h
  obtain⟨h1,h2,a,b⟩:=ND e
  exact⟨j,h1,h,h2,a,b⟩
theorem C7{α:Type}{xs:List α}{v:α}(h:xs[j]?=some v):atI xs (j:Int)=some v:=by
 have a:j < xs.length:=(YW.mp h).1
 have e:ixN xs.length (j:Int)=some j:=by
  unfold ixN
  rw[if_pos (by omega),if_pos (by omega)];simp
 unfold atI;rw[e];exact h
def HE(b:Expr):Prop:=∀ o i,subscripted b false o i=operate [o,i] (getItem o i)
def IxR(X:Cx)(r:R2):Prop :=
 ∀(value slice:Expr)(pins:List (Addr×Obj))(s:Shared)(σ:St)(H:Hp)(x y:V)(v u:Value)(Q:VK),Inv X pins σ H s->RelV x v->RelV y u->r x y H Q->
  subscripted slice false v u=operate [v,u] (getItem v u)->wpAny (model X.prog X.w) X.A (subscriptTail value slice v u) (EP X pins σ Q) X.xe s
def MtR(X:Cx)(id:String)(r:V->List V->Hp->VK->Prop):Prop :=
 ∀(pins:List (Addr×Obj))(s:Shared)(σ:St)(H:Hp)(x:V)(xs:List V)(v:Value)(us:List Value)(Q:VK),Inv X pins σ H s->RelV x v->Vals xs us->r x xs H Q->
  wpAny (model X.prog X.w) X.A (call (.builtin id) (v::us)) (EP X pins σ Q) X.xe s
section
variable {X:Cx} {a b:Expr} {ta tb:TE} {pos:Pos}
variable {r:R2}
theorem IxR.or{r':R2}(h:IxR X r)(h':IxR X r'):IxR X (λx y H Q=>r x y H Q\/r' x y H Q):=by
 intro value slice pins s σ H x y v u Q I b a q hs
 rcases q with q | q
 ·exact h value slice pins s σ H x y v u Q I b a q hs
 ·exact h' value slice pins s σ H x y v u Q I b a q hs
theorem MtR.or{id:String}{r r':V->List V->Hp->VK->Prop}(h:MtR X id r)(h':MtR X id r'):MtR X id (λx xs H Q=>r x xs H Q\/r' x xs H Q):=by
 intro pins s σ H x xs v b Q I c a q
 rcases q with q | q
 ·exact h pins s σ H x xs v b Q I c a q
 ·exact h' pins s σ H x xs v b Q I c a q
theorem WX(g:IxR X r)(c:PE X a ta)(e:PE X b tb)(hs:HE b):PE X (.Subscript a b pos) (tOp r ta tb):=by
 intro pins s σ H Q I h
 exact Subscript_ (Ke c e I h λv u j x y H2 i f d q=>g a b pins j σ H2 x y v u Q i f d q (hs _ _))
def Ko(K:PySem.W.Frag):R2:=λx y H Q=>∃ p xs i v,x=.ref p/\y=.int i/\SqL K H p xs/\atI xs i=some v/\Q v H
def Kp(K:PySem.W.Frag):R2:=λx y H Q=>∃ p xs i v,x=.ref p/\y=.int i/\SqT K H p xs/\atI xs i=some v/\Q v H
def Kq:R2:=λx y H Q=>∃ z i c,x=.str z/\y=.int i/\z.length<=sizeLine/\atI z.cps.toList i=some c/\Q (.str ⟨#[c]⟩) H
theorem WY:IxR X (Ko X.K):=by
 intro value slice pins s σ H x y v u Q I l g h hs
 obtain⟨p,xs,i,z,rfl,rfl,n,m,q⟩:=h
 cases l
 obtain⟨t,rfl⟩:=g
 obtain⟨d,r,pl,B⟩:=I.list n
 obtain⟨j,h1,h2,D,k,o⟩:=Kn m
 obtain⟨w,f,b⟩:=r.get h2
 have hl:=r.length
 have A:=Fy
 have a:EP X pins σ Q w s:=⟨z,H,I,b,q⟩
 by_cases e:0<=i
 ·have c:i.toNat=j:=by
   rw[seqIndex_of e o]at h1
   exact YD h1
  exact item_listR pl.isList e (by omega) (by rw[c];simpa using f) a hs
 ·have c:(i+(d.toArray.size:Int)).toNat=j:=by
   rw[seqIndex_neg (by omega) k]at h1
   rw[Yn,<- hl]
   exact YD h1
  exact subscriptTail_builtinR (x:=w) pl.isList.typeIs slot_list_getitem.lookup
   (wpAny_getItem_list_neg (Q:=λr s'=>r=w/\EP X pins σ Q r s') pl.isList (by omega) (by rw[Yn] <;> omega) (by omega) (by rw[c];simpa using f) ⟨rfl,a⟩) hs
theorem WZ:IxR X (Kp X.K):=by
 intro value slice pins s σ H x y v u Q I e c h hs
 obtain⟨p,xs,i,z,rfl,rfl,g,f,q⟩:=h
 cases e
 obtain⟨t,rfl⟩:=c
 obtain⟨d,r,pl,m⟩:=I.tuple g
 obtain⟨j,h1,h2,A,n,o⟩:=Kn f
 obtain⟨w,k,a⟩:=r.get h2
 have hl:=r.length
 have l:=Fy
 have b:EP X pins σ Q w s:=⟨z,H,I,a,q⟩
 exact subscriptTail_builtinR (x:=w) pl.typeIs slot_tuple_getitem.lookup
  (getItem_tuple (j:=j) (Q:=λr s'=>r=w/\EP X pins σ Q r s') pl (by omega) (by omega) (by rw[Yn,<- hl];exact h1) (by simpa using k) ⟨rfl,b⟩) hs
theorem W0:IxR X Kq:=by
 intro value slice pins s σ H x y v u Q I d a h hs
 obtain⟨z,i,c,rfl,rfl,m,e,q⟩:=h
 obtain⟨t,rfl⟩:=d
 obtain⟨t',rfl⟩:=a
 obtain⟨j,h1,h2,n,b,g⟩:=Kn e
 have hl:z.cps.toList.length=z.length:=by simp[Str.length]
 rw[hl]at h1 b g
 have l:=Fy
 exact tail_any (typeIs_str s z t) slot_str_getitem.lookup (getItem_str (c:=c) (by
  have f:decide (i < -(2 ^ 63:Int))=false:=decide_eq_false (by omega)
  have k:decide (i>=2 ^ 63)=false:=decide_eq_false (by omega)
  rw[f,k,Bool.or_false]) (by rw[h1];simpa using h2) ⟨.str ⟨#[c]⟩,H,I.tok _,⟨_,rfl⟩,q⟩) hs
theorem W1(a:List Value)(n j:Nat)(u:Value):Obj.mapSeq (·.setIfInBounds j u) {cls:=.type "list",data:=.seq a.toArray n}={cls:=.type "list",data:=.seq (a.set j u).toArray n}:=by
 simp[Obj.mapSeq]
variable {pins:List (Addr×Obj)}{σ:St}{H:Hp}{s:Shared}{p:Addr}{xs:List V}
theorem Inv.lst(I:Inv X pins σ H s)(h:H p=some (.lst xs)):
  ∃(a:List Value)(n:Nat),Vals xs a/\s.heap.get? p=some {cls:=.type "list",data:=.seq a.toArray n}/\xs.length<=sizeLine:=by
 obtain⟨z,a,n,r,e⟩:=I.hok p _ h
 exact⟨a,n,r,e,z⟩
theorem Inv.lstUpd{ys:List V}{a its':List Value}{n c:Nat}{f:Obj->Obj}(I:Inv X pins σ H s)(h:H p=some (.lst xs))
  (i:s.heap.get? p=some {cls:=.type "list",data:=.seq a.toArray n}) (d:f {cls:=.type "list",data:=.seq a.toArray n}={cls:=.type "list",data:=.seq its'.toArray c}) (r:Vals ys its') (g:ys.length<=sizeLine) (t:Nat):
  Inv X pins σ (upd H p (.lst ys)) {s with heap:=s.heap.update p f,toks:=t}:=by
 have e:(s.heap.update p f).get? p=some {cls:=.type "list",data:=.seq its'.toArray c}:=by
  rw[Heap.get?_update_self f i (by rw[d] <;> rfl),d]
 refine I.write (x:=p) (e:=p) (by rw[h];trivial) (.inl rfl) (λb u j q=>(Heap.get?_update_other _ _ (YU j)).trans q) ⟨_,e⟩ ?_
 exact⟨g,its',c,r,e⟩
def NE:V->V->V->Hp->(Hp->Prop)->Prop:=λo i v H Q=>∃ p xs k j,o=.ref p/\i=.int k/\H p=some (.lst xs)/\ixN xs.length k=some j/\Q (upd H p (.lst (xs.set j v)))
theorem W2:J9 X NE:=by
 intro pins s σ H o i v B D u Q I z m y h
 obtain⟨p,xs,k,j,rfl,rfl,d,x,q⟩:=h
 cases z
 obtain⟨t,rfl⟩:=m
 obtain⟨a,n,r,b,w⟩:=I.lst d
 obtain⟨h1,h2,l,f⟩:=ND x
 have hl:=r.length
 have A:=Fy
 have e:Inv X pins σ (upd H p (.lst (xs.set j v))) {s with heap:=s.heap.update p (Obj.mapSeq (·.setIfInBounds j u))}:=
  I.lstUpd d b (W1 a n j u) (r.set y j) (by rw[List.length_set];exact w) s.toks
 by_cases g:0<=k
 ·have c:k.toNat=j:=by
   rw[seqIndex_of g f]at h1
   exact YD h1
  exact PySem.W.ki_setAt b g (by omega) (by rw[Yn,<- hl];exact f) (by rw[c];exact⟨_,e,q⟩)
 ·have c:(k+(a.toArray.size:Int)).toNat=j:=by
   rw[seqIndex_neg (by omega) l]at h1
   rw[Yn,<- hl]
   exact YD h1
  exact PySem.W.ki_setBack b (by omega) (by rw[Yn,<- hl];exact l) (by omega) (by rw[c];exact⟨_,e,q⟩)
theorem W3(lo hi:Option Int)(n:Nat):(sliceBounds lo hi none n).1=((HT.sIx n 0 lo:Nat):Int)/\(sliceBounds lo hi none n).2.1=((HT.sIx n n hi:Nat):Int)/\(sliceBounds lo hi none n).2.2=1:=by
 refine⟨?_,?_,rfl⟩
 ·cases lo with
  | none=>simp[sliceBounds,HT.sIx]
  | some i =>
   simp only[sliceBounds,HT.sIx,Option.getD_none,show(1:Int) > 0 by decide,if_true]
   by_cases h:i < 0
   ·simp only[h,if_true] <;> omega
   ·simp only[h,if_false] <;> omega
 ·cases hi with
  | none=>simp[sliceBounds,HT.sIx]
  | some i =>
   simp only[sliceBounds,HT.sIx,Option.getD_none,show(1:Int) > 0 by decide,if_true]
   by_cases h:i < 0
   ·simp only[h,if_true] <;> omega
   ·simp only[h,if_false] <;> omega
theorem W4(a:List Value)(lo hi:Option Int):slicePick a.toArray lo hi none=((a.drop (HT.sIx a.length 0 lo)).take (HT.sIx a.length a.length hi - HT.sIx a.length 0 lo)).toArray:=by
 obtain⟨h1,h2,b⟩:=W3 lo hi a.toArray.size
 unfold slicePick
 rw[h1,h2,b]
 simp only[sliceRange_one,pick_run,Yn] <;> rfl
def Kr(K:PySem.W.Frag):V->Option Int->Option Int->Hp->VK->Prop:=λx lo hi H Q=>∃ a xs,x=.ref a/\SqL K H a xs/\∀ p,H p=none->Q (.ref p) (upd H p (.lst (D2 xs lo hi)))
theorem NF:SlR X (Kr X.K):=by
 intro pins s σ H x v l m lo hi k Q I i hs pl f h
 obtain⟨a,xs,rfl,j,q⟩:=h
 cases i
 obtain⟨g,r,d,e⟩:=I.list j
 have c:=r.length
 refine⟨"list",_,slot_list_getitem.lookup,d.isList.typeIs,?_⟩
 refine wpAny_getItem_list_slice d.isList hs pl f .none (by simp) ?_ (by rw[Yn] <;> omega)
 rw[W4,<- c]
 refine⟨.ref s.heap.objs.size,_,I.laid (t':=s.toks) (o:=.lst (D2 xs lo hi)) (λb n q=>Qi _ q) (Yr _) ?_,rfl,q _ (I.hok.fresh (Yr _))⟩
 exact⟨Yt (NA xs lo hi) e,_,0,(r.drop (HT.sIx xs.length 0 lo)).take (HT.sIx xs.length xs.length hi - HT.sIx xs.length 0 lo),Qk _ rfl⟩
def C8:V->Bool
 | .non=>true
 | .bl _=>true
 | .int _=>true
 | .str _=>true
 | _=>false
def eqV:V->V->Bool
 | .non,.non=>true
 | .bl a,.bl b=>a==b
 | .bl a,.int b=>(if a then 1 else 0)==b
 | .int a,.bl b=>a==(if b then 1 else 0)
 | .int a,.int b=>a==b
 | .str a,.str b=>a==b
 | _,_=>false
variable {y x:V}{u v:Value}
theorem Gk{A:Around}(e:RelV y u)(c:RelV x v)(f:C8 y=true)(d:C8 x=true):SeqAt.EqAt A s u v (eqV y x):=by
 cases y with
 | non =>
  cases e
  cases x with
  | non=>cases c;exact SeqAt.EqAt.same _
  | bl b=>cases c;exact SeqAt.EqAt.none_bool b
  | int b=>obtain⟨t,rfl⟩:=c;exact SeqAt.EqAt.none_int b t
  | str b=>obtain⟨t,rfl⟩:=c;exact SeqAt.EqAt.none_str b t
  | _=>exact absurd (show false=true from d) YS
 | bl a =>
  cases e
  cases x with
  | non=>cases c;exact SeqAt.EqAt.bool_none a
  | bl b=>cases c;exact SeqAt.EqAt.bool_bool a b
  | int b=>obtain⟨t,rfl⟩:=c;exact SeqAt.EqAt.bool_int a b t
  | str b=>obtain⟨t,rfl⟩:=c;exact SeqAt.EqAt.bool_str a b t
  | _=>exact absurd (show false=true from d) YS
 | int a =>
  obtain⟨t',rfl⟩:=e
  cases x with
  | non=>cases c;exact SeqAt.EqAt.int_none a t'
  | bl b=>cases c;exact SeqAt.EqAt.int_bool a t' b
  | int b=>obtain⟨t,rfl⟩:=c;exact SeqAt.EqAt.int_int a t' b t
  | str b=>obtain⟨t,rfl⟩:=c;exact SeqAt.EqAt.int_str a t' b t
  | _=>exact absurd (show false=true from d) YS
 | str a =>
  obtain⟨t',rfl⟩:=e
  cases x with
  | non=>cases c;exact SeqAt.EqAt.str_none a t'
  | bl b=>cases c;exact SeqAt.EqAt.str_bool a t' b
  | int b=>obtain⟨t,rfl⟩:=c;exact SeqAt.EqAt.str_int a t' b t
  | str b=>obtain⟨t,rfl⟩:=c;exact SeqAt.EqAt.str_str a t' b t
  | _=>exact absurd (show false=true from d) YS
 | _=>exact absurd (show false=true from f) YS
def eqU(x:V)(u:Value):Bool:=match u with
 | .none=>eqV .non x
 | .bool b=>eqV (.bl b) x
 | .int i _=>eqV (.int i) x
 | .str z _=>eqV (.str z) x
 | _=>false
theorem NG(r:RelV y u)(f:C8 y=true):eqU x u=eqV y x:=by
 cases y with
 | non=>cases r;rfl
 | bl b=>cases r;rfl
 | int i=>obtain⟨t,rfl⟩:=r;rfl
 | str z=>obtain⟨t,rfl⟩:=r;rfl
 | _=>exact absurd (show false=true from f) YS
theorem Ks{x:V}:∀{xs:List V}{us:List Value},Vals xs us->xs.all C8=true->us.any (eqU x)=xs.any λy=>eqV y x
 | _,_,.nil,_=>rfl
 | y::xs,u::us,.cons r t,f=>by
  rw[List.all_cons,YF]at f
  rw[List.any_cons,List.any_cons,NG r f.1,Ks t f.2]
theorem Kt{A:Around}{s:Shared}{x:V}{v:Value}(c:RelV x v)(b:C8 x=true):∀{xs:List V}{us:List Value},Vals xs us->xs.all C8=true->∀ u∈us,SeqAt.EqAt A s u v (eqU x u)
 | _,_,.nil,_=>λu a=>by cases a
 | y::xs,u::us,.cons r t,f=>λd a=>by
  rw[List.all_cons,YF]at f
  walk_at "pH"
  ·rw[NG r f.1];exact Gk r c f.1 b
  ·exact Kt c b t f.2 d a
def inV(x:V)(xs:List V):Bool:=xs.any λy=>eqV y x
def rIn(K:PySem.W.Frag)(neg:Bool):R2:=λx y H Q=>∃ p xs,y=.ref p/\(SqL K H p xs\/SqT K H p xs)/\C8 x=true/\xs.all C8=true/\Q (.bl (if neg then !inV x xs else inV x xs)) H
theorem W5:OpR X (compareOp .In) (rIn X.K false):=by
 intro pins s σ H x y v u Q I d f h
 obtain⟨p,xs,rfl,b,c,fs,q⟩:=h
 cases f
 rcases b with b | b
 ·obtain⟨a,r,pl,e⟩:=I.list b
  refine SeqAt.in_listAt (eqU x) pl.isList (λw hw=>Kt d c r fs w (by simpa using hw)) ⟨.bl _,H,I,rfl,?_⟩
  rw[show a.toArray.any (eqU x)=a.any (eqU x) by simp,Ks r fs]
  exact q
 ·obtain⟨a,r,pl,e⟩:=I.tuple b
  refine SeqAt.in_tupleAt (eqU x) pl (λw hw=>Kt d c r fs w (by simpa using hw)) ⟨.bl _,H,I,rfl,?_⟩
  rw[show a.toArray.any (eqU x)=a.any (eqU x) by simp,Ks r fs]
  exact q
theorem CallR.or{f:Value}{r r':List V->Hp->VK->Prop}(h:CallR X f r)(h':CallR X f r'):CallR X f (λxs H Q=>r xs H Q\/r' xs H Q):=by
 intro pins s σ H xs b Q I a q
 rcases q with q | q
 ·exact h pins s σ H xs b Q I a q
 ·exact h' pins s σ H xs b Q I a q
theorem W6:CallR X (.type "list") (λxs H Q=>∃ p ys,xs=[.ref p]/\(SqL X.K H p ys\/SqT X.K H p ys)/\∀ l,H l=none->Q (.ref l) (upd H l (.lst ys))):=by
 intro pins s σ H xs m Q I r h
 obtain⟨p,ys,rfl,g,q⟩:=h
 obtain⟨u,rfl,k⟩:=Cq r
 cases k
 have f:∀(a:List Value),Vals ys a->ys.length<=sizeLine->∀(h':Heap)(c:Nat),(∀ b o',s.heap.get? b=some o'->h'.get? b=some o')->
   h'.get? s.heap.objs.size=some {cls:=.type "list",dict:=none,data:=.seq a.toArray c,slots:=#[]}->EP X pins σ Q (.ref s.heap.objs.size) {s with heap:=h'}:=λa r' d h' c kp e=>
  ⟨.ref s.heap.objs.size,_,I.laid (t':=s.toks) kp (Yr _) (show ObjOk X.prog X.w _ h' _ (.lst ys)from⟨d,a,c,r',e⟩),rfl,q _ (I.hok.fresh (Yr _))⟩
 rcases g with g | g
 ·obtain⟨a,r',pl,d⟩:=I.list g
  have i:=r'.length
  obtain⟨o,j,hc,n,hd⟩:=pl.isList
  exact call_list_seq p (.inl rfl) j hc hd (λh' c kp e=>f a r' d h' c kp e) (by simp only[Yn] <;> omega)
 ·obtain⟨a,r',pl,d⟩:=I.tuple g
  have i:=r'.length
  obtain⟨o,j,hc,n,hd⟩:=pl
  exact call_list_seq p (.inr rfl) j hc hd (λh' c kp e=>f a r' d h' c kp e) (by simp only[Yn] <;> omega)
theorem W7:CallR X (.type "tuple") (λxs H Q=>∃ p ys,xs=[.ref p]/\((SqL X.K H p ys/\∀ l,H l=none->Q (.ref l) (upd H l (.tup ys)))\/(SqT X.K H p ys/\Q (.ref p) H))):=by
 intro pins s σ H xs k Q I r h
 obtain⟨p,ys,rfl,h⟩:=h
 obtain⟨u,rfl,i⟩:=Cq r
 cases i
 rcases h with⟨c,q⟩|⟨c,q⟩
 ·obtain⟨a,r',pl,d⟩:=I.list c
  have f:=r'.length
  refine call_tuple_list pl.isList (λh' kp=>?_) (by simp only[Yn] <;> omega)
  have g:Inv X pins σ H {s with heap:=h'}:=I.kept (t':=s.toks) kp
  have j:Inv X pins σ (upd H h'.objs.size (.tup ys)) {s with heap:=h'.push {cls:=.type "tuple",data:=.seq a.toArray}}:=
   g.laid (t':=s.toks) (λb o e=>Qi _ e) (Yr _) (show ObjOk X.prog X.w _ _ _ (.tup ys)from⟨d,a,r',TupP.new _ _⟩)
  exact⟨.ref h'.objs.size,_,j,rfl,q _ (g.hok.fresh (Yr _))⟩
 ·obtain⟨a,r',pl,d⟩:=I.tuple c
  exact call_tuple_same pl ⟨.ref p,H,I,rfl,q⟩
def tyV(K:PySem.W.Frag)(T:String)(x:V)(H:Hp):Prop:=match x with
 | .str _=>T="str"
 | .int _=>T="int"
 | .ref p=>(T="list"/\∃ xs,SqL K H p xs)\/(T="tuple"/\∃ o,K.lookup p=some o/\o.cls=.type "tuple"/\o.dict=none)\/
   (T="dict"/\((∃ kvs,H p=some (.dK kvs))\/∃ kvs,H p=some (.dT kvs)))\/(T="set"/\∃ S n,H p=some (.set S n))
 | _=>False
theorem W8{T:String}(I:Inv X pins σ H s)(r:RelV x v)(ty:tyV X.K T x H):
  s.TypeIs v T/\∀ a,v=.ref a->∃ g,s.heap.get? a=some g/\g.dict=none:=by
 cases x with
 | str z =>
  obtain⟨t,rfl⟩:=r
  cases(show T="str" from ty)
  exact⟨typeIs_str s z t,λ_ e=>nomatch e⟩
 | int i =>
  obtain⟨t,rfl⟩:=r
  cases(show T="int" from ty)
  exact⟨typeIs_int s i t,λ_ e=>nomatch e⟩
 | ref p =>
  cases r
  rcases ty with⟨rfl,xs,j⟩|⟨rfl,o,b,hc,hd⟩|⟨rfl,b⟩|⟨rfl,S,n,b⟩
  ·obtain⟨h,_,pl,_⟩:=I.list j
   refine⟨pl.isList.typeIs,λa e=>?_⟩
   cases e
   obtain⟨o,n,e,c,hd,_⟩:=pl
   exact⟨o,e,hd⟩
  ·refine⟨⟨o,I.kIn p o b,hc⟩,λa e=>?_⟩
   cases e
   exact⟨o,I.kIn _ o b,hd⟩
  ·have z:∃ o,s.heap.get? p=some o/\o.ExactDict:=by
    rcases b with⟨d,b⟩|⟨d,b⟩
    ·obtain⟨_,_,_,_,o,_,_,e,ex,_⟩:=I.hok p _ b
     exact⟨o,e,ex⟩
    ·obtain⟨_,_,_,_,o,_,_,e,ex,_⟩:=I.hok p _ b
     exact⟨o,e,ex⟩
   obtain⟨o,e,ex⟩:=z
   refine⟨⟨o,e,ex.1⟩,λa f=>?_⟩
   cases f
   exact⟨o,e,ex.2.1⟩
  ·obtain⟨o,_,_,_,e,ex,_⟩:=I.hok p _ b
   refine⟨⟨o,e,ex.1⟩,λa f=>?_⟩
   cases f
   exact⟨o,e,ex.2.1⟩
 | _=>exact Qf ty
def tBM(K:PySem.W.Frag)(T:String)(r:V->List V->Hp->VK->Prop)(to:TE)(t:TA):TE:=λσ H Q=>to σ H λx H1=>tyV K T x H1/\t σ H1 λxs H2=>r x xs H2 Q
variable {o e:Expr} {es:List Expr} {to:TE} {t:TA} {name:Str} {apos cpos:Pos} {T id:String} {r:V->List V->Hp->VK->Prop}
theorem W9(pa:PlainAttrs T)(slot:Slot T name id)(f:typeOf (.builtin id)=pure (.type "method_descriptor"))(n:MtR X id r)(m:PE X o to)(l:PA X (e::es) t)
  (a:attributeBase o name X.env (eval o X.env)=eval o X.env:=by rfl)
  (d:((backTo cpos (starEach (e::es) X.env)).all (λx=>!x.1)&&(backToKw cpos (keywordEach [] X.env)).all (λx=>x.1.isSome)
   && decide ((e::es).length+([]:List Keyword).length+(if([]:List Keyword).isEmpty then 0 else 1) < 30))=true:=by rfl)
  (b:(apos.endLine==cpos.line)=true:=by rfl) (hs:starEach (e::es) X.env=(false,eval e X.env)::starEach es X.env:=by rfl) (hplain:(backTo cpos (starEach es X.env)).any (·.1)=false:=by rfl):
  PE X (.Call (.Attribute o name apos) (e::es) [] cpos) (tBM X.K T r to t):=by
 intro pins s σ H Q I h
 refine wpAny_Call_method_late a d b rfl (thn (m pins s σ H _ I h) λv p c=>?_)
 obtain⟨x,H1,i,r1,ty,q1⟩:=c
 obtain⟨h1,h2⟩:=W8 i r1 ty
 refine⟨T,id,pa,slot,f,h1,h2,?_⟩
 have g:=l cpos pins p σ H1 _ i q1
 rw[hs]at g ⊢
 refine Calls.callWith_builtin (by show(false||(backTo cpos (starEach es X.env)).any (·.1))=false;rw[hplain] <;> rfl) (Calls.evalArgs_plain ?_)
 exact thn g (by rintro u j ⟨k,H2,w,q,q2⟩;exact n pins j σ H2 x k v u Q w r1 q q2)
end
def MtM(X:Cx)(id:String)(r:V->List V->Hp->VK->Prop):Prop :=
 ∀(pins:List (Addr×Obj))(s:Shared)(σ:St)(H:Hp)(x:V)(xs:List V)(v:Value)(us:List Value)(Q:VK),Inv X pins σ H s->RelV x v->Vals xs us->r x xs H Q->
  wpAny (model X.prog X.w) X.A (call (.builtin id) (v::us)) (EP X pins σ Q) X.xe s
theorem Vals.one:∀{x:V}{us:List Value},Vals [x] us->∃ u,us=[u]/\RelV x u
 | _,_,.cons r .nil=>⟨_,rfl,r⟩
theorem Vals.two:∀{x y:V}{us:List Value},Vals [x,y] us->∃ u v,us=[u,v]/\RelV x u/\RelV y v
 | _,_,_,.cons r (.cons q .nil)=>⟨_,_,rfl,r,q⟩
theorem Vals.zero:∀{us:List Value},Vals [] us->us=[]
 | _,.nil=>rfl
theorem Vals.rep{xs:List V}{us:List Value}(h:Vals xs us):∀ k:Nat,Vals (List.replicate k xs).flatten (List.replicate k us).flatten
 | 0=>.nil
 | k+1=>by
  rw[List.replicate_succ,List.replicate_succ,List.flatten_cons,List.flatten_cons]
  exact Vals.append h (Vals.rep h k)
theorem NH(a:List Value):∀(k:Nat)(b:List Value),
  List.foldl (λd c=>d++c) b.toArray (List.replicate k a.toArray)=(b++(List.replicate k a).flatten).toArray
 | 0,b=>by simp
 | k+1,b=>by
  have e:b.toArray++a.toArray=(b++a).toArray:=by simp
  have f:(b++a)++(List.replicate k a).flatten=b++(List.replicate (k+1) a).flatten:=by
   rw[List.replicate_succ,List.flatten_cons,Yv]
  rw[<- f,<- NH a k (b++a),<- e,List.replicate_succ,List.foldl_cons]
section
variable {X:Cx} {pins:List (Addr×Obj)} {σ:St} {H:Hp} {s:Shared} {l b:Addr} {xs ys zs:List V}
variable {a:List Value}{n t':Nat}
theorem Inv.lset{its':List Value}{f:Array Value->Array Value}(I:Inv X pins σ H s)(i:H l=some (.lst xs))
  (e:s.heap.get? l=some {cls:=.type "list",data:=.seq a.toArray n}) (d:f a.toArray=its'.toArray) (h:Vals ys its') (b:ys.length<=sizeLine):
  Inv X pins σ (upd H l (.lst ys)) {s with heap:=s.heap.update l (Obj.mapSeq f),toks:=t'}:=by
 have q:=PySem.IsL.update e f
 rw[d]at q
 refine I.write (x:=l) (e:=l) (by rw[i];exact trivial) (.inl rfl) (λj u c g=>(Heap.get?_update_other s.heap (Obj.mapSeq f) (YU c)).trans g) ⟨_,q⟩ ?_
 exact⟨b,its',_,h,q⟩
theorem Inv.lnew(I:Inv X pins σ H s)(c:Vals ys a)(b:ys.length<=sizeLine):
  Inv X pins σ (upd H s.heap.objs.size (.lst ys)) {s with heap:=s.heap.push {cls:=.type "list",data:=.seq a.toArray},toks:=t'}:=
 I.laid (λ_ _ q=>Qi _ q) (Yr _) ⟨b,a,0,c,Qk _ rfl⟩
theorem Inv.fresh(I:Inv X pins σ H s):H s.heap.objs.size=none:=I.hok.fresh (Yr _)
theorem Inv.lstM(I:Inv X pins σ H s)(b:H l=some (.lst xs)):xs.length<=sizeLine/\∃(a:List Value)(n:Nat),Vals xs a/\xs.length=a.length/\s.heap.get? l=some {cls:=.type "list",data:=.seq a.toArray n}:=by
 obtain⟨z,a,n,r,e⟩:=I.hok l _ b
 exact⟨z,a,n,r,r.length,e⟩
theorem NI(h:n<=sizeLine):Builtin.List.listTooLong n=false:=by
 unfold Builtin.List.listTooLong
 exact decide_eq_false (by omega)
end
section
variable {X:Cx}
def Xa:V->List V->Hp->VK->Prop:=λx vs H Q=>∃ l xs y,x=.ref l/\vs=[y]/\H l=some (.lst xs)/\xs.length < sizeLine/\Q .non (upd H l (.lst (xs++[y])))
theorem Xb:MtM X "list.append" Xa:=by
 intro pins s σ H x g v j Q I d c h
 obtain⟨l,xs,y,rfl,rfl,b,i,q⟩:=h
 cases d
 obtain⟨u,rfl,f⟩:=c.one
 obtain⟨z,a,n,r,hl,e⟩:=I.lstM b
 refine call_meets F.slot_list_append ⟨_,e,rfl⟩ F.entry_list_append (F.args_list_append_2 _ _) (PySem.list_append l a.toArray n u (by rw[Yn];omega)) ⟨e,?_⟩
 refine⟨.non,_,I.lset (its':=a++[u]) b e (by simp) (r.append (.cons f .nil)) ?_,rfl,q⟩
 rw[Yj,List.length_singleton]
 omega
def Xd:V->List V->Hp->VK->Prop:=λx vs H Q=>∃ l b xs zs,x=.ref l/\vs=[.ref b]/\H l=some (.lst xs)/\H b=some (.lst zs)/\xs.length+zs.length<=sizeLine/\Q .non (upd H l (.lst (xs++zs)))
theorem Xe:MtM X "list.extend" Xd:=by
 intro pins s σ H x y v D Q I m j h
 obtain⟨l,b,xs,zs,rfl,rfl,g,k,A,q⟩:=h
 cases m
 obtain⟨u,rfl,p⟩:=j.one
 cases p
 obtain⟨z,c,n,r,hl,e⟩:=I.lstM g
 obtain⟨B,a,i,o,t,w⟩:=I.lstM k
 have f:c.toArray.size+a.toArray.size<=sizeLine:=by rw[Yn,Yn];omega
 have d:¬ (!c.toArray.isEmpty&&Builtin.List.listTooLong (c.toArray.size+a.toArray.size))=true:=by
  rw[NI f,Bool.and_false]
  exact YS
 refine call_meets F.slot_list_extend ⟨_,e,rfl⟩ F.entry_list_extend (F.args_list_extend_2 _ _)
  (AutoSeq1.list_extend_list_list_0 l c.toArray n b a.toArray i d (by rw[Yn];omega) (by omega)) ⟨e,w,?_⟩
 refine⟨.non,_,I.lset (its':=c++a) g e (by simp) (r.append o) ?_,rfl,q⟩
 rw[Yj]
 omega
def Gm:R2:=λx y H Q=>∃ l b xs zs,x=.ref l/\y=.ref b/\H l=some (.lst xs)/\H b=some (.lst zs)/\xs.length+zs.length<=sizeLine/\∀ p,H p=none->Q (.ref p) (upd H p (.lst (xs++zs)))
theorem Xf:OpR X (binaryOp .Add) Gm:=by
 intro pins s σ H x y v u Q I i f h
 obtain⟨l,b,xs,zs,rfl,rfl,m,g,p,q⟩:=h
 cases i
 cases f
 obtain⟨z,c,n,r,hl,e⟩:=I.lstM m
 obtain⟨w,a,t,j,k,o⟩:=I.lstM g
 refine PySem.P.add_list e o ?_ (by rw[Yn,Yn];omega)
 have d:c.toArray++a.toArray=(c++a).toArray:=by simp
 rw[d]
 exact⟨.ref _,_,I.lnew (t':=s.toks) (r.append j) (by rw[Yj];omega),rfl,q _ I.fresh⟩
def NJ:R2:=λx y H Q=>∃ l k xs,x=.ref l/\y=.int k/\H l=some (.lst xs)/\-(2 ^ 63)<=k/\k < 2 ^ 63/\xs.length*k.toNat<=sizeLine/\
 ∀ p,H p=none->Q (.ref p) (upd H p (.lst (List.replicate k.toNat xs).flatten))
theorem Xg{α:Type}(xs:List α)(k:Nat):(List.replicate k xs).flatten.length=k*xs.length:=by
 induction k with
 | zero=>simp
 | succ k a=>rw[List.replicate_succ,List.flatten_cons,Yj,a,Nat.succ_mul,Nat.add_comm]
theorem Xh:OpR X (binaryOp .Mult) NJ:=by
 intro pins s σ H x y v u Q I D B h
 obtain⟨l,k,xs,rfl,rfl,A,h1,h2,p,q⟩:=h
 cases D
 obtain⟨t,rfl⟩:=B
 obtain⟨z,b,n,r,hl,e⟩:=I.lstM A
 have g:b.toArray.size*k.toNat<=sizeLine:=by rw[Yn,<- hl];exact p
 have i:¬ b.toArray.size*k.toNat >(2 ^ 63 - 1) / 8:=by
  have:(sizeLine:Nat)<=(2 ^ 63 - 1) / 8:=by decide
  omega
 have f:¬ (!Builtin.List.listFitsIndex k)=true:=by
  rw[fitsIndex_both h1 h2]
  exact YS
 have c:¬ Builtin.List.listTooLong (b.toArray.size*k.toNat)=true:=by
  rw[NI g]
  exact YS
 have d:List.foldl (λo j=>o++j) #[] (List.replicate (if b.toArray.isEmpty=true then 0 else k.toNat) b.toArray)=(List.replicate k.toNat b).flatten.toArray:=by
  have w:∀ m:Nat,List.foldl (λo j=>o++j) #[] (List.replicate m b.toArray)=(List.replicate m b).flatten.toArray:=λm=>by
   have:=NH b m []
   rw[Yw]at this
   exact this
  rw[w]
  cases b with
  | nil=>simp
  | cons a r'=>rw[if_neg (by simp)]
 refine wpAny_binaryOp_repeat_ref (T:="list") (U:="int") (by decide) ⟨_,e,rfl⟩ (λs'=>typeIs_int s' k t) noFill_list_mul F.fills_int_mul F.slot_int_rmul repeat_list F.slot_int_index.lookup
  (call_meets F.slot_int_rmul (typeIs_int s k t) F.entry_int_rmul (F.args_int_rmul_2 _ _) (int___rmul___int_list k t l b.toArray n)
   ⟨e,rfl,⟨_,e,rfl⟩,call_meets F.slot_list_mul ⟨_,e,rfl⟩ F.entry_list_mul (F.args_list_mul_2 _ _) (AutoListH.list___mul___list_int_3 l b.toArray n k t f i c) ⟨e,?_⟩⟩)
 rw[d]
 exact⟨.ref _,_,I.lnew (t':=s.toks) (r.rep k.toNat) (by rw[Xg,Nat.mul_comm];exact p),rfl,q _ I.fresh⟩
end
section
variable {prog:Program} {w:World} {A:Around} {E:Value->Shared->Prop} {s:Shared}
end
section
variable {X:Cx}
end
end L2
namespace Att
open PySem PySem.W PySem.Calls PyProof.Rows
variable {P:Params}{h:Heap}
theorem Xi:∀(ns:List Int)(vs:List Value),WellAll P h vs (ns.map WData.int)->IntsAre vs ns:=by
 intro ns
 induction ns with
 | nil =>
  intro vs w
  rw[YH]at w
  cases w
  exact .nil
 | cons n ns c =>
  intro vs w
  rw[Ym]at w
  cases w with
  | cons a b =>
   cases a
   exact .cons _ _ (c _ b)
variable {l:OpenLaw}{n:Nat}
theorem Xj(m:l.most=some n){args:List WData}{b:List Value}
  (c:l.row.toRowW.claim.pre args=true) (k:WellAll P h b args):
  ∃ a vs ns,b=[Value.ref a]/\args=[WData.list (ns.map WData.int)]/\h.get? a=some {cls:=.type "list",data:=.seq vs.toArray}/\IntsAre vs ns/\ns.length<=n:=by
 have j:WShape.hasAll [] args [.list .int]=true:=(pre_splitW c).1
 have hc:l.pre.holds [] {args:=args}=true:=(pre_splitW c).2
 obtain⟨d,r,rfl,h1,h2⟩:=hasAllW_cons j
 obtain rfl:=hasAllW_nil h2
 obtain⟨xs,rfl,t⟩:=hasW_list h1
 obtain⟨ns,rfl⟩:=items_int t
 have f:ns.length<=n:=by
  unfold OpenLaw.pre at hc
  have g:(WTm.not (.lt (.lit (.int (n:Int))) (.len (.arg 0)))).holds [] {args:=[.list (ns.map .int)]}=true:=by
   have g:=(holds_andW hc).1
   rw[m]at g
   exact g
  have i:=condW_of g (w_not (w_lt w_lit (w_len_list (w_arg rfl))))
  rw[Yh]at i
  refine Nat.le_of_not_lt λq=>?_
  have u:(n:Int) <((ns.length:Nat):Int):=by omega
  first
   |(rw[YG u]at i;exact absurd i (by decide))
   |(simp at i;omega)
 cases k with
 | cons p o =>
  cases o
  cases p with
  | list s e=>exact⟨_,_,ns,rfl,rfl,s,Xi ns _ e,f⟩
theorem Xk(l:OpenLaw)(args:List WData):l.row.toRowW.claim.post args (.bool true) args=true :=
 postW_of (r:=l.row.toRowW) (X:=(true==true))
  (show WShape.has [] (.bool true) .bool=true by first | rfl | decide | simp[WShape.has,WShape.arms,WShape.armsAll])
  (show(WTm.eq .res (.lit (.bool true))).value [] {args:=args,res:=some (.bool true),after:=args}=some (.bool (true==true))from w_eq_bool (w_res rfl) w_lit) rfl
theorem attach_call{q:Program}{loose:List Str}{XP:(Str->Option Value)->Heap->Prop}{YP:World->Heap->Prop}{d:DefRec}
  (I:l.most=some n) (t:d.params.defaults=[])
  (call:∀(w:World)(s₀ b:Shared)(mg p:Str->Option Value)(j:Addr)(o:Obj)(pm cd c:Value)(a:Addr)(vs:List Value)(ns:List Int),
   Ground q loose [] XP w s₀ mg p b.heap->YP w b.heap->
   b.heap.get? j=some o->o.data=.func (docDef d.name d.params d.body d.scope pm cd c)->b.heap.CodeRec cd d.name->mg d.name=some (.ref j)->
   b.heap.get? a=some {cls:=.type "list",data:=.seq vs.toArray}->IntsAre vs ns->ns.length<=n->b.gens=#[]->
   codeAny (model l.prog w) callerA (.call (.ref j) ⟨[.ref a],[]⟩) (λr s'=>r=.ok (.ret (.bool true))/\OldK b.heap s'.heap/\s'.os=b.os/\AllBare s'.gens) b):
  WalkO q loose XP YP l.row.toRowW d [] (λf vs=>PySem.call f vs):=by
 intro w s₀ b mg p G Y j o pm cd c J kV A hd k y s H v x L g u B m z
 obtain rfl:J=.none:=Dflts.none y t
 obtain rfl:kV=.none:=Dflts.noKw y
 obtain⟨a,vs,ns,rfl,rfl,h,e,i⟩:=Xj I g m
 refine enter_call (codeAny_mono (call w s₀ b mg p j o pm cd c a vs ns G Y A (fd_plain hd) k s h e i H) λr s' F=>?_)
 obtain⟨rfl,h2,K,D⟩:=F
 exact⟨.inl ⟨.bool true,.bool true,[],rfl,λ_=>rfl,.bool true,Xk l _,λ_=>⟨List.Pairwise.nil,λ_ E=>(nomatch E)⟩⟩,h2,K,D⟩
section
variable {prog:Program} {w:World} {A:Around} {E:Value->Shared->Prop} {s:Shared} {K:Frag}
end
end Att
namespace L2
open PySem PySem.Spec PyProof.Rows
theorem NK:∀{vs:List Value}{ns:List Int},IntsAre vs ns->Vals (ns.map V.int) vs
 | _,_,.nil=>.nil
 | _,_,.cons n t h=>.cons ⟨t,rfl⟩ (NK h)
def HF(H:Hp):Prop:=∀ b,H b=none\/∃ o xs,H b=some (.frz o (.lst xs))
variable {K:PySem.W.Frag}{k:Nat}{a:Addr}{x:Str}
theorem Xl{P:Program}{w:World}{mg O:Str->Option Value}{CX:CXT}{N:Addr}{fd:FuncData}{sp:Sp}{c:Shared}{vs:List Value}{ns:List Int}
  (KX:K.In c.heap) (p:c.heap.Ns mainGlobals mg) (f:c.heap.Ns builtinsNs O) (J:∀ x:Str,x≠"__name__"->O x=bootBuiltins x) (A:c.heap.NoLimit) (hg:c.gens=#[])
  (E:c.heap.get? a=some {cls:=.type "list",data:=.seq vs.toArray}) (hi:IntsAre vs ns) (hl:ns.length<=sizeLine) (hr:Room k callerA)
  (F:∀ base:Heap,K.In base->base.Ns mainGlobals mg->FnOk P w K mg base CX k N fd [x] sp) (j:∀(s:Shared)(u:Value),BindsTo s fd ⟨[u],[]⟩ [(x,u)])
  (I:∀ H:Hp,HF H->SqL K H a (ns.map V.int)->sp [.ref a] H (λv _=>v=.bl true) λ_ _ _=>False)
  (L:∀ H e s',CX [] H c (λ_ _ _=>False) e s'->False):
  codeAny (model P w) callerA (.call (.ref N) ⟨[.ref a],[]⟩) (λr s'=>r=.ok (.ret (.bool true))/\OldK c.heap s'.heap/\s'.os=c.os/\AllBare s'.gens) c:=by
 have X:=NK hi
 have y:=hi.length
 have i:∀ H:Hp,HF H->SqL K H a (ns.map V.int)->HOk P w H c.heap->(∀ b,H b≠none->b=a)->(H a≠none->K.lookup a=none)->
   codeAny (model P w) callerA (.call (.ref N) ⟨[.ref a],[]⟩) (λr s'=>r=.ok (.ret (.bool true))/\OldK c.heap s'.heap/\s'.os=c.os/\AllBare s'.gens) c:=by
  intro H U hS hok S hK
  have base_of:∀{b:Addr}{o:Obj},c.heap.get? b=some o->H b=none->(Dm c.heap H).get? b=some o:=λe n=>Vf e n
  have G:∀{b:Addr}{o:Obj}{es:Array DictEntry}{B:Nat},c.heap.get? b=some o->o.data=.dict es B->H b=none:=λ{b o es B}e d=>by
   cases q:H b with
   | none=>rfl
   | some u =>
    have R:b=a:=S b (by rw[q];simp)
    subst R
    rw[E]at e;cases e
    have Y:Data.seq vs.toArray _=Data.dict es B:=d
    cases Y
  have g:∀{b:Addr}{m:Str->Option Value},c.heap.Ns b m->(Dm c.heap H).Ns b m:=λ{b m}⟨o,es,B,e,d,r⟩=>⟨o,es,B,base_of e (G e d),d,r⟩
  have D:K.In (Dm c.heap H):=λb o e=>base_of (KX b o e) (by
   cases q:H b with
   | none=>rfl
   | some u =>
    have R:b=a:=S b (by rw[q];simp)
    subst R
    rw[hK (by rw[q];simp)]at e;cases e)
  have hM:Mod K mg (Dm c.heap H):=⟨D,g p,⟨O,g f,J⟩,let⟨mc,h1,h2⟩:=A;⟨mc,g h1,h2⟩⟩
  have Z:Env0 P w K mg (Dm c.heap H) callerA [] c H:=⟨rfl,hM,λb o e=>Vg e,Nat.le_of_eq (Ve _ _),trivial,λb f=>absurd (show b∈([]:List Addr)from f) (by simp),hok,.of_eq hg⟩
  refine codeAny_mono ((F _ D (g p)).run callerA [] c H ⟨[.ref a],[]⟩ [.ref a] [.ref a] _ _ hr Z (j c (.ref a)) (.cons rfl .nil) (I H U hS)) λr s' h=>?_
  cases r with
  | error e=>exact(L H e s' h).elim
  | ok fl =>
   cases fl with
   | next=>exact Qf h
   | brk=>exact Qf h
   | cont=>exact Qf h
   | ret u =>
    obtain⟨v,H',os,bare,un,l,r',q⟩:=h
    have q':v=.bl true:=q
    subst q'
    obtain rfl:u=Value.bool true:=r'
    refine⟨rfl,OldK.of_keep λb o e=>?_,os,bare⟩
    cases q:H b with
    | none=>exact un.keep b o e q (by intro z;exact absurd (show b∈([]:List Addr)from z) (by simp)) (by simp)
    | some u =>
     rcases U b with z |⟨ob,xs,z⟩
     ·rw[q]at z;cases z
     ·have z2:=un.frzs b ob _ z
      obtain⟨T,_⟩:=hok b _ z
      obtain⟨e2,_⟩:=l b _ z2
      rw[e]at T;cases T
      exact e2
 cases Q:K.lookup a with
 | some o =>
  have e:=KX a o Q
  rw[E]at e
  cases e
  refine i (λ_=>none) (λ_=>.inl rfl) (.inr ⟨_,vs.toArray,_,Q,rfl,rfl,rfl,by rw[Yn,y];exact hl,by simpa using X⟩) (λb u z=>by have t:(none:Option HO)=some u:=z;cases t) (λb z=>absurd rfl z) λz=>absurd rfl z
 | none =>
  refine i (λb=>if b=a then some (.frz {cls:=.type "list",data:=.seq vs.toArray} (.lst (ns.map V.int)))else none) (λb=>?_) (.inl (.inr ⟨{cls:=.type "list",data:=.seq vs.toArray},if_pos rfl⟩)) (λb u z=>?_) (λb z=>?_) λ_=>Q
  ·by_cases f:b=a
   ·exact .inr ⟨_,_,if_pos f⟩
   ·exact .inl (if_neg f)
  ·by_cases f:b=a
   ·have t:=(if_pos f).symm.trans z
    cases t
    subst f
    exact⟨E,by rw[Yh];exact hl,vs,_,X,E⟩
   ·have t:=(if_neg f).symm.trans z
    cases t
  ·by_cases f:b=a
   ·exact f
   ·exact absurd (if_neg f) z
abbrev KOf{K:PySem.W.Frag}{h:Heap}(_:K.In h):PySem.W.Frag:=K
theorem Xm{l:PySem.W.OpenLaw}{n:Nat}{q:Program}{loose:List Str}{XP:(Str->Option Value)->Heap->Prop}{YP:World->Heap->Prop}{d:DefRec}{K:Params->PySem.W.Frag}{CX:World->CXT}{sp:World->Sp}
  (O:l.most=some n) (z:n<=sizeLine) (A:d.params.defaults=[]) (I:Room k callerA)
  (J:∀(w:World)(h:Heap),YP w h->(K w.params).In h)
  (F:∀(w:World)(mg:Str->Option Value)(p:Addr)(h:Heap),(K w.params).In h->h.Ns mainGlobals mg->mg d.name=some (.ref p)->
   ∃ fd:FuncData,(∀(s:Shared)(u:Value),BindsTo s fd ⟨[u],[]⟩ [(x,u)])/\
    ∀ base:Heap,(K w.params).In base->base.Ns mainGlobals mg->FnOk l.prog w (K w.params) mg base (CX w) k p fd [x] (sp w))
  (r:∀(w:World)(H:Hp)(a:Addr)(ns:List Int),ns.length<=n->HF H->SqL (K w.params) H a (ns.map V.int)->sp w [.ref a] H (λv _=>v=.bl true) λ_ _ _=>False)
  (t:∀(w:World)(H:Hp)(s:Shared)(e:Value)(s':Shared),CX w [] H s (λ_ _ _=>False) e s'->False):
  PySem.W.WalkO q loose XP YP l.row.toRowW d [] (λf vs=>PySem.call f vs):=by
 refine Att.attach_call O A λw s₀ j mg S p o pm cd D a vs ns G Y R hd B y m i c N=>?_
 have KX:=J w _ Y
 obtain⟨fd,E,Q⟩:=F w mg p _ KX G.T.g y
 exact Xl KX G.T.g G.T.b G.T.builtins G.T.nolimit N m i (Yt c z) I Q E (λH L P=>r w H a ns c L P) λH e s'=>t w H j e s'
abbrev CX0:CXT:=λ_ _ _ _ _ _=>False
structure Fun(K:PySem.W.Frag)(x qual:Str)(st:Stmt)(f:Addr)(fd:FuncData):Prop where
 ex:∃(oc:Value)(od:Option Addr)(kV doc pm:Value)(an:Option Addr)(cdv ct:Value)(osl:Array (Option Value)),
  fd=PySem.W.fnOf x qual (EL st) (Cb st) (Ar st) .none kV doc pm an cdv ct/\K.lookup f=some ⟨oc,od,.func fd,osl⟩/\PySem.W.codeIn K cdv qual=true
 kp:PySem.W.keepIn K (.ref f)=true
section
variable {P:Program} {w:World} {K:PySem.W.Frag} {mg:Str->Option Value} {base:Heap}
variable {qual:Str}{st:Stmt}{f:Addr}{fd:FuncData}{ps:List Str}
theorem Fun.ok{N:List Str}{sp:Sp}(F:Fun K x qual st f fd)(S:AE N ps (Ar st))(len:∀ vs H Q E,sp vs H Q E->vs.length=ps.length)
  (a:∀(cdv:Value)(A:Around)(outer:List Env)(s:Shared)(H:Hp)(vs:List V)(Q:VK)(E:XK),Room k (A.deeper (envOfC qual (Ar st) s.heap.objs.size f cdv))->sp vs H Q E->
   ∃ t,PSs (Bp CX0 P w K mg base N qual (Ar st) f cdv A outer s H E).nox (Cb st) t/\t {nx:=λ_ H'=>Q .non H',rt:=Q} (CS N vs) H):FnOk P w K mg base CX0 (k+1) f fd ps sp:=by
 obtain⟨j,l,kV,e,pm,i,cdv,ct,d,rfl,lk,b⟩:=F.ex
 refine HD lk b S len λA outer s H vs Q E g c=>?_
 obtain⟨t,h,q⟩:=a cdv A outer s H vs Q E g c
 exact⟨t,h.nox,q⟩
theorem Fun.binds(F:Fun K x qual st f fd)
  (h:∀(kV a pm:Value)(b:Option Addr)(cdv ct:Value)(us:List Value),us.length=ps.length->bindArgs (PySem.W.fnOf x qual (EL st) (Cb st) (Ar st) .none kV a pm b cdv ct) ⟨us,[]⟩=pure (ps.zip us)):Binds K fd ps []:=by
 obtain⟨e,g,kV,a,pm,b,cdv,ct,c,rfl,lk,d⟩:=F.ex
 exact .all (h kV a pm b cdv ct)
theorem NL{e:Value}{g d:Option Addr}{b:Array (Option Value)}{kV a pm cdv ct:Value}(l:K.lookup f=some ⟨e,g,.func (PySem.W.fnOf x qual (EL st) (Cb st) (Ar st) .none kV a pm d cdv ct),b⟩)
  (c:PySem.W.codeIn K cdv qual=true) (k:PySem.W.keepIn K (.ref f)=true):Fun K x qual st f (PySem.W.fnOf x qual (EL st) (Cb st) (Ar st) .none kV a pm d cdv ct):=⟨⟨e,g,kV,a,pm,d,cdv,ct,b,rfl,l,c⟩,k⟩
end
section
variable {X:Cx}
end
theorem DY{c A B:Prop}[Decidable c](h1:c->A)(h2:¬ c->B):if c then A else B:=by
 by_cases h:c
 ·rw[if_pos h]
  exact h1 h
 ·rw[if_neg h]
  exact h2 h
def Same(H H':Hp):Prop:=∀ b o,H b=some o->H' b=some o
theorem Same.refl(H:Hp):Same H H:=λ_ _ h=>h
variable {H:Hp}
theorem Same.trans{H1 H2:Hp}(a:Same H H1)(b:Same H1 H2):Same H H2:=λc o h=>b c o (a c o h)
variable {H':Hp}
theorem Same.free(e:Same H H'){l:Addr}(h:H' l=Option.none):H l=Option.none:=by
 cases q:H l with
 | none=>rfl
 | some o =>
  rw[e l o q]at h
  cases h
theorem Same.seq{xs:List V}(e:Same H H')(h:SqL K H a xs):SqL K H' a xs:=by
 rcases h with(h |⟨o,h⟩)| h
 ·exact .inl (.inl (e _ _ h))
 ·exact .inl (.inr ⟨o,e _ _ h⟩)
 ·exact .inr h
end L2
namespace L3
open PySem PySem.Spec PyProof.Rows L2
namespace Tb
def hop(M:Nat):Nat->Nat->Nat
 | 0,i=>i
 | n+1,i=>hop M n ((i*5+1) % M)
def cover(M:Nat):Bool:=(List.range M).all λi=>(List.range M).all λj=>(List.range M).any λn=>hop M n i==j
end Tb
def bt(w:World):Bool:=w.params.followText "set-order"
structure Tab(w:World)(es:Array (Int×Value))(t:SetTable)(ks:List Str):Prop where
 el:∀ e∈es.toList,∃ x u,e=(hashStr w x,Value.str x u)
 pm:(es.toList.map λe=>strOf e.2).Perm ks
 nd:ks.Nodup
 ft:t.fits es.size=true
 ld:bt w=false->t.led=true
 pl:t.plain=true->ks=[]
def SS(w:World)(h:Heap)(a:Addr)(ks:List Str):Prop:=∃ o es ep t,h.get? a=some o/\o.ExactSet/\o.data=.set es ep t/\Tab w es t ks
namespace Tab
variable {w:World} {es es':Array (Int×Value)} {t t':SetTable} {ks ks':List Str}
theorem len(T:Tab w es t ks):es.size=ks.length:=by
 have:=T.pm.length_eq
 rw[Yh,YR]at this
 exact this
theorem mem(T:Tab w es t ks)(k:Str):k∈ks↔∃ e∈es.toList,Value.isStrOf k e.2=true:=by
 rw[<- T.pm.mem_iff,YC]
 constructor
 ·rintro⟨e,a,rfl⟩
  obtain⟨x,u,rfl⟩:=T.el e a
  exact⟨_,a,by show Value.isStrOf x (.str x u)=true;simp[Value.isStrOf]⟩
 ·rintro⟨e,a,h⟩
  obtain⟨x,u,rfl⟩:=T.el e a
  refine⟨_,a,?_⟩
  obtain⟨t,b⟩:=Value.isStrOf_shape h
  injection b
end Tab
section
variable {prog:Program} {w:World} {A:Around} {E:Value->Shared->Prop} {s:Shared}
end
section
variable {prog:Program} {w:World} {A:Around} {E:Value->Shared->Prop} {s:Shared}
variable {h:Heap}{a:Addr}{ks:List Str}
theorem SS.kept{h':Heap}(S:SS w h a ks)(k:∀ o,h.get? a=some o->h'.get? a=some o):SS w h' a ks:=by
 obtain⟨o,es,b,t,c,r⟩:=S
 exact⟨o,es,b,t,k o c,r⟩
theorem SS.nd(S:SS w h a ks):ks.Nodup:=by
 obtain⟨o,es,b,t,c,_,_,T⟩:=S
 exact T.nd
end
section
variable {prog:Program} {w:World} {A:Around} {E:Value->Shared->Prop} {s:Shared}
end
section
variable {prog:Program} {w:World} {A:Around} {E:Value->Shared->Prop} {s:Shared}
end
section
variable {prog:Program} {w:World} {A:Around} {E:Value->Shared->Prop} {s:Shared}
end
section
variable {prog:Program} {w:World} {A:Around} {E:Value->Shared->Prop} {s:Shared}
end
end L3
namespace L2
open PySem PySem.Spec PyProof.Rows
section
variable {prog:Program} {w:World} {A:Around} {R:Result->Shared->Prop} {s:Shared}
theorem Xn{elt target iter:Expr}{ifs:List Expr}{scope:Scope}{pos:Pos}{u k:Value}{env:Env}{E':Value->Shared->Prop}(I:Nat->Shared->Prop)
  (l:∀ e s',E' e s'->notedBy (model prog w) A env (λe s'=>R (.error e) s') e s')
  (o:∀ n s,I n s->wpAny (model prog w) A (pyNext u) (λr a=>match r with
   | none=>R (.ok .next) a
   | some v=>wpAny (model prog w) A (letOwnedTupleGo target u v) (λ_ s₁'=>wpAny (model prog w) A (assign target env v) (λ_ g=>
     wpAny (model prog w) A (forIn ifs true λc r=>if r=true then do let ok <- isTrue c env (eval c env);pure (ForInStep.yield ok)else pure (ForInStep.yield r)) (λok b=>
      if ok=true then wpAny (model prog w) A (eval elt env) (λx i=>
       wpAny (model prog w) A (call (.builtin "list.append") [k,x]) (λ_ f=>∃ m,m < n/\I m f) E' i) E' b
      else ∃ m,m < n/\I m b) E' g) E' s₁') E' a) E' s)
  (n:Nat) (h:I n s):
  codeAny (model prog w) A (.compLoop (.ListComp elt [⟨target,iter,ifs,0⟩] scope pos) 0 u k env) R s:=by
 refine codeAny_loop rfl I (λn s y=>?_) n h
 show wpAny _ A ((compTurn (.ListComp elt [⟨target,iter,ifs,0⟩] scope pos) 0 u k env).onRaise (λx=>do noteFrame x env;theTreesLotGoes x)) _ _ s
 refine wpAny_noted ?_
 rw[compTurn_list]
 refine Qg (wpAny_standAt (Qg (wpAny_mono (o n s y) (λr a j=>?_) l)))
 cases r with
 | none=>exact Qh j
 | some v =>
  refine Qg (wpAny_mono j (λ_ s₁' h₁'=>?_) l)
  refine Qg (wpAny_mono h₁' (λ_ g t=>Qg (wpAny_mono t (λok b d=>?_) l)) l)
  cases ok with
  | false=>exact Qh ⟨rfl,d⟩
  | true =>
   exact Qg (Qg (wpAny_mono d (λx i q=>Qg (wpAny_mono q (λ_ f p=>Qh (Qh ⟨rfl,p⟩)) l)) l))
end
def PF(X:Cx)(ifs:List Expr)(t:TT):Prop :=
 ∀(pins:List (Addr×Obj))(s:Shared)(σ:St)(H:Hp)(Q:Bool->Hp->Prop),Inv X pins σ H s->t σ H Q->
  wpAny (model X.prog X.w) X.A (forIn ifs true λc r=>if r=true then do let ok <- isTrue c X.env (eval c X.env);pure (ForInStep.yield ok)else pure (ForInStep.yield r)) (TP X pins σ Q) X.xe s
def Xo:TT:=λ_ H Q=>Q true H
variable {X:Cx}
theorem Xp:PF X [] Xo:=λ_ _ _ H _ I h=>wpAny_tests_nil ⟨H,I,h⟩
theorem Xq{c:Expr}{t:TT}(hc:PT X c t):PF X [c] t:=λpins s σ H Q I h=>wpAny_tests_one (hc pins s σ H Q I h)
def cxB(X:Cx)(Nc:List Str)(scope:Scope)(cl:List (Str×Addr))(C:Addr)(fp:List Addr)(s:Shared)(H:Hp):Cx :=
 {X with N:=Nc,s₀:=s,H₀:=H,env:=compEnvC scope cl C X.env,outer:=X.stack,ex:=fp,fn:=λ_=>false,pn:=[],xe:=λ_ _=>False}
structure Blk(X:Cx)(Nc:List Str)(scope:Scope)(cl:List (Str×Addr))(cap:St->St):Prop where
 clos:closureFor scope X.env=pure cl
 kind:scope.kind=.function
 names:∀ x∈scope.names,x.2=.local->scope.names.lookup x.1=some .local
 nocell:∀ y∈scope.names,y.2≠.cell
 sub:∀ y c,cl.lookup y=some c->X.env.cells.lookup y=some c
 has:∀ y,((relabel scope X.env).names.lookup y=some .cell\/(relabel scope X.env).names.lookup y=some .free)->∃ c,cl.lookup y=some c
 take:∀(σ:St)(i:Nat)(y:Str)(v:V),Nc[i]?=some y->(cap σ)[i]?=some (some v)->Vis (relabel scope X.env) y->
  ((relabel scope X.env).names.lookup y=some .cell\/(relabel scope X.env).names.lookup y=some .free)/\Vis X.env.scope y/\X.env.scope.names.lookup y≠some .local/\∃ j:Nat,X.N[j]?=some y/\σ[j]?=some (some v)
 len:∀ σ:St,(cap σ).length=Nc.length
variable {scope:Scope}
theorem Xr{env:Env}(h:∀ y∈scope.names,y.2≠.free):relabel scope env=scope:=by
 unfold relabel
 rw[map_eq_self (l:=scope.names) (λx a=>by
  obtain⟨n,k⟩:=x
  have:(k==NameKind.free)=false:=by simpa using h _ a
  simp[this])]
theorem Ku{names:List (Str×NameKind)}{x:Str}{k:NameKind}(h:names.lookup x=some k):(x,k)∈names:=PySem.mem_of_lookup h
theorem BF{Nc:List Str}(kind:scope.kind=.function)(all:∀ y∈scope.names,y.2≠.free/\y.2≠.cell)(names:∀ x∈scope.names,x.2=.local->scope.names.lookup x.1=some .local):
  Blk X Nc scope [] (λ_=>List.replicate Nc.length none) where
 clos:=closureFor_none λx b=>(all x b).1
 kind:=kind
 names:=names
 nocell:=λy d=>(all y d).2
 sub:=λy c h=>by cases h
 has:=λy h=>by
  rw[Xr λz a=>(all z a).1]at h
  rcases h with h | h
  ·exact absurd rfl (all _ (Ku h)).2
  ·exact absurd rfl (all _ (Ku h)).1
 take:=λσ i y v h1 h2 e=>by
  rw[List.getElem?_replicate]at h2
  split at h2 <;> cases h2
 len:=λσ=>List.length_replicate ..
def cOk(cap:St->St)(g:TG)(tt:TT)(te:TE)(K:List V->Hp->Prop)(σ:St)(J:It)(H1:Hp):Prop :=
 ∃ W:Nat->Nat->St->Hp->List V->Prop,(∃ m,W 0 m (cap σ) H1 [])/\∀ i m σ' H' ys,W i m σ' H' ys->
  (J.stop i H'/\K ys H')\/
  (J.go i H'/\ys.length < sizeLine/\∃ N:St->Hp->List V->Prop,(∀ σ2 H2 ys2,N σ2 H2 ys2->∃ m',m' < m/\W (i+1) m' σ2 H2 ys2)/\
   ∀ x H2,J.yld i H' x H2->g x σ' H2 λσ3 H3=>tt σ3 H3 λb H4=>if b=true then te σ3 H4 λy H5=>N σ3 H5 (ys++[y])else N σ3 H4 ys)
def HG(wi:TI)(cap:St->St)(g:TG)(tt:TT)(te:TE):TE:=λσ H Q=>wi σ H λJ H1=>cOk cap g tt te (λys H'=>∀ a,H' a=none->Q (.ref a) (upd H' a (.lst ys))) σ J H1
section
variable {X:Cx} {elt tg iter:Expr} {ifs:List Expr} {scope:Scope} {pos:Pos} {g:TG} {tt:TT} {te:TE} {Nc:List Str} {cap:St->St} {cl:List (Str×Addr)}
theorem NM(hc:X.calm=true)(B:Blk X Nc scope cl cap)(hg:∀ C fp s H,PG (cxB X Nc scope cl C fp s H) tg g)(ht:∀ C fp s H,PF (cxB X Nc scope cl C fp s H) ifs tt)(he:∀ C fp s H,PE (cxB X Nc scope cl C fp s H) elt te)
  {pins:List (Addr×Obj)} {σ:St} {H2:Hp} {P:Shared} {E:Value->Shared->Prop} {RR:Value->Addr->Result->Shared->Prop} {J:It} {fp:List Addr} {it:Addr} {tn:Nat->Heap->Prop} {K:List V->Hp->Prop}
  (F:Inv X pins σ H2 P) (T:CQ X.prog X.w X.K tg J fp it tn) (st2:tn 0 P.heap) (f2:∀ b∈fp,CP X pins H2 b) (w2:cOk cap g tt te K σ J H2)
  (fin:∀(D C:Addr)(s':Shared)(H':Hp)(ys:List V)(oC:Obj),H' D=none->K ys H'->Inv X pins σ (upd H' D (.lst ys)) s'->CP X pins (upd H' D (.lst ys)) C->s'.heap.get? C=some oC->(∀ v,oC.data≠.cell v)->(∃ m,s'.heap.Ns C m)->RR (.ref D) C (.ok .next) s'):
  wpAny (model X.prog X.w) X.A (newList []) (λacc s₃=>wpAny (model X.prog X.w) X.A (newFunctionEnv scope X.env.globals cl [] X.env.qual none .none (some X.env)) (λcenv s₄=>
   codeAny (model X.prog X.w) X.A (.compStart (.ListComp elt [⟨tg,iter,ifs,0⟩] scope pos) 0 (.ref it) acc {cenv with scope:=relabel scope X.env}) (RR acc cenv.locals) s₄) E s₃) E P:=by
 refine wpAny_newObj_type (wpAny_newFunctionEnv B.nocell (by intro y hy;simp at hy) (λY G t=>?_) B.kind)
 dsimp only at G t ⊢
 generalize hP2:P.heap.push {cls:=.type "list",dict:=none,data:=.seq ([]:List Value).toArray}=P2 at G t ⊢
 generalize L:P.heap.objs.size=D at G t ⊢
 have hCs:P2.objs.size=D+1:=by rw[<- hP2,Ql,L]
 generalize hCC:P2.objs.size=C at G t hCs ⊢
 have hDC:D≠C:=Ys (by rw[hCs];exact Nat.lt_succ_self _)
 have Q:∀ b:Addr,b < D->b≠C:=λb h=>Ys (by rw[hCs];exact Nat.lt_succ_of_lt h)
 have leC:D<=C:=by rw[hCs];exact Nat.le_succ _
 have S:∀ b o,P.heap.get? b=some o->Y.get? b=some o:=λb o e=>by
  have f:=Qj e
  rw[L]at f
  refine t.extBut b o (Q b f) (Qi _ ?_)
  rw[<- hP2]
  exact Qi _ e
 have hacc:Y.get? D=some {cls:=.type "list",data:=.seq #[]}:=by
  refine t.extBut D _ hDC (Qi _ ?_)
  rw[<- hP2,<- L]
  exact Qk _ rfl
 have lt2:∀ b o,P.heap.get? b=some o->b < D:=λb o e=>by rw[<- L];exact Qj e
 have U:∀ b∈fp,b < D:=λb f=>by
  obtain⟨o,e,_⟩:=T.obj _ _ st2 b f
  exact lt2 b o e
 have celt:∀ x c,X.env.cells.lookup x=some c->c < D:=λx c e=>by
  obtain⟨v,z⟩:=F.cell x c e
  rw[<- L]
  exact z.lt
 have R:∀ p∈X.pn++pins,p.1 < D:=λp hp=>lt2 _ _ (F.pin p hp).1
 have fstk:∀ b∈fp,b∉frs X.stack:=λb f z=>(Yo.mp (F.stkSub b z)).elim (f2 b f).2.1 (f2 b f).2.2.1
 have hDn:H2 D=none:=F.hok.fresh (by rw[L];exact Yr _)
 have hCn:H2 C=none:=F.hok.fresh (by rw[L];exact leC)
 have sz0:X.s₀.heap.objs.size<=D:=by rw[<- L];exact F.sz
 let Xc:=cxB X Nc scope cl C fp P H2
 have okc:Xc.Ok:=by
  refine⟨F.ok.mod,?_,F.ok.glob,F.ok.blt,?_,λx y c h1 h2=>F.ok.inj x y c (B.sub x c h1) (B.sub y c h2),λx hx=>B.has x hx,(λx c h=>by cases h),F.ok.hd,F.ok.frames,.inl rfl,?_,F.bs,Yt F.ok.bsz F.sz,?_,fstk,F.stack,F.stkFree⟩
  ·exact B.kind
  ·show P.heap.objs.size<=C
   rw[L];exact leC
  ·intro b f
   refine⟨?_,λx c e=>?_⟩
   ·exact Q b (U b f)
   ·exact(f2 b f).2.2.2.2.1 x c (B.sub x c e)
  ·intro b o e f
   rcases(f2 b f).2.2.2.1 with z | z
   ·exact F.ok.noex b o e z
   ·exact absurd (Yu (Qj (F.ok.bs b o e).1) z) (YJ _)
 have I0:∀ tk,Inv Xc (X.pn++pins) (cap σ) H2 {P with heap:=Y,toks:=tk}:=λtk=>by
  refine⟨okc,rfl,F.bare,Un.kept S,⟨_,G,λi y v h1 h2 h3=>?_⟩,λx c e=>?_,hCn,λx c e=>F.freeC x c (B.sub x c e),λp hp=>?_,F.hok.kept S,B.len σ⟩
  ·obtain⟨k1,k2,k3,j,k4,k5⟩:=B.take σ i y v h1 h2 h3
   obtain⟨m,hn,hl⟩:=F.loc
   obtain⟨u,r,l⟩:=hl j y v k4 k5 k2
   refine⟨u,r,.inr ⟨k1,?_⟩⟩
   rcases l with⟨l,_⟩|⟨_,c,e,z⟩
   ·exact absurd l k3
   ·obtain⟨c',e'⟩:=B.has y k1
    have:=B.sub y c' e'
    rw[e]at this;cases this
    obtain⟨oc,ec,dc⟩:=z
    exact⟨c,e',oc,S _ _ ec,dc⟩
  ·obtain⟨v,oc,ec,dc⟩:=F.cell x c (B.sub x c e)
   exact⟨v,oc,S _ _ ec,dc⟩
  ·have Z:p∈X.pn++pins:=by simpa[Xc,cxB]using hp
   obtain⟨e,n,ne,nf,d⟩:=F.pin p Z
   exact⟨S _ _ e,n,Q _ (R p Z),λz=>(Yo.mp (F.stkSub _ z)).elim ne nf,d⟩
 have fpc:∀{H':Hp}{o:Obj},(∀ b∈fp,H' b=none)->∀ b∈fp,CP Xc ((X.pn++pins)++[(D,o)]) H' b:=λ{H' o}hn b f=>by
  refine⟨hn b f,Q b (U b f),fstk b f,.inl f,λx c e=>(f2 b f).2.2.2.2.1 x c (B.sub x c e),λp hp=>?_⟩
  ·have Z:p∈X.pn++pins\/p=(D,o):=by
    rcases Yz.mp hp with z | z
    ·cases z
    ·rcases Yz.mp z with z | z
     ·exact .inl z
     ·exact .inr (YA.mp z)
   rcases Z with z | z
   ·exact(f2 b f).2.2.2.2.2 p z
   ·subst z
    exact Nat.ne_of_gt (U b f)
 obtain⟨W,⟨m0,w0⟩,turn⟩:=w2
 have loop:∀ tk,codeAny (model X.prog X.w) X.A (.compLoop (.ListComp elt [⟨tg,iter,ifs,0⟩] scope pos) 0 (.ref it) (.ref D) Xc.env) (RR (.ref D) C) {P with heap:=Y,toks:=tk}:=by
  intro tk
  refine Xn (E':=λ_ _=>False)
   (λn s'=>∃(i:Nat)(σ':St)(H':Hp)(ys:List V)(I:List Value)(k:Nat),Inv Xc (X.pn++pins) σ' H' s'/\tn i s'.heap/\(∀ b∈fp,H' b=none)/\H' D=none/\s'.heap.get? D=some {cls:=.type "list",data:=.seq I.toArray k}/\
    Vals ys I/\ys.length<=sizeLine/\W i n σ' H' ys) (λ_ _ z=>z.elim) ?_ m0
   ⟨0,cap σ,H2,[],[],0,I0 tk,T.keep _ _ _ st2 λb _ o e=>S b o e,λb f=>(f2 b f).1,hDn,hacc,.nil,YT _,w0⟩
  rintro n s3 ⟨i,σ3,H3,ys,I,k,I3,st3,fr3,hD3,o3,rv3,hz3,w3⟩
  have I3':Inv Xc ((X.pn++pins)++[(D,{cls:=.type "list",data:=.seq I.toArray k})]) σ3 H3 s3:=I3.pins_of λp hp=>by
   have Z:p∈X.pn++pins\/p=(D,{cls:=.type "list",data:=.seq I.toArray k}):=by
    rcases Yz.mp hp with z | z
    ·exact .inl z
    ·exact .inr (YA.mp z)
   rcases Z with z | z
   ·exact I3.pin p (by simpa[Xc,cxB]using z)
   ·subst z
    refine⟨o3,hD3,hDC,λz=>?_,(λv z=>by cases z)⟩
    ·obtain⟨_,o,ho,_⟩:=F.stack.mem z
     exact absurd (lt2 _ _ ho) (YJ _)
  rcases turn i n σ3 H3 ys w3 with⟨stop,qn⟩|⟨go,hlt,N,hN,step⟩
  ·refine thn (T.done Xc rfl rfl rfl hc i _ s3 σ3 H3 _ I3' (fpc fr3) st3 stop) λr s4 zz1=>?_
   obtain⟨hr,I4⟩:=zz1
   subst hr
   have pD:=I4.pin (D,{cls:=.type "list",data:=.seq I.toArray k}) (by simp)
   obtain⟨m4,hn4,_⟩:=I4.loc
   obtain⟨oC,es,ep,eC,dC,rC⟩:=id hn4
   have hD4:H3 D=none:=hD3
   have hC4:H3 C=none:=I4.free
   have O:∀ b u,H3 b=some u->upd H3 D (.lst ys) b=some u:=λb u e=>by rw[A4 (EM e hD4)];exact e
   have un:Un (frs X.stack) fp H2 (upd H3 D (.lst ys)) P.heap s4.heap:=by
    have u:=I4.base
    refine⟨u.keep,u.slot,λb o e n hx=>?_,u.there,λb xs e=>O _ _ (u.tups b xs e),λb o v e=>O _ _ (u.frzs b o v e),λb ps e=>?_⟩
    ·rw[A4 (Ys (lt2 b o e))]
     exact u.free b o e n hx
    ·obtain⟨more,q⟩:=u.tbls b ps e
     exact⟨more,O _ _ q⟩
   have hok:HOk X.prog X.w (upd H3 D (.lst ys)) s4.heap:=λb u e=>by
    by_cases f:b=D
    ·subst f
     rw[BO]at e;cases e
     exact⟨hz3,I,k,rv3,pD.1⟩
    ·rw[A4 f]at e
     exact(I4.hok b u e).stay (λ_ _ _ q=>q) (λc q=>O _ _ q) λc xs q=>O _ _ q
   have I5:Inv X pins σ (upd H3 D (.lst ys)) s4:=F.call' (ch:=fp) I4.os un hok I4.bare λb f=>⟨(f2 b f).2.2.2.1,(f2 b f).2.1,(f2 b f).2.2.2.2.1,(f2 b f).2.2.2.2.2⟩
   refine fin D C s4 H3 ys oC hD4 qn I5 ⟨?_,?_,λz=>?_,.inr (Yt sz0 leC),λx c e=>?_,λp hp=>?_⟩ eC (λv z=>by rw[dC]at z;cases z) ⟨m4,hn4⟩
   ·rw[A4 (YU hDC)];exact hC4
   ·have:=F.lt
    rw[L]at this
    exact YU (Q _ this)
   ·exact F.nofs (a:=C) (by rw[L];exact leC) z
   ·exact Q _ (celt x c e)
   ·exact Q _ (R p hp)
  ·refine thn (T.item Xc rfl rfl rfl hc i _ s3 σ3 H3 _ I3' (fpc fr3) st3 go) λr s4 zz2=>?_
   obtain⟨u,hr,h4⟩:=zz2
   subst hr
   refine thn h4 λ_ s5 zz3=>?_
   obtain⟨x,H5,I5,r5,y5,st5,fr5⟩:=zz3
   have I5':=I5.pinned (fpc fr5) (T.obj _ _ st5)
   refine thn (hg C fp P H2 _ s5 σ3 H5 x u _ I5' r5 (step x H5 y5)) λ_ s6 zz4=>?_
   obtain⟨σ6,H6,I6,q6⟩:=zz4
   refine thn (ht C fp P H2 _ s6 σ6 H6 _ I6 q6) λok s7 zz5=>?_
   obtain⟨H7,I7,q7⟩:=zz5
   have again:∀{σ8:St}{H8:Hp}{s8:Shared},Inv Xc (((X.pn++pins)++[(D,{cls:=.type "list",data:=.seq I.toArray k})])++Fw fp s5.heap) σ8 H8 s8->
     tn (i+1) s8.heap/\(∀ b∈fp,H8 b=none)/\s8.heap.get? D=some {cls:=.type "list",data:=.seq I.toArray k}/\H8 D=none:=λ{σ8 H8 s8}I8=>by
    refine⟨T.keep _ _ _ st5 λb f o e=>(I8.pin (b,o) (YK _ (YK _ (Gh f e)))).1,λb f=>?_,?_⟩
    ·obtain⟨o,e,d⟩:=T.obj _ _ st5 b f
     exact(I8.pin (b,o) (YK _ (YK _ (Gh f e)))).2.1
    ·have:=I8.pin (D,{cls:=.type "list",data:=.seq I.toArray k}) (by simp)
     exact⟨this.1,this.2.1⟩
   cases ok with
   | false =>
    rw[if_neg YS]at q7 ⊢
    obtain⟨m',hm,w7⟩:=hN _ _ _ q7
    obtain⟨t7,f7,o7,d7⟩:=again I7
    exact⟨m',hm,i+1,σ6,H7,ys,I,k,I7.unpinned.unpinned,t7,f7,d7,o7,rv3,hz3,w7⟩
   | true =>
    rw[if_pos rfl]at q7 ⊢
    refine thn (he C fp P H2 _ s7 σ6 H7 _ I7 q7) λy s8 zz6=>?_
    obtain⟨yv,H8,I8,r8,q8⟩:=zz6
    obtain⟨m',hm,w8⟩:=hN _ _ _ q8
    obtain⟨t8,f8,o8,d8⟩:=again I8
    have hlen:=rv3.length
    refine wpAny_list_append_plain (s:=s8) (items:=I.toArray) ⟨k,o8⟩ (λh9 zz7 sb9=>?_) (by rw[Yn];omega)
    obtain⟨k9,l9⟩:=zz7
    have I9:Inv Xc (X.pn++pins) σ6 H8 {s8 with heap:=h9}:=by
     refine I8.unpinned.unpinned.turned (t':=s8.toks) (λb o f e=>(sb9.2 b f).trans e) d8 ?_ (.inr ?_) (λx c e=>?_) λp hp=>?_
     ·exact hDC
     ·show P.heap.objs.size<=D
      rw[L];exact Yr _
     ·exact Ys (celt x c (B.sub x c e))
     ·exact Ys (R p (by simpa[Xc,cxB]using hp))
    refine⟨m',hm,i+1,σ6,H8,ys++[yv],I++[y],k9,I9,?_,f8,d8,?_,rv3.append (.cons r8 .nil),?_,w8⟩
    ·refine T.keep _ _ _ t8 λb f o e=>?_
     exact(sb9.2 b (Ys (U b f))).trans e
    ·rw[l9]
     simp
    ·rw[Yj,List.length_singleton]
     omega
 have env_eq:Xc.env=compEnvC scope cl C X.env:=rfl
 exact codeAny_compStart_list (loop _) (T.self _ 0 _ _ _ (T.keep _ _ _ st2 λb _ o e=>S b o e) (loop _))
theorem NO{d:TI}(hc:X.calm=true)(hi:PI X tg iter d)(B:Blk X Nc scope cl cap)(u:∀ C fp s H,PG (cxB X Nc scope cl C fp s H) tg g)(f:∀ C fp s H,PF (cxB X Nc scope cl C fp s H) ifs tt)(K:∀ C fp s H,PE (cxB X Nc scope cl C fp s H) elt te)
  (hs:∀ x,foldedSetIterable iter X.env x=pure x:=by intro _;rfl):PE X (.ListComp elt [⟨tg,iter,ifs,0⟩] scope pos) (HG d cap g tt te):=by
 intro pins s σ H Q I h
 rw[eval_ListComp]
 refine wpAny_comprehension_free (use:=none) rfl hs B.clos B.kind B.names (thn (hi pins s σ H _ I h) λv Z h1=>thn h1 λt S h2=>?_)
 obtain⟨U,fp,P,J,H2,e,y,T,c,G,l⟩:=h2
 subst e
 refine NM (RR:=λa C=>compPost (model X.prog X.w) X.A X.xe none (EP X pins σ Q) a C) hc B u f K y T c G l ?_
 intro D C s' H' ys Y N q p F R O ⟨m,z⟩
 obtain⟨r,k,_,L,n,j⟩:=F
 exact⟨m,z,λh' E=>⟨.ref D,_,p.turned (t':=s'.toks) (λb o i e=>(E.2 b i).trans e) r k L n j,rfl,q D N⟩⟩
theorem Xs{K:TI}{i:Nat}{x:Str}{pos' a:Pos}(hN:X.N.Nodup)(r:X.N[i]?=some x)(E:X.env.scope.names.lookup x=some .local)(t:swapsWith (.ListComp elt [⟨tg,iter,ifs,0⟩] scope pos) (some (.Name x pos')) a.line X.env=pure true)
  (hc:X.calm=true) (hi:PI X tg iter K) (B:Blk X Nc scope cl cap) (hg:∀ C fp s H,PG (cxB X Nc scope cl C fp s H) tg g) (U:∀ C fp s H,PF (cxB X Nc scope cl C fp s H) ifs tt) (he:∀ C fp s H,PE (cxB X Nc scope cl C fp s H) elt te)
  (hs:∀ x,foldedSetIterable iter X.env x=pure x:=by intro _;rfl):PS X (.Assign [.Name x pos'] (.ListComp elt [⟨tg,iter,ifs,0⟩] scope pos) a) (Ka (HG K cap g tt te) (CC i)):=by
 intro pins s σ H y I h
 rw[exec_Assign_Name_used _ _ _ _ t]
 refine Qg (wpAny_standAt (Qg ?_))
 show wpAny _ X.A (do let _ <- comprehension (.ListComp elt [⟨tg,iter,ifs,0⟩] scope pos) scope X.env _ (newList []) false (eval iter X.env) (some (assign (.Name x pos') X.env))) _ _ s
 refine Qg (wpAny_mono (wpAny_comprehension_free (use:=some (assign (.Name x pos') X.env)) (Q:=λ_ s'=>SP X pins y .next s') rfl hs B.clos B.kind B.names
  (thn (hi pins s σ H _ I h) λv s1 h1=>thn h1 λitv s2 h2=>?_)) (λ_ s' hq=>Qh (Qh hq)) λ_ _ e=>e)
 obtain⟨it,fp,tn,J,H2,e,I2,T,p,f2,Y⟩:=h2
 subst e
 refine NM (RR:=λl C=>compPost (model X.prog X.w) X.A X.xe (some (assign (.Name x pos') X.env)) (λ_ s'=>SP X pins y .next s') l C) hc B hg U he I2 T p f2 Y ?_
 intro D C s' H' ys n hD q I' F j S ⟨m,hn⟩
 obtain⟨P,L,k,R,O,G⟩:=F
 have Ip:Inv X (pins++Fw [C] s'.heap) σ (upd H' D (.lst ys)) s':=I'.pinned (fp:=[C]) (λb c=>by
  have e:b=C:=by simpa using c
  subst e
  exact⟨P,L,k,R,O,G⟩) λb c=>by
   have e:b=C:=by simpa using c
   subst e
   exact⟨n,j,S⟩
 show wpAny _ X.A (assign (.Name x pos') X.env (.ref D)) _ _ _
 refine wpAny_assign_Name (Hx Ip hN r (.inl E) (v:=.ref D) rfl (λs3 z=>?_) (.inr E))
 have pC:=z.pin (C,n) (YK _ (YK _ (Gh (by simp) j)))
 obtain⟨Z,es,ep,d,f,u⟩:=hn
 rw[j]at d;cases d
 refine⟨m,⟨n,es,ep,pC.1,f,u⟩,λh' sb=>⟨_,_,z.unpinned.turned (t':=s3.toks) (λb o c e=>(sb.2 b c).trans e) P L R O G,q D hD⟩⟩
end
variable {P:Program}{w:World}{H:Hp}{h:Heap}{o:HO}
theorem ObjOk.at{a:Addr}(x:ObjOk P w H h a o):∃ u,h.get? a=some u:=by
 cases o with
 | lst xs=>obtain⟨_,_,_,_,e⟩:=x;exact⟨_,e⟩
 | tup xs=>obtain⟨_,_,_,c,e,_⟩:=x;exact⟨_,e⟩
 | dK b=>obtain⟨_,_,_,_,o,_,_,e,_⟩:=x;exact⟨_,e⟩
 | dT b=>obtain⟨_,_,_,_,o,_,_,e,_⟩:=x;exact⟨_,e⟩
 | set S n=>obtain⟨o,_,_,_,e,_⟩:=x;exact⟨_,e⟩
 | ins C dx fs=>obtain⟨_,_,_,e,_⟩:=x;exact⟨_,e⟩
 | own y=>obtain⟨_,e⟩:=x;exact⟨_,e⟩
 | xd fs=>obtain⟨_,⟨_,_,_,e,_⟩,_⟩:=x;exact⟨_,e⟩
 | rng lo hi=>obtain⟨_,_,_,e⟩:=x;exact⟨_,e⟩
 | frz c u=>obtain⟨e,_⟩:=x;exact⟨_,e⟩
 | tbl ps=>exact⟨_,(show h.get? a=some _ from x)⟩
 | met f y=>exact⟨_,(show h.get? a=some _ from x)⟩
 | ext φ=>obtain⟨_,⟨_,e⟩,_⟩:=x;exact⟨_,e⟩
structure Fly(P:Program)(w:World)(outer:List Env)(H0:Hp)(s0:Shared)(H':Hp)(e C:Addr)(s':Shared):Prop where
 os:s'.os=s0.os
 bare:AllBare s'.gens
 un:Un (frs outer) [] H0 H' s0.heap s'.heap
 hok:HOk P w H' s'.heap
 fly:∃(B:Heap)(a0:Value),Heap.FlyingW B outer e (.ref C) a0 s'.heap/\∀ b,b∉frs outer->((∃ o,s0.heap.get? b=some o)\/H' b≠none)->∃ o,B.get? b=some o
 new:s0.heap.get? e=none
 free:H' e=none
def CXe(P:Program)(w:World):CXT:=λouter H0 s0 E ev s'=>∃(e C:Addr)(H':Hp),ev=.ref e/\Fly P w outer H0 s0 H' e C s'/\E (.ref C) none H'
variable {outer:List Env}{h1:Heap}
theorem NP{t H':Hp}{j h' B:Heap}(un:Un (frs outer) [] t H' j h1)(hok:HOk P w H' h1)(d:∀ b∈frs outer,H' b=none)
  (v:∀ b∈frs outer,∃ o,h1.get? b=some o/\∀ vs,o.data≠.fields vs) (x:B.StaysIn h1) (k:∀ b,b∉frs outer->((∃ o,j.get? b=some o)\/H' b≠none)->∃ o,B.get? b=some o)
  (st:B.StaysIn h') (up:h1.UpToSlots h'):Un (frs outer) [] t H' j h'/\HOk P w H' h':=by
 have exact_:∀ b o,b∉frs outer->((∃ o,j.get? b=some o)\/H' b≠none)->h1.get? b=some o->h'.get? b=some o:=λb o c l e=>by
  obtain⟨o',s⟩:=k b c l
  have:=x b o' s
  rw[e]at this;cases this
  exact st b _ s
 refine⟨⟨λb o q n c g=>exact_ b o c (.inl ⟨o,q⟩) (un.keep b o q n c g),λb o q n c g=>?_,un.free,λb o q g=>?_,un.tups,un.frzs,un.tbls⟩,λa o e=>?_⟩
 ·obtain⟨A,i⟩:=un.slot b o q n c g
  obtain⟨y,h,p⟩:=v b c
  rw[i]at h;cases h
  obtain⟨f,m⟩:=up b _ i p
  exact⟨f,m⟩
 ·obtain⟨o',i⟩:=un.there b o q g
  by_cases c:b∈frs outer
  ·obtain⟨y,h,p⟩:=v b c
   obtain⟨f,m⟩:=up b _ h p
   exact⟨_,m⟩
  ·exact⟨o',exact_ b o' c (.inl ⟨o,q⟩) i⟩
 ·refine(hok a o e).stay (λb u c q=>?_) (λ_ q=>q) λ_ _ q=>q
  have r:H' b≠none:=by
   rcases c with rfl | c
   ·rw[e];simp
   ·rw[c];simp
  exact exact_ b u (λz=>r (d b z)) (.inr r) q
section
variable {X:Cx} {pins:List (Addr×Obj)} {σ:St} {H H':Hp} {s s':Shared} {e C:Addr}
theorem Fly.inv(I:Inv X pins σ H s)(F:Fly X.prog X.w X.stack H s H' e C s'){B h':Heap}{h:Value}(f:Heap.FlyingW B X.stack e (.ref C) h s'.heap)
  (d:∀ b,b∉frs X.stack->((∃ o,s.heap.get? b=some o)\/H' b≠none)->∃ o,B.get? b=some o) (st:B.StaysIn h') (up:s'.heap.UpToSlots h'):Inv X pins σ H' {s' with heap:=h'}:=by
 have a:∀ b∈frs X.stack,H' b=none:=λb c=>by
  obtain⟨_,o,g,_⟩:=I.stack.mem c
  exact F.un.free b o g (I.stkFree b c) (by simp)
 obtain⟨u,k⟩:=NP F.un F.hok a (λb c=>(f.2.2.1.mem c).2) f.1 d st up
 exact I.call' (s':={s' with heap:=h'}) (ch:=[]) F.os u k F.bare (λb z=>absurd z (by simp))
end
variable {K:PySem.W.Frag}{mg:Str->Option Value}{base:Heap}{N:List Str}{qual:Str}{f:Addr}{cd:Value}{A:Around}{s:Shared}{E:XK}
theorem Xu:
  WK (CXe P w) (Bp (CXe P w) P w K mg base N qual scope f cd A outer s H E) E:=by
 intro pins σ Hc r ev s' I ⟨e,C,H',m,F,q⟩
 subst m
 obtain⟨B,p,l,d⟩:=F.fly
 show wpAny _ _ (leaving _ (.ref e)) _ _ s'
 refine wpAny_leaves_onW I.ok.frames rfl l λh' h up=>?_
 have c:=F.inv I l d h.1 up
 refine⟨e,C,H',rfl,⟨c.os,c.bare,c.base,c.hok,⟨B,p,h,λb n g=>?_⟩,?_,F.free⟩,q⟩
 ·have k:b∉frs (Bp (CXe P w) P w K mg base N qual scope f cd A outer s H E).stack:=λz=>by
   rcases Yo.mp (c.stkSub b z)with a | a
   ·rcases g with⟨o,j⟩| i
    ·have h1:=Qj j
     have h2:=I.ok.above
     rw[a]at h1
     exact absurd (Yu h1 h2) (YJ _)
    ·rw[a]at i;exact i c.free
   ·exact n a
  refine d b k ?_
  rcases g with⟨o,j⟩| i
  ·exact .inl (I.base.there b o j (by intro z;cases z))
  ·exact .inr i
 ·cases z:s.heap.get? e with
  | none=>rfl
  | some o =>
   obtain⟨o',a⟩:=I.base.there e o z (by intro z;cases z)
   rw[F.new]at a;cases a
variable {pins:List (Addr×Obj)}{σ:St}{e:Addr}
theorem Xv
    {Hc:Hp} {g:Shared}  {C:Addr} {vs:List Value} (I:Inv (Bp (CXe P w) P w K mg base N qual scope f cd A outer s H E) pins σ Hc g) (j:Heap.MadeExcOf g.heap h1 e (.ref C) vs) (q:E (.ref C) none Hc):
  (Bp (CXe P w) P w K mg base N qual scope f cd A outer s H E).xe (.ref e) {g with heap:=h1}:=by
 have r:∀ env∈(Bp (CXe P w) P w K mg base N qual scope f cd A outer s H E).stack,∀ b,env.frame=some b->b∈frs (Bp (CXe P w) P w K mg base N qual scope f cd A outer s H E).stack:=λenv B b h=>List.mem_filterMap.mpr ⟨env,B,h⟩
 show wpAny _ _ (leaving _ (.ref e)) _ _ _
 refine wpAny_leaves_madeW (base:=PySem.W.hideAll g.heap (frs (Bp (CXe P w) P w K mg base N qual scope f cd A outer s H E).stack)) I.ok.frames rfl (λb o z=>PySem.W.of_hideAll _ z) (PySem.W.funFrames_hide I.stack r) j λh' t x y v up=>?_
 have m:∀ b,b∉frs (Bp (CXe P w) P w K mg base N qual scope f cd A outer s H E).stack->((∃ o,g.heap.get? b=some o)\/Hc b≠none)->∃ o,(PySem.W.hideAll g.heap (frs (Bp (CXe P w) P w K mg base N qual scope f cd A outer s H E).stack)).get? b=some o:=λb h c=>by
  have:∃ o,g.heap.get? b=some o:=by
   rcases c with z | z
   ·exact z
   ·cases a:Hc b with
    | none=>exact absurd a z
    | some o=>exact(I.hok b o a).at
  obtain⟨o,i⟩:=this
  exact⟨o,PySem.W.hideAll_get _ i h⟩
 obtain⟨u,k⟩:=NP (P:=P) (w:=w) (Un.kept j.keeps) (I.hok.kept j.keeps) I.stkFree (λb h=>by
  obtain⟨_,o,i,d⟩:=I.stack.mem h
  exact⟨o,j.keeps _ _ i,d⟩) (λb o z=>j.keeps _ _ (PySem.W.of_hideAll _ z)) m x.1 up
 have l:=I.call' (s':={g with heap:=h'}) (ch:=[]) rfl u k I.bare (λb z=>absurd z (by simp))
 have en:Hc e=none:=by
  cases z:Hc e with
  | none=>rfl
  | some o =>
   obtain⟨o',a⟩:=(I.hok e o z).at
   rw[j.new]at a;cases a
 refine⟨e,C,Hc,rfl,⟨l.os,l.bare,l.base,l.hok,⟨_,_,x,λb h c=>?_⟩,?_,en⟩,q⟩
 ·have p:b∉frs (Bp (CXe P w) P w K mg base N qual scope f cd A outer s H E).stack:=λz=>by
   rcases Yo.mp (l.stkSub b z)with a | a
   ·rcases c with⟨o,i⟩| n
    ·have h1:=Qj i
     have h2:=I.ok.above
     rw[a]at h1
     exact absurd (Yu h1 h2) (YJ _)
    ·rw[a]at n;exact n l.free
   ·exact h a
  refine m b p ?_
  rcases c with⟨o,i⟩| n
  ·exact .inl (I.base.there b o i (by intro z;cases z))
  ·exact .inr n
 ·cases z:s.heap.get? e with
  | none=>rfl
  | some o =>
   obtain⟨o',a⟩:=I.base.there e o z (by intro z;cases z)
   rw[j.new]at a;cases a
theorem Xx{C:Addr}{d:List Value}{a:String}(X:K.In h)(q:PySem.W.excIn K C d a=true):
  ∃ bm N nm q bs hdct sn sub ab col dd k0 k1 k2 k3 k5 mN,h.get? C=some (excClassObj nm q C N bs bm hdct sn sub ab col dd k0 k1 k2 k3 k5 a)/\h.Ns N mN/\mN "__init__"=none/\OwnTail h d bm:=by
 unfold PySem.W.excIn at q
 split at q
 ·rename_i dd cd f k
  split at q
  ·rename_i p bm k0 k1 k2 k3 n k5 g hs
   simp only[YF,beq_iff_eq,Bool.not_eq_true']at q
   obtain⟨⟨⟨⟨⟨rfl,rfl⟩,b⟩,j⟩,hok⟩,c⟩:=q
   obtain⟨nm,bs,i,ns,m,hd,sn,sub,ab,col,o⟩:=cd
   dsimp only at g b hok c
   subst g b
   have e:f=#[k0,k1,k2,k3,some (.builtin n),k5]:=by
    obtain⟨l⟩:=f
    simp only at hs
    rw[hs]
   subst e
   exact⟨bm,ns,nm,m,bs,hd,sn,sub,ab,col,dd,k0,k1,k2,k3,k5,_,X _ _ k,.of_isNs (PySem.W.isNs_of_in X hok),PySem.W.nsMap_none_of_in X hok c,PySem.W.tail_of_in X j⟩
  ·cases q
 ·cases q
def Xy(C:Addr)(E:XK)(t:TA):TS:=λ_ σ H=>t σ H λvs H1=>vs.length<=sizeLine/\E (.ref C) none H1
section
variable {P:Program} {w:World} {K:PySem.W.Frag} {mg:Str->Option Value} {base:Heap} {N:List Str} {qual:Str} {scope:Scope} {f:Addr} {cd:Value} {A:Around} {outer:List Env} {s:Shared} {H:Hp} {E:XK}
theorem Xz{x:Str}{C:Addr}{B b initId:String}{bm:List Value}{v cpos pos:Pos}{a:Expr}{Ao:List Expr}{t:TA}
  (r:Gl (Bp (CXe P w) P w K mg base N qual scope f cd A outer s H E) x) (o:mg x=some (.ref C)) (q:PySem.W.excIn K C bm b=true) (FB:ExcBaseFacts B b initId bm)
  (m:PA (Bp (CXe P w) P w K mg base N qual scope f cd A outer s H E) (a::Ao) t)
  (k:starEach (a::Ao) (Bp (CXe P w) P w K mg base N qual scope f cd A outer s H E).env=(false,eval a (Bp (CXe P w) P w K mg base N qual scope f cd A outer s H E).env)::starEach Ao (Bp (CXe P w) P w K mg base N qual scope f cd A outer s H E).env:=by rfl)
  (hplain:(backTo cpos (starEach Ao (Bp (CXe P w) P w K mg base N qual scope f cd A outer s H E).env)).any (·.1)=false:=by rfl) (hd:(x==("__debug__":Str))=false:=by decide):
  PS (Bp (CXe P w) P w K mg base N qual scope f cd A outer s H E) (.Raise (some (.Call (.Name x v) (a::Ao) [] cpos)) none pos) (Xy C E t):=by
 intro pins u σ Hc D I h
 obtain⟨tl,l,nm,z,bs,hdct,sn,sub,ab,col,dd,k0,k1,k2,k3,k5,mN,p,n,i,T⟩:=Xx I.ok.mod.kin q
 refine wpAny_Raise_call_subT (C:=C) (nm:=nm) (q:=z) (N:=l) (bs:=bs) (bm:=tl) (hdct:=hdct) (sn:=sn) (sub:=sub) (ab:=ab) (col:=col) (dd:=dd) (k0:=k0) (k1:=k1) (k2:=k2) (k3:=k3) (k5:=k5)
  FB (mN:=mN) (T.hasType FB.hasBase) (I.ok.hd rfl) (by rw[k];show(false||(backTo cpos (starEach Ao _)).any (·.1))=false;rw[hplain];rfl) i (Gg I r o ⟨rfl,?_⟩ hd)
 have c:=m cpos pins u σ Hc _ I h
 rw[k]at c ⊢
 refine Calls.evalArgs_plain (thn c λy J j=>?_)
 obtain⟨F,H1,d,r1,G,q1⟩:=j
 exact⟨rfl,by have:=r1.length;show y.length<=_;omega,d.bk _ _ p,n.keeps d.bk,T.keeps d.bk,λh' e g=>Xv d g q1⟩
end
theorem Inv.track(I:Inv X pins σ H s)(h:H e=none)(j:e≠X.env.locals)(hc:∀ x c,X.env.cells.lookup x=some c->c≠e)(i:∀ p∈X.pn++pins,p.1≠e)
  (k:X.s₀.heap.get? e=none) (ok:ObjOk X.prog X.w (upd H e o) s.heap e o):Inv X pins σ (upd H e o) s:=by
 have a:∀ b u,H b=some u->upd H e o b=some u:=λb u z=>by rw[A4 (EM z h)];exact z
 refine⟨I.ok,I.os,I.bare,⟨I.base.keep,I.base.slot,λb f z n l=>?_,I.base.there,λb xs z=>a _ _ (I.base.tups b xs z),λb f u z=>a _ _ (I.base.frzs b f u z),λb ps z=>?_⟩,I.loc,I.cell,?_,λx c z=>?_,λp z=>?_,λb u z=>?_,I.len⟩
 ·rw[A4 (λq=>by rw[q,k]at z;cases z)]
  exact I.base.free b f z n l
 ·obtain⟨d,q⟩:=I.base.tbls b ps z
  exact⟨d,a _ _ q⟩
 ·rw[A4 (YU j)];exact I.free
 ·rw[A4 (hc x c z)];exact I.freeC x c z
 ·obtain⟨q1,q2,q3⟩:=I.pin p z
  exact⟨q1,by rw[A4 (i p z)];exact q2,q3⟩
 ·by_cases g:b=e
  ·subst g
   rw[BO]at z;cases z
   exact ok
  ·rw[A4 g]at z
   exact(I.hok b u z).stay (λ_ _ _ q=>q) (λc q=>a _ _ q) λc xs q=>a _ _ q
def XA(e C:Addr):Heap->Prop:=λh=>∃ ox,h.get? e=some ox/\ox.cls=.ref C
def Kv(CX:CXT)(X:Cx)(Eσ:St->XK):Prop:=∀(pins:List (Addr×Obj))(σ:St)(H:Hp)(s:Shared)(e:Value)(s':Shared),Inv X pins σ H s->CX X.stack H s (Eσ σ) e s'->X.xe e s'
def NQ(sp:Sp)(dvs:List V)(Eσ:St->XK)(t:TA):TE:=λσ H Q=>t σ H λvs H1=>sp (vs++dvs) H1 Q (Eσ σ)
section
variable {X:Cx} {CX:CXT} {k:Nat} {f:Addr} {fd:FuncData} {ps:List Str} {sp:Sp} {dvs:List V} {ds:List Value} {Eσ:St->XK} {x:Str} {p pos:Pos} {e:Expr} {es:List Expr} {t:TA}
theorem XB(F:FnOk X.prog X.w X.K X.mg X.base CX k f fd ps sp)(y:Room k X.A)(m:Gl X x)(z:X.mg x=some (.ref f))(B:PySem.W.keepIn X.K (.ref f)=true)(v:Binds X.K fd ps ds)(hd:Vals dvs ds)(E:Kv CX X Eσ)
  (n:PA X (e::es) t) (d:(x==("__debug__":Str))=false:=by decide) (D:starEach (e::es) X.env=(false,eval e X.env)::starEach es X.env:=by rfl) (i:(backTo pos (starEach es X.env)).any (·.1)=false:=by rfl):
  PE X (.Call (.Name x p) (e::es) [] pos) (NQ sp dvs Eσ t):=by
 intro pins s σ H Q I h
 refine wpAny_Call_Name_kw (Gg I m z ?_ d)
 refine PySem.W.callWith_K (h₀:=X.base) I.ok.mod.kin B (thn (n pos pins s σ H _ I h) λb g⟨j,H1,c,r,q⟩=>⟨c.kIn,?_⟩) D i
 have l:Vals (j++dvs) (b++ds):=r.append hd
 have hl:(b++ds).length=ps.length:=by rw[<- l.length];exact F.len _ _ _ _ q
 refine wpAny_call (codeAny_mono (F.run X.A X.stack g H1 ⟨b,[]⟩ (b++ds) (j++dvs) Q (Eσ σ) y c.env0 (v g b c.kIn hl) l q) λr s' a=>?_)
 cases r with
 | error e=>exact E pins σ H1 g e s' c a
 | ok o =>
  cases o with
  | ret u=>exact c.after a
  | next=>exact Qf a
  | brk=>exact Qf a
  | cont=>exact Qf a
end
section
variable {X:Cx} {k:Nat} {f:Addr} {fd:FuncData} {ps:List Str} {sp:Sp} {x:Str} {p pos:Pos} {e:Expr} {es:List Expr} {t:TA}
end
end L2
namespace L3
open PySem PySem.Spec PyProof.Rows L2
abbrev St:=L2.St
inductive W where
 | non | bl (b:Bool)| int (i:Int)| str (x:Str)| tup (xs:List W)| rol (xs:List W)| ref (a:Addr)
inductive HW where
 | lst (xs:List W)| exc (C:Addr)| ins (C:Addr) (fs:List (Str×W))| dct (kvs:List (Key×W))
abbrev Sw:=List (Option W)
abbrev Hw:=Addr->Option HW
def put(H:Hw)(a:Addr)(o:HW):Hw:=λb=>if b=a then some o else H b
variable {a:Addr}{o:HW}
theorem Aj{H:Hw}:put H a o a=some o:=by unfold put;rw[if_pos rfl]
theorem Aq{H:Hw}{b:Addr}(h:b≠a):put H a o b=H b:=by unfold put;rw[if_neg h]
section
variable (K:PySem.W.Frag)
def RoL(H:Hp)(a:Addr)(xs:List V):Prop:=(∃ o,H a=some (.frz o (.lst xs)))\/
 ∃(o:Obj)(its:Array Value)(n:Nat),K.lookup a=some o/\o.cls=.type "list"/\o.dict=none/\o.data=.seq its n/\its.size<=sizeLine/\Vals xs its.toList
theorem RoL.sq{H:Hp}{xs:List V}(h:RoL K H a xs):SqL K H a xs:=by
 rcases h with⟨o,h⟩| h
 ·exact .inl (.inr ⟨o,h⟩)
 ·exact .inr h
mutual
inductive Tr(H:Hp):V->W->Prop where
 | non:Tr H .non .non
 | bl (b:Bool):Tr H (.bl b) (.bl b)
 | int (i:Int):Tr H (.int i) (.int i)
 | str (x:Str):Tr H (.str x) (.str x)
 | tup {a:Addr} {vs:List V} {ws:List W}:SqT K H a vs->TrL H vs ws->Tr H (.ref a) (.tup ws)
 | rol {a:Addr} {vs:List V} {ws:List W}:RoL K H a vs->TrL H vs ws->Tr H (.ref a) (.rol ws)
 | ref (a:Addr):Tr H (.ref a) (.ref a)
inductive TrL(H:Hp):List V->List W->Prop where
 | nil:TrL H [] []
 | cons {v:V} {w:W} {vs:List V} {ws:List W}:Tr H v w->TrL H vs ws->TrL H (v::vs) (w::ws)
end
inductive TrP{α:Type}(H:Hp):List (α×V)->List (α×W)->Prop where
 | nil:TrP H [] []
 | cons {f:α} {v:V} {w:W} {vs:List (α×V)} {ws:List (α×W)}:Tr K H v w->TrP H vs ws->TrP H ((f,v)::vs) ((f,w)::ws)
structure Mono(H H':Hp):Prop where
 tup:∀ a vs,SqT K H a vs->SqT K H' a vs
 rol:∀ a vs,RoL K H a vs->RoL K H' a vs
def RelO2(H:Hp)(a:Addr):HW->Prop
 | .lst ws=>∃ vs,H a=some (.lst vs)/\TrL K H vs ws
 | .exc C=>H a=some (.ext (XA a C))
 | .ins C ws=>∃ dx vs,H a=some (.ins C dx vs)/\TrP K H vs ws
 | .dct ws=>∃ vs,H a=some (.dK vs)/\TrP K H vs ws
def RelH(H:Hp)(G:Hw):Prop:=∀ a o,G a=some o->RelO2 K H a o
structure TrSt(H:Hp)(σ:St)(ω:Sw):Prop where
 len:σ.length=ω.length
 get:∀(i:Nat)(w:W),ω[i]?=some (some w)->∃ v,σ[i]?=some (some v)/\Tr K H v w
end
variable {K:PySem.W.Frag} {H H' H2:Hp}
theorem Mono.refl:Mono K H H:=⟨λ_ _ h=>h,λ_ _ h=>h⟩
theorem Mono.trans(m:Mono K H H')(c:Mono K H' H2):Mono K H H2:=⟨λa b h=>c.tup a b (m.tup a b h),λa b h=>c.rol a b (m.rol a b h)⟩
mutual
theorem Tr.mono(m:Mono K H H'){v:V}{w:W}(t:Tr K H v w):Tr K H' v w:=by
 cases t with
 | non=>exact .non
 | bl b=>exact .bl b
 | int i=>exact .int i
 | str x=>exact .str x
 | tup h l=>exact .tup (m.tup _ _ h) (TrL.mono m l)
 | rol h l=>exact .rol (m.rol _ _ h) (TrL.mono m l)
 | ref a=>exact .ref a
theorem TrL.mono(m:Mono K H H'){vs:List V}{a:List W}(t:TrL K H vs a):TrL K H' vs a:=by
 cases t with
 | nil=>exact .nil
 | cons h l=>exact .cons (Tr.mono m h) (TrL.mono m l)
end
theorem TrP.mono{α:Type}(m:Mono K H H'):∀{vs:List (α×V)}{a:List (α×W)},TrP K H vs a->TrP K H' vs a
 | _,_,.nil=>.nil
 | _,_,.cons r t=>.cons (r.mono m) (TrP.mono m t)
theorem RelO2.mono(m:Mono K H H')(e:H' a=H a):∀{o:HW},RelO2 K H a o->RelO2 K H' a o
 | .lst c,⟨b,z,t⟩=>⟨b,e.trans z,t.mono m⟩
 | .exc C,z=>(e.trans z:H' a=_)
 | .ins C c,⟨dx,b,z,t⟩=>⟨dx,b,e.trans z,t.mono m⟩
 | .dct c,⟨b,z,t⟩=>⟨b,e.trans z,t.mono m⟩
theorem RelO2.some:∀{o:HW},RelO2 K H a o->H a≠none
 | .lst b,⟨c,z,t⟩,q=>by rw[q]at z;cases z
 | .exc C,z,q=>by rw[show H a=_ from z]at q;cases q
 | .ins C b,⟨dx,c,z,t⟩,q=>by rw[q]at z;cases z
 | .dct b,⟨c,z,t⟩,q=>by rw[q]at z;cases z
variable {σ:St}{ω:Sw}
theorem TrSt.mono(m:Mono K H H')(t:TrSt K H σ ω):TrSt K H' σ ω:=⟨t.len,λi w e=>let⟨v,e',r⟩:=t.get i w e;⟨v,e',r.mono m⟩⟩
variable {v:V}{w:W}
theorem TrSt.set(t:TrSt K H σ ω)(i:Nat)(r:Tr K H v w):TrSt K H (σ.set i (some v)) (ω.set i (some w)):=by
 refine⟨by simp[t.len],λj u e=>?_⟩
 by_cases h:i=j
 ·subst h
  by_cases hl:i < ω.length
  ·rw[List.getElem?_set_self hl]at e
   cases e
   exact⟨v,List.getElem?_set_self (by rw[t.len];exact hl),r⟩
  ·rw[Qd (by simp;omega)]at e;cases e
 ·rw[List.getElem?_set_ne h]at e
  obtain⟨a,b,r'⟩:=t.get j u e
  exact⟨a,by rw[List.getElem?_set_ne h];exact b,r'⟩
theorem TrL.length:∀{vs:List V}{a:List W},TrL K H vs a->vs.length=a.length
 | _,_,.nil=>rfl
 | _,_,.cons _ t=>congrArg (·+1) t.length
theorem TrL.get:∀{vs:List V}{a:List W}{i:Nat}{w:W},TrL K H vs a->a[i]?=some w->∃ v,vs[i]?=some v/\Tr K H v w
 | _,_,_,_,.nil,e=>by simp at e
 | _,_,0,_,.cons r _,e=>by simp at e;subst e;exact⟨_,rfl,r⟩
 | _,_,i+1,w,.cons _ t,e=>by
  obtain⟨v,h1,h2⟩:=TrL.get (i:=i) (w:=w) t (by simpa using e)
  exact⟨v,by simpa using h1,h2⟩
theorem TrL.get':∀{vs:List V}{a:List W}{i:Nat}{v:V},TrL K H vs a->vs[i]?=some v->∃ w,a[i]?=some w/\Tr K H v w
 | _,_,_,_,.nil,e=>by simp at e
 | _,_,0,_,.cons r _,e=>by simp at e;subst e;exact⟨_,rfl,r⟩
 | _,_,i+1,v,.cons _ t,e=>by
  obtain⟨w,h1,h2⟩:=TrL.get' (i:=i) (v:=v) t (by simpa using e)
  exact⟨w,by simpa using h1,h2⟩
theorem TrL.append:∀{vs b:List V}{c a:List W},TrL K H vs c->TrL K H b a->TrL K H (vs++b) (c++a)
 | _,_,_,_,.nil,s=>s
 | _,_,_,_,.cons r t,s=>.cons r (t.append s)
theorem TrL.set{v:V}{w:W}(r:Tr K H v w):∀{vs:List V}{a:List W}(i:Nat),TrL K H vs a->TrL K H (vs.set i v) (a.set i w)
 | _,_,_,.nil=>.nil
 | _,_,0,.cons _ t=>.cons r t
 | _,_,i+1,.cons q t=>.cons q (TrL.set r i t)
theorem TrL.take:∀{vs:List V}{a:List W}(n:Nat),TrL K H vs a->TrL K H (vs.take n) (a.take n)
 | _,_,0,_=>.nil
 | _,_,_+1,.nil=>.nil
 | _,_,n+1,.cons r t=>.cons r (TrL.take n t)
theorem TrL.drop:∀{vs:List V}{a:List W}(n:Nat),TrL K H vs a->TrL K H (vs.drop n) (a.drop n)
 | _,_,0,r=>r
 | _,_,_+1,.nil=>.nil
 | _,_,n+1,.cons _ t=>TrL.drop n t
variable {vs:List V}
theorem Kx{b:Addr}{o:HO}(h:SqT K H a vs)(f:∀ xs,H b≠some (.tup xs))(d:∀ c xs,H b≠some (.frz c (.tup xs))):SqT K (upd H b o) a vs:=by
 rcases h with(h |⟨c,h⟩)| h
 ·exact .inl (.inl (by rw[A4 (λe=>f _ (e▸h))];exact h))
 ·exact .inl (.inr ⟨c,by rw[A4 (λe=>d _ _ (e▸h))];exact h⟩)
 ·exact .inr h
theorem Ky{b:Addr}{o:HO}(h:RoL K H a vs)(d:∀ c u,H b≠some (.frz c u)):RoL K (upd H b o) a vs:=by
 rcases h with⟨c,h⟩| h
 ·exact .inl ⟨c,by rw[A4 (λe=>d _ _ (e▸h))];exact h⟩
 ·exact .inr h
variable {p:Addr}
theorem Mono.new(b:H p=none)(o:HO):Mono K H (upd H p o):=
 ⟨λa d h=>Kx h (λxs e=>by rw[b]at e;cases e) (λc xs e=>by rw[b]at e;cases e),λa d h=>Ky h (λc xs e=>by rw[b]at e;cases e)⟩
variable {xs:List V}
theorem Mono.lst(b:H p=some (.lst xs))(o:HO):Mono K H (upd H p o):=
 ⟨λa d h=>Kx h (λxs e=>by rw[b]at e;cases e) (λc xs e=>by rw[b]at e;cases e),λa d h=>Ky h (λc xs e=>by rw[b]at e;cases e)⟩
theorem Mono.was{o':HO}(b:H p=some o')(o:HO)(h1:∀ xs,o'≠.tup xs)(h2:∀ c u,o'≠.frz c u):Mono K H (upd H p o):=
 ⟨λa d h=>Kx h (λxs e=>by rw[b]at e;exact h1 _ (YD e)) (λc xs e=>by rw[b]at e;exact h2 _ _ (YD e)),λa d h=>Ky h (λc xs e=>by rw[b]at e;exact h2 _ _ (YD e))⟩
variable {G:Hw}
theorem RelH.no(r:RelH K H G)(a:H p=none):G p=none:=by
 cases e:G p with
 | none=>rfl
 | some o=>exact absurd a (r p o e).some
theorem RelH.mono0{o:HO}(r:RelH K H G)(b:H p=none):RelH K (upd H p o) G:=λa u e=>
 have q:=r a u e
 q.mono (Mono.new b o) (A4 (by rintro rfl;exact q.some b))
theorem RelH.laid{o:HO}{u:HW}(r:RelH K H G)(m:Mono K H (upd H p o))(t:RelO2 K (upd H p o) p u):RelH K (upd H p o) (put G p u):=λa b e=>by
 by_cases h:a=p
 ·subst h
  rw[Aj]at e;cases e
  exact t
 ·rw[Aq h]at e
  exact(r a _ e).mono m (A4 h)
theorem RelH.new{b:List W}(r:RelH K H G)(a:H p=none)(t:TrL K H vs b):RelH K (upd H p (.lst vs)) (put G p (.lst b)):=
 r.laid (Mono.new a _) ⟨vs,BO,t.mono (Mono.new a _)⟩
theorem RelH.chg{b:List W}(r:RelH K H G)(a:H p=some (.lst xs))(t:TrL K H vs b):RelH K (upd H p (.lst vs)) (put G p (.lst b)):=
 r.laid (Mono.lst a _) ⟨vs,BO,t.mono (Mono.lst a _)⟩
abbrev Kw:=W->Hw->Prop
abbrev GE:=Sw->Hw->Kw->Prop
abbrev GT:=Sw->Hw->(Bool->Hw->Prop)->Prop
abbrev GA:=Sw->Hw->(List W->Hw->Prop)->Prop
structure Ew where
 nx:Sw->Hw->Prop
 rt:Kw
 bk:Sw->Hw->Prop
 ct:Sw->Hw->Prop
abbrev GS:=Ew->Sw->Hw->Prop
abbrev GG:=W->Sw->Hw->(Sw->Hw->Prop)->Prop
def GE.M(g:GE):Prop:=∀ ω G(Q Q':Kw),(∀ w G',Q w G'->Q' w G')->g ω G Q->g ω G Q'
def GT.M(g:GT):Prop:=∀ ω G(Q Q':Bool->Hw->Prop),(∀ w G',Q w G'->Q' w G')->g ω G Q->g ω G Q'
def GA.M(g:GA):Prop:=∀ ω G(Q Q':List W->Hw->Prop),(∀ w G',Q w G'->Q' w G')->g ω G Q->g ω G Q'
def GS.M(g:GS):Prop:=∀ ω G(D D':Ew),(∀ a b,D.nx a b->D'.nx a b)->(∀ a b,D.rt a b->D'.rt a b)->(∀ a b,D.bk a b->D'.bk a b)->(∀ a b,D.ct a b->D'.ct a b)->g D ω G->g D' ω G
def GG.M(g:GG):Prop:=∀ w ω G(Q Q':Sw->Hw->Prop),(∀ a b,Q a b->Q' a b)->g w ω G Q->g w ω G Q'
def dn(K:PySem.W.Frag)(H:Hp)(Q:VK):Kw:=λw G=>∀ v H',Mono K H H'->Tr K H' v w->RelH K H' G->Q v H'
def dnT(K:PySem.W.Frag)(H:Hp)(Q:Bool->Hp->Prop):Bool->Hw->Prop:=λb G=>∀ H',Mono K H H'->RelH K H' G->Q b H'
def dnA(K:PySem.W.Frag)(H:Hp)(Q:List V->Hp->Prop):List W->Hw->Prop:=λws G=>∀ vs H',Mono K H H'->TrL K H' vs ws->RelH K H' G->Q vs H'
def dnS(K:PySem.W.Frag)(H:Hp)(Q:St->Hp->Prop):Sw->Hw->Prop:=λω G=>∀ σ H',Mono K H H'->TrSt K H' σ ω->RelH K H' G->Q σ H'
def dnD(K:PySem.W.Frag)(H:Hp)(D:Fv):Ew:=⟨dnS K H D.nx,dn K H D.rt,dnS K H D.bk,dnS K H D.ct⟩
theorem Cr{Q:VK}(m:Mono K H H')(q:dn K H Q w G):dn K H' Q w G:=λv H2 a t r=>q v H2 (m.trans a) t r
theorem NR{Q:Bool->Hp->Prop}(m:Mono K H H'){w:Bool}(q:dnT K H Q w G):dnT K H' Q w G:=λH2 a r=>q H2 (m.trans a) r
theorem XC{Q:St->Hp->Prop}(m:Mono K H H'){w:Sw}(q:dnS K H Q w G):dnS K H' Q w G:=λv H2 a t r=>q v H2 (m.trans a) t r
def up(K:PySem.W.Frag)(g:GE):TE:=λσ H Q=>∃ ω G,TrSt K H σ ω/\RelH K H G/\g ω G (dn K H Q)
def upT(K:PySem.W.Frag)(g:GT):TT:=λσ H Q=>∃ ω G,TrSt K H σ ω/\RelH K H G/\g ω G (dnT K H Q)
def upA(K:PySem.W.Frag)(g:GA):TA:=λσ H Q=>∃ ω G,TrSt K H σ ω/\RelH K H G/\g ω G (dnA K H Q)
def upS(K:PySem.W.Frag)(B:Hp)(g:GS):TS:=λD σ H=>∃ ω G,TrSt K H σ ω/\RelH K H G/\Mono K B H/\g (dnD K B D) ω G
variable {X:Cx}{e:Expr}
theorem Bg{t t':TE}(h:PE X e t)(i:∀ σ H Q,t' σ H Q->t σ H Q):PE X e t':=λpins s σ H Q I q=>h pins s σ H Q I (i σ H Q q)
theorem HH{t t':TT}(h:PT X e t)(i:∀ σ H Q,t' σ H Q->t σ H Q):PT X e t':=λpins s σ H Q I q=>h pins s σ H Q I (i σ H Q q)
theorem NS{e:List Expr}{t t':TA}(h:PA X e t)(i:∀ σ H Q,t' σ H Q->t σ H Q):PA X e t':=λpos pins s σ H Q I q=>h pos pins s σ H Q I (i σ H Q q)
variable {t t':TS}
theorem CT{e:Stmt}(h:PS X e t)(i:∀ D σ H,t' D σ H->t D σ H):PS X e t':=λpins s σ H D I q=>h pins s σ H D I (i D σ H q)
theorem Kz{e:List Stmt}(h:PSs X e t)(i:∀ D σ H,t' D σ H->t D σ H):PSs X e t':=λpins s σ H D I q=>h pins s σ H D I (i D σ H q)
section
variable {X:Cx} {a b c e:Expr} {es:List Expr} {pos:Pos} {ga gb gc:GE} {gt:GT} {gs:GA}
abbrev PEw(X:Cx)(e:Expr)(g:GE):Prop:=PE X e (up X.K g)
abbrev PTw(X:Cx)(e:Expr)(g:GT):Prop:=PT X e (upT X.K g)
abbrev PAw(X:Cx)(es:List Expr)(g:GA):Prop:=PA X es (upA X.K g)
abbrev PSw(X:Cx)(P:Hp->Prop)(st:Stmt)(g:GS):Prop:=∀ B,P B->PS X st (upS X.K B g)
abbrev Dp(X:Cx)(P:Hp->Prop)(st:List Stmt)(g:GS):Prop:=∀ B,P B->PSs X st (upS X.K B g)
abbrev NT:Hp->Prop:=λ_=>True
def gC(w:W):GE:=λ_ G Q=>Q w G
def Ab(i:Nat):GE:=λω G Q=>match ω[i]? with | some (some w)=>Q w G | _=>False
theorem FA:GE.M (gC w):=λ_ _ _ _ h q=>h _ _ q
variable {i:Nat}
theorem XD:GE.M (Ab i):=λω G Q a h q=>by
 have z:Ab i ω G Q=(match ω[i]? with | some (some w)=>Q w G | _=>False):=rfl
 have b:Ab i ω G a=(match ω[i]? with | some (some w)=>a w G | _=>False):=rfl
 rw[z]at q
 rw[b]
 cases e:ω[i]? with
 | none=>rw[e]at q;exact q
 | some o =>
  cases o with
  | none=>rw[e]at q;exact q
  | some w=>rw[e]at q;exact h _ _ q
variable {x:Str}
theorem XE(c:X.N[i]?=some x)(b:Vis X.env.scope x)(hd:(x==("__debug__":Str))=false)(a:(x==("__classdict__":Str))=false):PEw X (.Name x pos) (Ab i):=
 Bg (Vl c b hd a) <| by
  rintro σ H Q ⟨ω,G,d,r,q⟩
  unfold Ab at q
  split at q
  ·rename_i w z
   obtain⟨v,e,t⟩:=d.get i w z
   exact⟨v,e,q v H .refl t r⟩
  ·exact q.elim
theorem XG{i:Int}{j}:PEw X (.Constant (.int i) j pos) (gC (.int i)):=Bg Vm (by rintro σ H Q ⟨ω,G,a,r,q⟩;exact q _ H .refl (.int i) r)
theorem XH{i:Bool}{j}:PEw X (.Constant (.bool i) j pos) (gC (.bl i)):=Bg Vn (by rintro σ H Q ⟨ω,G,a,r,q⟩;exact q _ H .refl (.bl i) r)
theorem XI{j}:PEw X (.Constant .none j pos) (gC .non):=Bg Vo (by rintro σ H Q ⟨ω,G,a,r,q⟩;exact q _ H .refl .non r)
theorem XJ{i:Str}{j}:PEw X (.Constant (.str i) j pos) (gC (.str i)):=Bg Ng (by rintro σ H Q ⟨ω,G,a,r,q⟩;exact q _ H .refl (.str i) r)
theorem NU{u:Value}(b:Gl X x)(c:X.mg x=some u)(a:RelV v u)(t:∀ H,Tr X.K H v w)(hd:(x==("__debug__":Str))=false):PEw X (.Name x pos) (gC w):=
 Bg (Vp b c a hd) (by rintro σ H Q ⟨ω,G,d,r,q⟩;exact q _ H .refl (t H) r)
abbrev RW2:=W->W->Hw->Kw->Prop
def RW2.M(r:RW2):Prop:=∀ x y G(Q Q':Kw),(∀ w G',Q w G'->Q' w G')->r x y G Q->r x y G Q'
def Ad(r:RW2)(ga gb:GE):GE:=λω G Q=>ga ω G λx G1=>gb ω G1 λy G2=>r x y G2 Q
variable {r:RW2}
theorem Cs(b:r.M)(c:ga.M)(a:gb.M):GE.M (Ad r ga gb):=λω G Q e h q=>c _ _ _ _ (λx d q1=>a _ _ _ _ (λy f q2=>b _ _ _ _ _ h q2) q1) q
variable {r2:R2}
theorem HI(k:r.M)(l:ga.M)(i:gb.M)
  (g:∀(x y:W)(v u:V)(G:Hw)(H:Hp)(Q:VK),Tr K H v x->Tr K H u y->RelH K H G->r x y G (dn K H Q)->r2 v u H Q) (σ:St) (H:Hp) (Q:VK) (h:up K (Ad r ga gb) σ H Q):tOp r2 (up K ga) (up K gb) σ H Q:=by
 obtain⟨ω,G,c,j,q⟩:=h
 refine⟨ω,G,c,j,l _ _ _ _ (λx e q1 v H1 b m r1=>?_) q⟩
 refine⟨ω,e,c.mono b,r1,i _ _ _ _ (λy f q2 u H2 d ty a=>?_) q1⟩
 exact g x y v u f H2 Q (m.mono d) ty a (k _ _ _ _ _ (λw n z=>Cr (b.trans d) z) q2)
theorem D3{op:Operator}(e:OpR X (binaryOp op) r2)(h:r.M)(i:ga.M)(f:gb.M)(g:∀(x y:W)(v u:V)(G:Hw)(H:Hp)(Q:VK),Tr X.K H v x->Tr X.K H u y->RelH X.K H G->r x y G (dn X.K H Q)->r2 v u H Q)
  (c:PEw X a ga) (d:PEw X b gb):PEw X (.BinOp a op b pos) (Ad r ga gb):=Bg (Wc e c d) (HI h i f g)
theorem XM{op:CmpOp}(e:OpR X (compareOp op) r2)(i:r.M)(j:ga.M)(f:gb.M)(g:∀(x y:W)(v u:V)(G:Hw)(H:Hp)(Q:VK),Tr X.K H v x->Tr X.K H u y->RelH X.K H G->r x y G (dn X.K H Q)->r2 v u H Q)
  (c:PEw X a ga) (d:PEw X b gb) (h:behindInMarks op b=false):PEw X (.Compare a [op] [b] pos) (Ad r ga gb):=Bg (Wv e c d h) (HI i j f g)
theorem NV(e:IxR X r2)(h:r.M)(i:ga.M)(f:gb.M)(g:∀(x y:W)(v u:V)(G:Hw)(H:Hp)(Q:VK),Tr X.K H v x->Tr X.K H u y->RelH X.K H G->r x y G (dn X.K H Q)->r2 v u H Q)
  (c:PEw X a ga) (d:PEw X b gb) (hs:HE b):PEw X (.Subscript a b pos) (Ad r ga gb):=Bg (WX e c d hs) (HI h i f g)
end
abbrev Xw:=Sw->Addr->Hw->Prop
abbrev XF:Xw:=λ_ _ _=>False
def upX(K:PySem.W.Frag)(ex:Xw):St->XK:=λσ Cv _ H'=>∃ C ω G,Cv=.ref C/\TrSt K H' σ ω/\RelH K H' G/\ex ω C G
abbrev FC(X:Cx)(ex:Xw):Prop:=Kv (CXe X.prog X.w) X (upX X.K ex)
theorem Un.mono'{fs b:List Addr}{h h':Heap}(u:Un fs b H H' h h'):Mono K H H':=by
 refine⟨λa c q=>?_,λa c q=>?_⟩
 ·rcases q with(q |⟨o,q⟩)| q
  ·exact .inl (.inl (u.tups a c q))
  ·exact .inl (.inr ⟨o,u.frzs a o _ q⟩)
  ·exact .inr q
 ·rcases q with⟨o,q⟩| q
  ·exact .inl ⟨o,u.frzs a o _ q⟩
  ·exact .inr q
abbrev Spw:=List W->Hw->Kw->(Addr->Hw->Prop)->Prop
def dnX(K:PySem.W.Frag)(H:Hp)(E:XK):Addr->Hw->Prop:=λC G'=>∀ H',Mono K H H'->RelH K H' G'->E (.ref C) none H'
def FD(K:PySem.W.Frag)(sp:Spw):Sp:=λvs H Q E=>∃ ws G,TrL K H vs ws/\RelH K H G/\sp ws G (dn K H Q) (dnX K H E)
def Spw.M(sp:Spw):Prop:=∀ ws G(Q Q':Kw)(E E':Addr->Hw->Prop),(∀ w G',Q w G'->Q' w G')->(∀ w G',E w G'->E' w G')->sp ws G Q E->sp ws G Q' E'
structure Df(P:Program)(w:World)(K:PySem.W.Frag)(mg:Str->Option Value)(base:Heap)(x:Str)(k n:Nat)(sp:Spw):Prop where
 ex:∃(f:Addr)(fd:FuncData)(ps:List Str),mg x=some (.ref f)/\PySem.W.keepIn K (.ref f)=true/\Binds K fd ps []/\ps.length=n/\FnOk P w K mg base (CXe P w) k f fd ps (FD K sp)
 mono:sp.M
section
variable {X:Cx} {e:Expr} {es:List Expr} {pos p:Pos} {ga gb:GE} {gs:GA} {ex:Xw}
def Ac:GA:=λ_ G Q=>Q [] G
def Aa(g:GE)(gs:GA):GA:=λω G Q=>g ω G λx G1=>gs ω G1 λxs G2=>Q (x::xs) G2
theorem NW:GA.M Ac:=λ_ _ _ _ h q=>h _ _ q
theorem NX(b:ga.M)(a:gs.M):GA.M (Aa ga gs):=λω G Q d h q=>b _ _ _ _ (λx c q1=>a _ _ _ _ (λxs e q2=>h _ _ q2) q1) q
theorem XN:PAw X [] Ac:=NS HC (by rintro σ H Q ⟨ω,G,a,r,q⟩;exact q [] H .refl .nil r)
theorem XO(j:ga.M)(g:gs.M)(i:PEw X e ga)(hs:PAw X es gs)(b:starEach (e::es) X.env=(false,eval e X.env)::starEach es X.env:=by rfl):PAw X (e::es) (Aa ga gs):=
 NS (Gj i hs b) (by rintro σ H Q ⟨ω,G,d,r,q⟩;exact⟨ω,G,d,r,j _ _ _ _ (λx h q1 v H1 c l r1=>⟨ω,h,d.mono c,r1,g _ _ _ _ (λxs n q2 m H2 f a k=>q2 _ H2 (c.trans f) (.cons (l.mono f) a) k) q1⟩) q⟩)
def Ag(sp:Spw)(ex:Xw)(gs:GA):GE:=λω G Q=>gs ω G λws G1=>sp ws G1 Q (ex ω)
variable {sp:Spw}
theorem XQ(m:sp.M)(a:gs.M):GE.M (Ag sp ex gs):=λω G Q d h q=>a _ _ _ _ (λc b q1=>m _ _ _ _ _ _ h (λ_ _ z=>z) q1) q
theorem XR{x:Str}{k n:Nat}(D:Df X.prog X.w X.K X.mg X.base x k n sp)(u:Room k X.A)(E:Gl X x)(l:FC X ex)(j:gs.M)(s:PAw X (e::es) gs)
  (b:(x==("__debug__":Str))=false:=by decide) (I:starEach (e::es) X.env=(false,eval e X.env)::starEach es X.env:=by rfl) (a:(backTo pos (starEach es X.env)).any (·.1)=false:=by rfl):
  PEw X (.Call (.Name x p) (e::es) [] pos) (Ag sp ex gs):=by
 obtain⟨f,fd,ps,y,B,m,_,F⟩:=D.ex
 refine Bg (XB F u E y B m .nil l s b I a) λσ H Q d=>?_
 obtain⟨ω,G,g,r,q⟩:=d
 refine⟨ω,G,g,r,j _ _ _ _ (λt v q1 L H1 h c r1=>?_) q⟩
 refine⟨t,v,by rw[Yx];exact c,r1,D.mono _ _ _ _ _ _ (λw i z=>Cr h z) (λC i z H2 o J=>?_) q1⟩
 exact⟨C,ω,i,rfl,(g.mono h).mono o,J,z⟩
end
def BX(N:List Str)(ws:List W):Sw:=ws.map some++List.replicate (N.length - ws.length) none
variable {N:List Str}
theorem KA{a:List W}(t:TrL K H vs a):TrSt K H (L2.CS N vs) (BX N a):=by
 have hl:=t.length
 refine⟨by simp[L2.CS,BX,hl],λi w e=>?_⟩
 unfold BX at e
 by_cases hi:i < a.length
 ·rw[YI (by simpa using hi),YM]at e
  cases z:a[i]? with
  | none=>rw[z]at e;cases e
  | some c =>
   rw[z]at e
   cases e
   obtain⟨v,b,r⟩:=t.get z
   exact⟨v,by unfold L2.CS;rw[YI (by simp;omega),YM,b];rfl,r⟩
 ·rw[List.getElem?_append_right (by simpa using hi),List.getElem?_replicate]at e
  split at e <;> cases e
def Sub(G G':Hw):Prop:=∀ a o,G a=some o->G' a=some o
theorem Sub.refl:Sub G G:=λ_ _ h=>h
theorem Sub.trans{d e:Hw}(a:Sub G d)(b:Sub d e):Sub G e:=λc o h=>b c o (a c o h)
theorem Sub.put{b:Hw}(h:Sub G b)(d:G a=none):Sub G (put b a o):=λc u z=>by
 rw[Aq (λe=>by rw[e,d]at z;cases z)]
 exact h c u z
theorem Sub.put2{b:Hw}(h:Sub G b):Sub (L3.put G a o) (L3.put b a o):=λc u z=>by
 by_cases e:c=a
 ·subst e;rw[Aj]at z ⊢;exact z
 ·rw[Aq e]at z ⊢;exact h c u z
theorem RelH.sub{b:Hw}(r:RelH K H b)(s:Sub G b):RelH K H G:=λa o e=>r a o (s a o e)
def Kw.C(Q:Kw):Prop:=∀ w G G',Sub G G'->Q w G->Q w G'
def Xc(E:Addr->Hw->Prop):Prop:=∀ w G G',Sub G G'->E w G->E w G'
theorem KB{Q:VK}:Kw.C (dn K H Q):=λw G a s q v H2 m t r=>q v H2 m t (r.sub s)
theorem XS{E:XK}:Xc (dnX K H E):=λw G a s q H2 m r=>q H2 m (r.sub s)
def Av(Q:Kw):Ew:=⟨λ_ G=>Q .non G,Q,λ_ _=>False,λ_ _=>False⟩
section
variable {P:Program} {w:World} {mg:Str->Option Value} {base:Heap}
abbrev cxW(P:Program)(w:World)(K:PySem.W.Frag)(mg:Str->Option Value)(base:Heap)(N:List Str)(qual:Str)(scope:Scope)(f:Addr)(cd:Value)(A:Around)(outer:List Env)(s:Shared)(H:Hp)(E:XK):Cx :=
 Bp (CXe P w) P w K mg base N qual scope f cd A outer s H E
theorem XT{qual:Str}{scope:Scope}{f:Addr}{cd:Value}{A:Around}{outer:List Env}{s:Shared}{E:XK}:FC (cxW P w K mg base N qual scope f cd A outer s H E) (λ_=>dnX K H E):=by
 intro pins σ Hc a ev s' I ⟨e,C,H',b,F,d,ω,G,c,g,r,q⟩
 cases c
 refine Xu pins σ Hc a ev s' I ⟨e,C,H',b,F,q H' ?_ r⟩
 exact(Un.mono' I.base).trans (Un.mono' F.un)
end
section
variable {X:Cx} {a b c e:Expr} {st:Stmt} {sts sts':List Stmt} {pos pos':Pos} {ga gb gc:GE} {gt gu:GT} {g1 g2:GS} {ex:Xw} {P:Hp->Prop}
def Al:GS:=λD ω G=>D.nx ω G
def Af(g1 g2:GS):GS:=λD ω G=>g1 {D with nx:=g2 D} ω G
theorem XU:GS.M Al:=λ_ _ _ _ h _ _ _ q=>h _ _ q
theorem XW(c:g1.M)(d:g2.M):GS.M (Af g1 g2):=λω G D e h1 h2 b a q=>c _ _ {D with nx:=g2 D} _ (λ_ _ z=>d _ _ _ _ h1 h2 b a z) h2 b a q
theorem XX:Dp X P [] Al:=λB c=>Kz VM (by rintro D σ H ⟨ω,G,b,r,a,q⟩;exact q σ H a b r)
theorem XY(c:g1.M)(g:g2.M)(h1:PSw X P st g1)(h2:Dp X P sts g2):Dp X P (st::sts) (Af g1 g2):=λB b=>
 Kz (VN (h1 B b) (h2 B b)) (by rintro D σ H ⟨ω,G,e,r,d,q⟩;exact⟨ω,G,e,r,d,c _ _ {dnD X.K B D with nx:=g2 (dnD X.K B D)} _ (λω' f z σ' H' m a r'=>⟨ω',f,a,r',m,z⟩) (λ_ _ z=>z) (λ_ _ z=>z) (λ_ _ z=>z) q⟩)
theorem XZ(h1:PSw X P st g1):Dp X P [st] g1:=λB a=>Kz (VO (h1 B a)) λD σ H z=>z
def An(i:Nat)(ga:GE):GS:=λD ω G=>ga ω G λw G1=>D.nx (ω.set i (some w)) G1
variable {i:Nat}
theorem KC(a:ga.M):GS.M (An i ga):=λω G D b h _ _ _ q=>a _ _ _ _ (λ_ _ z=>h _ _ z) q
theorem NY{x:Str}(d:X.N.Nodup)(hi:X.N[i]?=some x)(b:Loc X.env.scope x)(h:ga.M)(c:PEw X e ga)(hs:swapsWith e (some (.Name x pos')) pos.line X.env=pure false)(g:X.fn x=true\/X.env.scope.names.lookup x=some .local):
  PSw X P (.Assign [.Name x pos'] e pos) (An i ga):=λB k=>
 CT (VW d hi b c hs g) (by rintro D σ H ⟨ω,G,a,r,f,q⟩;exact⟨ω,G,a,r,h _ _ _ _ (λw j z v H1 m t r1=>z _ H1 (f.trans m) ((a.mono m).set i t) r1) q⟩)
def Ai(ga:GE):GS:=λD ω G=>ga ω G D.rt
theorem X0(a:ga.M):GS.M (Ai ga):=λω G D b _ h _ _ q=>a _ _ _ _ (λ_ _ z=>h _ _ z) q
theorem X1(c:ga.M)(a:PEw X e ga):PSw X P (.Return (some e) pos) (Ai ga):=λB g=>CT (VS a) (by rintro D σ H ⟨ω,G,d,r,b,q⟩;exact⟨ω,G,d,r,c _ _ _ _ (λw f z v H1 m t r1=>z v H1 (b.trans m) t r1) q⟩)
def Aw(ga:GE):GS:=λD ω G=>ga ω G λ_ G1=>D.nx ω G1
theorem X2(a:ga.M):GS.M (Aw ga):=λω G D b h _ _ _ q=>a _ _ _ _ (λ_ _ z=>h _ _ z) q
theorem X3(d:ga.M)(b:PEw X e ga)(hs:swapsWith e none pos.line X.env=pure false):PSw X P (.Expr e pos) (Aw ga):=λB g=>
 CT (VQ b hs) (by rintro D σ H ⟨ω,G,a,r,c,q⟩;exact⟨ω,G,a,r,d _ _ _ _ (λw f z v H1 m t r1=>z _ H1 (c.trans m) (a.mono m) r1) q⟩)
def gIf(gt:GT)(g1 g2:GS):GS:=λD ω G=>gt ω G λb G1=>if b=true then g1 D ω G1 else g2 D ω G1
theorem X4(f:gt.M)(d:g1.M)(e:g2.M):GS.M (gIf gt g1 g2):=λω G D h h1 h2 c a q=>f _ _ _ _ (λb g z=>by
 cases b with
 | true=>exact d _ _ _ _ h1 h2 c a z
 | false=>exact e _ _ _ _ h1 h2 c a z) q
theorem X5(g:gt.M)(h:g1.M)(i:g2.M)(hc:PTw X c gt)(h1:Dp X P sts g1)(h2:Dp X P sts' g2):PSw X P (.If c sts sts' pos) (gIf gt g1 g2):=λB e=>
 CT (VU hc (h1 B e) (h2 B e)) λD σ H⟨ω,G,a,r,f,q⟩=>⟨ω,G,a,r,g _ _ _ _ (λb d z H1 m r1=>by
  cases b with
  | true=>exact⟨ω,d,a.mono m,r1,f.trans m,z⟩
  | false=>exact⟨ω,d,a.mono m,r1,f.trans m,z⟩) q⟩
def gTB(g:GE):GT:=λω G Q=>g ω G λw G1=>match w with | .bl b=>Q b G1 | _=>False
theorem NZ(m:ga.M):GT.M (gTB ga):=λω G Q b h q=>m _ _ _ _ (λw a z=>by
 cases w <;> first | exact h _ _ z | exact z) q
theorem ER{b:Bool}(t:Tr K H v (.bl b)):v=.bl b:=by cases t;rfl
theorem N0{b:Int}(t:Tr K H v (.int b)):v=.int b:=by cases t;rfl
theorem N1{b:Str}(t:Tr K H v (.str b)):v=.str b:=by cases t;rfl
theorem N2(m:ga.M){f:Bool->Hp->Prop}(h:upT K (gTB ga) σ H f):up K ga σ H (λx H1=>∃ k,x=.bl k/\f k H1):=by
 obtain⟨ω,G,c,r,q⟩:=h
 refine⟨ω,G,c,r,m _ _ _ _ (λw d z v H1 a t r1=>?_) q⟩
 cases w with
 | bl b=>exact⟨b,ER t,z H1 a r1⟩
 | _=>exact z.elim
theorem X6{op:CmpOp}{r:RW2}{r2:R2}(g:OpR X (compareOp op) r2)(d:r.M)(e:ga.M)(c:gb.M)(i:∀(x y:W)(v u:V)(G:Hw)(H:Hp)(Q:VK),Tr X.K H v x->Tr X.K H u y->RelH X.K H G->r x y G (dn X.K H Q)->r2 v u H Q)
  (f:PEw X a ga) (h:PEw X b gb) (j:behindInMarks op b=false):PTw X (.Compare a [op] [b] pos) (gTB (Ad r ga gb)):=
 HH (Ww g f h j) λσ H Q z=>HI d e c i σ H _ (N2 (Cs d e c) z)
def BG(w:W)(G:Hw):Option Bool:=match w with
 | .non=>some false
 | .bl b=>some b
 | .int i=>some (i != 0)
 | .tup xs=>some (!xs.isEmpty)
 | .rol xs=>some (!xs.isEmpty)
 | .ref a=>match G a with | some (.lst xs)=>some (!xs.isEmpty)| _=>none
 | .str _=>none
def AO(g:GE):GT:=λω G Q=>g ω G λw G1=>match BG w G1 with | some b=>Q b G1 | none=>False
theorem X7(m:ga.M):GT.M (AO ga):=λω G Q c h q=>m _ _ _ _ (λw a z=>by
 cases e:BG w a with
 | none=>rw[e]at z;exact z
 | some b=>rw[e]at z;exact h _ _ z) q
theorem KD:∀{vs:List V}{a:List W},TrL K H vs a->vs.isEmpty=a.isEmpty
 | _,_,.nil=>rfl
 | _,_,.cons _ _=>rfl
theorem X8{b:Bool}(t:Tr K H v w)(r:RelH K H G)(e:BG w G=some b):Kj K v H b:=by
 cases t with
 | non=>cases e;rfl
 | bl c=>cases e;rfl
 | int i=>cases e;rfl
 | str x=>cases e
 | tup h l=>cases e;exact .inr (.inl ⟨_,h,by rw[KD l]⟩)
 | rol h l=>cases e;exact .inl ⟨_,h.sq,by rw[KD l]⟩
 | ref a =>
  unfold BG at e
  dsimp only at e
  cases z:G a with
  | none=>rw[z]at e;cases e
  | some o =>
   rw[z]at e
   cases o with
   | exc C=>cases e
   | ins C fs=>cases e
   | dct f=>cases e
   | lst xs =>
    cases e
    obtain⟨g,d,l⟩:=r a _ z
    exact .inl ⟨g,SqL.of d,by rw[KD l]⟩
theorem X9(h:ga.M)(f:PEw X e ga)(g:∀ a,isTrue e X.env a=(do let v <- a;standAt e.pos;holding [v] (truthy v)):=by intro _;rfl):PTw X e (AO ga):=
 HH (WB f g) λσ H Q⟨ω,G,i,r,q⟩=>⟨ω,G,i,r,h _ _ _ _ (λw d z v H1 m t r1=>by
  cases c:BG w d with
  | none=>rw[c]at z;exact z.elim
  | some b=>rw[c]at z;exact⟨b,X8 t r1 c,z H1 m r1⟩) q⟩
def gNt(g:GT):GT:=λω G Q=>g ω G λb G1=>Q (!b) G1
theorem Y0(m:gt.M):GT.M (gNt gt):=λω G Q b h q=>m _ _ _ _ (λw a z=>h _ _ z) q
theorem Y1(b:PTw X a gt):PTw X (.UnaryOp .Not a pos) (gNt gt):=HH (Vy b) λσ H Q z=>z
abbrev PWw(X:Cx)(e:Expr)(g:GT):Prop:=PW X e (upT X.K g)
theorem HJ{t t':TT}(h:PW X e t)(i:∀ σ H Q,t' σ H Q->t σ H Q):PW X e t':=λa pins s σ H Q I q=>h a pins s σ H Q I (i σ H Q q)
def A1(g1 g2:GT):GT:=λω G Q=>g1 ω G λb G1=>if b=true then g2 ω G1 Q else Q false G1
def gOr(g1 g2:GT):GT:=λω G Q=>g1 ω G λb G1=>if b=true then Q true G1 else g2 ω G1 Q
theorem Y2(a:gt.M)(c:gu.M):GT.M (A1 gt gu):=λω G Q e h q=>a _ _ _ _ (λb d z=>by
 cases b with
 | true=>exact c _ _ _ _ h z
 | false=>exact h _ _ z) q
theorem Y3(a:gt.M)(c:gu.M):GT.M (gOr gt gu):=λω G Q e h q=>a _ _ _ _ (λb d z=>by
 cases b with
 | true=>exact h _ _ z
 | false=>exact c _ _ _ _ h z) q
variable {Ao:List Expr}
theorem Y4(b:PTw X a gt):PWw X (.BoolOp .And [a] pos) gt:=HJ (Vu b) λσ H Q z=>z
theorem Y5(b:PTw X a gt):PWw X (.BoolOp .Or [a] pos) gt:=HJ (Vv b) λσ H Q z=>z
theorem Y6(f:gt.M)(h:gu.M)(e:PTw X a gt)(g:PWw X (.BoolOp .And (b::Ao) pos) gu):PWw X (.BoolOp .And (a::b::Ao) pos) (A1 gt gu):=
 HJ (Vw e g) λσ H Q⟨ω,G,c,r,q⟩=>⟨ω,G,c,r,f _ _ _ _ (λb d z H1 m r1=>by
  cases b with
  | true=>exact⟨ω,d,c.mono m,r1,h _ _ _ _ (λ_ _ z=>NR m z) z⟩
  | false=>exact z H1 m r1) q⟩
theorem Y7(f:gt.M)(h:gu.M)(e:PTw X a gt)(g:PWw X (.BoolOp .Or (b::Ao) pos) gu):PWw X (.BoolOp .Or (a::b::Ao) pos) (gOr gt gu):=
 HJ (Vx e g) λσ H Q⟨ω,G,c,r,q⟩=>⟨ω,G,c,r,f _ _ _ _ (λb d z H1 m r1=>by
  cases b with
  | true=>exact z H1 m r1
  | false=>exact⟨ω,d,c.mono m,r1,h _ _ _ _ (λ_ _ z=>NR m z) z⟩) q⟩
variable {op:BoolOp}
theorem Y8{vs:List Expr}(h:PWw X (.BoolOp op vs pos) gt):PTw X (.BoolOp op vs pos) gt:=PW.pt h
def B2(ga gb:GE):GE:=λω G Q=>ga ω G λx G1=>match x with | .bl c=>if c=true then gb ω G1 Q else Q (.bl false) G1 | _=>False
def C9(ga gb:GE):GE:=λω G Q=>ga ω G λx G1=>match x with | .bl c=>if c=true then Q (.bl true) G1 else gb ω G1 Q | _=>False
def Da(ga:GE):GE:=λω G Q=>ga ω G λx G1=>match x with | .bl c=>Q (.bl (!c)) G1 | _=>False
def BH(gt:GT)(ga gb:GE):GE:=λω G Q=>gt ω G λc G1=>if c=true then ga ω G1 Q else gb ω G1 Q
theorem Y9(b:ga.M)(a:gb.M):GE.M (B2 ga gb):=λω G Q e h q=>b _ _ _ _ (λx d z=>by
 cases x with
 | bl c =>
  cases c with
  | true=>exact a _ _ _ _ h z
  | false=>exact h _ _ z
 | _=>exact z) q
theorem Za(b:ga.M)(a:gb.M):GE.M (C9 ga gb):=λω G Q e h q=>b _ _ _ _ (λx d z=>by
 cases x with
 | bl c =>
  cases c with
  | true=>exact h _ _ z
  | false=>exact a _ _ _ _ h z
 | _=>exact z) q
theorem Zb(a:ga.M):GE.M (Da ga):=λω G Q d h q=>a _ _ _ _ (λx b z=>by
 cases x with
 | bl c=>exact h _ _ z
 | _=>exact z) q
theorem Zc(b:gt.M)(d:ga.M)(a:gb.M):GE.M (BH gt ga gb):=λω G Q f h q=>b _ _ _ _ (λc e z=>by
 cases c with
 | true=>exact d _ _ _ _ h z
 | false=>exact a _ _ _ _ h z) q
theorem Zd(h:PEw X a ga):PEw X (.BoolOp op [a] pos) ga:=VD h
theorem Ze(i:ga.M)(h:gb.M)(f:PEw X a ga)(g:PEw X (.BoolOp .And (b::Ao) pos) gb):PEw X (.BoolOp .And (a::b::Ao) pos) (B2 ga gb):=
 Bg (VE f g) λσ H Q⟨ω,G,d,r,q⟩=>⟨ω,G,d,r,i _ _ _ _ (λx e z v H1 m t r1=>by
  cases x with
  | bl c =>
   refine⟨c,ER t,?_⟩
   cases c with
   | true=>exact⟨ω,e,d.mono m,r1,h _ _ _ _ (λ_ _ z=>Cr m z) z⟩
   | false=>exact z _ H1 m (.bl false) r1
  | _=>exact z.elim) q⟩
theorem Zf(i:ga.M)(h:gb.M)(f:PEw X a ga)(g:PEw X (.BoolOp .Or (b::Ao) pos) gb):PEw X (.BoolOp .Or (a::b::Ao) pos) (C9 ga gb):=
 Bg (VF f g) λσ H Q⟨ω,G,d,r,q⟩=>⟨ω,G,d,r,i _ _ _ _ (λx e z v H1 m t r1=>by
  cases x with
  | bl c =>
   refine⟨c,ER t,?_⟩
   cases c with
   | true=>exact z _ H1 m (.bl true) r1
   | false=>exact⟨ω,e,d.mono m,r1,h _ _ _ _ (λ_ _ z=>Cr m z) z⟩
  | _=>exact z.elim) q⟩
theorem Zg(d:ga.M)(b:PEw X a ga):PEw X (.UnaryOp .Not a pos) (Da ga):=
 Bg (VG b) λσ H Q⟨ω,G,e,r,q⟩=>⟨ω,G,e,r,d _ _ _ _ (λx f z v H1 m t r1=>by
  cases x with
  | bl c=>exact⟨c,ER t,z _ H1 m (.bl _) r1⟩
  | _=>exact z.elim) q⟩
theorem Zh(j:gt.M)(g:ga.M)(i:gb.M)(hc:PTw X c gt)(f:PEw X a ga)(h:PEw X b gb):PEw X (.IfExp c a b pos) (BH gt ga gb):=
 Bg (VH hc f h) λσ H Q⟨ω,G,d,r,q⟩=>⟨ω,G,d,r,j _ _ _ _ (λc e z H1 m r1=>by
  cases c with
  | true=>exact⟨ω,e,d.mono m,r1,g _ _ _ _ (λ_ _ z=>Cr m z) z⟩
  | false=>exact⟨ω,e,d.mono m,r1,i _ _ _ _ (λ_ _ z=>Cr m z) z⟩) q⟩
variable {es:List Expr} {gs:GA}
def Ah(gs:GA):GE:=λω G Q=>gs ω G λws G1=>ws.length<=sizeLine/\Q (.tup ws) G1
def Ap(gs:GA):GE:=λω G Q=>gs ω G λws G1=>ws.length<=sizeLine/\∀ p,G1 p=none->Q (.ref p) (put G1 p (.lst ws))
theorem Zi(m:gs.M):GE.M (Ah gs):=λω G Q c h q=>m _ _ _ _ (λb a z=>⟨z.1,h _ _ z.2⟩) q
theorem Zj(m:gs.M):GE.M (Ap gs):=λω G Q d h q=>m _ _ _ _ (λc b z=>⟨z.1,λp a=>h _ _ (z.2 p a)⟩) q
theorem Zk{x1}(m:gs.M)(h:PAw X es gs):PEw X (.Tuple es x1 pos) (Ah gs):=
 Bg (WI h) λσ H Q⟨ω,G,c,r,q⟩=>⟨ω,G,c,r,m _ _ _ _ (λf d z e H1 b t r1=>⟨by rw[t.length];exact z.1,λp a=>
  z.2 _ _ (b.trans (Mono.new a _)) (.tup (SqT.of BO) (t.mono (Mono.new a _))) (r1.mono0 a)⟩) q⟩
theorem Zl(m:gs.M)(h:PAw X es gs):PEw X (.List es pos) (Ap gs):=
 Bg (WJ h) λσ H Q⟨ω,G,c,r,q⟩=>⟨ω,G,c,r,m _ _ _ _ (λf d z e H1 b t r1=>⟨by rw[t.length];exact z.1,λp a=>
  z.2 p (r1.no a) _ _ (b.trans (Mono.new a _)) (.ref p) (r1.new a t)⟩) q⟩
end
def CU(z:Str):List V:=z.cps.toList.map λc=>V.str ⟨#[c]⟩
def Itk(xs:List V):It:=⟨λi _=>i < xs.length,λi H x H'=>H'=H/\xs[i]?=some x,λi _=>xs.length<=i⟩
variable {P:Program}
theorem Zm{w:World}{tg:Expr}(F:∀ a u,letOwnedTupleGo tg a u=pure ())(a:Addr)(z:Str)(t:Tok):CQ P w K tg (Itk (CU z)) [a] a (λi h=>h.IsStrIter a "str_ascii_iterator" z t i) where
 mem:=by simp
 obj:=λi h st b f=>by
  have e:b=a:=by simpa using f
  subst e
  obtain⟨o,e,c,d⟩:=st
  exact⟨o,e,λv z=>by rw[d]at z;cases z⟩
 keep:=λi h h' st k=>by
  obtain⟨o,e,c,d⟩:=st
  exact⟨o,k a (by simp) o e,c,d⟩
 item:=by
  intro X q hw p hc i pins s σ H E I g st y
  subst q hw p
  obtain⟨n,j,D,r,m,B⟩:=g a (by simp)
  have W:=Walks.strAscii (prog:=X.prog) (w:=X.w) (I.ok.hd hc) a z t
  have hi:i < z.cps.size:=by simpa[CU,Itk]using y
  refine W.item i s _ _ hi st λv h' tk J l G=>?_
  obtain⟨c,t',x,rfl⟩:=J
  have L:Inv X pins σ H {s with heap:=h',toks:=tk}:=I.turned (λb o f e=>G b o (by simpa using f) e) n j r m B
  exact⟨_,rfl,wpAny_of_eq (F _ _) ⟨.str ⟨#[c]⟩,H,L,⟨_,rfl⟩,⟨rfl,by simp[CU,x]⟩,l,λb f=>(g b f).1⟩⟩
 done:=by
  intro X q hw p hc i pins s σ H E I g st y
  subst q hw p
  obtain⟨n,j,D,r,m,B⟩:=g a (by simp)
  have hi:z.cps.size<=i:=by simpa[CU,Itk]using y
  exact wpAny_pyNext_ascii_end (I.ok.hd hc) st (by simp[hi]) λh' eb=>⟨rfl,I.turned (t':=s.toks) (λb o f e=>eb b o f e) n j r m B⟩
 self:=λA i s Q E st h=>wpAny_pyIter_striter_ascii st h
theorem Zn{w:World}{tg:Expr}(F:∀ a u,letOwnedTupleGo tg a u=pure ())(a:Addr)(z:Str)(t:Tok):CQ P w K tg (Itk (CU z)) [a] a (λi h=>h.IsStrIter a "str_iterator" z t i) where
 mem:=by simp
 obj:=λi h st b f=>by
  have e:b=a:=by simpa using f
  subst e
  obtain⟨o,e,c,d⟩:=st
  exact⟨o,e,λv z=>by rw[d]at z;cases z⟩
 keep:=λi h h' st k=>by
  obtain⟨o,e,c,d⟩:=st
  exact⟨o,k a (by simp) o e,c,d⟩
 item:=by
  intro X q hw p hc i pins s σ H E I g st y
  subst q hw p
  obtain⟨n,j,D,r,m,B⟩:=g a (by simp)
  have W:=Walks.strWide (prog:=X.prog) (w:=X.w) (I.ok.hd hc) a z t
  have hi:i < z.cps.size:=by simpa[CU,Itk]using y
  refine W.item i s _ _ hi st λv h' tk J l G=>?_
  obtain⟨c,t',x,rfl⟩:=J
  have L:Inv X pins σ H {s with heap:=h',toks:=tk}:=I.turned (λb o f e=>G b o (by simpa using f) e) n j r m B
  exact⟨_,rfl,wpAny_of_eq (F _ _) ⟨.str ⟨#[c]⟩,H,L,⟨_,rfl⟩,⟨rfl,by simp[CU,x]⟩,l,λb f=>(g b f).1⟩⟩
 done:=by
  intro X q hw p hc i pins s σ H E I g st y
  subst q hw p
  obtain⟨n,j,D,r,m,B⟩:=g a (by simp)
  have hi:z.cps.size<=i:=by simpa[CU,Itk]using y
  exact wpAny_pyNext_wide_end (I.ok.hd hc) st (by simp[hi]) λh' eb=>⟨rfl,I.turned (t':=s.toks) (λb o f e=>eb b o f e) n j r m B⟩
 self:=λA i s Q E st h=>wpAny_pyIter_striter_wide st h
def Zo(K:PySem.W.Frag)(tl:TE):TI:=λσ H R=>tl σ H λx H1=>(∃ a,x=.ref a/\(∃ xs,SqL K H1 a xs)/\R (Itl K a) H1)\/(∃ a,x=.ref a/\(∃ xs,SqT K H1 a xs)/\R (Itt K a) H1)\/(∃ z,x=.str z/\R (Itk (CU z)) H1)
variable {l:Expr}
theorem Zp{tg:Expr}{tl:TE}(m:∀ r u,letOwnedTupleGo tg r u=pure ())(hl:PE X l tl):PI X tg l (Zo X.K tl):=by
 intro pins s σ H R I h
 refine thn (hl pins s σ H _ I h) λv c i=>?_
 obtain⟨x,H1,d,r1,q1⟩:=i
 rcases q1 with⟨a,e,⟨xs,j⟩,q⟩|⟨a,e,⟨xs,j⟩,q⟩|⟨z,e,q⟩
 ·subst e
  cases r1
  obtain⟨g,y,p,w⟩:=d.list j
  refine wpAny_pyIter_list p.isList ?_
  refine⟨c.heap.objs.size,[c.heap.objs.size],_,_,H1,rfl,d.kept (t':=c.toks) λb o e=>Qi _ e,V1 a _,⟨_,Qk _ rfl,rfl,rfl⟩,λb f=>?_,q⟩
  have e:b=c.heap.objs.size:=by simpa using f
  subst e
  exact d.fpOk (Yr _) (d.hok.fresh (Yr _))
 ·subst e
  cases r1
  obtain⟨g,y,p,w⟩:=d.tuple j
  refine wpAny_pyIter_tuple (show c.heap.IsTuple a g.toArray from p) ?_
  refine⟨c.heap.objs.size,[c.heap.objs.size],_,_,H1,rfl,d.kept (t':=c.toks) λb o e=>Qi _ e,V2 a _,⟨_,Qk _ rfl,rfl,rfl⟩,λb f=>?_,q⟩
  have e:b=c.heap.objs.size:=by simpa using f
  subst e
  exact d.fpOk (Yr _) (d.hok.fresh (Yr _))
 ·subst e
  obtain⟨t,rfl⟩:=r1
  have n:∀ b∈[c.heap.objs.size],CP X pins H1 b:=λb f=>by
   have e:b=c.heap.objs.size:=by simpa using f
   subst e
   exact d.fpOk (Yr _) (d.hok.fresh (Yr _))
  cases k:z.cps.all (· < 128)
  ·exact wpAny_pyIter_wide k ⟨c.heap.objs.size,[c.heap.objs.size],_,_,H1,rfl,d.kept (t':=c.toks) λb o e=>Qi _ e,Zn m _ z t,⟨_,Qk _ rfl,rfl,rfl⟩,n,q⟩
  ·exact wpAny_pyIter_ascii k ⟨c.heap.objs.size,[c.heap.objs.size],_,_,H1,rfl,d.kept (t':=c.toks) λb o e=>Qi _ e,Zm m _ z t,⟨_,Qk _ rfl,rfl,rfl⟩,n,q⟩
abbrev GI:=Sw->Hw->(List W->(Hw->Prop)->Hw->Prop)->Prop
def GI.M(g:GI):Prop:=∀ ω G(R R':List W->(Hw->Prop)->Hw->Prop),(∀ ws gd G',R ws gd G'->R' ws gd G')->g ω G R->g ω G R'
def ES(z:Str):List W:=z.cps.toList.map λc=>W.str ⟨#[c]⟩
theorem Zq{z:Str}:TrL K H (CU z) (ES z):=by
 unfold CU ES
 generalize z.cps.toList=l
 induction l with
 | nil=>exact .nil
 | cons c l a=>exact .cons (.str _) a
def yes:Hw->Prop:=λ_=>True
def holds(a:Addr)(ws:List W):Hw->Prop:=λG=>G a=some (.lst ws)
def Au(ga:GE):GI:=λω G R=>ga ω G λw G1=>match w with
 | .tup ws=>R ws yes G1
 | .rol ws=>R ws yes G1
 | .str z=>R (ES z) yes G1
 | .ref a=>match G1 a with | some (.lst ws)=>R ws (holds a ws) G1 | _=>False
 | _=>False
variable {ga:GE}
theorem Zr(m:ga.M):GI.M (Au ga):=λω G R f h q=>m _ _ _ _ (λw c z=>by
 cases w with
 | tup b=>exact h _ _ _ z
 | rol b=>exact h _ _ _ z
 | str x=>exact h _ _ _ z
 | ref a =>
  dsimp only at z ⊢
  cases e:c a with
  | none=>rw[e]at z;exact z
  | some o =>
   rw[e]at z
   cases o with
   | lst b=>exact h _ _ _ z
   | exc C=>exact z
   | ins C fs=>exact z
   | dct d=>exact z
 | _=>exact z) q
structure D4(K:PySem.W.Frag)(H1:Hp)(J:It)(ws:List W)(gd:Hw->Prop):Prop where
 go:∀(i:Nat)(H:Hp)(G:Hw),Mono K H1 H->RelH K H G->gd G->i < ws.length->J.go i H
 yld:∀(i:Nat)(H:Hp)(G:Hw)(x:V)(H':Hp),Mono K H1 H->RelH K H G->gd G->J.yld i H x H'->i < ws.length->Mono K H H'/\RelH K H' G/\∃ w,ws[i]?=some w/\Tr K H' x w
 stop:∀(H:Hp)(G:Hw),Mono K H1 H->RelH K H G->gd G->J.stop ws.length H
variable {i:Nat}
theorem Gn{x:V}{a:List W}(r:RelH K H G)(e:H'=H)(h:∃ w,a[i]?=some w/\Tr K H x w):Mono K H H'/\RelH K H' G/\∃ w,a[i]?=some w/\Tr K H' x w:=by
 subst e;exact⟨.refl,r,h⟩
variable {b:Hw->Prop}{H1:Hp}
theorem N3{c:List W}(h:∀ H G,Mono K H1 H->RelH K H G->b G->∃ vs,SqL K H a vs/\TrL K H vs c):D4 K H1 (Itl K a) c b where
 go:=λi H G m r g hi=>by
  obtain⟨vs,q,t⟩:=h H G m r g
  have hl:=t.length
  exact⟨vs,vs[i]'(by omega),q,by simp⟩
 yld:=λi H G x H' m r g y hi=>by
  obtain⟨vs,q,t⟩:=h H G m r g
  obtain⟨w,e,d⟩:=t.get' (y.2 vs q)
  exact Gn r y.1 ⟨w,e,d⟩
 stop:=λH G m r g=>by
  obtain⟨vs,q,t⟩:=h H G m r g
  exact⟨vs,q,Nat.le_of_eq t.length⟩
theorem Zs{b:List W}{c:Hw->Prop}(q:SqT K H1 a vs)(t:TrL K H1 vs b):D4 K H1 (Itt K a) b c where
 go:=λi H G m r g hi=>by
  have hl:=t.length
  exact⟨vs,vs[i]'(by omega),m.tup _ _ q,by simp⟩
 yld:=λi H G x H' m r g y hi=>by
  obtain⟨w,e,d⟩:=(t.mono m).get' (y.2 vs (m.tup _ _ q))
  exact Gn r y.1 ⟨w,e,d⟩
 stop:=λH G m r g=>⟨vs,m.tup _ _ q,Nat.le_of_eq t.length⟩
theorem Zt{a:List W}(t:TrL K H1 vs a):D4 K H1 (Itk vs) a b where
 go:=λi H G m r g hi=>by show i < vs.length;rw[t.length];exact hi
 yld:=λi H G x H' m r g y hi=>by
  obtain⟨w,e,c⟩:=(t.mono m).get' y.2
  exact Gn r y.1 ⟨w,e,c⟩
 stop:=λH G m r g=>by show vs.length<=a.length;exact Nat.le_of_eq t.length
def PIw(X:Cx)(tg l:Expr)(gi:GI):Prop:=∃ wi:TI,PI X tg l wi/\∀(σ:St)(H:Hp)(ω:Sw)(G:Hw)(R:List W->(Hw->Prop)->Hw->Prop)(R0:It->Hp->Prop),TrSt X.K H σ ω->RelH X.K H G->gi ω G R->
 (∀ ws gd G1 H1 J,R ws gd G1->Mono X.K H H1->RelH X.K H1 G1->gd G1->D4 X.K H1 J ws gd->R0 J H1)->wi σ H R0
theorem Zu{tg:Expr}(j:∀ g u,letOwnedTupleGo tg g u=pure ())(y:ga.M)(hl:PEw X l ga):PIw X tg l (Au ga):=by
 refine⟨_,Zp j hl,λσ H ω G R D A r q k=>⟨ω,G,A,r,y _ _ _ _ (λw f z v H1 m t r1=>?_) q⟩⟩
 cases t with
 | tup h l=>exact .inr (.inl ⟨_,rfl,⟨_,h⟩,k _ _ _ H1 _ z m r1 trivial (Zs h l)⟩)
 | rol h l=>exact .inl ⟨_,rfl,⟨_,h.sq⟩,k _ _ _ H1 _ z m r1 trivial (N3 λH2 B d _ _=>⟨_,(d.rol _ _ h).sq,l.mono d⟩)⟩
 | str x=>exact .inr (.inr ⟨x,rfl,k _ _ _ H1 _ z m r1 trivial (Zt Zq)⟩)
 | ref a =>
  dsimp only at z
  cases e:f a with
  | none=>rw[e]at z;exact z.elim
  | some o =>
   rw[e]at z
   cases o with
   | exc C=>exact z.elim
   | ins C fs=>exact z.elim
   | dct s=>exact z.elim
   | lst F =>
    obtain⟨c,n,E⟩:=r1 a _ e
    exact .inl ⟨a,rfl,⟨c,SqL.of n⟩,k _ _ _ H1 _ z m r1 e (N3 λH2 B d p g2=>let⟨c,e2,t2⟩:=p a _ g2;⟨c,SqL.of e2,t2⟩)⟩
 | non=>exact z.elim
 | bl b=>exact z.elim
 | int i=>exact z.elim
structure TgW(X:Cx)(tg:Expr)(gg:GG):Prop where
 ex:∃ g:TG,PG X tg g/\∀(x:V)(w:W)(σ:St)(ω:Sw)(H:Hp)(G:Hw)(Q:St->Hp->Prop),Tr X.K H x w->TrSt X.K H σ ω->RelH X.K H G->gg w ω G (dnS X.K H Q)->g x σ H Q
 mono:gg.M
def gNm(i:Nat):GG:=λw ω G Q=>Q (ω.set i (some w)) G
variable {x:Str}
theorem N4{p:Pos}(b:X.N.Nodup)(hi:X.N[i]?=some x)(c:Loc X.env.scope x)(a:X.fn x=true\/X.env.scope.names.lookup x=some .local):TgW X (.Name x p) (gNm i) where
 ex:=⟨_,CD b hi c a,λx w σ ω H G Q t d r q=>q _ H .refl (d.set i t) r⟩
 mono:=λ_ _ _ _ _ h q=>h _ _ q
def AY(i j:Nat):GG:=λw ω G Q=>match w with | .tup [a,b]=>Q ((ω.set i (some a)).set j (some b)) G | _=>False
variable {y:Str}{pos:Pos}{k j:Nat}
theorem N5{p e:Pos}(hc:X.calm=true)(d:X.N.Nodup)(hi:X.N[i]?=some x)(f:Loc X.env.scope x)(n:X.fn x=true\/X.env.scope.names.lookup x=some .local)
  (g:X.N[j]?=some y) (m:Loc X.env.scope y) (c:X.fn y=true\/X.env.scope.names.lookup y=some .local):TgW X (.Tuple [.Name x p,.Name y e] k pos) (AY i j) where
 ex:=⟨_,Hz hc (Do (CD d hi f n) (Do (CD d g m c) Hy)),λv w σ ω H G Q t o r q=>by
  unfold AY at q
  split at q
  ·rename_i a b
   cases t with
   | tup h l =>
    cases l with
    | cons ta l =>
     cases l with
     | cons tb l =>
      cases l
      exact⟨_,_,rfl,h,rfl,_,_,rfl,_,_,rfl,rfl,q _ H .refl ((o.set i ta).set j tb) r⟩
  ·exact q.elim⟩
 mono:=λw ω G Q s h q=>by
  unfold AY at q ⊢
  split
  ·exact h _ _ q
  ·rename_i z
   split at q
   ·exact(z _ _ rfl).elim
   ·exact q
def Bh(gd:Hw->Prop)(gg:GG)(gb:GS)(D:Ew):List W->Sw->Hw->Prop
 | [],ω,G=>gd G/\D.nx ω G
 | x::xs,ω,G=>gd G/\gg x ω G λω1 G1=>gb {nx:=Bh gd gg gb D xs,rt:=D.rt,bk:=D.nx,ct:=Bh gd gg gb D xs} ω1 G1
def AD(gi:GI)(gg:GG)(gb:GS):GS:=λD ω G=>gi ω G λws gd G1=>Bh gd gg gb D ws ω G1
theorem KG{d:Hw->Prop}{c:GG}{gb:GS}(mg:c.M)(e:gb.M){D f:Ew}(h1:∀ a b,D.nx a b->f.nx a b)(h2:∀ a b,D.rt a b->f.rt a b):∀(g:List W)(ω:Sw)(G:Hw),Bh d c gb D g ω G->Bh d c gb f g ω G
 | [],ω,G,q=>⟨q.1,h1 _ _ q.2⟩
 | x::xs,ω,G,q=>⟨q.1,mg _ _ _ _ _ (λω1 h z=>e _ _ {nx:=Bh d c gb D xs,rt:=D.rt,bk:=D.nx,ct:=Bh d c gb D xs} _ (λa b y=>KG mg e h1 h2 xs a b y) h2 h1 (λa b y=>KG mg e h1 h2 xs a b y) z) q.2⟩
variable {gi:GI}{gb:GS}
theorem Zv{a:GG}(e:gi.M)(mg:a.M)(d:gb.M):GS.M (AD gi a gb):=λω G D h h1 h2 i g q=>e _ _ _ _ (λc f b z=>KG mg d h1 h2 c ω b z) q
variable {c:GG}
theorem Zw{D:Ew}{a:List W}(q:Bh b c gb D a ω G):b G:=by
 cases a with
 | nil=>exact q.1
 | cons w a=>exact q.1
variable {iter:Expr}
theorem Zx{P:Hp->Prop}{tg:Expr}{body:List Stmt}{p:GG}(hp:PassesOwn (model X.prog X.w) X.A X.env X.xe)(hc:X.calm=true)(mi:gi.M)(mb:gb.M)(hi:PIw X tg iter gi)(hg:TgW X tg p)(hb:Dp X NT body gb)
  (hs:∀ x,foldedSetIterable iter X.env x=pure x:=by intro _;rfl):PSw X P (.For tg iter body [] pos) (AD gi p gb):=by
 intro B hB
 obtain⟨wi,E,hi⟩:=hi
 obtain⟨g,F,R⟩:=hg.ex
 have mg:=hg.mono
 have N:PSs X body (λD σ H=>∃ v,upS X.K v gb D σ H):=(by rintro pins s σ H D I ⟨v,z⟩;exact hb v trivial pins s σ H D I z)
 refine CT (Wa hp hc E F N hs) λD σ H S=>?_
 obtain⟨ω,G,Y,r,L,q⟩:=S
 refine hi σ H ω G _ _ Y r q λd gd G1 H1 J z m1 r1 hgd O=>?_
 have k:=L.trans m1
 refine⟨λi m σ' H'=>m=d.length - i/\i<=d.length/\Mono X.K H1 H'/\∃ ω' l,TrSt X.K H' σ' ω'/\RelH X.K H' l/\Bh gd p gb (dnD X.K B D) (d.drop i) ω' l,⟨d.length,by simp,YT _,.refl,ω,G1,Y.mono m1,r1,by simpa using z⟩,?_⟩
 rintro i m σ' H' ⟨rfl,hle,f,ω',l,o,r',n⟩
 have c:=Zw n
 by_cases j:i < d.length
 ·refine .inr ⟨O.go i H' l f r' c j,λσ2 H2=>Mono X.K H1 H2/\∃ ω2 Z,TrSt X.K H2 σ2 ω2/\RelH X.K H2 Z/\Bh gd p gb (dnD X.K B D) (d.drop (i+1)) ω2 Z,
   (by rintro σ2 H2 ⟨y1,y2⟩;exact⟨d.length -(i+1),by omega,rfl,j,y1,y2⟩),λx H2 y=>?_⟩
  obtain⟨U,ry,w,ew,tw⟩:=O.yld i H' l x H2 f r' c y j
  have f:=f.trans U
  have ed:d.drop i=w::d.drop (i+1):=by
   obtain⟨h',e'⟩:=YW.mp ew
   rw[<- e'];exact List.drop_eq_getElem_cons h'
  rw[ed]at n
  refine R x w σ' ω' _ l _ tw (o.mono U) ry (mg _ _ _ _ _ (λω1 u z1 σ1 H3 m3 T r3=>?_) n.2)
  exact⟨H1,ω1,u,T,r3,f.trans m3,mb _ _ _ _ (λa b y σ4 H4 Q h t=>⟨Q,a,b,h,t,y⟩) (λa b y=>Cr k y) (λa b y=>XC k y) (λa b y σ4 H4 Q h t=>⟨Q,a,b,h,t,y⟩) z1⟩
 ·have e:i=d.length:=by omega
  subst e
  rw[List.drop_length]at n
  exact .inl ⟨O.stop H' l f r' c,n.2 σ' H' (k.trans f) o r'⟩
def AV(gd:Hw->Prop)(gg:GG)(gt:GT)(ge:GE)(R:List W->Hw->Prop):List W->Sw->Hw->List W->Prop
 | [],_,G,ys=>gd G/\R ys G
 | x::xs,ω,G,ys=>gd G/\ys.length < sizeLine/\gg x ω G λω1 G1=>gt ω1 G1 λb G2=>if b=true then ge ω1 G2 λy G3=>AV gd gg gt ge R xs ω1 G3 (ys++[y])else AV gd gg gt ge R xs ω1 G2 ys
def AQ(gi:GI)(n:Nat)(gg:GG)(gt:GT)(ge:GE):GE:=λω G Q=>gi ω G λws gd G1=>AV gd gg gt ge (λys G2=>∀ p,G2 p=none->Q (.ref p) (put G2 p (.lst ys))) ws (List.replicate n none) G1 []
theorem HK{g:Hw->Prop}{c:GG}{gt:GT}{ge:GE}(mg:c.M)(e:gt.M)(d:ge.M){R f:List W->Hw->Prop}(h:∀ a b,R a b->f a b):∀(i:List W)(ω:Sw)(G:Hw)(ys:List W),AV g c gt ge R i ω G ys->AV g c gt ge f i ω G ys
 | [],ω,G,ys,q=>⟨q.1,h _ _ q.2⟩
 | x::xs,ω,G,ys,q=>⟨q.1,q.2.1,mg _ _ _ _ _ (λω1 n z=>e _ _ _ _ (λb m j=>by
   cases b with
   | true=>exact d _ _ _ _ (λy l k=>HK mg e d h xs ω1 l _ k) j
   | false=>exact HK mg e d h xs ω1 m _ j) z) q.2.2⟩
variable {n:Nat}{gt:GT}{ge:GE}
theorem Zy{a:GG}(c:gi.M)(mg:a.M)(e:gt.M)(d:ge.M):GE.M (AQ gi n a gt ge):=λω G Q j h q=>
 c _ _ _ _ (λi g f z=>HK mg e d (λys k z p b=>h _ _ (z p b)) _ _ _ _ z) q
variable {ys:List W}
theorem N6{R:List W->Hw->Prop}{a:List W}(q:AV b c gt ge R a ω G ys):b G:=by
 cases a with
 | nil=>exact q.1
 | cons w a=>exact q.1
def AA:GT:=λ_ G Q=>Q true G
theorem Zz:GT.M AA:=λ_ _ _ _ h q=>h _ _ q
abbrev PFw(X:Cx)(ifs:List Expr)(g:GT):Prop:=PF X ifs (upT X.K g)
theorem ZA:PFw X [] AA:=(by rintro pins s σ H Q I ⟨ω,G,a,r,q⟩;exact Xp pins s σ H Q I (q H .refl r))
theorem ZC{c:Expr}{g:GT}(h:PTw X c g):PFw X [c] g:=Xq h
theorem ZD(h:σ=List.replicate n none):TrSt K H σ (List.replicate n none):=by
 subst h
 refine⟨by simp,λi w e=>?_⟩
 rw[List.getElem?_replicate]at e
 split at e <;> cases e
variable {Nc:List Str}
theorem ZE{A:GG}{Z:TI}{g:TG}(L:∀(σ:St)(H:Hp)(ω:Sw)(G:Hw)(R:List W->(Hw->Prop)->Hw->Prop)(R0:It->Hp->Prop),TrSt X.K H σ ω->RelH X.K H G->gi ω G R->
   (∀ a o B H1 J,R a o B->Mono X.K H H1->RelH X.K H1 B->o B->D4 X.K H1 J a o->R0 J H1)->Z σ H R0)
  (S:∀(x:V)(w:W)(σ:St)(ω:Sw)(H:Hp)(G:Hw)(Q:St->Hp->Prop),Tr X.K H x w->TrSt X.K H σ ω->RelH X.K H G->A w ω G (dnS X.K H Q)->g x σ H Q) (mg:A.M) (mt:gt.M) (me:ge.M) (σ:St) (H:Hp) (Q:VK) (h:up X.K (AQ gi Nc.length A gt ge) σ H Q):
  HG Z (λ_=>List.replicate Nc.length none) g (upT X.K gt) (up X.K ge) σ H Q:=by
 obtain⟨ω,G,ts,r,q⟩:=h
 refine L σ H ω G _ _ ts r q λa o B H1 J z m1 r1 hgd P=>?_
 refine⟨λi m σ' H' T=>m=a.length - i/\i<=a.length/\Mono X.K H1 H'/\∃ ω' l ys,TrSt X.K H' σ' ω'/\RelH X.K H' l/\TrL X.K H' T ys/\AV o A gt ge (λys k=>∀ p,k p=none->dn X.K H Q (.ref p) (put k p (.lst ys))) (a.drop i) ω' l ys,
  ⟨a.length,by simp,YT _,.refl,_,B,[],ZD rfl,r1,.nil,by simpa using z⟩,?_⟩
 rintro i m σ' H' T ⟨rfl,hle,j,ω',l,ys,O,r',tv,s⟩
 have c:=N6 s
 by_cases f:i < a.length
 ·have hw:∃ w,a[i]?=some w:=⟨a[i],by simp[f]⟩
  obtain⟨w0,v⟩:=hw
  have ed:a.drop i=w0::a.drop (i+1):=by
   obtain⟨h',e'⟩:=YW.mp v
   rw[<- e'];exact List.drop_eq_getElem_cons h'
  rw[ed]at s
  refine .inr ⟨P.go i H' l j r' c f,by rw[tv.length];exact s.2.1,λσ2 H2 t=>Mono X.K H1 H2/\∃ ω2 k u,TrSt X.K H2 σ2 ω2/\RelH X.K H2 k/\TrL X.K H2 t u/\AV o A gt ge (λys k=>∀ p,k p=none->dn X.K H Q (.ref p) (put k p (.lst ys))) (a.drop (i+1)) ω2 k u,
   (by rintro σ2 H2 t ⟨y1,y2⟩;exact⟨a.length -(i+1),by omega,rfl,f,y1,y2⟩),λx H2 y=>?_⟩
  obtain⟨I,ry,w,ew,tw⟩:=P.yld i H' l x H2 j r' c y f
  have j:=j.trans I
  have tv:=tv.mono I
  rw[v]at ew;cases ew
  refine S x _ σ' ω' _ l _ tw (O.mono I) ry (mg _ _ _ _ _ (λω1 F z1 σ1 H3 D d r3=>?_) s.2.2)
  refine⟨ω1,F,d,r3,mt _ _ _ _ (λb Y z4 H4 n U=>?_) z1⟩
  cases b with
  | true=>exact⟨ω1,Y,d.mono n,U,me _ _ _ _ (λy5 G5 z5 v5 H5 N t5 r5=>⟨((j.trans D).trans n).trans N,ω1,G5,_,(d.mono n).mono N,r5,(((tv.mono D).mono n).mono N).append (.cons t5 .nil),z5⟩) z4⟩
  | false=>exact⟨(j.trans D).trans n,ω1,Y,_,d.mono n,U,(tv.mono D).mono n,z4⟩
 ·have e:i=a.length:=by omega
  subst e
  rw[List.drop_length]at s
  exact .inl ⟨P.stop H' l j r' c,λp E=>s.2 p (r'.no E) _ _ ((m1.trans j).trans (Mono.new E _)) (.ref p) (r'.new E tv)⟩
structure TgU(X:Cx)(Nc:List Str)(scope:Scope)(tg:Expr)(gg:GG):Prop where
 ex:∃ g:TG,(∀ C fp s H,PG (cxB X Nc scope [] C fp s H) tg g)/\∀(x:V)(w:W)(σ:St)(ω:Sw)(H:Hp)(G:Hw)(Q:St->Hp->Prop),Tr X.K H x w->TrSt X.K H σ ω->RelH X.K H G->gg w ω G (dnS X.K H Q)->g x σ H Q
 mono:gg.M
variable {scope:Scope}
theorem B8{p:Pos}(c:Nc.Nodup)(hi:Nc[i]?=some x)(a:scope.names.lookup x=some .local):TgU X Nc scope (.Name x p) (gNm i) where
 ex:=⟨CC i,λC b s H=>CD (X:=cxB X Nc scope [] C b s H) c hi (.inl (lookup_relabel_local a)) (.inr (lookup_relabel_local a)),λx w σ ω H G Q t d r q=>q _ H .refl (d.set i t) r⟩
 mono:=λ_ _ _ _ _ h q=>h _ _ q
theorem N7:GG.M (AY i j):=λw ω G Q a h q=>by
 unfold AY at q ⊢
 split
 ·exact h _ _ q
 ·rename_i z
  split at q
  ·exact(z _ _ rfl).elim
  ·exact q
theorem Gp{p f:Pos}(hc:X.calm=true)(c:Nc.Nodup)(hi:Nc[i]?=some x)(e:scope.names.lookup x=some .local)(g:Nc[j]?=some y)(d:scope.names.lookup y=some .local):
  TgU X Nc scope (.Tuple [.Name x p,.Name y f] k pos) (AY i j) where
 ex:=⟨Cl X.K 2 (BT (CC i) (BT (CC j) Ch)),λC n s H=>Hz (X:=cxB X Nc scope [] C n s H) hc (Do (CD c hi (.inl (lookup_relabel_local e)) (.inr (lookup_relabel_local e))) (Do (CD c g (.inl (lookup_relabel_local d)) (.inr (lookup_relabel_local d))) Hy)),
  λv w σ ω H G Q t m r q=>by
   unfold AY at q
   split at q
   ·rename_i a b
    cases t with
    | tup h l =>
     cases l with
     | cons ta l =>
      cases l with
      | cons tb l =>
       cases l
       exact⟨_,_,rfl,h,rfl,_,_,rfl,_,_,rfl,rfl,q _ H .refl ((m.set i ta).set j tb) r⟩
   ·exact q.elim⟩
 mono:=N7
theorem ZF{elt tg:Expr}{ifs:List Expr}{d:GG}(hc:X.calm=true)(hi:PIw X tg iter gi)(B:Blk X Nc scope [] (λ_=>List.replicate Nc.length none))
  (e:TgU X Nc scope tg d) (j:gt.M) (f:∀ C fp s H,PFw (cxB X Nc scope [] C fp s H) ifs gt) (i:ge.M) (h:∀ C fp s H,PEw (cxB X Nc scope [] C fp s H) elt ge) (hs:∀ x,foldedSetIterable iter X.env x=pure x):
  PEw X (.ListComp elt [⟨tg,iter,ifs,0⟩] scope pos) (AQ gi Nc.length d gt ge):=by
 obtain⟨k,c,hi⟩:=hi
 obtain⟨g,a,b⟩:=e.ex
 exact Bg (NO hc c B a f h hs) (ZE hi b e.mono j i)
def Ay(C:Int->Int->Prop)(f:Int->Int->Int):RW2:=λx y G Q=>match x,y with
 | .int i,.int j=>C i j/\Q (.int (f i j)) G
 | _,_=>False
theorem Dc{C:Int->Int->Prop}{f:Int->Int->Int}:RW2.M (Ay C f):=λx y G Q a h q=>by
 cases x <;> cases y <;> first | exact q | exact⟨q.1,h _ _ q.2⟩
theorem Gq{C:Int->Int->Prop}{f:Int->Int->Int}(x y:W)(v u:V)(G:Hw)(H:Hp)(Q:VK)(a:Tr K H v x)(ty:Tr K H u y)(r:RelH K H G)(q:Ay C f x y G (dn K H Q)):rI C (λi j=>.int (f i j)) v u H Q:=by
 cases a <;> first | exact q.elim |(cases ty <;> first | exact q.elim | exact⟨_,_,rfl,rfl,q.1,q.2 _ H .refl (.int _) r⟩)
def Bo:RW2:=λx y G Q=>match x,y with
 | .int i,.int j=>Q (.int (i+j)) G
 | .str a,.str b=>a.length+b.length<=sizeLine/\Q (.str (a++b)) G
 | .ref a,.ref b=>(match G a,G b with
  | some (.lst xs),some (.lst ys)=>xs.length+ys.length<=sizeLine/\∀ p,G p=none->Q (.ref p) (put G p (.lst (xs++ys)))
  | _,_=>False)
 | _,_=>False
theorem KH:RW2.M Bo:=λx y G Q g h q=>by
 cases x <;> cases y <;> first | exact q | exact h _ _ q | exact⟨q.1,h _ _ q.2⟩| skip
 rename_i a b
 unfold Bo at q ⊢
 dsimp only at q ⊢
 cases c:G a with
 | none=>rw[c]at q;exact q
 | some d =>
  cases eb:G b with
  | none=>rw[c,eb]at q;cases d <;> exact q
  | some f =>
   rw[c,eb]at q
   cases d <;> cases f <;> first | exact q | exact⟨q.1,λp e=>h _ _ (q.2 p e)⟩
theorem N8:OpR X (binaryOp .Add) (λx y H Q=>(rI0 λi j=>.int (i+j)) x y H Q\/(∃ i j,x=.str i/\y=.str j/\i.length+j.length<=sizeLine/\Q (.str (i++j)) H)\/Gm x y H Q):=OpR.or Wf (OpR.or WC Xf)
theorem N9(x y:W)(v u:V)(G:Hw)(H:Hp)(Q:VK)(n:Tr K H v x)(ty:Tr K H u y)(r:RelH K H G)(q:Bo x y G (dn K H Q)):
  (rI0 λi j=>.int (i+j)) v u H Q\/(∃ i j,v=.str i/\u=.str j/\i.length+j.length<=sizeLine/\Q (.str (i++j)) H)\/Gm v u H Q:=by
 cases n with
 | int i=>cases ty <;> first | exact q.elim | exact .inl ⟨_,_,rfl,rfl,q _ H .refl (.int _) r⟩
 | str i=>cases ty <;> first | exact q.elim | exact .inr (.inl ⟨_,_,rfl,rfl,q.1,q.2 _ H .refl (.str _) r⟩)
 | ref a =>
  cases ty <;> try exact q.elim
  rename_i b
  unfold Bo at q
  dsimp only at q
  cases c:G a with
  | none=>rw[c]at q;exact q.elim
  | some f =>
   cases eb:G b with
   | none=>rw[c,eb]at q;cases f <;> exact q.elim
   | some k =>
    rw[c,eb]at q
    cases f <;> cases k <;> try exact q.elim
    obtain⟨h,l,g⟩:=r a _ c
    obtain⟨m,o,e⟩:=r b _ eb
    exact .inr (.inr ⟨a,b,h,m,rfl,rfl,l,o,by rw[g.length,e.length];exact q.1,λp d=>q.2 p (r.no d) _ _ (Mono.new d _) (.ref p) (r.new d (g.append e))⟩)
 | _=>exact q.elim
def Bb(f:Int->Int->Bool):RW2:=λx y G Q=>match x,y with
 | .int i,.int j=>Q (.bl (f i j)) G
 | _,_=>False
variable {f:Int->Int->Bool}
theorem Oa:RW2.M (Bb f):=λx y G Q a h q=>by
 cases x <;> cases y <;> first | exact q | exact h _ _ q
theorem Ob(x y:W)(v u:V)(G:Hw)(H:Hp)(Q:VK)(a:Tr K H v x)(ty:Tr K H u y)(r:RelH K H G)(q:Bb f x y G (dn K H Q)):rI0 (λi j=>.bl (f i j)) v u H Q:=by
 cases a <;> first | exact q.elim |(cases ty <;> first | exact q.elim | exact⟨_,_,rfl,rfl,q _ H .refl (.bl _) r⟩)
def opt(o:Option W)(f:W->Prop):Prop:=match o with | some w=>f w | none=>False
theorem KI{o:Option W}{f a:W->Prop}(h:∀ w,f w->a w)(q:opt o f):opt o a:=by
 cases o with
 | none=>exact q
 | some w=>exact h _ q
theorem CV{o:Option W}{f:W->Prop}(q:opt o f):∃ w,o=some w/\f w:=by
 cases o with
 | none=>exact q.elim
 | some w=>exact⟨w,rfl,q⟩
def Ae(f:W->W->Hw->Option W):RW2:=λx y G Q=>opt (f x y G) λw=>Q w G
theorem D5{f:W->W->Hw->Option W}:RW2.M (Ae f):=λx y G Q a h q=>KI (λw z=>h _ _ z) q
def ixW(x y:W)(G:Hw):Option W:=match x,y with
 | .tup xs,.int i=>atI xs i
 | .rol xs,.int i=>atI xs i
 | .ref a,.int i=>(match G a with | some (.lst xs)=>atI xs i | _=>none)
 | .str z,.int i=>if z.length<=sizeLine then(atI z.cps.toList i).map λc=>.str ⟨#[c]⟩else none
 | _,_=>none
theorem KJ{a:List W}{i:Int}(t:TrL K H vs a)(e:atI a i=some w):∃ v,atI vs i=some v/\Tr K H v w:=by
 unfold atI at e ⊢
 rw[t.length]
 cases z:ixN a.length i with
 | none=>rw[z]at e;cases e
 | some j =>
  rw[z]at e
  exact t.get e
theorem ZG:IxR X (λx y H Q=>Ko X.K x y H Q\/Kp X.K x y H Q\/Kq x y H Q):=IxR.or WY (IxR.or WZ W0)
theorem ZH(x y:W)(v u:V)(G:Hw)(H:Hp)(Q:VK)(n:Tr K H v x)(ty:Tr K H u y)(r:RelH K H G)(q:Ae ixW x y G (dn K H Q)):Ko K v u H Q\/Kp K v u H Q\/Kq v u H Q:=by
 obtain⟨w,e,f⟩:=CV q
 cases ty with
 | int i =>
  cases n with
  | tup h l =>
   obtain⟨j,d,t'⟩:=KJ l e
   exact .inr (.inl ⟨_,_,_,_,rfl,rfl,h,d,f _ H .refl t' r⟩)
  | rol h l =>
   obtain⟨j,d,t'⟩:=KJ l e
   exact .inl ⟨_,_,_,_,rfl,rfl,h.sq,d,f _ H .refl t' r⟩
  | str z =>
   unfold ixW at e;dsimp only at e
   split at e
   ·rename_i k
    cases b:atI z.cps.toList i with
    | none=>rw[b]at e;cases e
    | some c =>
     rw[b]at e;cases e
     exact .inr (.inr ⟨z,i,c,rfl,rfl,k,b,f _ H .refl (.str _) r⟩)
   ·cases e
  | ref a =>
   unfold ixW at e;dsimp only at e
   cases g:G a with
   | none=>rw[g]at e;cases e
   | some o =>
    rw[g]at e
    cases o with
    | exc C=>cases e
    | ins C fs=>cases e
    | dct m=>cases e
    | lst s =>
     obtain⟨p,b,l⟩:=r a _ g
     obtain⟨j,d,t'⟩:=KJ l e
     exact .inl ⟨_,_,_,_,rfl,rfl,SqL.of b,d,f _ H .refl t' r⟩
  | _=>cases e
 | _=>cases x <;> cases e
structure Em(X:Cx)(e:Expr)(g:GE):Prop where
 p:PEw X e g
 m:g.M
structure Tm(X:Cx)(e:Expr)(g:GT):Prop where
 p:PTw X e g
 m:g.M
structure Wm(X:Cx)(e:Expr)(g:GT):Prop where
 p:PWw X e g
 m:g.M
structure Am(X:Cx)(es:List Expr)(g:GA):Prop where
 p:PAw X es g
 m:g.M
structure Sm(X:Cx)(P:Hp->Prop)(s:Stmt)(g:GS):Prop where
 p:PSw X P s g
 m:g.M
structure Ssm(X:Cx)(P:Hp->Prop)(s:List Stmt)(g:GS):Prop where
 p:Dp X P s g
 m:g.M
structure Im(X:Cx)(tg l:Expr)(g:GI):Prop where
 p:PIw X tg l g
 m:g.M
def place(N:List Str)(x:Str):Option Nat:=N.findIdx? (·==x)
theorem ZI(h:place N x=some i):N[i]?=some x:=by
 unfold place at h
 obtain⟨hi,e,_⟩:=List.findIdx?_eq_some_iff_getElem.mp h
 rw[Yp hi,eq_of_beq e]
def seen(sc:Scope)(x:Str):Bool:=match sc.names.lookup x with | some .local=>true | some .cell=>true | some .free=>true | _=>false
theorem Oc{a:Scope}(h:seen a x=true):Vis a x:=by
 unfold seen at h
 split at h <;> first |(rename_i e;exact .inl e)|(rename_i e;exact .inr (.inl e))|(rename_i e;exact .inr (.inr e))| cases h
def Gr(sc:Scope)(x:Str):Bool:=match sc.names.lookup x with | some .local=>true | _=>false
theorem Gs{a:Scope}(h:Gr a x=true):a.names.lookup x=some .local:=by
 unfold Gr at h
 split at h
 ·rename_i e;exact e
 ·cases h
section
variable {X:Cx} {a b c e f:Expr} {es Ao:List Expr} {st:Stmt} {sts sts':List Stmt} {pos pos' p:Pos} {ga gb gc:GE} {gt gu:GT} {gs:GA} {g1 g2:GS} {ex:Xw} {P:Hp->Prop}
theorem Gu{i:Int}{j}:Em X (.Constant (.int i) j pos) (gC (.int i)):=⟨XG,FA⟩
theorem ZJ{i:Bool}{j}:Em X (.Constant (.bool i) j pos) (gC (.bl i)):=⟨XH,FA⟩
theorem ZK{j}:Em X (.Constant .none j pos) (gC .non):=⟨XI,FA⟩
theorem KM{i:Str}{j}:Em X (.Constant (.str i) j pos) (gC (.str i)):=⟨XJ,FA⟩
theorem ZL(c:Em X a ga)(d:Em X b gb):Em X (.BinOp a .Add b pos) (Ad Bo ga gb):=⟨D3 N8 KH c.m d.m N9 c.p d.p,Cs KH c.m d.m⟩
theorem ZM(c:Em X a ga)(d:Em X b gb):Em X (.BinOp a .Sub b pos) (Ad (Ay (λ_ _=>True) λi j=>i - j) ga gb):=
 ⟨D3 (r2:=rI (λ_ _=>True) λi j=>.int (i - j)) (opI λ_ _ _ _ _ _ _ _ q=>sub_int q) Dc c.m d.m Gq c.p d.p,Cs Dc c.m d.m⟩
theorem Zip(c:Em X a ga)(d:Em X b gb):Em X (.BinOp a .Mult b pos) (Ad (Ay CMul λi j=>i*j) ga gb):=⟨D3 Nk Dc c.m d.m Gq c.p d.p,Cs Dc c.m d.m⟩
theorem ZN(c:Em X a ga)(d:Em X b gb):Em X (.BinOp a .FloorDiv b pos) (Ad (Ay EN λi j=>i / j) ga gb):=⟨D3 Wg Dc c.m d.m Gq c.p d.p,Cs Dc c.m d.m⟩
theorem ZO(c:Em X a ga)(d:Em X b gb):Em X (.BinOp a .Mod b pos) (Ad (Ay (λ_ j=>0 < j) λi j=>i % j) ga gb):=⟨D3 Wh Dc c.m d.m Gq c.p d.p,Cs Dc c.m d.m⟩
theorem ZP(c:Em X a ga)(d:Em X b gb):Em X (.BinOp a .Pow b pos) (Ad (Ay EO λi j=>i ^ j.toNat) ga gb):=⟨D3 Wi Dc c.m d.m Gq c.p d.p,Cs Dc c.m d.m⟩
theorem ZQ(hs:HE b)(c:Em X a ga)(d:Em X b gb):Em X (.Subscript a b pos) (Ad (Ae ixW) ga gb):=⟨NV ZG D5 c.m d.m ZH c.p d.p hs,Cs D5 c.m d.m⟩
theorem KN{k}(h:Am X es gs):Em X (.Tuple es k pos) (Ah gs):=⟨Zk h.m h.p,Zi h.m⟩
theorem Od(h:Am X es gs):Em X (.List es pos) (Ap gs):=⟨Zl h.m h.p,Zj h.m⟩
variable {op:BoolOp}
theorem KO(h:Em X a ga):Em X (.BoolOp op [a] pos) ga:=⟨Zd h.p,h.m⟩
theorem KP(c:Em X a ga)(d:Em X (.BoolOp .And (b::Ao) pos) gb):Em X (.BoolOp .And (a::b::Ao) pos) (B2 ga gb):=⟨Ze c.m d.m c.p d.p,Y9 c.m d.m⟩
theorem ZR(c:Em X a ga)(d:Em X (.BoolOp .Or (b::Ao) pos) gb):Em X (.BoolOp .Or (a::b::Ao) pos) (C9 ga gb):=⟨Zf c.m d.m c.p d.p,Za c.m d.m⟩
theorem ZS(b:Em X a ga):Em X (.UnaryOp .Not a pos) (Da ga):=⟨Zg b.m b.p,Zb b.m⟩
theorem ZT(hc:Tm X c gt)(d:Em X a ga)(e:Em X b gb):Em X (.IfExp c a b pos) (BH gt ga gb):=⟨Zh hc.m d.m e.m hc.p d.p e.p,Zc hc.m d.m e.m⟩
theorem Be:Am X [] Ac:=⟨XN,NW⟩
theorem AU(b:starEach (e::es) X.env=(false,eval e X.env)::starEach es X.env)(a:Em X e ga)(hs:Am X es gs):Am X (e::es) (Aa ga gs):=⟨XO a.m hs.m a.p hs.p b,NX a.m hs.m⟩
theorem FE{sp:Spw}(D:Df X.prog X.w X.K X.mg X.base x k n sp)(f:Room k X.A)(h:Gl X x)(d:FC X ex)(c:(x==("__debug__":Str))=false)(g:starEach (e::es) X.env=(false,eval e X.env)::starEach es X.env)(b:(backTo pos (starEach es X.env)).any (·.1)=false)
  (a:Am X (e::es) gs):Em X (.Call (.Name x p) (e::es) [] pos) (Ag sp ex gs):=⟨XR D f h d a.m a.p c g b,XQ D.mono a.m⟩
theorem Gv(c:∀ a,isTrue e X.env a=(do let v <- a;standAt e.pos;holding [v] (truthy v)))(b:Em X e ga):Tm X e (AO ga):=⟨X9 b.m b.p c,X7 b.m⟩
theorem Gx(b:Tm X a gt):Tm X (.UnaryOp .Not a pos) (gNt gt):=⟨Y1 b.p,Y0 b.m⟩
theorem Oe{vs:List Expr}(h:Wm X (.BoolOp op vs pos) gt):Tm X (.BoolOp op vs pos) gt:=⟨Y8 h.p,h.m⟩
theorem ZU(h:Tm X a gt):Wm X (.BoolOp .And [a] pos) gt:=⟨Y4 h.p,h.m⟩
theorem Of(h:Tm X a gt):Wm X (.BoolOp .Or [a] pos) gt:=⟨Y5 h.p,h.m⟩
theorem ZV(c:Tm X a gt)(d:Wm X (.BoolOp .And (b::Ao) pos) gu):Wm X (.BoolOp .And (a::b::Ao) pos) (A1 gt gu):=⟨Y6 c.m d.m c.p d.p,Y2 c.m d.m⟩
theorem KQ(c:Tm X a gt)(d:Wm X (.BoolOp .Or (b::Ao) pos) gu):Wm X (.BoolOp .Or (a::b::Ao) pos) (gOr gt gu):=⟨Y7 c.m d.m c.p d.p,Y3 c.m d.m⟩
theorem Ct:Ssm X P [] Al:=⟨XX,XU⟩
theorem A5(h:Sm X P st g1):Ssm X P [st] g1:=⟨XZ h.p,h.m⟩
theorem Ax(h1:Sm X P st g1)(h2:Ssm X P sts g2):Ssm X P (st::sts) (Af g1 g2):=⟨XY h1.m h2.m h1.p h2.p,XW h1.m h2.m⟩
theorem Bq(a:Em X e ga):Sm X P (.Return (some e) pos) (Ai ga):=⟨X1 a.m a.p,X0 a.m⟩
theorem ET(hs:swapsWith e none pos.line X.env=pure false)(a:Em X e ga):Sm X P (.Expr e pos) (Aw ga):=⟨X3 a.m a.p hs,X2 a.m⟩
theorem Cc(hc:Tm X c gt)(h1:Ssm X P sts g1)(h2:Ssm X P sts' g2):Sm X P (.If c sts sts' pos) (gIf gt g1 g2):=⟨X5 hc.m h1.m h2.m hc.p h1.p h2.p,X4 hc.m h1.m h2.m⟩
theorem ZW{tg:Expr}(a:∀ b u,letOwnedTupleGo tg b u=pure ())(hl:Em X l ga):Im X tg l (Au ga):=⟨Zu a hl.m hl.p,Zr hl.m⟩
theorem CW{tg:Expr}{c:GG}{gb:GS}(d:PassesOwn (model X.prog X.w) X.A X.env X.xe)(hc:X.calm=true)(hs:∀ x,foldedSetIterable iter X.env x=pure x)(hi:Im X tg iter gi)(b:TgW X tg c)(a:Ssm X NT sts gb):Sm X P (.For tg iter sts [] pos) (AD gi c gb):=
 ⟨Zx d hc hi.m a.m hi.p b a.p hs,Zv hi.m b.mono a.m⟩
end
theorem ZX{bs:List Bool}{a:List Value}(r:Vals (bs.map V.bl) a){v:Value}(e:a.toArray[i]?=some v):v=.bool (bs.getD i false):=by
 have c:a[i]?=some v:=by simpa using e
 have hl:=r.length
 rw[Yh]at hl
 have hi:i < a.length:=(YW.mp c).1
 have d:bs[i]?=some (bs[i]'(by omega)):=Yp _
 obtain⟨u,b,r1⟩:=r.get (i:=i) (x:=.bl (bs[i]'(by omega))) (by rw[YM,d];rfl)
 rw[c]at b;cases b
 rw[YZ,d]
 exact r1
theorem ZY{bs:List Bool}:(List.range bs.length).all (λi=>bs.getD i false)=bs.all id:=by
 rw[Bool.eq_iff_iff]
 simp only[List.all_eq_true,List.mem_range,id]
 constructor
 ·intro h b a
  obtain⟨i,hi,e⟩:=List.mem_iff_getElem.mp a
  have:=h i hi
  rw[YZ,Yp hi]at this
  rw[<- e];exact this
 ·intro h i hi
  rw[YZ,Yp hi]
  exact h _ (Qe hi)
section
variable {X:Cx}
theorem ZZ(hc:X.calm=true):CallR X (.builtin "all") (λxs H Q=>∃(p:Addr)(bs:List Bool),xs=[.ref p]/\SqL X.K H p (bs.map V.bl)/\Q (.bl (bs.all id)) H):=by
 intro pins s σ H xs j Q I r h
 obtain⟨p,bs,rfl,c,q⟩:=h
 obtain⟨u,rfl,f⟩:=Cq r
 cases f
 obtain⟨a,r',pl,g⟩:=I.list c
 have hl:=r'.length
 rw[Yh]at hl
 obtain⟨o,n,e,_⟩:=id pl
 refine call_all_walk (wpAny_pyIter_list pl.isList ⟨s.heap.objs.size,_,_,_,_,_,λi=>bs.getD i false,rfl,Walks.list (A:=X.A.in1) (I.ok.hd hc) _ p (Ys (Qj e)) a.toArray,
  ⟨⟨_,Qk _ rfl,rfl,rfl⟩,pl.isList.push _⟩,λi v s Q E d c=>by rw[ZX r' d];exact wpAny_truthy_bool c,λh' tk k=>?_⟩)
 refine⟨.bl (bs.all id),H,I.kept (t':=tk) λb o e=>k b o (by simpa using Ys (Qj e)) (Qi _ e),?_,q⟩
 show Value.bool _=_
 rw[Yn,<- hl,ZY]
theorem KR{ns:List Int}{a:List Value}(r:Vals (ns.map V.int) a){v:Value}(e:a.toArray[i]?=some v):∃ t,v=.int (ns.getD i 0) t:=by
 have c:a[i]?=some v:=by simpa using e
 have hl:=r.length
 rw[Yh]at hl
 have hi:i < a.length:=(YW.mp c).1
 have d:ns[i]?=some (ns[i]'(by omega)):=Yp _
 obtain⟨u,b,r1⟩:=r.get (i:=i) (x:=.int (ns[i]'(by omega))) (by rw[YM,d];rfl)
 rw[c]at b;cases b
 rw[YZ,d]
 exact r1
theorem Z0(hc:X.calm=true):CallR X (.builtin "sum") (λxs H Q=>∃(p:Addr)(ns:List Int),xs=[.ref p]/\SqL X.K H p (ns.map V.int)/\PyProof.Rows.SumFits ns/\Q (.int ns.sum) H):=by
 intro pins s σ H xs x Q I r h
 obtain⟨p,ns,rfl,m,t,q⟩:=h
 obtain⟨u,rfl,l⟩:=Cq r
 cases l
 obtain⟨a,r',pl,w⟩:=I.list m
 have hl:=r'.length
 rw[Yh]at hl
 obtain⟨o,n,e,_⟩:=id pl
 refine call_sum_walk (wpAny_pyIter_list pl.isList ⟨s.heap.objs.size,_,_,_,_,_,λi=>ns.getD i 0,rfl,Walks.list (A:=X.A.in1) (I.ok.hd hc) _ p (Ys (Qj e)) a.toArray,
  ⟨⟨_,Qk _ rfl,rfl,rfl⟩,pl.isList.push _⟩,λb g=>?_,λi v f=>KR r' f,λj d=>?_,λh' tk t' k=>?_⟩)
 ·rw[Ql]
  rcases Yo.mp g with c | c
  ·rw[c];exact Nat.lt_succ_self _
  ·rw[YA.mp c];exact Nat.lt_succ_of_lt (Qj e)
 ·rw[Yn,<- hl]at d
  have:=t j d
  rw[preSum_getD]
  exact this
 ·refine⟨.int ns.sum,H,I.kept (t':=tk) λb o e=>k b o (by simpa using Ys (Qj e)) (Qi _ e),⟨t',?_⟩,q⟩
  rw[Yn,<- hl,preSum_getD,List.take_length]
end
abbrev RWc:=List W->Hw->Kw->Prop
def RWc.M(r:RWc):Prop:=∀ ws G(Q Q':Kw),(∀ w G',Q w G'->Q' w G')->r ws G Q->r ws G Q'
def gB(r:RWc)(gs:GA):GE:=λω G Q=>gs ω G λws G1=>r ws G1 Q
variable {r:RWc}{gs:GA}
theorem Og(b:r.M)(a:gs.M):GE.M (gB r gs):=λω G Q e h q=>a _ _ _ _ (λd c z=>b _ _ _ _ h z) q
theorem Oh{r1:List V->Hp->VK->Prop}(g:r.M)(c:gs.M)(e:∀ a vs G H Q,TrL K H vs a->RelH K H G->r a G (dn K H Q)->r1 vs H Q)(σ:St)(H:Hp)(Q:VK)(h:up K (gB r gs) σ H Q):tCB r1 (upA K gs) σ H Q:=by
 obtain⟨ω,G,i,f,q⟩:=h
 exact⟨ω,G,i,f,c _ _ _ _ (λa d z vs H1 m t b=>e a vs d H1 Q t b (g _ _ _ _ (λw j y=>Cr m y) z)) q⟩
section
variable {X:Cx} {x:Str} {p pos:Pos} {e:Expr} {es:List Expr} {gs:GA} {r:RWc} {r1:List V->Hp->VK->Prop} {id T:String}
theorem Z1(hc:CallR X (.builtin id) r1)(f:r.M)(h:∀ d vs G H Q,TrL X.K H vs d->RelH X.K H G->r d G (dn X.K H Q)->r1 vs H Q)(l:Gl X x)(i:X.mg x=none)(k:bootBuiltins x=some (.builtin id))(g:x≠"__name__")(c:(x==("__debug__":Str))=false)
  (j:starEach (e::es) X.env=(false,eval e X.env)::starEach es X.env) (b:(backTo pos (starEach es X.env)).any (·.1)=false) (a:Am X (e::es) gs):Em X (.Call (.Name x p) (e::es) [] pos) (gB r gs):=
 ⟨Bg (WM hc l i k a.p g c j b) (Oh f a.m h),Og f a.m⟩
theorem Z2(hc:CallR X (.type T) r1)(f:r.M)(h:∀ d vs G H Q,TrL X.K H vs d->RelH X.K H G->r d G (dn X.K H Q)->r1 vs H Q)(l:Gl X x)(i:X.mg x=none)(k:bootBuiltins x=some (.type T))(g:x≠"__name__")(c:(x==("__debug__":Str))=false)
  (j:starEach (e::es) X.env=(false,eval e X.env)::starEach es X.env) (b:(backTo pos (starEach es X.env)).any (·.1)=false) (a:Am X (e::es) gs):Em X (.Call (.Name x p) (e::es) [] pos) (gB r gs):=
 ⟨Bg (WN hc l i k a.p g c j b) (Oh f a.m h),Og f a.m⟩
end
def rF(f:List W->Hw->Option W):RWc:=λws G Q=>opt (f ws G) λw=>Q w G
theorem Gy{f:List W->Hw->Option W}:RWc.M (rF f):=λa G Q b h q=>KI (λw z=>h _ _ z) q
def EU:List W->Option (List Bool)
 | []=>some []
 | .bl b::r=>(EU r).map (b::·)
 | _=>none
theorem Oi:∀{a:List W}{bs:List Bool}{vs:List V},EU a=some bs->TrL K H vs a->vs=bs.map V.bl
 | [],bs,vs,e,t=>by cases e;cases t;rfl
 | w::a,bs,vs,e,t=>by
  cases t with
  | cons c t =>
   cases w with
   | bl b =>
    unfold EU at e
    cases z:EU a with
    | none=>rw[z]at e;cases e
    | some d =>
     rw[z]at e;cases e
     rw[ER c,Oi z t];rfl
   | _=>cases e
def D6:List W->Option (List Int)
 | []=>some []
 | .int b::r=>(D6 r).map (b::·)
 | _=>none
theorem KU:∀{a:List W}{bs:List Int}{vs:List V},D6 a=some bs->TrL K H vs a->vs=bs.map V.int
 | [],bs,vs,e,t=>by cases e;cases t;rfl
 | w::a,bs,vs,e,t=>by
  cases t with
  | cons c t =>
   cases w with
   | int b =>
    unfold D6 at e
    cases z:D6 a with
    | none=>rw[z]at e;cases e
    | some d =>
     rw[z]at e;cases e
     rw[N0 c,KU z t];rfl
   | _=>cases e
def Dq(G:Hw)(w:W):Option (List W):=match w with
 | .ref a=>(match G a with | some (.lst xs)=>some xs | _=>none)
 | _=>none
theorem Gz{xs:List W}(r:RelH K H G)(t:Tr K H v w)(e:Dq G w=some xs):∃ a vs,v=.ref a/\w=.ref a/\G a=some (.lst xs)/\H a=some (.lst vs)/\TrL K H vs xs:=by
 cases t with
 | ref a =>
  unfold Dq at e;dsimp only at e
  cases z:G a with
  | none=>rw[z]at e;cases e
  | some o =>
   rw[z]at e
   cases o with
   | lst ys=>cases e;obtain⟨vs,b,c⟩:=r a _ z;exact⟨a,vs,rfl,rfl,z,b,c⟩
   | exc C=>cases e
   | ins C fs=>cases e
   | dct d=>cases e
 | _=>cases e
def By(ws:List W)(G:Hw):Option W:=match ws with | [w]=>(Dq G w).bind λxs=>(EU xs).map λbs=>.bl (bs.all id)| _=>none
theorem Z3(b:List W)(vs:List V)(G:Hw)(H:Hp)(Q:VK)(t:TrL K H vs b)(r:RelH K H G)(q:rF By b G (dn K H Q)):∃(p:Addr)(bs:List Bool),vs=[.ref p]/\SqL K H p (bs.map V.bl)/\Q (.bl (bs.all id)) H:=by
 obtain⟨w,e,j⟩:=CV q
 unfold By at e
 split at e
 ·rename_i l
  cases t with
  | cons g t =>
   cases t
   obtain⟨xs,f,k⟩:=Qb.mp e
   obtain⟨bs,i,d⟩:=YO.mp k
   obtain⟨a,m,rfl,rfl,_,c,h⟩:=Gz r g f
   subst d
   have:=Oi i h
   subst this
   exact⟨a,bs,rfl,SqL.of c,j _ H .refl (.bl _) r⟩
 ·cases e
def Cu:RWc:=λws G Q=>match ws with
 | [w]=>(match(Dq G w).bind D6 with | some ns=>PyProof.Rows.SumFits ns/\Q (.int ns.sum) G | none=>False)
 | _=>False
theorem Z4:RWc.M Cu:=λa G Q b h q=>by
 unfold Cu at q ⊢
 split at q
 ·split at q
  ·exact⟨q.1,h _ _ q.2⟩
  ·exact q.elim
 ·exact q.elim
theorem Z5(b:List W)(vs:List V)(G:Hw)(H:Hp)(Q:VK)(t:TrL K H vs b)(r:RelH K H G)(q:Cu b G (dn K H Q)):∃(p:Addr)(ns:List Int),vs=[.ref p]/\SqL K H p (ns.map V.int)/\PyProof.Rows.SumFits ns/\Q (.int ns.sum) H:=by
 unfold Cu at q
 split at q
 ·rename_i i
  split at q
  ·rename_i ns e
   cases t with
   | cons f t =>
    cases t
    obtain⟨xs,c,h⟩:=Qb.mp e
    obtain⟨a,j,rfl,rfl,_,g,d⟩:=Gz r f c
    have:=KU h d
    subst this
    exact⟨a,ns,rfl,SqL.of g,q.1,q.2 _ H .refl (.int _) r⟩
  ·exact q.elim
 ·exact q.elim
def B9(w:W)(G:Hw):Option W:=match w with
 | .tup xs=>some (.int xs.length)
 | .rol xs=>some (.int xs.length)
 | .str z=>if z.length<=sizeLine then some (.int z.length)else none
 | .ref a=>(match G a with | some (.lst xs)=>some (.int xs.length)| _=>none)
 | _=>none
def AZ(ws:List W)(G:Hw):Option W:=match ws with | [w]=>B9 w G | _=>none
theorem Z6(c:List W)(vs:List V)(G:Hw)(H:Hp)(Q:VK)(t:TrL K H vs c)(r:RelH K H G)(q:rF AZ c G (dn K H Q)):∃ x n,vs=[x]/\Nq K x H n/\Q (.int n) H:=by
 obtain⟨w,e,b⟩:=CV q
 unfold AZ at e
 split at e
 ·cases t with
  | cons i t =>
   cases t
   cases i with
   | tup h l=>cases e;exact⟨_,_,rfl,.inr ⟨_,h,rfl⟩,by rw[l.length];exact b _ H .refl (.int _) r⟩
   | rol h l=>cases e;exact⟨_,_,rfl,.inl ⟨_,h.sq,rfl⟩,by rw[l.length];exact b _ H .refl (.int _) r⟩
   | str z =>
    unfold B9 at e;dsimp only at e
    split at e
    ·rename_i d;cases e;exact⟨_,_,rfl,⟨d,rfl⟩,b _ H .refl (.int _) r⟩
    ·cases e
   | ref a =>
    unfold B9 at e;dsimp only at e
    cases z:G a with
    | none=>rw[z]at e;cases e
    | some o =>
     rw[z]at e
     cases o with
     | exc C=>cases e
     | ins C fs=>cases e
     | dct j=>cases e
     | lst xs =>
      cases e
      obtain⟨k,g,f⟩:=r a _ z
      exact⟨_,_,rfl,.inl ⟨_,SqL.of g,rfl⟩,by rw[f.length];exact b _ H .refl (.int _) r⟩
   | _=>cases e
 ·cases e
mutual
def eqD:W->W->Option Bool
 | .tup xs,.tup ys=>Bj xs ys
 | .non,.non=>some true
 | .bl a,.bl b=>some (a==b)
 | .bl a,.int b=>some ((if a then 1 else 0)==b)
 | .int a,.bl b=>some (a==(if b then 1 else 0))
 | .int a,.int b=>some (a==b)
 | .str a,.str b=>some (a==b)
 | .non,.int _=>some false
 | .int _,.non=>some false
 | .int _,.str _=>some false
 | .str _,.int _=>some false
 | .bl _,.str _=>some false
 | .str _,.bl _=>some false
 | .non,.str _=>some false
 | .str _,.non=>some false
 | .non,.bl _=>some false
 | .bl _,.non=>some false
 | .tup _,.str _=>some false
 | .str _,.tup _=>some false
 | .tup _,.bl _=>some false
 | .bl _,.tup _=>some false
 | .tup _,.int _=>some false
 | .int _,.tup _=>some false
 | _,_=>none
def Bj:List W->List W->Option Bool
 | [],[]=>some true
 | [],_::_=>some false
 | _::_,[]=>some false
 | x::xs,y::ys=>match eqD x y,Bj xs ys with
  | some a,some b=>some (a&&b)
  | _,_=>none
end
mutual
def dpW:W->Nat
 | .tup xs=>dpL xs+1
 | _=>0
def dpL:List W->Nat
 | []=>0
 | x::xs=>max (dpW x) (dpL xs)
end
def GB:W->Option V
 | .non=>some .non
 | .bl b=>some (.bl b)
 | .int i=>some (.int i)
 | .str x=>some (.str x)
 | _=>none
theorem Oj{f:V}(t:Tr K H v w)(e:GB w=some f):v=f/\C8 v=true:=by
 cases t <;> first | cases e;exact⟨rfl,rfl⟩| cases e
theorem HL:∀{xs ys:List W}{b:Bool},Bj xs ys=some b->∃ e:Nat->Bool,(∀(i:Nat)x y,xs[i]?=some x->ys[i]?=some y->eqD x y=some (e i))/\b=((List.range (min xs.length ys.length)).all e&&xs.length==ys.length)
 | [],[],b,h=>by
  cases(show some true=some b from h)
  exact⟨λ_=>true,λi x y h1 h2=>by simp at h1,by simp⟩
 | [],_::_,b,h=>by
  cases(show some false=some b from h)
  exact⟨λ_=>true,λi x y h1 h2=>by simp at h1,by simp⟩
 | _::_,[],b,h=>by
  cases(show some false=some b from h)
  exact⟨λ_=>true,λi x y h1 h2=>by simp at h2,by simp⟩
 | x::xs,y::ys,b,h=>by
  have h':(match eqD x y,Bj xs ys with | some a,some b=>some (a&&b)| _,_=>none)=some b:=by rw[<- h];rfl
  cases d:eqD x y with
  | none=>rw[d]at h';cases h'
  | some a =>
   cases g:Bj xs ys with
   | none=>rw[d,g]at h';cases h'
   | some c =>
    rw[d,g]at h'
    cases h'
    obtain⟨f,k,hc⟩:=HL g
    refine⟨λi=>match i with | 0=>a | j+1=>f j,λi n l h1 h2=>?_,?_⟩
    ·cases i with
     | zero=>simp at h1 h2;subst h1;subst h2;exact d
     | succ j=>exact k j n l (by simpa using h1) (by simpa using h2)
    ·have m:min (x::xs).length (y::ys).length=min xs.length ys.length+1:=by simp only[Yg];omega
     rw[m,List.range_succ_eq_map,List.all_cons,List.all_map,hc]
     have o:((x::xs).length==(y::ys).length)=(xs.length==ys.length):=by simp
     rw[o,Bool.and_assoc]
     rfl
theorem Ol:∀(xs:List W),(∀ x∈xs,eqD x x=some true\/eqD x x=none)->Bj xs xs=some true\/Bj xs xs=none
 | [],_=>.inl rfl
 | x::xs,h=>by
  have e:Bj (x::xs) (x::xs)=(match eqD x x,Bj xs xs with | some a,some b=>some (a&&b)| _,_=>none):=rfl
  rw[e]
  rcases h x Ye with h1 | h1
  ·rcases Ol xs (λy c=>h y (Yd _ c))with h2 | h2
   ·rw[h1,h2];exact .inl rfl
   ·rw[h1,h2];exact .inr rfl
  ·rw[h1];exact .inr rfl
theorem On:∀(x:W),eqD x x=some true\/eqD x x=none
 | .non=>.inl rfl
 | .bl b=>.inl (by show some (b==b)=_;simp)
 | .int b=>.inl (by show some (b==b)=_;simp)
 | .str b=>.inl (by show some (b==b)=_;simp)
 | .tup xs=>Ol xs (λx _=>On x)
 | .rol _=>.inr rfl
 | .ref _=>.inr rfl
theorem EV:∀{xs:List W}{x:W},x∈xs->dpW x<=dpL xs
 | y::xs,x,h=>by
  have e:dpL (y::xs)=max (dpW y) (dpL xs):=rfl
  rw[e]
  walk_at "pC"
  ·exact Nat.le_max_left ..
  ·exact Yt (EV h) (Nat.le_max_right ..)
theorem Z7:∀(c:List W)(ys:List W)(vs:List V),(∀(v:V)(w y:W),w∈c->Tr K H v w->Tr K H v y->eqD w y≠none->w=y)->TrL K H vs c->TrL K H vs ys->Bj c ys≠none->c=ys:=by
 intro c
 induction c with
 | nil =>
  intro ys vs _ l d _
  cases l
  cases d
  rfl
 | cons w c f =>
  intro ys vs h l d ne
  cases l with
  | cons t l =>
   cases d with
   | @cons _ y _ ys t' d =>
    have e:Bj (w::c) (y::ys)=(match eqD w y,Bj c ys with | some a,some b=>some (a&&b)| _,_=>none):=rfl
    have h1:eqD w y≠none:=λz=>ne (by rw[e,z])
    have h2:Bj c ys≠none:=λz=>ne (by rw[e,z];cases eqD w y <;> rfl)
    rw[h _ w y Ye t t' h1,f ys _ (λv w y g=>h v w y (Yd _ g)) l d h2]
variable {pins:List (Addr×Obj)}{s:Shared}
theorem Z8(I:Inv X pins σ H s)(n:Nat):∀(v:V)(w y:W),dpW w < n->Tr X.K H v w->Tr X.K H v y->eqD w y≠none->w=y:=by
 induction n with
 | zero=>intro v w y h;exact absurd h (Nat.not_lt_zero _)
 | succ n k =>
  intro v w y h j ty ne
  cases j with
  | tup i l =>
   rename_i a o d
   generalize b:V.ref a=vr at ty
   cases ty with
   | tup c g =>
    cases b
    have e:=I.tuple_inj i c
    subst e
    have m:dpL d+1 < n+1:=h
    rw[Z7 d _ _ (λv w y f=>k v w y (by have:=EV f;omega)) l g ne]
   | rol _ _=>exact absurd rfl ne
   | ref _=>exact absurd rfl ne
   | non=>cases b
   | bl _=>cases b
   | int _=>cases b
   | str _=>cases b
  | rol _ _=>exact absurd (by cases y <;> rfl) ne
  | ref _=>exact absurd (by cases y <;> rfl) ne
  | non=>cases ty;rfl
  | bl _=>cases ty;rfl
  | int _=>cases ty;rfl
  | str _=>cases ty;rfl
theorem Z9(I:Inv X pins σ H s)(n:Nat):∀(w y:W)(v u:V)(x G:Value)(b:Bool)(A:Around),dpW w < n->Tr X.K H v w->Tr X.K H u y->RelV v x->RelV u G->eqD w y=some b->A.units+n < cLine->SeqAt.EqAt A s x G b:=by
 induction n with
 | zero=>intro w _ _ _ _ _ _ _ h;exact absurd h (Nat.not_lt_zero _)
 | succ n ih =>
  intro w y v u x G b A h Y ty m i e hu
  cases Y with
  | tup k l =>
   cases ty with
   | tup q F =>
    rename_i a vs o N us ys
    cases m
    cases i
    by_cases p:a=N
    ·subst p
     have ew:=Z8 I (dpW (.tup o)+1) _ _ _ (Nat.lt_succ_self _) (.tup k l) (.tup q F) (by rw[e];simp)
     cases ew
     rcases On (.tup o)with z | z
     ·rw[e]at z;cases z;exact SeqAt.EqAt.same _
     ·rw[e]at z;cases z
    ·obtain⟨d,r1,p1,_⟩:=I.tuple k
     obtain⟨g,P,p2,_⟩:=I.tuple q
     obtain⟨f,Z,R⟩:=HL (show Bj o ys=some b from e)
     have l1:=r1.length
     have l2:=P.length
     have l3:=l.length
     have l4:=F.length
     refine SeqAt.EqAt.of_refs p ?_
     have key:=SeqAt.RcAt.tuples (A:=A) (s:=s) (e:=f) (show s.heap.IsTuple a d.toArray from p1) (show s.heap.IsTuple N g.toArray from p2) (by omega) (λj h1 h2=>?_)
     ·rw[R]
      have S:d.toArray.size=o.length:=by rw[Yn];omega
      have e2:g.toArray.size=ys.length:=by rw[Yn];omega
      rw[S,e2]at key
      exact key
     ·have B:j < o.length:=by rw[Yn]at h1;omega
      have O:j < ys.length:=by rw[Yn]at h2;omega
      obtain⟨v1,g1,Q⟩:=l.get (Yp B)
      obtain⟨v2,g2,U⟩:=F.get (Yp O)
      obtain⟨T,g3,r⟩:=r1.get g1
      obtain⟨u2,g4,L⟩:=P.get g2
      have J:d.toArray[j]=T:=by
       have z:d[j]?=some d[j]:=Yp (by omega)
       rw[g3]at z
       have D:=YD z
       rw[D];simp
      have E:g.toArray[j]=u2:=by
       have z:g[j]?=some g[j]:=Yp (by omega)
       rw[g4]at z
       have D:=YD z
       rw[D];simp
      rw[J,E]
      have hd:dpW (o[j])<=dpL o:=EV (Qe B)
      have hd2:dpL o+1 < n+1:=h
      exact ih _ _ _ _ _ _ _ A.in1 (by omega) Q U r L (Z j _ _ (Yp B) (Yp O)) (by show A.units+1+n < cLine;omega)
   | str _ =>
    cases e;cases m;obtain⟨t,rfl⟩:=i
    obtain⟨d,r1,p1,_⟩:=I.tuple k
    exact SeqAt.EqAt.tuple_str (A:=A) _ _ p1 (by omega)
   | bl _ =>
    cases e;cases m;cases i
    obtain⟨d,r1,p1,_⟩:=I.tuple k
    exact SeqAt.EqAt.tuple_bool _ p1 (by omega)
   | int _ =>
    cases e;cases m;obtain⟨t,rfl⟩:=i
    obtain⟨d,r1,p1,_⟩:=I.tuple k
    exact SeqAt.EqAt.tuple_int (A:=A) _ _ p1 (by omega)
   | _=>cases e
  | non=>cases ty <;> cases e <;> exact Gk m i rfl rfl
  | bl c =>
   cases ty with
   | tup k l =>
    cases e;cases m;cases i
    obtain⟨d,r1,p1,_⟩:=I.tuple k
    exact SeqAt.EqAt.bool_tuple _ p1 (by omega)
   | _=>cases e <;> exact Gk m i rfl rfl
  | int c =>
   cases ty with
   | tup k l =>
    cases e;cases i;obtain⟨t,rfl⟩:=m
    obtain⟨d,r1,p1,_⟩:=I.tuple k
    exact SeqAt.EqAt.int_tuple (A:=A) _ _ p1 (by omega)
   | _=>cases e <;> exact Gk m i rfl rfl
  | str c =>
   cases ty with
   | tup k l =>
    cases e;cases i;obtain⟨t,rfl⟩:=m
    obtain⟨d,r1,p1,_⟩:=I.tuple k
    exact SeqAt.EqAt.str_tuple (A:=A) _ _ p1 (by omega)
   | _=>cases e <;> exact Gk m i rfl rfl
  | rol _ _=>cases y <;> cases e
  | ref _=>cases y <;> cases e
def rSq(K:PySem.W.Frag)(neg:Bool):R2:=λv u H Q=>∃(a b:Addr)(vs us:List V)(ws ys:List W)(c:Bool),v=.ref a/\u=.ref b/\((SqT K H a vs/\SqT K H b us)\/(SqL K H a vs/\SqL K H b us))/\TrL K H vs ws/\TrL K H us ys/\dpL ws < 90/\Bj ws ys=some c/\Q (.bl (c != neg)) H
section
variable {X:Cx} {pins:List (Addr×Obj)} {σ:St} {H:Hp} {s:Shared}
theorem HM(I:Inv X pins σ H s){A:Around}{us:List V}{b:List W}{a its':List Value}(r1:Vals vs a)(r2:Vals us its')(m:TrL X.K H vs b)(n:TrL X.K H us ys)(hd:dpL b < 90)(t:A.units+100 < cLine){f:Nat->Bool}
  (q:∀(i:Nat)x y,b[i]?=some x->ys[i]?=some y->eqD x y=some (f i)) (j:Nat) (h1:j < a.toArray.size) (h2:j < its'.toArray.size):SeqAt.EqAt A.in1 s a.toArray[j] its'.toArray[j] (f j):=by
 have E:=r1.length
 have v:=r2.length
 have D:=m.length
 have u:=n.length
 have e:j < b.length:=by rw[Yn]at h1;omega
 have o:j < ys.length:=by rw[Yn]at h2;omega
 obtain⟨w,g1,c⟩:=m.get (Yp e)
 obtain⟨B,g2,k⟩:=n.get (Yp o)
 obtain⟨p,g3,d⟩:=r1.get g1
 obtain⟨r,g4,l⟩:=r2.get g2
 have h:a.toArray[j]=p:=by
  have z:a[j]?=some a[j]:=Yp (by omega)
  rw[g3]at z
  rw[YD z];simp
 have g:its'.toArray[j]=r:=by
  have z:its'[j]?=some its'[j]:=Yp (by omega)
  rw[g4]at z
  rw[YD z];simp
 rw[h,g]
 exact Z9 I 99 _ _ _ _ _ _ _ A.in1 (by have:=EV (Qe e);omega) c k d l (q j _ _ (Yp e) (Yp o)) (by show A.units+1+99 < cLine;omega)
end
theorem aa(t:X.A.units+100 < cLine):OpR X (compareOp .Eq) (rSq X.K false):=by
 intro pins s σ H x y v u Q I E B h
 obtain⟨a,b,G,N,p,ys,c,rfl,rfl,D,m,o,hd,e,q⟩:=h
 cases E
 cases B
 obtain⟨f,w,n⟩:=HL e
 have L:=m.length
 have J:=o.length
 have j:∀ d:Bool,d=c->EP X pins σ Q (.bool d) s:=λd hd=>by subst hd;exact⟨.bl d,H,I,rfl,by simpa using q⟩
 rcases D with⟨h1,h2⟩|⟨h1,h2⟩
 ·obtain⟨i,r1,p1,_⟩:=I.tuple h1
  obtain⟨g,k,p2,_⟩:=I.tuple h2
  have F:=r1.length
  have z:=k.length
  refine SeqAt.eq_tupleAt (e:=f) (show s.heap.IsTuple a i.toArray from p1) (show s.heap.IsTuple b g.toArray from p2) (by omega) (HM I r1 k m o hd t w) (j _ ?_)
  have l:i.toArray.size=p.length:=by rw[Yn];omega
  have r:g.toArray.size=ys.length:=by rw[Yn];omega
  rw[l,r,n]
 ·obtain⟨i,r1,p1,_⟩:=I.list h1
  obtain⟨g,k,p2,_⟩:=I.list h2
  have F:=r1.length
  have z:=k.length
  have l:i.toArray.size=p.length:=by rw[Yn];omega
  have r:g.toArray.size=ys.length:=by rw[Yn];omega
  by_cases hl:p.length=ys.length
  ·refine SeqAt.eq_listAt (e:=f) p1.isList p2.isList (by omega) (by omega) (HM I r1 k m o hd t w) (j _ ?_)
   rw[l,n,hl];simp
  ·refine SeqAt.eq_list_lengthsAt p1.isList p2.isList (by rw[l,r];simpa using hl) (by omega) (j _ ?_)
   rw[n];simp[hl]
theorem ae(t:X.A.units+100 < cLine):OpR X (compareOp .NotEq) (rSq X.K true):=by
 intro pins s σ H x y v u Q I E B h
 obtain⟨a,b,G,N,p,ys,c,rfl,rfl,D,m,o,hd,e,q⟩:=h
 cases E
 cases B
 obtain⟨f,w,n⟩:=HL e
 have L:=m.length
 have J:=o.length
 have j:∀ d:Bool,d=!c->EP X pins σ Q (.bool d) s:=λd hd=>by subst hd;exact⟨.bl _,H,I,rfl,by simpa using q⟩
 rcases D with⟨h1,h2⟩|⟨h1,h2⟩
 ·obtain⟨i,r1,p1,_⟩:=I.tuple h1
  obtain⟨g,k,p2,_⟩:=I.tuple h2
  have F:=r1.length
  have z:=k.length
  refine SeqAt.RcNeAt.tuples (e:=f) (show s.heap.IsTuple a i.toArray from p1) (show s.heap.IsTuple b g.toArray from p2) (by omega) (HM I r1 k m o hd t w) _ _ _ _ (j _ ?_)
  have l:i.toArray.size=p.length:=by rw[Yn];omega
  have r:g.toArray.size=ys.length:=by rw[Yn];omega
  rw[l,r,n]
 ·obtain⟨i,r1,p1,_⟩:=I.list h1
  obtain⟨g,k,p2,_⟩:=I.list h2
  have F:=r1.length
  have z:=k.length
  have l:i.toArray.size=p.length:=by rw[Yn];omega
  have r:g.toArray.size=ys.length:=by rw[Yn];omega
  by_cases hl:p.length=ys.length
  ·refine SeqAt.RcNeAt.lists (e:=f) p1.isList p2.isList (by omega) (by omega) (HM I r1 k m o hd t w) _ _ _ _ (j _ ?_)
   rw[l,n,hl];simp
  ·refine SeqAt.RcNeAt.lists_lengths p1.isList p2.isList (by rw[l,r];simpa using hl) (by omega) _ _ _ _ (j _ ?_)
   rw[n];simp[hl]
def eqW(x y:W)(G:Hw):Option Bool:=match x,y with
 | .tup xs,.tup ys=>if dpL xs < 90 then Bj xs ys else none
 | .ref a,.ref b=>(match G a,G b with
  | some (.lst xs),some (.lst ys)=>if dpL xs < 90 then Bj xs ys else none
  | _,_=>none)
 | .int a,.int b=>some (a==b)
 | .bl a,.bl b=>some (a==b)
 | .str a,.str b=>some (a==b)
 | .non,.non=>some true
 | .int _,.non=>some false
 | .non,.int _=>some false
 | .int _,.str _=>some false
 | .str _,.int _=>some false
 | .bl _,.str _=>some false
 | .str _,.bl _=>some false
 | .non,.str _=>some false
 | .str _,.non=>some false
 | .non,.bl _=>some false
 | .bl _,.non=>some false
 | _,_=>none
def eqF(neg:Bool)(x y:W)(G:Hw):Option W:=(eqW x y G).map λc=>.bl (c != neg)
theorem Oo(c:Bool):(c != true)=!c:=by cases c <;> rfl
theorem Oq(neg:Bool)(x y:W)(v u:V)(G:Hw)(H:Hp)(Q:VK)(B:Tr K H v x)(ty:Tr K H u y)(r:RelH K H G)(q:Ae (eqF neg) x y G (dn K H Q)):(EQ v u=true/\Q (.bl (decide (v=u) != neg)) H)\/rSq K neg v u H Q:=by
 obtain⟨w,e,D⟩:=CV q
 obtain⟨c,d,E⟩:=YO.mp e
 subst E
 have h:=D (.bl (c != neg)) H .refl (.bl _) r
 have f:∀{i j:V},decide (i=j)=c->EQ i j=true->(EQ i j=true/\Q (.bl (decide (i=j) != neg)) H)\/rSq K neg i j H Q:=λ{i j}h1 h2=>.inl ⟨h2,by rw[h1];exact h⟩
 cases B with
 | tup t l =>
  cases ty with
  | tup k s =>
   unfold eqW at d;dsimp only at d
   split at d
   ·rename_i hd
    exact .inr ⟨_,_,_,_,_,_,c,rfl,rfl,.inl ⟨t,k⟩,l,s,hd,d,h⟩
   ·cases d
  | _=>cases d
 | ref a =>
  cases ty with
  | ref b =>
   unfold eqW at d;dsimp only at d
   cases g:G a with
   | none=>rw[g]at d;cases d
   | some m =>
    cases eb:G b with
    | none=>rw[g,eb]at d;cases m <;> cases d
    | some A =>
     rw[g,eb]at d
     cases m <;> cases A <;> try cases d
     dsimp only at d
     split at d
     ·rename_i hd
      obtain⟨F,o,p⟩:=r a _ g
      obtain⟨I,z,n⟩:=r b _ eb
      exact .inr ⟨_,_,_,_,_,_,c,rfl,rfl,.inr ⟨SqL.of o,SqL.of z⟩,p,n,hd,d,h⟩
     ·cases d
  | _=>cases d
 | rol _ _=>cases y <;> cases d
 | non=>cases ty <;> cases d <;> exact f (by simp) rfl
 | bl b=>cases ty <;> cases d <;> exact f (by first | exact Kg | simp) rfl
 | int b=>cases ty <;> cases d <;> exact f (by first | exact Kf | simp) rfl
 | str b=>cases ty <;> cases d <;> exact f (by first | exact Kh | simp) rfl
theorem af(c:X.A.units+100 < cLine):OpR X (compareOp .Eq) (λx y H Q=>(EQ x y=true/\Q (.bl (decide (x=y) != false)) H)\/rSq X.K false x y H Q):=by
 intro pins s σ H x y v u Q I b a h
 rcases h with⟨h1,h2⟩| h
 ·exact Wn pins s σ H x y v u Q I b a ⟨h1,by simpa using h2⟩
 ·exact aa c pins s σ H x y v u Q I b a h
theorem ag(c:X.A.units+100 < cLine):OpR X (compareOp .NotEq) (λx y H Q=>(EQ x y=true/\Q (.bl (decide (x=y) != true)) H)\/rSq X.K true x y H Q):=by
 intro pins s σ H x y v u Q I b a h
 rcases h with⟨h1,h2⟩| h
 ·exact Wo pins s σ H x y v u Q I b a ⟨h1,by rw[<- Oo];exact h2⟩
 ·exact ae c pins s σ H x y v u Q I b a h
section
variable {X:Cx} {a b c e:Expr} {es Ao:List Expr} {pos pos' p:Pos} {ga gb gc:GE} {gt gu:GT} {gs:GA}
def Dd(G:Hw)(w:W):Option (List W):=match w with
 | .tup xs=>some xs
 | .rol xs=>some xs
 | .ref a=>(match G a with | some (.lst xs)=>some xs | _=>none)
 | _=>none
theorem KW{xs:List W}(r:RelH K H G)(t:Tr K H v w)(e:Dd G w=some xs):∃ a vs,v=.ref a/\(SqL K H a vs\/SqT K H a vs)/\TrL K H vs xs:=by
 cases t with
 | tup h l=>cases e;exact⟨_,_,rfl,.inr h,l⟩
 | rol h l=>cases e;exact⟨_,_,rfl,.inl h.sq,l⟩
 | ref a =>
  unfold Dd at e;dsimp only at e
  cases z:G a with
  | none=>rw[z]at e;cases e
  | some o =>
   rw[z]at e
   cases o with
   | lst ys=>cases e;obtain⟨vs,b,c⟩:=r a _ z;exact⟨a,vs,rfl,.inl (SqL.of b),c⟩
   | exc C=>cases e
   | ins C fs=>cases e
   | dct d=>cases e
 | _=>cases e
def EW:List W->Option (List V)
 | []=>some []
 | w::ws=>(GB w).bind λv=>(EW ws).map (v::·)
theorem Os:∀{a:List W}{vs us:List V},EW a=some us->TrL K H vs a->vs=us/\vs.all C8=true
 | [],vs,us,e,t=>by cases e;cases t;exact⟨rfl,rfl⟩
 | w::a,vs,us,e,t=>by
  cases t with
  | cons g t =>
   obtain⟨f,d,j⟩:=Qb.mp (show(GB w).bind (λv=>(EW a).map (v::·))=some us from e)
   obtain⟨fs,i,b⟩:=YO.mp j
   obtain⟨h1,h2⟩:=Oj g d
   obtain⟨h,c⟩:=Os i t
   subst b
   exact⟨by rw[h1,h],by rw[List.all_cons,h2,c];rfl⟩
def inF(neg:Bool)(x y:W)(G:Hw):Option W:=(GB x).bind λv=>(Dd G y).bind λxs=>(EW xs).map λus=>.bl (if neg then !inV v us else inV v us)
theorem ah(neg:Bool)(x y:W)(v u:V)(G:Hw)(H:Hp)(Q:VK)(i:Tr K H v x)(ty:Tr K H u y)(r:RelH K H G)(q:Ae (inF neg) x y G (dn K H Q)):rIn K neg v u H Q:=by
 obtain⟨w,e,n⟩:=CV q
 obtain⟨f,k,o⟩:=Qb.mp e
 obtain⟨xs,m,d⟩:=Qb.mp o
 obtain⟨p,b,h⟩:=YO.mp d
 subst h
 obtain⟨h1,h2⟩:=Oj i k
 obtain⟨a,c,rfl,j,t⟩:=KW r ty m
 obtain⟨l,g⟩:=Os b t
 subst h1;subst l
 exact⟨a,c,rfl,j,h2,g,n _ H .refl (.bl _) r⟩
end
section
variable {X:Cx} {P:Hp->Prop} {a b c e o i:Expr} {sts:List Stmt} {pos pos':Pos} {ga gb gc gv go gi:GE} {gt:GT} {g:GS} {gs:GA}
def GC(gt:GT)(g:GS):GS:=λD ω G=>∃ W:Nat->Sw->Hw->Prop,(∃ m,W m ω G)/\∀ m ω G,W m ω G->
 gt ω G λb G1=>if b=true then g {nx:=λω' G'=>∃ m',m' < m/\W m' ω' G',rt:=D.rt,bk:=D.nx,ct:=λω' G'=>∃ m',m' < m/\W m' ω' G'} ω G1 else D.nx ω G1
theorem ai(h:gt.M)(e:g.M):GS.M (GC gt g):=λω G D k h1 h2 l j⟨W,f,a⟩=>⟨W,f,λm ω G w=>h _ _ _ _ (λb i z=>by
 cases b with
 | true=>exact e _ _ {nx:=λω' d=>∃ c,c < m/\W c ω' d,rt:=D.rt,bk:=D.nx,ct:=λω' d=>∃ c,c < m/\W c ω' d} _ (λ_ _ y=>y) h2 h1 (λ_ _ y=>y) z
 | false=>exact h1 _ _ z) (a m ω G w)⟩
theorem aj(q:PassesOwn (model X.prog X.w) X.A X.env X.xe)(t:gt.M)(v:g.M)(hc:PTw X c gt)(s:Dp X P sts g):PSw X P (.While c sts [] pos) (GC gt g):=λB I=>
 CT (V0 q hc (s B I)) <| by
  rintro D σ H ⟨ω,G,x,r,l,W,⟨J,F⟩,i⟩
  refine⟨λm σ' H'=>Mono X.K B H'/\∃ ω' e,TrSt X.K H' σ' ω'/\RelH X.K H' e/\W m ω' e,⟨J,l,ω,G,x,r,F⟩,?_⟩
  rintro m σ' H' ⟨o,ω',e,h,r',u⟩
  refine⟨ω',e,h,r',t _ _ _ _ (λb E z H1 j r1=>?_) (i m ω' e u)⟩
  cases b with
  | true =>
   rw[if_pos rfl]
   refine⟨λσ2 H2=>∃ d,d < m/\Mono X.K B H2/\∃ ω2 p,TrSt X.K H2 σ2 ω2/\RelH X.K H2 p/\W d ω2 p,(by rintro σ2 H2 ⟨d,h1,h2⟩;exact⟨d,h1,h2⟩),ω',E,h.mono j,r1,o.trans j,?_⟩
   exact v _ _ {nx:=λω' e=>∃ d,d < m/\W d ω' e,rt:=(dnD X.K B D).rt,bk:=(dnD X.K B D).nx,ct:=λω' e=>∃ d,d < m/\W d ω' e} _
    ((by rintro a b ⟨d,h1,h2⟩ σ2 H2 k f n;exact⟨d,h1,k,a,b,f,n,h2⟩)) (λa b y=>y) (λa b y=>y) ((by rintro a b ⟨d,h1,h2⟩ σ2 H2 k f n;exact⟨d,h1,k,a,b,f,n,h2⟩)) z
  | false =>
   rw[if_neg YS]
   exact z σ' H1 (o.trans j) (h.mono j) r1
theorem KY(b:PassesOwn (model X.prog X.w) X.A X.env X.xe)(hc:Tm X c gt)(a:Ssm X P sts g):Sm X P (.While c sts [] pos) (GC gt g):=⟨aj b hc.m a.m hc.p a.p,ai hc.m a.m⟩
def EX(ω:Sw)(i:Nat):Option W:=match ω[i]? with | some (some w)=>some w | _=>none
theorem ak(ts:TrSt K H σ ω)(e:EX ω n=some w):∃ v,σ[n]?=some (some v)/\Tr K H v w:=by
 unfold EX at e
 split at e
 ·rename_i u z
  cases e
  exact ts.get n _ z
 ·cases e
def B3(n:Nat)(r:RW2)(ga:GE):GS:=λD ω G=>opt (EX ω n) λx=>ga ω G λy G1=>r x y G1 λz G2=>D.nx (ω.set n (some z)) G2
theorem al{r:RW2}(a:r.M)(c:ga.M):GS.M (B3 n r ga):=λω G D e h1 _ _ _ q=>KI (λx q=>c _ _ _ _ (λy d z=>a _ _ _ _ _ (λw f b=>h1 _ _ b) z) q) q
theorem am{op:Operator}{r:RW2}{r2:R2}(c:OpR X (inplaceOp op) r2)(f:r.M)(k:∀(x y:W)(v u:V)(G:Hw)(H:Hp)(Q:VK),Tr X.K H v x->Tr X.K H u y->RelH X.K H G->r x y G (dn X.K H Q)->r2 v u H Q)
  (J:X.N.Nodup) (hi:X.N[n]?=some x) (g:Loc X.env.scope x) (p:X.fn x=true\/X.env.scope.names.lookup x=some .local) (A:ga.M) (j:PEw X e ga):PSw X P (.AugAssign (.Name x pos') op e pos) (B3 n r ga):=λB U=>
 CT (VY J hi g j (λpins s σ H x y v u Q I r1 r2 h=>c pins s σ H x y v u Q I r1 r2 h) p) <| by
  rintro D σ H ⟨ω,G,a,o,l,q⟩
  obtain⟨w,d,q⟩:=CV q
  obtain⟨v,L,t⟩:=ak a d
  refine⟨v,L,ω,G,a,o,A _ _ _ _ (λy F z u H1 m E r1=>?_) q⟩
  exact k w y v u F H1 _ (t.mono m) E r1 (f _ _ _ _ _ (λR S O T H2 b i r2=>O _ H2 ((l.trans m).trans b) (((a.mono m).mono b).set n i) r2) z)
def BY:RW2:=λx y G Q=>match x,y with
 | .int i,.int j=>Q (.int (i+j)) G
 | .str a,.str b=>a.length+b.length<=sizeLine/\Q (.str (a++b)) G
 | _,_=>False
theorem Ot:RW2.M BY:=λx y G Q a h q=>by
 cases x <;> cases y <;> first | exact q | exact h _ _ q | exact⟨q.1,h _ _ q.2⟩
theorem ao(x y:W)(v u:V)(G:Hw)(H:Hp)(Q:VK)(a:Tr K H v x)(ty:Tr K H u y)(r:RelH K H G)(q:BY x y G (dn K H Q)):
  (rI0 λi j=>.int (i+j)) v u H Q\/(∃ i j,v=.str i/\u=.str j/\i.length+j.length<=sizeLine/\Q (.str (i++j)) H):=by
 cases a with
 | int i=>cases ty <;> first | exact q.elim | exact .inl ⟨_,_,rfl,rfl,q _ H .refl (.int _) r⟩
 | str i=>cases ty <;> first | exact q.elim | exact .inr ⟨_,_,rfl,rfl,q.1,q.2 _ H .refl (.str _) r⟩
 | _=>exact q.elim
def De(o k v:W)(G:Hw)(Q:Hw->Prop):Prop:=match o,k with
 | .ref a,.int j=>(match G a with
  | some (.lst xs)=>(match ixN xs.length j with | some n=>Q (put G a (.lst (xs.set n v)))| none=>False)
  | _=>False)
 | _,_=>False
variable {Q:Hw->Prop}
theorem Ou{o k v:W}(q:De o k v G Q):∃ a j xs n,o=.ref a/\k=.int j/\G a=some (.lst xs)/\ixN xs.length j=some n/\Q (put G a (.lst (xs.set n v))):=by
 unfold De at q
 split at q
 ·split at q
  ·rename_i xs e
   split at q
   ·rename_i n b;exact⟨_,_,xs,n,rfl,rfl,e,b,q⟩
   ·exact q.elim
  ·exact q.elim
 ·exact q.elim
theorem KZ{v:W}{a:Addr}{j:Int}{xs:List W}(e:G a=some (.lst xs))(b:ixN xs.length j=some n)(q:Q (put G a (.lst (xs.set n v)))):De (.ref a) (.int j) v G Q:=by
 unfold De
 dsimp only
 rw[e]
 dsimp only
 rw[b]
 exact q
theorem ap{o k v:W}{b:Hw->Prop}(h:∀ G,Q G->b G)(q:De o k v G Q):De o k v G b:=by
 obtain⟨a,j,xs,n,rfl,rfl,e,c,q⟩:=Ou q
 exact KZ e c (h _ q)
theorem aq{o k v:W}{x y u:V}{Pq:Hw->Prop}{R:Hp->Prop}(i:Tr K H x v)(ty:Tr K H y o)(h:Tr K H u k)(r:RelH K H G)(q:De o k v G Pq)(f:∀ d b,Mono K H b->RelH K b d->Pq d->R b):NE y u x H R:=by
 obtain⟨a,j,xs,n,rfl,rfl,e,l,q⟩:=Ou q
 cases ty
 cases h
 obtain⟨g,c,t⟩:=r a _ e
 exact⟨a,g,j,n,rfl,rfl,c,by rw[t.length];exact l,f _ _ (Mono.lst c _) (r.chg c (TrL.set i n t)) q⟩
def Cw(gv go gi:GE):GS:=λD ω G=>gv ω G λv G1=>go ω G1 λo G2=>gi ω G2 λk G3=>De o k v G3 λG4=>D.nx ω G4
theorem ar(a:gv.M)(c:go.M)(b:gi.M):GS.M (Cw gv go gi):=λω G D e h1 _ _ _ q=>
 a _ _ _ _ (λv d z=>c _ _ _ _ (λo h z=>b _ _ _ _ (λk f z=>ap (λg z=>h1 _ _ z) z) z) z) q
theorem au(w:∀ v,assign (.Subscript o i pos') X.env v=(do
   let ov <- holding [v] (eval o X.env)
   let iv <- holding [v,ov] (eval i X.env)
   standAt pos'
   holding [v,ov,iv] (setItem ov iv v)
   release [v,ov,iv] [])) (hs:swapsWithSole [.Subscript o i pos'] e pos.line X.env=pure false) (hw:swappedStores [.Subscript o i pos'] e X.env=pure none)
  (h1:(assignEach [.Subscript o i pos'] X.env).map (·.2)=[assign (.Subscript o i pos') X.env]) (g:Em X e gv) (f:Em X o go) (hi:Em X i gi):Sm X P (.Assign [.Subscript o i pos'] e pos) (Cw gv go gi):=
 ⟨λB R=>CT (Kb g.p (Nh f.p hi.p W2 w) hs hw h1) λD σ H⟨ω,G,b,r,A,q⟩=>⟨ω,G,b,r,g.m _ _ _ _ (λv I z x H1 c J r1=>
  ⟨ω,I,b.mono c,r1,f.m _ _ _ _ (λS E L y H2 a ty K=>
   ⟨ω,E,(b.mono c).mono a,K,hi.m _ _ _ _ (λk O t u Q d F n=>
    aq ((J.mono a).mono d) (ty.mono d) F n t (λN s h l j=>j σ s ((((A.trans c).trans a).trans d).trans h) ((((b.mono c).mono a).mono d).mono h) l)) L⟩) z⟩) q⟩,ar g.m f.m hi.m⟩
abbrev GO:=Sw->Hw->(Option Int->Hw->Prop)->Prop
def GO.M(g:GO):Prop:=∀ ω G(Q Q':Option Int->Hw->Prop),(∀ w G',Q w G'->Q' w G')->g ω G Q->g ω G Q'
def dnO(K:PySem.W.Frag)(H:Hp)(Q:Option Int->Hp->Prop):Option Int->Hw->Prop:=λb G=>∀ H',Mono K H H'->RelH K H' G->Q b H'
def upO(K:PySem.W.Frag)(g:GO):TO:=λσ H Q=>∃ ω G,TrSt K H σ ω/\RelH K H G/\g ω G (dnO K H Q)
structure Om(X:Cx)(e:Option Expr)(g:GO):Prop where
 p:PO X e (upO X.K g)
 m:g.M
def AF:GO:=λ_ G Q=>Q none G
def AG(ga:GE):GO:=λω G Q=>ga ω G λw G1=>match w with | .int j=>Q (some j) G1 | _=>False
theorem av:Om X none AF:=⟨(by rintro pins s σ H Q I ⟨ω,G,a,r,q⟩;exact WU pins s σ H Q I (q H .refl r)),λ_ _ _ _ h q=>h _ _ q⟩
theorem aw(h:Em X e ga):Om X (some e) (AG ga):=⟨λpins s σ H Q I⟨ω,G,c,r,q⟩=>WV h.p pins s σ H Q I ⟨ω,G,c,r,h.m _ _ _ _ (λw a z v H1 m t r1=>by
  cases w with
  | int j=>exact⟨j,N0 t,z H1 m r1⟩
  | _=>exact z.elim) q⟩,λω G Q d b q=>h.m _ _ _ _ (λw a z=>by cases w <;> first | exact b _ _ z | exact z) q⟩
def BI{α:Type}(xs:List α)(lo hi:Option Int):List α:=(xs.drop (HT.sIx xs.length 0 lo)).take (HT.sIx xs.length xs.length hi - HT.sIx xs.length 0 lo)
def slW(w:W)(lo hi:Option Int)(G:Hw)(Q:Kw):Prop:=match w with
 | .tup xs=>¬ (HT.sIx xs.length 0 lo=0/\HT.sIx xs.length xs.length hi=xs.length)/\Q (.tup (BI xs lo hi)) G
 | .rol xs=>∀ p,G p=none->Q (.ref p) (put G p (.lst (BI xs lo hi)))
 | .ref a=>(match G a with | some (.lst xs)=>∀ p,G p=none->Q (.ref p) (put G p (.lst (BI xs lo hi)))| _=>False)
 | _=>False
variable {lo hi:Option Int}
theorem HN{Q c:Kw}(h:∀ w d,Q w d->c w d)(q:slW w lo hi G Q):slW w lo hi G c:=by
 cases w with
 | tup xs=>exact⟨q.1,h _ _ q.2⟩
 | rol xs=>exact λp b=>h _ _ (q p b)
 | ref a =>
  unfold slW at q ⊢
  dsimp only at q ⊢
  cases e:G a with
  | none=>rw[e]at q;exact q.elim
  | some g =>
   rw[e]at q
   cases g with
   | lst xs=>exact λp b=>h _ _ (q p b)
   | exc C=>exact q.elim
   | ins C fs=>exact q.elim
   | dct f=>exact q.elim
 | _=>exact q.elim
theorem TrL.cut{a:List W}(t:TrL K H vs a)(lo hi:Option Int):TrL K H (D2 vs lo hi) (BI a lo hi):=by
 unfold D2 BI
 rw[t.length]
 exact(t.drop _).take _
theorem HP{Q:VK}(t:Tr K H v w)(r:RelH K H G)(q:slW w lo hi G (dn K H Q)):Kl K v lo hi H Q\/Kr K v lo hi H Q:=by
 cases t with
 | tup h l =>
  refine .inl ⟨_,_,rfl,h,by rw[l.length];exact q.1,λp b=>?_⟩
  exact q.2 _ _ (Mono.new b _) (.tup (SqT.of BO) ((l.cut lo hi).mono (Mono.new b _))) (r.mono0 b)
 | rol h l=>exact .inr ⟨_,_,rfl,h.sq,λp b=>q p (r.no b) _ _ (Mono.new b _) (.ref p) (r.new b (l.cut lo hi))⟩
 | ref a =>
  unfold slW at q
  dsimp only at q
  cases e:G a with
  | none=>rw[e]at q;exact q.elim
  | some f =>
   rw[e]at q
   cases f with
   | lst xs =>
    obtain⟨g,c,l⟩:=r a _ e
    exact .inr ⟨_,_,rfl,SqL.of c,λp b=>q p (r.no b) _ _ (Mono.new b _) (.ref p) (r.new b (l.cut lo hi))⟩
   | exc C=>exact q.elim
   | ins C fs=>exact q.elim
   | dct d=>exact q.elim
 | _=>exact q.elim
def gSl(ga:GE)(gl gh:GO):GE:=λω G Q=>ga ω G λw G1=>gl ω G1 λlo G2=>gh ω G2 λhi G3=>slW w lo hi G3 Q
theorem ax{lo hi:Option Expr}{n k:GO}{p2:Pos}(b:Em X e ga)(hl:Om X lo n)(f:Om X hi k):Em X (.Subscript e (.Slice lo hi none p2) pos) (gSl ga n k):=
 ⟨Bg (Nz (SlR.or NC NF) b.p hl.p f.p) λσ H Q⟨ω,G,i,r,q⟩=>⟨ω,G,i,r,b.m _ _ _ _ (λw j z v H1 c t r1=>⟨ω,j,i.mono c,r1,hl.m _ _ _ _ (λl s g H2 d A=>
   ⟨ω,s,(i.mono c).mono d,A,f.m _ _ _ _ (λh x a B o y=>HP ((t.mono d).mono o) y (HN (λw D z=>Cr ((c.trans d).trans o) z) a)) g⟩) z⟩) q⟩,
  λω G Q E h q=>b.m _ _ _ _ (λw j z=>hl.m _ _ _ _ (λl s g=>f.m _ _ _ _ (λu x a=>HN h a) g) z) q⟩
end
abbrev UpW(K:PySem.W.Frag)(r:RW2)(r2:R2):Prop:=∀(x y:W)(v u:V)(G:Hw)(H:Hp)(Q:VK),Tr K H v x->Tr K H u y->RelH K H G->r x y G (dn K H Q)->r2 v u H Q
structure Cop(X:Cx)(op:CmpOp)(r:RW2):Prop where
 ex:∃ r2,OpR X (compareOp op) r2/\UpW X.K r r2
 m:r.M
def A6(a b:Str):Bool:=decide (a.cps.toList < b.cps.toList)
def A9(f:Int->Int->Bool)(g:Str->Str->Bool):RW2:=λx y G Q=>match x,y with
 | .int i,.int j=>Q (.bl (f i j)) G
 | .str i,.str j=>Q (.bl (g i j)) G
 | _,_=>False
variable {g:Str->Str->Bool}
theorem Ov:RW2.M (A9 f g):=λx y G Q a h q=>by
 cases x <;> cases y <;> first | exact q | exact h _ _ q
theorem Ow:UpW K (A9 f g) (λx y H Q=>rI0 (λi j=>.bl (f i j)) x y H Q\/∃ i j,x=.str i/\y=.str j/\Q (.bl (g i j)) H):=λx y v u G H Q a ty r q=>by
 cases a with
 | int i=>cases ty <;> first | exact q.elim | exact .inl ⟨_,_,rfl,rfl,q _ H .refl (.bl _) r⟩
 | str i=>cases ty <;> first | exact q.elim | exact .inr ⟨_,_,rfl,rfl,q _ H .refl (.bl _) r⟩
 | _=>exact q.elim
theorem ay:OpR X (compareOp .LtE) (λx y H Q=>∃ i j,x=.str i/\y=.str j/\Q (.bl (!A6 j i)) H):=by
 intro pins s σ H x y v u Q I b a h
 obtain⟨i,j,rfl,rfl,q⟩:=h
 obtain⟨t,rfl⟩:=b
 obtain⟨t',rfl⟩:=a
 exact PySem.P.le_str ⟨.bl _,H,I,rfl,q⟩
theorem az:Cop X .Lt (A9 (λi j=>decide (i < j)) A6):=⟨⟨_,OpR.or Wp Wt,Ow⟩,Ov⟩
theorem K0:Cop X .LtE (A9 (λi j=>decide (i<=j)) (λa b=>!A6 b a)):=⟨⟨_,OpR.or Wq ay,Ow⟩,Ov⟩
theorem aA:Cop X .Gt (Bb λi j=>decide (j < i)):=⟨⟨_,Wr,Ob⟩,Oa⟩
theorem aB:Cop X .GtE (Bb λi j=>decide (j<=i)):=⟨⟨_,Ws,Ob⟩,Oa⟩
theorem aC(a:X.A.units+100 < cLine):Cop X .Eq (Ae (eqF false)):=⟨⟨_,af a,Oq false⟩,D5⟩
theorem aD(a:X.A.units+100 < cLine):Cop X .NotEq (Ae (eqF true)):=⟨⟨_,ag a,Oq true⟩,D5⟩
theorem aE:Cop X .In (Ae (inF false)):=⟨⟨_,W5,ah false⟩,D5⟩
section
variable {X:Cx} {op op':CmpOp} {r r':RW2} {a b c e:Expr} {es:List Expr} {pos:Pos} {ga gb gc:GE}
theorem aF(C:Cop X op r)(e:behindInMarks op b=false)(c:Em X a ga)(d:Em X b gb):Em X (.Compare a [op] [b] pos) (Ad r ga gb):=
 let⟨_,h1,h2⟩:=C.ex
 ⟨XM h1 C.m c.m d.m h2 c.p d.p e,Cs C.m c.m d.m⟩
theorem aG(C:Cop X op r)(e:behindInMarks op b=false)(c:Em X a ga)(d:Em X b gb):Tm X (.Compare a [op] [b] pos) (gTB (Ad r ga gb)):=
 let⟨_,h1,h2⟩:=C.ex
 ⟨X6 h1 C.m c.m d.m h2 c.p d.p e,NZ (Cs C.m c.m d.m)⟩
def Cy(r r':RW2)(ga gb gc:GE):GE:=λω G Q=>ga ω G λx G1=>gb ω G1 λy G2=>r x y G2 λz G3=>match z with
 | .bl k=>if k=true then gc ω G3 λw G4=>r' y w G4 Q else Q (.bl false) G3
 | _=>False
theorem K1(d:r.M)(a:r'.M)(f:ga.M)(c:gb.M)(e:gc.M):GE.M (Cy r r' ga gb gc):=λω G Q l h q=>
 f _ _ _ _ (λx g z=>c _ _ _ _ (λy m z=>d _ _ _ _ _ (λb i z=>by
  cases b with
  | bl k =>
   cases k with
   | true=>exact e _ _ _ _ (λw j z=>a _ _ _ _ _ h z) z
   | false=>exact h _ _ z
  | _=>exact z) z) z) q
theorem Ox{r2 a:R2}(u:UpW K r r2)(n:UpW K r' a)(p:r.M)(g:r'.M)(F:ga.M)(B:gb.M)(O:gc.M)(σ:St)(H:Hp)(Q:VK)(h:up K (Cy r r' ga gb gc) σ H Q):Ki r2 a (up K ga) (up K gb) (up K gc) σ H Q:=by
 obtain⟨ω,G,f,D,q⟩:=h
 refine⟨ω,G,f,D,F _ _ _ _ (λx J L v H1 c P r1=>⟨ω,J,f.mono c,r1,B _ _ _ _ (λy I R j H2 b ty r2=>?_) L⟩) q⟩
 refine u x y v j I H2 _ (P.mono b) ty r2 (p _ _ _ _ _ (λk t e U A d tk i=>?_) R)
 cases k with
 | bl k =>
  refine⟨k,ER tk,?_⟩
  cases k with
  | true =>
   rw[if_pos rfl]
   refine⟨ω,t,((f.mono c).mono b).mono d,i,O _ _ _ _ (λw o z N s l E m=>?_) e⟩
   exact n y w j N o s Q ((ty.mono d).mono l) E m (g _ _ _ _ _ (λT X S=>Cr (((c.trans b).trans d).trans l) S) z)
  | false =>
   rw[if_neg YS]
   exact e _ A ((c.trans b).trans d) (.bl false) i
 | _=>exact e.elim
theorem Oy(C:Cop X op r)(f:Cop X op' r')(g:lastMarks [op,op'] [b,c]=false)(d:Em X a ga)(e:Em X b gb)(hc:Em X c gc):Em X (.Compare a [op,op'] [b,c] pos) (Cy r r' ga gb gc):=
 let⟨_,h1,h2⟩:=C.ex
 let⟨_,h3,h4⟩:=f.ex
 ⟨Bg (Wx h1 h3 d.p e.p hc.p g) (Ox h2 h4 C.m f.m d.m e.m hc.m),K1 C.m f.m d.m e.m hc.m⟩
theorem aH(C:Cop X op r)(f:Cop X op' r')(g:lastMarks [op,op'] [b,c]=false)(d:Em X a ga)(e:Em X b gb)(hc:Em X c gc):Tm X (.Compare a [op,op'] [b,c] pos) (gTB (Cy r r' ga gb gc)):=
 let⟨_,h1,h2⟩:=C.ex
 let⟨_,h3,h4⟩:=f.ex
 ⟨HH (Wy h1 h3 d.p e.p hc.p g) λσ H Q z=>Ox h2 h4 C.m f.m d.m e.m hc.m σ H _ (N2 (K1 C.m f.m d.m e.m hc.m) z),NZ (K1 C.m f.m d.m e.m hc.m)⟩
end
abbrev UpC(K:PySem.W.Frag)(r:RWc)(r1:List V->Hp->VK->Prop):Prop:=∀ ws vs G H Q,TrL K H vs ws->RelH K H G->r ws G (dn K H Q)->r1 vs H Q
structure Blt(X:Cx)(f:Value)(r:RWc):Prop where
 ex:∃ r1,CallR X f r1/\UpC X.K r r1
 m:r.M
section
variable {X:Cx} {x:Str} {p pos:Pos} {e:Expr} {es:List Expr} {gs:GA} {r:RWc} {id T:String}
theorem BJ(h:bootBuiltins x=some (.builtin id))(B:Blt X (.builtin id) r)(i:Gl X x)(f:X.mg x=none)(c:x≠"__name__")(b:(x==("__debug__":Str))=false)
  (g:starEach (e::es) X.env=(false,eval e X.env)::starEach es X.env) (a:(backTo pos (starEach es X.env)).any (·.1)=false) (d:Am X (e::es) gs):Em X (.Call (.Name x p) (e::es) [] pos) (gB r gs):=
 let⟨_,h1,h2⟩:=B.ex
 Z1 h1 B.m h2 i f h c b g a d
theorem Dr(h:bootBuiltins x=some (.type T))(B:Blt X (.type T) r)(i:Gl X x)(f:X.mg x=none)(c:x≠"__name__")(b:(x==("__debug__":Str))=false)
  (g:starEach (e::es) X.env=(false,eval e X.env)::starEach es X.env) (a:(backTo pos (starEach es X.env)).any (·.1)=false) (d:Am X (e::es) gs):Em X (.Call (.Name x p) (e::es) [] pos) (gB r gs):=
 let⟨_,h1,h2⟩:=B.ex
 Z2 h1 B.m h2 i f h c b g a d
end
theorem aI:Blt X (.builtin "len") (rF AZ):=⟨⟨_,WF,Z6⟩,Gy⟩
theorem Ds(hc:X.calm=true):Blt X (.builtin "all") (rF By):=⟨⟨_,ZZ hc,Z3⟩,Gy⟩
theorem FG(hc:X.calm=true):Blt X (.builtin "sum") Cu:=⟨⟨_,Z0 hc,Z5⟩,Z4⟩
def FH:RWc:=λws G Q=>match ws with
 | [w]=>(match Dd G w with | some xs=>∀ p,G p=none->Q (.ref p) (put G p (.lst xs))| none=>False)
 | _=>False
theorem aJ:RWc.M FH:=λb G Q c h q=>by
 unfold FH at q ⊢
 split at q
 ·split at q
  ·exact λp a=>h _ _ (q p a)
  ·exact q.elim
 ·exact q.elim
theorem aK:UpC K FH (λxs H Q=>∃ p ys,xs=[.ref p]/\(SqL K H p ys\/SqT K H p ys)/\∀ l,H l=none->Q (.ref l) (upd H l (.lst ys))):=λh g G H Q t r q=>by
 unfold FH at q
 split at q
 ·rename_i i
  split at q
  ·rename_i xs e
   cases t with
   | cons d t =>
    cases t
    obtain⟨a,f,rfl,c,l⟩:=KW r d e
    exact⟨a,f,rfl,c,λp b=>q p (r.no b) _ _ (Mono.new b _) (.ref p) (r.new b l)⟩
  ·exact q.elim
 ·exact q.elim
theorem aL:Blt X (.type "list") FH:=⟨⟨_,W6,aK⟩,aJ⟩
def BK(ws:List W)(G:Hw):Option W:=match ws with | [w]=>(Dd G w).map W.tup | _=>none
theorem aM:UpC K (rF BK) (λxs H Q=>∃ p ys,xs=[.ref p]/\((SqL K H p ys/\∀ l,H l=none->Q (.ref l) (upd H l (.tup ys)))\/(SqT K H p ys/\Q (.ref p) H))):=λk j G H Q t r q=>by
 obtain⟨w,e,f⟩:=CV q
 unfold BK at e
 split at e
 ·obtain⟨xs,g,i⟩:=YO.mp e
  subst i
  cases t with
  | cons h t =>
   cases t
   obtain⟨a,d,rfl,b,l⟩:=KW r h g
   rcases b with b | b
   ·exact⟨a,d,rfl,.inl ⟨b,λp c=>f _ _ (Mono.new c _) (.tup (SqT.of BO) (l.mono (Mono.new c _))) (r.mono0 c)⟩⟩
   ·exact⟨a,d,rfl,.inr ⟨b,f _ H .refl (.tup b l) r⟩⟩
 ·cases e
theorem GF:Blt X (.type "tuple") (rF BK):=⟨⟨_,W7,aM⟩,Gy⟩
def Dt(ws:List W)(_:Hw):Option W:=match ws with | [.int i]=>some (.int i)| [.bl k]=>some (.int (if k then 1 else 0))| _=>none
theorem aN:UpC K (rF Dt) (λxs H Q=>(∃ i,xs=[.int i]/\Q (.int i) H)\/∃ k,xs=[.bl k]/\Q (.int (if k then 1 else 0)) H):=λc d G H Q t r q=>by
 obtain⟨w,e,b⟩:=CV q
 unfold Dt at e
 split at e
 ·cases e
  cases t with
  | cons a t=>cases t;cases a;exact .inl ⟨_,rfl,b _ H .refl (.int _) r⟩
 ·cases e
  cases t with
  | cons a t=>cases t;cases a;exact .inr ⟨_,rfl,b _ H .refl (.int _) r⟩
 ·cases e
theorem aO:Blt X (.type "int") (rF Dt):=⟨⟨_,WE,aN⟩,Gy⟩
def Cd:List Int->Int
 | []=>0
 | [x]=>x
 | x::y::r=>max x (Cd (y::r))
theorem Oz:∀{ns:List Int}{m:Int},m∈ns->m<=Cd ns
 | [x],m,h=>by rw[YA.mp h];exact Int.le_refl _
 | x::y::r,m,h=>by
  show m<=max x (Cd (y::r))
  walk_at "pC"
  ·exact Int.le_max_left ..
  ·exact Int.le_trans (Oz h) (Int.le_max_right ..)
theorem OA:∀{ns:List Int},ns≠[]->Cd ns∈ns
 | [x],_=>YA.mpr rfl
 | x::y::r,_=>by
  show max x (Cd (y::r))∈x::y::r
  rcases Int.le_total x (Cd (y::r))with z | z
  ·rw[Int.max_eq_right z];exact Yd _ (OA (by simp))
  ·rw[Int.max_eq_left z];exact Ye
theorem aP{ns:List Int}(h:0 < ns.length):ns.getD (argBest (λi j=>decide (ns.getD i 0 > ns.getD j 0)) (ns.length - 1)) 0=Cd ns:=by
 obtain⟨h1,h2⟩:=argBest_gt (λi=>ns.getD i 0) (ns.length - 1)
 have b:ns≠[]:=by intro z;rw[z]at h;simp at h
 have a:argBest (λi j=>decide (ns.getD i 0 > ns.getD j 0)) (ns.length - 1) < ns.length:=by omega
 refine Int.le_antisymm (Oz ?_) ?_
 ·rw[YZ,Yp a]
  exact Qe _
 ·obtain⟨i,hi,e⟩:=List.mem_iff_getElem.mp (OA b)
  have:=h2 i (by omega)
  rw[<- e]
  have z:ns.getD i 0=ns[i]:=by rw[YZ,Yp hi];rfl
  rw[<- z]
  exact this
theorem aQ(hc:X.calm=true):CallR X (.builtin "max") (λxs H Q=>∃(p:Addr)(ns:List Int),xs=[.ref p]/\SqL X.K H p (ns.map V.int)/\0 < ns.length/\Q (.int (Cd ns)) H):=by
 intro pins s σ H xs w Q I r h
 obtain⟨p,ns,rfl,l,a,q⟩:=h
 obtain⟨u,rfl,g⟩:=Cq r
 cases g
 obtain⟨d,r',pl,m⟩:=I.list l
 have hl:=r'.length
 rw[Yh]at hl
 obtain⟨o,n,e,_⟩:=id pl
 refine call_max_walk (wpAny_pyIter_list pl.isList ⟨s.heap.objs.size,_,_,_,_,_,_,rfl,Walks.list (A:=X.A.in1) (I.ok.hd hc) _ p (Ys (Qj e)) d.toArray,
  ⟨⟨_,Qk _ rfl,rfl,rfl⟩,pl.isList.push _⟩,λb j=>?_,by rw[Yn,<- hl];exact a,CmpOf.ints_gt (λi=>ns.getD i 0) (λi v c=>KR r' c),λv h' tk c k=>?_⟩)
 ·rw[Ql]
  rcases Yo.mp j with f | f
  ·rw[f];exact Nat.lt_succ_self _
  ·rw[YA.mp f];exact Nat.lt_succ_of_lt (Qj e)
 ·obtain⟨t,rfl⟩:=KR r' c
  refine⟨.int (Cd ns),H,I.kept (t':=tk) λb o e=>k b o (by simpa using Ys (Qj e)) (Qi _ e),⟨t,?_⟩,q⟩
  rw[Yn,<- hl,aP a]
def GH(ws:List W)(G:Hw):Option W:=match ws with
 | [w]=>((Dq G w).bind D6).bind λns=>if 0 < ns.length then some (.int (Cd ns))else none
 | _=>none
theorem aR:UpC K (rF GH) (λxs H Q=>∃(p:Addr)(ns:List Int),xs=[.ref p]/\SqL K H p (ns.map V.int)/\0 < ns.length/\Q (.int (Cd ns)) H):=λm l G H Q t r q=>by
 obtain⟨w,e,k⟩:=CV q
 unfold GH at e
 split at e
 ·obtain⟨ns,g,c⟩:=Qb.mp e
  obtain⟨xs,j,f⟩:=Qb.mp g
  split at c
  ·rename_i b
   cases c
   cases t with
   | cons h t =>
    cases t
    obtain⟨a,n,rfl,rfl,_,d,i⟩:=Gz r h j
    have:=KU f i
    subst this
    exact⟨a,ns,rfl,SqL.of d,b,k _ H .refl (.int _) r⟩
  ·cases c
 ·cases e
theorem OC(hc:X.calm=true):Blt X (.builtin "max") (rF GH):=⟨⟨_,aQ hc,aR⟩,Gy⟩
structure Mth(X:Cx)(T:String)(name:Str)(id:String)(pre:W->Hw->Prop)(r:W->List W->Hw->Kw->Prop):Prop where
 pa:PlainAttrs T
 slot:Slot T name id
 ty:typeOf (.builtin id)=pure (.type "method_descriptor")
 ex:∃ r2,MtR X id r2/\∀(o:W)(ws:List W)(v:V)(vs:List V)(G:Hw)(H:Hp)(Q:VK),Tr X.K H v o->TrL X.K H vs ws->RelH X.K H G->r o ws G (dn X.K H Q)->r2 v vs H Q
 pr:∀(o:W)(v:V)(G:Hw)(H:Hp),Tr X.K H v o->RelH X.K H G->pre o G->tyV X.K T v H
 m:∀ o ws G(Q Q':Kw),(∀ w G',Q w G'->Q' w G')->r o ws G Q->r o ws G Q'
def gMt(pre:W->Hw->Prop)(r:W->List W->Hw->Kw->Prop)(go:GE)(gs:GA):GE:=λω G Q=>go ω G λo G1=>pre o G1/\gs ω G1 λws G2=>r o ws G2 Q
section
variable {X:Cx} {o e:Expr} {es:List Expr} {go:GE} {gs:GA} {name:Str} {apos cpos:Pos} {T id:String} {pre:W->Hw->Prop} {r:W->List W->Hw->Kw->Prop}
theorem Du(M:Mth X T name id pre r)(a:attributeBase o name X.env (eval o X.env)=eval o X.env)
  (c:((backTo cpos (starEach (e::es) X.env)).all (λx=>!x.1)&&(backToKw cpos (keywordEach [] X.env)).all (λx=>x.1.isSome)&&decide ((e::es).length+([]:List Keyword).length+(if([]:List Keyword).isEmpty then 0 else 1) < 30))=true)
  (b:(apos.endLine==cpos.line)=true) (hs:starEach (e::es) X.env=(false,eval e X.env)::starEach es X.env) (hplain:(backTo cpos (starEach es X.env)).any (·.1)=false) (d:Em X o go) (f:Am X (e::es) gs):
  Em X (.Call (.Attribute o name apos) (e::es) [] cpos) (gMt pre r go gs):=
 let⟨_,h1,h2⟩:=M.ex
 ⟨Bg (W9 M.pa M.slot M.ty h1 d.p f.p a c b hs hplain) λσ H Q⟨ω,G,s,B,q⟩=>⟨ω,G,s,B,d.m _ _ _ _ (λk g z v H1 u tv r1=>⟨M.pr k v g H1 tv r1 z.1,
   ω,g,s.mono u,r1,f.m _ _ _ _ (λn t j A H2 l i D=>h2 k n v A t H2 Q (tv.mono l) i D (M.m _ _ _ _ _ (λw F y=>Cr (u.trans l) y) j)) z.2⟩) q⟩,
  λω G Q E h q=>d.m _ _ _ _ (λk g z=>⟨z.1,f.m _ _ _ _ (λn t j=>M.m _ _ _ _ _ h j) z.2⟩) q⟩
end
def AH(o:W)(G:Hw):Prop:=∃ xs,Dq G o=some xs
theorem OD{o:W}(t:Tr K H v o)(r:RelH K H G)(h:AH o G):tyV K "list" v H:=by
 obtain⟨xs,e⟩:=h
 obtain⟨a,c,rfl,_,_,b,_⟩:=Gz r t e
 exact .inl ⟨rfl,_,SqL.of b⟩
def D7(o:W)(G:Hw)(f:List W->Option (List W))(Q:Kw):Prop:=match o with
 | .ref a=>(match G a with | some (.lst xs)=>(match f xs with | some ys=>Q .non (put G a (.lst ys))| none=>False)| _=>False)
 | _=>False
variable {Q:Kw}
theorem K2{o:W}{f:List W->Option (List W)}(q:D7 o G f Q):∃ a xs ys,o=.ref a/\G a=some (.lst xs)/\f xs=some ys/\Q .non (put G a (.lst ys)):=by
 unfold D7 at q
 split at q
 ·split at q
  ·rename_i xs e
   split at q
   ·rename_i ys b;exact⟨_,xs,ys,rfl,e,b,q⟩
   ·exact q.elim
  ·exact q.elim
 ·exact q.elim
theorem K3{f:List W->Option (List W)}{xs:List W}(e:G a=some (.lst xs))(b:f xs=some ys)(q:Q .non (put G a (.lst ys))):D7 (.ref a) G f Q:=by
 unfold D7
 dsimp only
 rw[e]
 dsimp only
 rw[b]
 exact q
theorem OF{o:W}{f:List W->Option (List W)}{b:Kw}(h:∀ w c,Q w c->b w c)(q:D7 o G f Q):D7 o G f b:=by
 obtain⟨a,xs,ys,rfl,e,d,q⟩:=K2 q
 exact K3 e d (h _ _ q)
def AS(o:W)(ws:List W)(G:Hw)(Q:Kw):Prop:=match ws with
 | [y]=>D7 o G (λxs=>if xs.length < sizeLine then some (xs++[y])else none) Q
 | _=>False
theorem aS:Mth X "list" "append" "list.append" AH AS where
 pa:=PySem.F.plainAttrs_list
 slot:=PySem.F.slot_list_append
 ty:=PySem.F.type_list_append
 ex:=⟨_,Xb,λo g v j G H Q tv d r q=>by
  unfold AS at q
  split at q
  ·obtain⟨a,xs,ys,rfl,e,f,q⟩:=K2 q
   split at f
   ·rename_i b
    cases f
    cases tv
    cases d with
    | cons ty t =>
     cases t
     obtain⟨i,c,l⟩:=r a _ e
     exact⟨a,i,_,rfl,rfl,c,by rw[l.length];exact b,q _ _ (Mono.lst c _) .non (r.chg c (l.append (.cons ty .nil)))⟩
   ·cases f
  ·exact q.elim⟩
 pr:=λo v G H t r h=>OD t r h
 m:=λo g G Q k h q=>by
  unfold AS at q ⊢
  split at q
  ·exact OF h q
  ·exact q.elim
def Bz(o:W)(ws:List W)(G:Hw)(Q:Kw):Prop:=match ws with
 | [y]=>D7 o G (λxs=>(Dq G y).bind λzs=>if xs.length+zs.length<=sizeLine then some (xs++zs)else none) Q
 | _=>False
theorem EY:Mth X "list" "extend" "list.extend" AH Bz where
 pa:=PySem.F.plainAttrs_list
 slot:=PySem.F.slot_list_extend
 ty:=PySem.F.type_list_extend
 ex:=⟨_,Xe,λo n v w G H Q tv i r q=>by
  unfold Bz at q
  split at q
  ·obtain⟨a,xs,ys,rfl,e,u,q⟩:=K2 q
   obtain⟨zs,s,d⟩:=Qb.mp u
   split at d
   ·rename_i c
    cases d
    cases tv
    cases i with
    | cons ty t =>
     cases t
     obtain⟨p,g,l⟩:=r a _ e
     obtain⟨b,f,rfl,_,_,k,j⟩:=Gz r ty s
     exact⟨a,b,p,f,rfl,rfl,g,k,by rw[l.length,j.length];exact c,q _ _ (Mono.lst g _) .non (r.chg g (l.append j))⟩
   ·cases d
  ·exact q.elim⟩
 pr:=λo v G H t r h=>OD t r h
 m:=λo n G Q x h q=>by
  unfold Bz at q ⊢
  split at q
  ·exact OF h q
  ·exact q.elim
def OG(C:Addr)(E:Addr->Hw->Prop)(gs:GA):GS:=λ_ ω G=>gs ω G λws G1=>ws.length<=sizeLine/\E C G1
section
variable {P:Program} {w:World} {mg:Str->Option Value} {base:Heap} {N:List Str} {qual:Str} {scope:Scope} {f:Addr} {cd:Value} {A:Around} {outer:List Env} {s:Shared} {E:XK} {Pb:Hp->Prop}
theorem aT{C:Addr}{B b initId:String}{bm:List Value}{i cpos:Pos}{a:Expr}{Ao:List Expr}(j:mg x=some (.ref C))(q:PySem.W.excIn K C bm b=true)(FB:ExcBaseFacts B b initId bm)
  (l:Gl (cxW P w K mg base N qual scope f cd A outer s H E) x)
  (k:starEach (a::Ao) (cxW P w K mg base N qual scope f cd A outer s H E).env=(false,eval a (cxW P w K mg base N qual scope f cd A outer s H E).env)::starEach Ao (cxW P w K mg base N qual scope f cd A outer s H E).env)
  (hplain:(backTo cpos (starEach Ao (cxW P w K mg base N qual scope f cd A outer s H E).env)).any (·.1)=false) (hd:(x==("__debug__":Str))=false) (c:Am (cxW P w K mg base N qual scope f cd A outer s H E) (a::Ao) gs):
  Sm (cxW P w K mg base N qual scope f cd A outer s H E) Pb (.Raise (some (.Call (.Name x i) (a::Ao) [] cpos)) none pos) (OG C (dnX K H E) gs):=by
 refine⟨λJ e pins d σ Hc D I h=>?_,λω G D L _ _ _ _ q=>q⟩
 obtain⟨ω,G,n,r,F,o⟩:=h
 exact Xz l j q FB c.p k hplain hd pins d σ Hc D I ⟨ω,G,n,r,c.m _ _ _ _ (λy u z v H1 g t r1=>⟨by rw[t.length];exact z.1,z.2 H1 ((Un.mono' I.base).trans g) r1⟩) o⟩
end
section
variable {X:Cx} {e:Expr} {es:List Expr} {pos p:Pos} {gs:GA}
end
def tyN(w:W)(G:Hw):Option String:=match w with
 | .non=>some "NoneType"
 | .bl _=>some "bool"
 | .int _=>some "int"
 | .str _=>some "str"
 | .tup _=>some "tuple"
 | .rol _=>some "list"
 | .ref a=>(match G a with | some (.lst _)=>some "list" | _=>none)
def Bt(n T:String):Bool:=n==T||(n=="bool"&&T=="int")
variable {T:String}
theorem EZ{n:String}(a:n∈["NoneType","bool","int","str","tuple","list"])(b:T∈["tuple","list","str","int","bool","dict"]):PySem.W.kitOne K (.type n) (.type T)=some (Bt n T):=by
 simp only[Yo,YY,or_false]at a b
 rcases a with rfl | rfl | rfl | rfl | rfl | rfl <;> rcases b with rfl | rfl | rfl | rfl | rfl | rfl <;> kernel_rfl
def A2(T:String)(ge:GE):GE:=λω G Q=>ge ω G λw G1=>match tyN w G1 with | some n=>Q (.bl (Bt n T)) G1 | none=>False
theorem aU(m:ge.M):GE.M (A2 T ge):=λω G Q b h q=>m _ _ _ _ (λw a z=>by
 cases e:tyN w a with
 | none=>rw[e]at z;exact z
 | some n=>rw[e]at z;exact h _ _ z) q
theorem aV{u:Value}{n:String}{Q:Value->Shared->Prop}{E:Value->Shared->Prop}(I:Inv X pins σ H s)(c:RelV v u)(t:Tr X.K H v w)(r:RelH X.K H G)(e:tyN w G=some n)
  (b:T∈["tuple","list","str","int","bool","dict"]) (h:∀ tk,Q (.bool (Bt n T)) {s with toks:=tk}):wpAny (model X.prog X.w) X.A (call (.builtin "isinstance") [u,.type T]) Q E s:=by
 cases t with
 | non=>cases e;cases(show u=Value.none from c);exact PySem.W.kia_one PySem.W.kitx_none I.kIn True.intro (EZ (by simp) b) (λz=>nomatch z) h
 | bl y=>cases e;cases(show u=Value.bool y from c);exact PySem.W.kia_one PySem.W.kitx_bool I.kIn True.intro (EZ (by simp) b) (λz=>nomatch z) h
 | int i=>cases e;obtain⟨t,rfl⟩:=c;exact PySem.W.kia_one PySem.W.kitx_int I.kIn True.intro (EZ (by simp) b) (λz=>nomatch z) h
 | str y=>cases e;obtain⟨t,rfl⟩:=c;exact PySem.W.kia_one PySem.W.kitx_str I.kIn True.intro (EZ (by simp) b) (λz=>nomatch z) h
 | tup g l =>
  cases e
  cases c
  obtain⟨d,_,p,_⟩:=I.tuple g
  obtain⟨o,h1,h2,_⟩:=p
  exact PySem.W.kia_one PySem.W.kitx_tuple I.kIn ⟨o,h1,h2⟩ (EZ (by simp) b) (λz=>nomatch z) h
 | rol g l =>
  cases e
  cases c
  obtain⟨d,_,p,_⟩:=I.list g.sq
  obtain⟨o,h1,h2,_⟩:=p.isList
  exact PySem.W.kia_one PySem.W.kitx_list I.kIn ⟨o,h1,h2⟩ (EZ (by simp) b) (λz=>nomatch z) h
 | ref a =>
  unfold tyN at e
  dsimp only at e
  cases f:G a with
  | none=>rw[f]at e;cases e
  | some o =>
   rw[f]at e
   cases o with
   | exc C=>cases e
   | ins C fs=>cases e
   | dct k=>cases e
   | lst xs =>
    cases e
    cases c
    obtain⟨m,j,_⟩:=r a _ f
    obtain⟨d,_,p,_⟩:=I.list (SqL.of j)
    obtain⟨o,h1,h2,_⟩:=p.isList
    exact PySem.W.kia_one PySem.W.kitx_list I.kIn ⟨o,h1,h2⟩ (EZ (by simp) b) (λz=>nomatch z) h
theorem aW:bootBuiltins "isinstance"=some (.builtin "isinstance"):=by decide +kernel
section
variable {X:Cx} {e:Expr} {p pc pos:Pos} {ge:GE}
theorem FI{c:Str}(D:T∈["tuple","list","str","int","bool","dict"])(B:bootBuiltins c=some (.type T))(j:X.mg c=none)(i:X.mg "isinstance"=none)(g:Gl X "isinstance")(k:Gl X c)(F:c≠"__name__")(hd:(c==("__debug__":Str))=false)
  (x:starEach [e,.Name c pc] X.env=[(false,eval e X.env),(false,eval (.Name c pc) X.env)]) (a:starEach [.Name c pc] X.env=[(false,eval (.Name c pc) X.env)]) (h:Em X e ge):Em X (.Call (.Name "isinstance" p) [e,.Name c pc] [] pos) (A2 T ge):=by
 refine⟨λpins s σ H Q I f=>?_,aU h.m⟩
 obtain⟨ω,G,E,r,q⟩:=f
 have pa:PA X [e,.Name c pc] (Fz (up X.K ge) (Fz (tC (.ty T)) Gi)):=Gj h.p (Gj (Vq k j B rfl F hd) HC (by rw[a];rfl)) (by rw[x,a])
 refine wpAny_Call_Name_kw (DZ I g i aW ?_ (by decide) (by decide))
 refine PyProof.Rows.callWith_builtin1 (thn (pa pos pins s σ H (λl H1=>∃ v w b n,l=[v,.ty T]/\Tr X.K H1 v w/\RelH X.K H1 b/\tyN w b=some n/\Q (.bl (Bt n T)) H1) I ?_) λP O⟨l,H1,o,r1,v,w,b,n,A,tv,y,d,J⟩=>?_) (by rw[x,a]) (by rw[a];rfl)
 ·refine⟨ω,G,E,r,h.m _ _ _ _ (λw b z v H1 m t r1=>?_) q⟩
  cases d:tyN w b with
  | none=>rw[d]at z;exact z.elim
  | some n=>rw[d]at z;exact⟨v,w,b,n,rfl,t,r1,d,z _ H1 m (.bl _) r1⟩
 ·subst A
  obtain⟨u,N,rfl,L,rt⟩:=HB r1
  cases rt
  exact aV o L tv y d D λtk=>⟨.bl _,H1,o.tok tk,rfl,J⟩
end
structure aX(K:PySem.W.Frag)(C:Addr):Prop where
 ga:PySem.W.findIn K (.ref C) "__getattribute__"=some (some (.builtin "BaseException.__getattribute__"))
 gh:PySem.W.findIn K (.ref C) "__getattr__"=some none
 cl:(PySem.W.clsIn K C).isSome=true
 fc:PySem.W.findIn K (.ref C) "__class__"=some (some (.builtin "object.__class__"))
 sp:PySem.W.specialIn K (.builtin "object.__class__") "__get__"=some (some (.builtin "getset_descriptor.__get__"))
 tk:PySem.W.takesIn K (.builtin "object.__class__")=some true
 mr:PySem.W.mroIn K C (.type "object")=some true
 mb:PySem.W.mroIn K C (.type "BaseException")=some true
end L3
namespace L3
open PySem PySem.W PySem.Spec PySem.Calls PyProof.Rows PySem.Builtin PySem.Builtin.ObjectAttr PySem.Builtin.Getset_descriptor
section
variable {prog:Program} {w:World} {A:Around} {E:Value->Shared->Prop} {s:Shared} {K:Frag} {x C:Addr} {name:Str}
end
end L3
namespace L3
open PySem PySem.Spec PyProof.Rows L2
variable {K:PySem.W.Frag} {H H' H2:Hp}
def iB(K:PySem.W.Frag)(cv:Value)(ge:GE):GE:=λω G Q=>ge ω G λw G1=>match w with
 | .ref a=>(match G1 a with | some (.exc C)=>∃ b,aX K C/\PySem.W.kitOne K (.ref C) cv=some b/\Q (.bl b) G1 | _=>False)
 | _=>False
section
variable {X:Cx} {e:Expr} {p pc pos:Pos} {ge:GE}
end
theorem aY{n:Nat}{b:Hw->Prop}{H1:Hp}:D4 K H1 (Itr 0 n) ((List.range n).map λi:Nat=>W.int i) b where
 go:=λi H G m r g hi=>by show i < n;simpa using hi
 yld:=λi H G x H' m r g y hi=>by
  obtain⟨e,ex⟩:=y
  subst ex
  have a:i < n:=by simpa using hi
  refine Gn r e ⟨.int i,by simp[a],?_⟩
  rw[Int.zero_add];exact .int _
 stop:=λH G m r g=>by show n<=_;simp
def CF(gs:GA):GI:=λω G R=>gs ω G λws G1=>match ws with
 | [.int j]=>-(2 ^ 62)<=j/\j < 2 ^ 62/\R ((List.range j.toNat).map λi:Nat=>W.int i) yes G1
 | _=>False
variable {gs:GA}
theorem aZ(m:gs.M):GI.M (CF gs):=λω G R a h q=>m _ _ _ _ (λc b z=>by
 split at z
 ·exact⟨z.1,z.2.1,h _ _ _ z.2.2⟩
 ·exact z.elim) q
variable {X:Cx}{a:Expr}{p pos:Pos}
theorem a5{tg:Expr}(c:X.mg "range"=none)(e:Gl X "range")(hs:starEach [a] X.env=[(false,eval a X.env)])(b:Am X [a] gs):Im X tg (.Call (.Name "range" p) [a] [] pos) (CF gs):=by
 refine⟨⟨_,V6 e c b.p hs,λσ H ω G R i f r q k=>⟨ω,G,f,r,b.m _ _ _ _ (λj g z h H1 m t r1=>?_) q⟩⟩,aZ b.m⟩
 split at z
 ·cases t with
  | cons d t=>cases t;cases d;exact⟨_,rfl,z.1,z.2.1,k _ _ _ H1 _ z.2.2 m r1 trivial aY⟩
 ·exact z.elim
theorem Inv.turneds{pins:List (Addr×Obj)}{σ:St}{s:Shared}{h':Heap}{t':Nat}{fp:List Addr}(I:Inv X pins σ H s)(a:∀ b∈fp,CP X pins H b)(k:∀ b o,b∉fp->s.heap.get? b=some o->h'.get? b=some o):Inv X pins σ H {s with heap:=h',toks:=t'}:=by
 have d:∀ b u,H b=some u->b∉fp:=λb u e z=>by rw[(a b z).1]at e;cases e
 refine I.step (g':=s.gens) (d':=s.drawn) (ch:=fp) (λb f=>⟨(a b f).2.2.2.1,(a b f).2.1,(a b f).2.2.2.2.1,(a b f).2.2.2.2.2⟩) (λb o _ _ hc e _=>k b o hc e) (λb o _ _ hc e _=>⟨o.slots,k b o hc e⟩) (λ_ _ _ _ n=>n)
  (λb o hc e=>⟨o,k b o hc e⟩) (λ_ _ e=>e) (λ_ _ _ e=>e) (λb ps e=>⟨#[],by rw[e];simp⟩) (λm g=>?_) (λb u e=>?_) I.bare
 ·obtain⟨o,es,i,h,r⟩:=g
  exact⟨o,es,i,k _ o (λz=>(a _ z).2.1 rfl) h,r⟩
 ·refine(I.hok b u e).stay (λc v hc q=>k c v ?_ q) (λ_ q=>q) λ_ _ q=>q
  rcases hc with z | z
  ·rw[z];exact d b u e
  ·exact d c _ z
variable {w:World}
theorem OH{prog:Program}{A:Around}(O:A.handled=none)(z TI TO f d j g:Addr)(D:ZipApart z TI TO f d j g)(xs ys:Array Value):
  WalksT prog w A z [z,TI,TO,f,d,j,g] [z,TO,f,d] (min xs.size ys.size) (λi u=>∃ x y,xs[i]?=some x/\ys[i]?=some y/\u=#[x,y])
   (λi h=>IsZip h z TI TO .none/\IsPair h TI (.ref f) (.ref d)/\(∃ a b,IsPair h TO a b)/\h.IsListIter f j i/\h.IsListIter d g i/\h.IsList j xs/\h.IsList g ys)
   (λi T h=>(IsZip h z TI TO (rawInt T)/\IsPair h TI (.ref f) (.ref d)/\(∃ a b,IsPair h TO a b)/\h.IsListIter f j (i+1)/\h.IsListIter d g (i+1)/\h.IsList j xs/\h.IsList g ys/\
    T≠z/\T≠TO/\T≠f/\T≠d)/\NoD h T):=
 have l:=WalksT.zip2 (prog:=prog) (w:=w) (A:=A) O z TI TO f d j g D xs ys
 {
  sub:=l.sub
  frame:=l.frame
  item:=λi s Q E hi H F=>by
   obtain⟨I,n,⟨a,b,v⟩,h1,h2,p,q⟩:=H
   have t:i < xs.size:=Yu hi (Nat.min_le_left ..)
   have m:i < ys.size:=Yu hi (Nat.min_le_right ..)
   refine wpAny_pyNext_zip_item D I n v h1 h2 p q (YV t) (YV m) λh' K P L N J R B=>?_
   walk_at "pz"
   exact F s.heap.objs.size #[xs[i],ys[i]] h' s.toks ⟨_,_,YV t,YV m,rfl⟩ (Yr _) ⟨_,J,rfl,_,rfl⟩
    ⟨⟨K,B _ _ D.TIz D.TITO D.TIi1 D.TIi2 n,⟨_,_,P⟩,L,N,p.at λo e=>B _ o D.l1z D.l1TO D.l1i1 D.l1i2 e,q.at λo e=>B _ o D.l2z D.l2TO D.l2i1 D.l2i2 e,
     lt I,lt v,(by obtain⟨_,e,_⟩:=h1;exact lt e),(by obtain⟨_,e,_⟩:=h2;exact lt e)⟩,_,J,rfl⟩
    λc o hc e=>B c o (λx=>hc (by simp[x])) (λx=>hc (by simp[x])) (λx=>hc (by simp[x])) (λx=>hc (by simp[x])) e
  go:=λr k pos i T s Q E G F=>l.go r k pos i T s Q E G.1 F
  apart:=λi T h G=>l.apart i T h G.1
  done:=l.done
  self:=l.self}
def Itz(K:PySem.W.Frag)(l1 l2:Addr):It :=
 ⟨λi H=>∃ xs ys,SqL K H l1 xs/\SqL K H l2 ys/\i < xs.length/\i < ys.length,
  λi H v H'=>∃ T x y,H T=none/\v=.ref T/\H'=upd H T (.tup [x,y])/\∀ xs ys,SqL K H l1 xs->SqL K H l2 ys->xs[i]?=some x/\ys[i]?=some y,
  λi H=>∃ xs ys,SqL K H l1 xs/\SqL K H l2 ys/\i=min xs.length ys.length⟩
variable {k:Nat}{tpos:Pos}
theorem a6{P:Program}{F:List Expr}{z TI TO y u l1 Y:Addr}(D:ZipApart z TI TO y u l1 Y):
  CQ P w K (.Tuple F k tpos) (Itz K l1 Y) [z,TI,TO,y,u] z (λi h=>IsZip h z TI TO .none/\IsPair h TI (.ref y) (.ref u)/\(∃ a b,IsPair h TO a b)/\h.IsListIter y l1 i/\h.IsListIter u Y i) where
 mem:=by simp
 obj:=λi h st b n=>by
  obtain⟨B,f,⟨a,c,l⟩,⟨o1,e1,_,d1⟩,⟨o2,e2,_,d2⟩⟩:=st
  walk_at "pA"
  rcases n with rfl | rfl | rfl | rfl | rfl
  ·exact⟨_,B,λv z=>by cases z⟩
  ·exact⟨_,f,λv z=>by cases z⟩
  ·exact⟨_,l,λv z=>by cases z⟩
  ·exact⟨o1,e1,λv z=>by rw[d1]at z;cases z⟩
  ·exact⟨o2,e2,λv z=>by rw[d2]at z;cases z⟩
 keep:=λi h h' st kk=>by
  obtain⟨B,f,⟨a,c,l⟩,h1,h2⟩:=st
  exact⟨kk z (by simp) _ B,kk TI (by simp) _ f,⟨a,c,kk TO (by simp) _ l⟩,h1.at λo e=>kk y (by simp) o e,h2.at λo e=>kk u (by simp) o e⟩
 item:=by
  walk_at "pN"
  subst hP hw hK
  obtain⟨xs,ys,hx,hy,hix,hiy⟩:=hg
  obtain⟨g,r1,J,z1⟩:=I.list hx
  obtain⟨j,r2,N,z2⟩:=I.list hy
  have n1:=r1.length
  have n2:=r2.length
  obtain⟨B,f,l,h1,h2⟩:=st
  have Wk:=OH (prog:=X.prog) (w:=X.w) (A:=X.A) (I.ok.hd hc) z TI TO y u l1 Y D g.toArray j.toArray
  refine Wk.item i s _ _ (by simp only[Yn];omega) ⟨B,f,l,h1,h2,J.isList,N.isList⟩ λT vals h' tk hPt hT U t hk=>⟨.ref T,rfl,?_⟩
  refine Wk.go F k tpos i T _ _ _ t λG r S=>?_
  obtain⟨v1,v2,g1,g2,rfl⟩:=hPt
  have g1':g[i]?=some v1:=by simpa using g1
  have g2':j[i]?=some v2:=by simpa using g2
  have gx:xs[i]?=some xs[i]:=Yp hix
  have gy:ys[i]?=some ys[i]:=Yp hiy
  obtain⟨u1,q1,rv1⟩:=r1.get gx
  obtain⟨u2,q2,rv2⟩:=r2.get gy
  rw[g1']at q1;cases q1
  rw[g2']at q2;cases q2
  have O:∀ b,b∉[z,TI,TO,y,u]->b∉[z,TO,y,u]:=λb n hc=>n (by
   walk_at "pv"
   rcases hc with h | h | h | h <;> simp[h])
  walk_at "pu"
  have Z:H T=none:=I.hok.fresh hT
  have L:TupP G T #[v1,v2]:=by
   obtain⟨o,e,c,m,d⟩:=U
   obtain⟨o',e',hd⟩:=t.2
   rw[e]at e'
   cases e'
   exact⟨o,S _ _ (Wk.apart _ _ _ t) e,c,hd,m,d⟩
  walk_at "ph"
  have I2:Inv X pins σ (upd H T (.tup [xs[i],ys[i]])) {s with heap:=G,toks:=tk}:=by
   walk_at "pr"
   ·obtain⟨m,⟨o,es,ep,ho,_⟩,_⟩:=I.loc
    exact YU (lt ho)
   ·obtain⟨v,o,ho,_⟩:=I.cell x c e
    exact lt ho
   ·exact lt (I.pin p hp).1
   ·cases e:X.s₀.heap.get? T with
    | none=>rfl
    | some o=>exact absurd (Yu (Qj e) (Yt I.sz hT)) (YJ _)
  walk_at "pn"
  ·rw[I.list_inj hx' hx,I.list_inj hy' hy];exact⟨gx,gy⟩
  ·have hb':=(hf b n).1
   have:b≠T:=by
    obtain⟨o,e,_⟩:∃ o,s.heap.get? b=some o/\True:=by
     obtain⟨a,c,R⟩:=l
     obtain⟨o1,e1,_⟩:=h1
     obtain⟨o2,e2,_⟩:=h2
     walk_at "pA"
     rcases n with rfl | rfl | rfl | rfl | rfl
     ·exact⟨_,B,trivial⟩
     ·exact⟨_,f,trivial⟩
     ·exact⟨_,R,trivial⟩
     ·exact⟨_,e1,trivial⟩
     ·exact⟨_,e2,trivial⟩
    exact lt e
   rw[A4 this];exact hb'
 done:=by
  walk_at "pN"
  subst hP hw hK
  obtain⟨xs,ys,hx,hy,hi⟩:=hg
  obtain⟨g,r1,J,z1⟩:=I.list hx
  obtain⟨j,r2,N,z2⟩:=I.list hy
  have n1:=r1.length
  have n2:=r2.length
  obtain⟨B,f,l,h1,h2⟩:=st
  have Wk:=OH (prog:=X.prog) (w:=X.w) (A:=X.A) (I.ok.hd hc) z TI TO y u l1 Y D g.toArray j.toArray
  have hi':i=min g.toArray.size j.toArray.size:=by simp only[Yn];omega
  subst hi'
  refine Wk.done s _ _ ⟨B,f,l,h1,h2,J.isList,N.isList⟩ λh' tk hk=>⟨rfl,Inv.turneds I hf λb o n e=>hk b o (λhc=>n ?_) e⟩
  walk_at "pv"
  rcases hc with h | h | h | h <;> simp[h]
 self:=λA i s Q E st h=>wpAny_pyIter_zip st.1 h
def a7(K:PySem.W.Frag)(ta:TA):TI:=λσ H R=>ta σ H λvs H1=>∃ a b xs ys,vs=[.ref a,.ref b]/\SqL K H1 a xs/\SqL K H1 b ys/\R (Itz K a b) H1
variable {b:Expr}
theorem a8{ta:TA}{i:List Expr}(P:Gl X "zip")(L:X.mg "zip"=none)(F:PA X [a,b] ta)(hs:starEach [a,b] X.env=[(false,eval a X.env),(false,eval b X.env)])(d:starEach [b] X.env=[(false,eval b X.env)]):
  PI X (.Tuple i k tpos) (.Call (.Name "zip" p) [a,b] [] pos) (a7 X.K ta):=by
 intro pins s σ H R I h
 walk_at "pk"
 obtain⟨S,H1,c,r1,q1⟩:=t
 obtain⟨Q,J,xs,ys,e,D,A,q⟩:=q1
 subst e
 obtain⟨u,T,rfl,B,r⟩:=HB r1
 cases B
 cases r
 obtain⟨y,_,f,_⟩:=c.list D
 obtain⟨z,_,j,_⟩:=c.list A
 have E:Q < l.heap.objs.size:=by obtain⟨_,e,_⟩:=f.isList;exact Qj e
 have O:J < l.heap.objs.size:=by obtain⟨_,e,_⟩:=j.isList;exact Qj e
 refine call_zip_2 f.isList j.isList λh' x n v o m G N=>wpAny_pyIter_zip x ?_
 refine⟨_,_,_,_,H1,rfl,c.kept (t':=l.toks) N,a6 (zipApart_new E O),⟨x,n,⟨_,_,v⟩,o,m⟩,λb w=>?_,q⟩
 have g:l.heap.objs.size<=b:=by
  simp only[Yo,YY,or_false]at w
  rcases w with rfl | rfl | rfl | rfl | rfl
  ·exact YX _ 4
  ·exact YX _ 2
  ·exact YX _ 3
  ·exact Yr _
  ·exact YX _ 1
 exact c.fpOk g (c.hok.fresh g)
def rdL(G:Hw)(w:W):Option (List W):=match w with
 | .rol xs=>some xs
 | .ref a=>(match G a with | some (.lst xs)=>some xs | _=>none)
 | _=>none
theorem B4{G:Hw}{w:W}{xs:List W}{v:V}(r:RelH K H G)(t:Tr K H v w)(e:rdL G w=some xs):∃ a vs,v=.ref a/\SqL K H a vs/\TrL K H vs xs:=by
 cases t with
 | rol h l=>cases e;exact⟨_,_,rfl,h.sq,l⟩
 | ref a =>
  unfold rdL at e;dsimp only at e
  cases z:G a with
  | none=>rw[z]at e;cases e
  | some o =>
   rw[z]at e
   cases o with
   | lst ys=>cases e;obtain⟨vs,b,c⟩:=r a _ z;exact⟨a,vs,rfl,SqL.of b,c⟩
   | exc C=>cases e
   | ins C fs=>cases e
   | dct d=>cases e
 | _=>cases e
def BA:List W->List W->List W
 | x::xs,y::ys=>.tup [x,y]::BA xs ys
 | _,_=>[]
theorem E0:∀(xs ys:List W),(BA xs ys).length=min xs.length ys.length
 | [],_=>by simp[BA]
 | _::_,[]=>by simp[BA]
 | _::xs,_::ys=>by simp only[BA,Yg,E0 xs ys];omega
theorem HQ:∀(xs ys:List W)(i:Nat){x y:W},xs[i]?=some x->ys[i]?=some y->(BA xs ys)[i]?=some (.tup [x,y])
 | [],_,_,_,_,h,_=>by simp at h
 | _::_,[],_,_,_,_,h=>by simp at h
 | a::xs,b::ys,0,x,y,h,h'=>by simp at h h';subst h;subst h';rfl
 | a::xs,b::ys,i+1,x,y,h,h'=>by
  have:=HQ xs ys i (x:=x) (y:=y) (by simpa using h) (by simpa using h')
  simpa[BA]using this
def Dv(gs:GA):GI:=λω G R=>gs ω G λws G1=>match ws with
 | [x,y]=>(match rdL G1 x,rdL G1 y with
  | some xs,some ys=>R (BA xs ys) (λG=>rdL G x=some xs/\rdL G y=some ys) G1
  | _,_=>False)
 | _=>False
theorem OI{gs:GA}{R:List W->(Hw->Prop)->Hw->Prop}{b:List W}{a:Hw}(z:match b with
 | [x,y]=>(match rdL a x,rdL a y with
  | some xs,some ys=>R (BA xs ys) (λG=>rdL G x=some xs/\rdL G y=some ys) a
  | _,_=>False)
 | _=>False):∃ x y xs ys,b=[x,y]/\rdL a x=some xs/\rdL a y=some ys/\R (BA xs ys) (λG=>rdL G x=some xs/\rdL G y=some ys) a:=by
 split at z
 ·rename_i x y
  split at z
  ·rename_i xs ys c d;exact⟨x,y,xs,ys,rfl,c,d,z⟩
  ·exact z.elim
 ·exact z.elim
theorem a9(m:gs.M):GI.M (Dv gs):=λω G R d h q=>m _ _ _ _ (λe c z=>by
 obtain⟨x,y,xs,ys,rfl,a,b,z⟩:=OI (gs:=gs) z
 dsimp only
 rw[a,b]
 exact h _ _ _ z) q
theorem ba{j:List Expr}(hm:X.mg "zip"=none)(hg:Gl X "zip")(hs:starEach [a,b] X.env=[(false,eval a X.env),(false,eval b X.env)])(E:starEach [b] X.env=[(false,eval b X.env)])(F:Am X [a,b] gs):
  Im X (.Tuple j k tpos) (.Call (.Name "zip" p) [a,b] [] pos) (Dv gs):=by
 refine⟨⟨_,a8 hg hm F.p hs E,λσ H ω G R R0 ts r q kk=>⟨ω,G,ts,r,F.m _ _ _ _ (λws G1 z vs H1 m t r1=>?_) q⟩⟩,a9 F.m⟩
 obtain⟨x,y,xs,ys,rfl,P,Y,z⟩:=OI (gs:=gs) z
 cases t with
 | cons w t =>
  cases t with
  | cons ty t =>
   cases t
   obtain⟨a1,D,rfl,L,l1⟩:=B4 r1 w P
   obtain⟨a2,J,rfl,I,l2⟩:=B4 r1 ty Y
   refine⟨a1,a2,D,J,rfl,L,I,kk _ _ _ H1 _ z m r1 ⟨P,Y⟩ ⟨λi u Q f d g3 hi=>?_,λi u Q v H4 f d g3 y3 hi=>?_,λu Q f d g3=>?_⟩⟩
   ·obtain⟨U,e,o,s,g⟩:=B4 d (w.mono f) g3.1
    obtain⟨O,c,n,l,h⟩:=B4 d (ty.mono f) g3.2
    cases o;cases n
    rw[E0]at hi
    exact⟨e,c,s,l,by rw[g.length];omega,by rw[h.length];omega⟩
   ·obtain⟨U,e,o,s,g⟩:=B4 d (w.mono f) g3.1
    obtain⟨O,c,n,l,h⟩:=B4 d (ty.mono f) g3.2
    cases o;cases n
    obtain⟨T,v1,v2,S,rfl,rfl,Z⟩:=y3
    obtain⟨g1,g2⟩:=Z _ _ s l
    obtain⟨w1,q1,N⟩:=g.get' g1
    obtain⟨w2,q2,A⟩:=h.get' g2
    have B:Mono X.K u (upd u T (.tup [v1,v2])):=Mono.new S _
    exact⟨B,d.mono0 S,_,HQ _ _ i q1 q2,.tup (SqT.of BO) (.cons (N.mono B) (.cons (A.mono B) .nil))⟩
   ·obtain⟨U,e,o,s,g⟩:=B4 d (w.mono f) g3.1
    obtain⟨O,c,n,l,h⟩:=B4 d (ty.mono f) g3.2
    cases o;cases n
    exact⟨e,c,s,l,by rw[E0,g.length,h.length]⟩
theorem bb:bootBuiltins "len"=some (.builtin "len"):=by decide +kernel
theorem Dw:bootBuiltins "all"=some (.builtin "all"):=by decide +kernel
theorem FJ:bootBuiltins "sum"=some (.builtin "sum"):=by decide +kernel
theorem OJ:bootBuiltins "max"=some (.builtin "max"):=by decide +kernel
theorem OK:bootBuiltins "list"=some (.type "list"):=by decide +kernel
theorem FK:bootBuiltins "tuple"=some (.type "tuple"):=by decide +kernel
theorem OL:bootBuiltins "int"=some (.type "int"):=by decide +kernel
theorem bc:bootBuiltins "str"=some (.type "str"):=by decide +kernel
theorem bd:bootBuiltins "bool"=some (.type "bool"):=by decide +kernel
theorem K5:bootBuiltins "dict"=some (.type "dict"):=by decide +kernel
section
variable {X:Cx} {P:Hp->Prop} {a b c e:Expr} {es:List Expr} {pos pos' p:Pos} {ga gb ge:GE} {gt:GT}
variable {x:Str}{i:Nat}
theorem be(hi:X.N[i]?=some x)(a:seen X.env.scope x=true)(hd:(x==("__debug__":Str))=false)(hc:(x==("__classdict__":Str))=false):Em X (.Name x pos) (Ab i):=⟨XE hi (Oc a) hd hc,XD⟩
theorem HR(c:X.N.Nodup)(hi:X.N[i]?=some x)(b:Gr X.env.scope x=true)(hs:swapsWith e (some (.Name x pos')) pos.line X.env=pure false)(a:Em X e ga):Sm X P (.Assign [.Name x pos'] e pos) (An i ga):=
 ⟨NY c hi (.inl (Gs b)) a.m a.p hs (.inr (Gs b)),KC a.m⟩
theorem bf{n:Nat}(c:X.N.Nodup)(hi:X.N[n]?=some x)(b:Gr X.env.scope x=true)(a:Em X e ga):Sm X P (.AugAssign (.Name x pos') .Add e pos) (B3 n BY ga):=
 ⟨am (OpR.or Wj WD) Ot ao c hi (.inl (Gs b)) (.inr (Gs b)) a.m a.p,al Ot a.m⟩
def Glb(K:PySem.W.Frag)(mg:Str->Option Value)(x:Str)(w:W):Prop:=∃ v u,mg x=some u/\RelV v u/\∀ H,Tr K H v w
theorem E1{w:W}(h:Glb X.K X.mg x w)(a:Gl X x)(hd:(x==("__debug__":Str))=false):Em X (.Name x pos) (gC w):=
 let⟨_,_,h1,h2,h3⟩:=h
 ⟨NU a h1 h2 h3 hd,FA⟩
structure Fm(X:Cx)(ifs:List Expr)(g:GT):Prop where
 p:PFw X ifs g
 m:g.M
theorem Bc:Fm X [] AA:=⟨ZA,Zz⟩
theorem bg(h:Tm X c gt):Fm X [c] gt:=⟨ZC h.p,h.m⟩
theorem BL{elt tg iter:Expr}{ifs:List Expr}{scope:Scope}{Nc:List Str}{gi:GI}{a:GG}(hc:X.calm=true)(B:Blk X Nc scope [] (λ_=>List.replicate Nc.length none))(hs:∀ x,foldedSetIterable iter X.env x=pure x)(hi:Im X tg iter gi)
  (d:TgU X Nc scope tg a) (b:∀ C fp s H,Fm (cxB X Nc scope [] C fp s H) ifs gt) (c:∀ C fp s H,Em (cxB X Nc scope [] C fp s H) elt ge):Em X (.ListComp elt [⟨tg,iter,ifs,0⟩] scope pos) (AQ gi Nc.length a gt ge):=
 have f:gt.M:=(b 0 [] X.s₀ X.H₀).m
 have e:ge.M:=(c 0 [] X.s₀ X.H₀).m
 ⟨ZF hc hi.p B d f (λC fp s H=>(b C fp s H).p) e (λC fp s H=>(c C fp s H).p) hs,Zy hi.m d.mono f e⟩
theorem Dx:FC X (λ_ _ _=>False):=(by rintro pins σ H s ev s' I ⟨e,C,H',a,F,b,ω,G,c,d,r,q⟩;exact q.elim)
theorem A7{A:Around}(a:Room k A):A.units+100 < cLine:=by have:=a.un;omega
end
def E2:List (Str×Int)->Str->W
 | [],_=>.non
 |(x,i)::D,z=>if z=x then .int i else E2 D z
def K6(mg:Str->Option Value)(base:Heap)(x:Str)(D:List (Str×Int)):Prop:=∃ d,mg x=some (.ref d)/\KTD.TextTab base d (D.map λp=>(p.1,KTD.Dat.flat (.int p.2)))
theorem OM:∀{D:List (Str×Int)}{z:Str}{d:KTD.Dat},KTD.datumAt z (D.map λp=>(p.1,KTD.Dat.flat (.int p.2)))=some d->∃ i,d=.flat (.int i)/\E2 D z=.int i
 | [],_,_,h=>by cases h
 |(x,i)::D,z,d,h=>by
  have h':(if decide (z=x)=true then some (KTD.Dat.flat (.int i))else KTD.datumAt z (D.map λp=>(p.1,KTD.Dat.flat (.int p.2))))=some d:=h
  unfold E2
  by_cases a:z=x
  ·rw[if_pos (YG a)]at h'
   cases h'
   exact⟨i,rfl,if_pos a⟩
  ·rw[if_neg (by simpa using a)]at h'
   rw[if_neg a]
   exact OM h'
theorem ON:∀{D:List (Str×Int)}{z:Str},KTD.datumAt z (D.map λp=>(p.1,KTD.Dat.flat (.int p.2)))=none->E2 D z=.non
 | [],_,_=>rfl
 |(x,i)::D,z,h=>by
  have h':(if decide (z=x)=true then some (KTD.Dat.flat (.int i))else KTD.datumAt z (D.map λp=>(p.1,KTD.Dat.flat (.int p.2))))=none:=h
  unfold E2
  by_cases a:z=x
  ·rw[if_pos (YG a)]at h';cases h'
  ·rw[if_neg (by simpa using a)]at h'
   rw[if_neg a]
   exact ON h'
def FL(D:List (Str×Int))(gk:GE):GE:=λω G Q=>gk ω G λw G1=>match w with | .str z=>Q (E2 D z) G1 | _=>False
theorem bh{x:Str}{D:List (Str×Int)}{e:Expr}{j apos cpos:Pos}{k:GE}(h:K6 X.mg X.base x D)(Y:Gl X x)(hd:(x==("__debug__":Str))=false)(c:attributeBase (.Name x j) "get" X.env (eval (.Name x j) X.env)=eval (.Name x j) X.env)
  (g:((backTo cpos (starEach [e] X.env)).all (λx=>!x.1)&&(backToKw cpos (keywordEach [] X.env)).all (λx=>x.1.isSome)&&decide ([e].length+([]:List Keyword).length+(if([]:List Keyword).isEmpty then 0 else 1) < 30))=true)
  (f:(apos.endLine==cpos.line)=true) (hs:starEach [e] X.env=(false,eval e X.env)::starEach [] X.env) (hplain:(backTo cpos (starEach [] X.env)).any (·.1)=false) (l:Em X e k):
  Em X (.Call (.Attribute (.Name x j) "get" apos) [e] [] cpos) (FL D k):=by
 refine⟨λpins s σ H Q I⟨ω,G,P,r,q⟩=>?_,λω G Q Q' U q=>l.m _ _ _ _ (λw R z=>by cases w <;> first | exact U _ _ z | exact z) q⟩
 obtain⟨d,S,T⟩:=h
 have b:KTD.Here X.base s.heap d (D.map λp=>(p.1,KTD.Dat.flat (.int p.2))):=⟨T,I.bk⟩
 refine wpAny_Call_method_late c g f rfl (Gg I Y S ⟨"dict","dict.get",PySem.F.plainAttrs_dict,PySem.F.slot_dict_get,PySem.F.type_dict_get,b.typeIs,b.noDict,?_⟩ hd)
 have pa:PA X [e] (Fz (up X.K k) Gi):=Gj l.p HC hs
 have A:=pa cpos pins s σ H (λB H1=>∃ z,B=[.str z]/\∀ v,Tr X.K H1 v (E2 D z)->Q v H1) I ⟨ω,G,P,r,l.m _ _ _ _ (λw R z v H1 m t r1=>by
  cases w with
  | str y=>exact⟨y,by rw[N1 t],λv tv=>z v H1 m tv r1⟩
  | _=>exact z.elim) q⟩
 rw[hs]at A ⊢
 refine Calls.callWith_builtin (by show(false||(backTo cpos (starEach [] X.env)).any (·.1))=false;rw[hplain] <;> rfl) (Calls.evalArgs_plain ?_)
 refine thn A λus N o=>?_
 obtain⟨B,H2,n,r2,z,E,q2⟩:=o
 subst E
 obtain⟨u,rfl,J⟩:=Cq r2
 obtain⟨t,rfl⟩:=J
 have a:KTD.Here X.base N.heap d (D.map λp=>(p.1,KTD.Dat.flat (.int p.2))):=⟨T,n.bk⟩
 refine call_meetsIn PySem.F.slot_dict_get a.typeIs PySem.F.entry_dict_get (PySem.F.args_dict_get_2 _ _) (KTD.meets_get1 (h₀:=X.base) (D:=D.map λp=>(p.1,KTD.Dat.flat (.int p.2)))) ⟨a,λdd v O L=>?_,λhn=>?_⟩
 ·obtain⟨i,rfl,Z⟩:=OM O
  obtain⟨t2,rfl⟩:=PyProof.V.Flat.int_inv L
  exact⟨.int i,H2,n.tok _,⟨_,rfl⟩,q2 _ (by rw[Z];exact .int i)⟩
 ·exact⟨.non,H2,n.tok _,rfl,q2 _ (by rw[ON hn];exact .non)⟩
def Fn(K:PySem.W.Frag)(mg:Str->Option Value)(st:Stmt)(x:Str)(ps:List Str):Prop:=∃ f fd,mg x=some (.ref f)/\Fun K x x st f fd/\Binds K fd ps []
section
variable {P:Program} {w:World} {mg:Str->Option Value} {base:Heap}
variable {x:Str}{st:Stmt}{N ps:List Str}{n:Nat}{sp:Spw}
theorem mk0{g:GS}(Fx:Fn K mg st x ps)(i:ps.length=n)(S:AE N ps (Ar st))(e:sp.M)(len:∀ c G Q E,sp c G Q E->c.length=n)
  (j:∀{f:Addr}{cdv:Value}{A:Around}{outer:List Env}{s:Shared}{H:Hp}{E:XK},Room k (A.deeper (envOfC x (Ar st) s.heap.objs.size f cdv))->Ssm (cxW P w K mg base N x (Ar st) f cdv A outer s H E).nox (λB=>B=H) (Cb st) g)
  (ok:∀ c G(Q:Kw)(E:Addr->Hw->Prop),Kw.C Q->sp c G Q E->g (Av Q) (BX N c) G):Df P w K mg base x (k+1) n sp:=by
 obtain⟨f,fd,h1,F,I⟩:=Fx
 refine⟨⟨f,fd,ps,h1,F.kp,I,i,?_⟩,e⟩
 obtain⟨L,O,kV,v,pm,J,cdv,ct,l,rfl,lk,d⟩:=F.ex
 refine HD lk d S ((by rintro o H Q E ⟨c,G,t,r,q⟩;rw[t.length,i];exact len c G _ _ q)) λA outer s H o Q E u h=>?_
 obtain⟨c,G,t,r,q⟩:=h
 have D:=j (cdv:=cdv) (outer:=outer) (H:=H) (E:=E) u
 refine⟨_,(D.p H rfl).nox,BX N c,G,KA t,r,.refl,?_⟩
 exact D.m _ _ (Av (dn K H Q)) _ (λa b z σ H2 m R y=>z _ H2 m Tr.non y) (λa b z=>z) (λa b z=>z.elim) (λa b z=>z.elim) (ok c G _ _ KB q)
theorem mkX{g:(Addr->Hw->Prop)->GS}(Fx:Fn K mg st x ps)(i:ps.length=n)(S:AE N ps (Ar st))(e:sp.M)(len:∀ c G Q E,sp c G Q E->c.length=n)
  (j:∀{f:Addr}{cdv:Value}{A:Around}{outer:List Env}{s:Shared}{H:Hp}{E:XK},Room k (A.deeper (envOfC x (Ar st) s.heap.objs.size f cdv))->Ssm (cxW P w K mg base N x (Ar st) f cdv A outer s H E) (λB=>B=H) (Cb st) (g (dnX K H E)))
  (ok:∀ c G(Q:Kw)(E:Addr->Hw->Prop),Kw.C Q->Xc E->sp c G Q E->g E (Av Q) (BX N c) G):Df P w K mg base x (k+1) n sp:=by
 obtain⟨f,fd,h1,F,I⟩:=Fx
 refine⟨⟨f,fd,ps,h1,F.kp,I,i,?_⟩,e⟩
 obtain⟨L,O,kV,v,pm,J,cdv,ct,l,rfl,lk,d⟩:=F.ex
 refine HD lk d S ((by rintro o H Q E ⟨c,G,t,r,q⟩;rw[t.length,i];exact len c G _ _ q)) λA outer s H o Q E u h=>?_
 obtain⟨c,G,t,r,q⟩:=h
 have D:=j (cdv:=cdv) (outer:=outer) (H:=H) (E:=E) u
 refine⟨_,D.p H rfl,BX N c,G,KA t,r,.refl,?_⟩
 exact D.m _ _ (Av (dn K H Q)) _ (λa b z σ H2 m R y=>z _ H2 m Tr.non y) (λa b z=>z) (λa b z=>z.elim) (λa b z=>z.elim) (ok c G _ _ KB XS q)
end
end L3
namespace L3
open PySem PySem.Spec PyProof.Rows L2
def Bi{α:Type}(n:Nat)(js:List Nat)(l:List (Option α)):List (Option α):=List.replicate n none++js.map λj=>(l[j]?).getD none
variable {n:Nat}{js:List Nat}
theorem K8{α:Type}{l:List (Option α)}:(Bi n js l).length=n+js.length:=by simp[Bi]
variable {i:Nat}
theorem OO{α:Type}{l:List (Option α)}{v:α}(h:(Bi n js l)[i]?=some (some v)):∃ m j,i=n+m/\js[m]?=some j/\l[j]?=some (some v):=by
 unfold Bi at h
 by_cases hi:i < n
 ·rw[YI (by simpa using hi),List.getElem?_replicate]at h
  split at h <;> cases h
 ·rw[List.getElem?_append_right (by simpa using Nat.le_of_not_lt hi),List.length_replicate,YM]at h
  cases a:js[i - n]? with
  | none=>rw[a]at h;cases h
  | some j =>
   rw[a]at h
   refine⟨i - n,j,by omega,a,?_⟩
   have h':(l[j]?).getD none=some v:=YD h
   cases e:l[j]? with
   | none=>rw[e]at h';cases h'
   | some o=>rw[e]at h';exact congrArg some h'
variable {j:Nat}
theorem bi{α:Type}{m:Nat}{l:List (Option α)}{v:α}(h1:js[m]?=some j)(h2:l[j]?=some (some v)):(Bi n js l)[n+m]?=some (some v):=by
 unfold Bi
 rw[List.getElem?_append_right (by simp),List.length_replicate,YM]
 have:n+m - n=m:=by omega
 rw[this,h1]
 show some ((l[j]?).getD none)=_
 rw[h2];rfl
variable {K:PySem.W.Frag}
theorem TrSt.cap{H:Hp}{σ:St}{ω:Sw}(t:TrSt K H σ ω)(n:Nat)(js:List Nat):TrSt K H (Bi n js σ) (Bi n js ω):=by
 refine⟨by rw[K8,K8],λi w e=>?_⟩
 obtain⟨m,j,rfl,h1,h2⟩:=OO e
 obtain⟨v,a,r⟩:=t.get j w h2
 exact⟨v,bi h1 a,r⟩
def Dy(env:Env):List (Str×NameKind)->List (Str×Addr)->List (Str×Addr)
 | [],cs=>cs
 |(n,k)::r,cs=>Dy env r (if k=.free then(n,(env.cells.lookup n).getD 0)::cs else cs)
theorem OP{env:Env}:∀(l:List (Str×NameKind))(a:List (Str×Addr)),(∀ y∈l,y.2=.free->∃ c,env.cells.lookup y.1=some c)->
  (forIn l a λ(x:Str×NameKind)r=>if(x.2==NameKind.free)=true then do let c <- cellOf env x.1;pure (ForInStep.yield ((x.1,c)::r))else pure (ForInStep.yield r):Sem (List (Str×Addr)))=pure (Dy env l a)
 | [],a,_=>by simp[Dy]
 |(n,k)::r,a,h=>by
  have d:=λa=>OP r a λy f=>h y (Yd _ f)
  rw[List.forIn_cons]
  by_cases b:k=.free
  ·obtain⟨c,hc⟩:=h (n,k) Ye b
   subst b
   have e:cellOf env n=pure c:=by unfold cellOf;rw[hc]
   simp only[beq_self_eq_true,if_true,e,pure_bind,Dy,hc,Option.getD_some]
   exact d _
  ·have:(k==NameKind.free)=false:=by simpa using b
   simp only[this,Yq,if_false,pure_bind,Dy,b]
   exact d _
theorem OQ{env:Env}{y:Str}{c:Addr}:∀(l:List (Str×NameKind))(a:List (Str×Addr)),(Dy env l a).lookup y=some c->a.lookup y=some c\/((y,NameKind.free)∈l/\c=(env.cells.lookup y).getD 0)
 | [],a,h=>.inl h
 |(n,k)::r,a,h=>by
  rcases OQ r _ h with q |⟨q1,q2⟩
  ·split at q
   ·rename_i b
    subst b
    rw[List.lookup_cons]at q
    split at q
    ·rename_i e
     have d:y=n:=beq_iff_eq.mp e
     subst d
     exact .inr ⟨Ye,(YD q).symm⟩
    ·exact .inl q
   ·exact .inl q
  ·exact .inr ⟨Yd _ q1,q2⟩
theorem OR{env:Env}{y:Str}:∀(l:List (Str×NameKind))(a:List (Str×Addr)),(∃ c,a.lookup y=some c)->∃ c,(Dy env l a).lookup y=some c
 | [],a,h=>h
 |(n,k)::r,a,h=>OR r _ (by
  split
  ·rw[List.lookup_cons]
   split
   ·exact⟨_,rfl⟩
   ·exact h
  ·exact h)
theorem OS{env:Env}{y:Str}:∀(l:List (Str×NameKind))(a:List (Str×Addr)),(y,NameKind.free)∈l->∃ c,(Dy env l a).lookup y=some c
 | [],a,h=>by cases h
 |(n,k)::r,a,h=>by
  rcases Yo.mp h with h | h
  ·cases h
   refine OR r _ ⟨(env.cells.lookup y).getD 0,?_⟩
   rw[if_pos rfl,List.lookup_cons,beq_self_eq_true]
  ·exact OS r _ h
variable {scope:Scope}{y:Str}
theorem OT{env:Env}{k:NameKind}(nocell:∀ z∈scope.names,z.2≠.cell)(h:(relabel scope env).names.lookup y=some k)(b:k=.cell\/k=.free):(y,NameKind.free)∈scope.names:=by
 have m:=Ku h
 unfold relabel at m
 obtain⟨⟨n,c⟩,a,e⟩:=YC.mp m
 dsimp only at e
 split at e
 ·rename_i hc
  cases e
  simp only[YF,beq_iff_eq]at hc
  rw[hc.1.1]at a
  exact a
 ·cases e
  rcases b with rfl | rfl
  ·exact absurd rfl (nocell _ a)
  ·exact a
theorem OU{env:Env}(a:env.scope.kind=.function):∀{names:List (Str×NameKind)}{x:Str},names.lookup x=some .free->env.kindOf x=some .cell->
  (names.map λ(n,k)=>if(k==NameKind.free&&env.scope.kind==.function&&env.kindOf n==some .cell)then(n,NameKind.cell)else(n,k)).lookup x=some .cell
 | [],_,h,_=>by cases h
 |(n,k)::r,x,h,b=>by
  rw[List.lookup_cons]at h
  rw[Ym]
  split at h
  ·rename_i e
   have i:x=n:=beq_iff_eq.mp e
   subst i
   cases h
   have c:(NameKind.free==NameKind.free&&env.scope.kind==ScopeKind.function&&env.kindOf x==some NameKind.cell)=true:=by rw[a,b];rfl
   dsimp only
   rw[if_pos c,List.lookup_cons,beq_self_eq_true]
  ·rename_i e
   have g:=OU a (names:=r) h b
   rw[List.lookup_cons]
   have f:(x==(if(k==NameKind.free&&env.scope.kind==ScopeKind.function&&env.kindOf n==some NameKind.cell)=true then(n,NameKind.cell)else(n,k)).1)=false:=by
    split <;> exact e
   dsimp only at f ⊢
   split
   ·rename_i d;rw[f]at d;cases d
   ·exact g
variable {X:Cx}
theorem Ce{own fr:List Str}{scX:Scope}(kind:scope.kind=.function)(names:∀ x∈scope.names,x.2=.local->scope.names.lookup x.1=some .local)(nocell:∀ y∈scope.names,y.2≠.cell)
  (s:∀ y∈scope.names,y.2=.free->y.1∈fr) (w:∀ y∈fr,scope.names.lookup y=some .free) (b:X.env.scope=scX) (k:scX.kind=.function) (p:X.env.cells=cellsFrom n scX.names []) (t:∀ y∈fr,scX.names.lookup y=some .cell)
  (r:js.map (λj=>X.N[j]?)=fr.map some):Blk X (own++fr) scope (Dy X.env scope.names []) (Bi own.length js):=by
 have d:∀ y∈fr,∃ c,X.env.cells.lookup y=some c:=λy a=>by
  rw[p]
  exact Kk (t y a)
 have f:js.length=fr.length:=by have:=congrArg List.length r;simpa using this
 refine⟨?_,kind,names,nocell,λy c h=>?_,λy h=>?_,λσ i y v h1 h2 D=>?_,λσ=>by rw[K8,Yj,f]⟩
 ·have:=OP (env:=X.env) scope.names [] λy a o=>d _ (s y a o)
  unfold closureFor
  simp only[bind_pure]
  exact this
 ·rcases OQ _ _ h with q |⟨q1,q2⟩
  ·cases q
  ·obtain⟨B,e⟩:=d y (s _ q1 rfl)
   rw[e]at q2 ⊢
   exact congrArg some q2.symm
 ·refine OS _ _ ?_
  rcases h with h | h
  ·exact OT nocell h (.inl rfl)
  ·exact OT nocell h (.inr rfl)
 ·obtain⟨m,j,rfl,u,A⟩:=OO h2
  rw[List.getElem?_append_right (by omega)]at h1
  have:own.length+m - own.length=m:=by omega
  rw[this]at h1
  have a:y∈fr:=List.mem_of_getElem? h1
  have q:=congrArg (λl=>l[m]?) r
  simp only[YM,u,h1,Option.map_some]at q
  have g:X.env.scope.names.lookup y=some .cell:=by rw[b];exact t y a
  refine⟨.inl (OU (by rw[b];exact k) (w y a) g),.inr (.inl g),(by rw[g];intro z;cases z),j,YD q,A⟩
def AW(gi:GI)(n:Nat)(js:List Nat)(gg:GG)(gt:GT)(ge:GE):GE:=λω G Q=>gi ω G λws gd G1=>AV gd gg gt ge (λys G2=>∀ p,G2 p=none->Q (.ref p) (put G2 p (.lst ys))) ws (Bi n js ω) G1 []
variable {gi:GI}{gt:GT}{ge:GE}
theorem K9{a:GG}(c:gi.M)(mg:a.M)(e:gt.M)(d:ge.M):GE.M (AW gi n js a gt ge):=λω G Q j h q=>
 c _ _ _ _ (λi g f z=>HK mg e d (λys k z p b=>h _ _ (z p b)) _ _ _ _ z) q
theorem OV{B:GG}{wi:TI}{g:TG}(N:∀(σ:St)(H:Hp)(ω:Sw)(G:Hw)(R:List W->(Hw->Prop)->Hw->Prop)(R0:It->Hp->Prop),TrSt X.K H σ ω->RelH X.K H G->gi ω G R->
   (∀ a s D H1 J,R a s D->Mono X.K H H1->RelH X.K H1 D->s D->D4 X.K H1 J a s->R0 J H1)->wi σ H R0)
  (T:∀(x:V)(w:W)(σ:St)(ω:Sw)(H:Hp)(G:Hw)(Q:St->Hp->Prop),Tr X.K H x w->TrSt X.K H σ ω->RelH X.K H G->B w ω G (dnS X.K H Q)->g x σ H Q) (mg:B.M) (mt:gt.M) (me:ge.M) (σ:St) (H:Hp) (Q:VK) (h:up X.K (AW gi n js B gt ge) σ H Q):
  HG wi (Bi n js) g (upT X.K gt) (up X.K ge) σ H Q:=by
 obtain⟨ω,G,ts,r,q⟩:=h
 refine N σ H ω G _ _ ts r q λa s D H1 J z m1 r1 hgd S=>?_
 refine⟨λi m σ' H' U=>m=a.length - i/\i<=a.length/\Mono X.K H1 H'/\∃ ω' l ys,TrSt X.K H' σ' ω'/\RelH X.K H' l/\TrL X.K H' U ys/\AV s B gt ge (λys k=>∀ p,k p=none->dn X.K H Q (.ref p) (put k p (.lst ys))) (a.drop i) ω' l ys,
  ⟨a.length,by simp,YT _,.refl,_,D,[],(ts.mono m1).cap n js,r1,.nil,by simpa using z⟩,?_⟩
 rintro i m σ' H' U ⟨rfl,hle,j,ω',l,ys,P,r',tv,t⟩
 have c:=N6 t
 by_cases f:i < a.length
 ·have hw:∃ w,a[i]?=some w:=⟨a[i],by simp[f]⟩
  obtain⟨w0,A⟩:=hw
  have ed:a.drop i=w0::a.drop (i+1):=by
   obtain⟨h',e'⟩:=YW.mp A
   rw[<- e'];exact List.drop_eq_getElem_cons h'
  rw[ed]at t
  refine .inr ⟨S.go i H' l j r' c f,by rw[tv.length];exact t.2.1,λσ2 H2 u=>Mono X.K H1 H2/\∃ ω2 k v,TrSt X.K H2 σ2 ω2/\RelH X.K H2 k/\TrL X.K H2 u v/\AV s B gt ge (λys k=>∀ p,k p=none->dn X.K H Q (.ref p) (put k p (.lst ys))) (a.drop (i+1)) ω2 k v,
   (by rintro σ2 H2 u ⟨y1,y2⟩;exact⟨a.length -(i+1),by omega,rfl,f,y1,y2⟩),λx H2 y=>?_⟩
  obtain⟨L,ry,w,ew,tw⟩:=S.yld i H' l x H2 j r' c y f
  have j:=j.trans L
  have tv:=tv.mono L
  rw[A]at ew;cases ew
  refine T x _ σ' ω' _ l _ tw (P.mono L) ry (mg _ _ _ _ _ (λω1 I z1 σ1 H3 E d r3=>?_) t.2.2)
  refine⟨ω1,I,d,r3,mt _ _ _ _ (λb Z z4 H4 o Y=>?_) z1⟩
  cases b with
  | true=>exact⟨ω1,Z,d.mono o,Y,me _ _ _ _ (λy5 G5 z5 v5 H5 O t5 r5=>⟨((j.trans E).trans o).trans O,ω1,G5,_,(d.mono o).mono O,r5,(((tv.mono E).mono o).mono O).append (.cons t5 .nil),z5⟩) z4⟩
  | false=>exact⟨(j.trans E).trans o,ω1,Z,_,d.mono o,Y,(tv.mono E).mono o,z4⟩
 ·have e:i=a.length:=by omega
  subst e
  rw[List.drop_length]at t
  exact .inl ⟨S.stop H' l j r' c,λp F=>t.2 p (r'.no F) _ _ ((m1.trans j).trans (Mono.new F _)) (.ref p) (r'.new F tv)⟩
structure TgC(X:Cx)(Nc:List Str)(scope:Scope)(cl:List (Str×Addr))(tg:Expr)(gg:GG):Prop where
 ex:∃ g:TG,(∀ C fp s H,PG (cxB X Nc scope cl C fp s H) tg g)/\∀(x:V)(w:W)(σ:St)(ω:Sw)(H:Hp)(G:Hw)(Q:St->Hp->Prop),Tr X.K H x w->TrSt X.K H σ ω->RelH X.K H G->gg w ω G (dnS X.K H Q)->g x σ H Q
 mono:gg.M
variable {Nc:List Str}{cl:List (Str×Addr)}{x:Str}{p:Pos}
theorem CG(c:Nc.Nodup)(hi:Nc[i]?=some x)(a:scope.names.lookup x=some .local):TgC X Nc scope cl (.Name x p) (gNm i) where
 ex:=⟨CC i,λC b s H=>CD (X:=cxB X Nc scope cl C b s H) c hi (.inl (lookup_relabel_local a)) (.inr (lookup_relabel_local a)),λx w σ ω H G Q t d r q=>q _ H .refl (d.set i t) r⟩
 mono:=λ_ _ _ _ _ h q=>h _ _ q
variable {pos:Pos}{k:Nat}
theorem OW{f:Pos}(hc:X.calm=true)(c:Nc.Nodup)(hi:Nc[i]?=some x)(e:scope.names.lookup x=some .local)(g:Nc[j]?=some y)(d:scope.names.lookup y=some .local):
  TgC X Nc scope cl (.Tuple [.Name x p,.Name y f] k pos) (AY i j) where
 ex:=⟨Cl X.K 2 (BT (CC i) (BT (CC j) Ch)),λC n s H=>Hz (X:=cxB X Nc scope cl C n s H) hc (Do (CD c hi (.inl (lookup_relabel_local e)) (.inr (lookup_relabel_local e))) (Do (CD c g (.inl (lookup_relabel_local d)) (.inr (lookup_relabel_local d))) Hy)),
  λv w σ ω H G Q t m r q=>by
   unfold AY at q
   split at q
   ·rename_i a b
    cases t with
    | tup h l =>
     cases l with
     | cons ta l =>
      cases l with
      | cons tb l =>
       cases l
       exact⟨_,_,rfl,h,rfl,_,_,rfl,_,_,rfl,rfl,q _ H .refl ((m.set i ta).set j tb) r⟩
   ·exact q.elim⟩
 mono:=N7
def D8(i j k:Nat):GG:=λw ω G Q=>match w with
 | .tup [a,b,c]=>Q (((ω.set i (some a)).set j (some b)).set k (some c)) G
 | _=>False
theorem bj:GG.M (D8 i j k):=λw ω G Q a h q=>by
 unfold D8 at q ⊢
 split
 ·exact h _ _ q
 ·rename_i z
  split at q
  ·exact(z _ _ _ rfl).elim
  ·exact q
theorem bn(v:V)(w:W)(σ:St)(ω:Sw)(H:Hp)(G:Hw)(Q:St->Hp->Prop)(t:Tr K H v w)(ts:TrSt K H σ ω)(r:RelH K H G)(q:D8 i j k w ω G (dnS K H Q)):
  Cl K 3 (BT (CC i) (BT (CC j) (BT (CC k) Ch))) v σ H Q:=by
 unfold D8 at q
 split at q
 ·cases t with
  | tup h l =>
   cases l with
   | cons ta l =>
    cases l with
    | cons tb l =>
     cases l with
     | cons tc l =>
      cases l
      exact⟨_,_,rfl,h,rfl,_,_,rfl,_,_,rfl,_,_,rfl,rfl,q _ H .refl (((ts.set i ta).set j tb).set k tc) r⟩
 ·exact q.elim
section
variable {X:Cx} {P:Hp->Prop} {e:Expr} {pos pos':Pos} {ga ge:GE} {gt:GT}
theorem Dg{elt tg iter:Expr}{ifs:List Expr}{e:GG}(hc:X.calm=true)(B:Blk X Nc scope cl (Bi n js))(hs:∀ x,foldedSetIterable iter X.env x=pure x)(hi:Im X tg iter gi)
  (d:TgC X Nc scope cl tg e) (f:∀ C fp s H,Fm (cxB X Nc scope cl C fp s H) ifs gt) (h:∀ C fp s H,Em (cxB X Nc scope cl C fp s H) elt ge):Em X (.ListComp elt [⟨tg,iter,ifs,0⟩] scope pos) (AW gi n js e gt ge):=by
 have j:gt.M:=(f 0 [] X.s₀ X.H₀).m
 have i:ge.M:=(h 0 [] X.s₀ X.H₀).m
 refine⟨?_,K9 hi.m d.mono j i⟩
 obtain⟨k,c,hi⟩:=hi.p
 obtain⟨g,a,b⟩:=d.ex
 exact Bg (NO hc c B a (λC fp s H=>(f C fp s H).p) (λC fp s H=>(h C fp s H).p) hs) (OV hi b d.mono j i)
def La(sc:Scope)(x:Str):Bool:=match sc.names.lookup x with | some .cell=>true | _=>false
theorem bo{a:Scope}(h:La a x=true):a.names.lookup x=some .cell:=by
 unfold La at h
 split at h
 ·assumption
 ·cases h
theorem bp(c:X.N.Nodup)(hi:X.N[i]?=some x)(d:La X.env.scope x=true)(b:X.fn x=true)(hs:swapsWith e (some (.Name x pos')) pos.line X.env=pure false)(a:Em X e ga):Sm X P (.Assign [.Name x pos'] e pos) (An i ga):=
 ⟨NY c hi (.inr (bo d)) a.m a.p hs (.inl b),KC a.m⟩
end
theorem bq{z:Str}{d p2:Pos}(hc:X.calm=true)(b:X.N.Nodup)(hi:X.N[i]?=some x)(m:Loc X.env.scope x)(h:X.fn x=true\/X.env.scope.names.lookup x=some .local)
  (f:X.N[j]?=some y) (g:Loc X.env.scope y) (c:X.fn y=true\/X.env.scope.names.lookup y=some .local) (l:X.N[k]?=some z) (e:Loc X.env.scope z) (a:X.fn z=true\/X.env.scope.names.lookup z=some .local):
  TgW X (.Tuple [.Name x p,.Name y d,.Name z p2] n pos) (D8 i j k) where
 ex:=⟨_,Hz hc (Do (CD b hi m h) (Do (CD b f g c) (Do (CD b l e a) Hy))),bn⟩
 mono:=bj
section
variable {prog:Program} {w:World} {A:Around} {E:Value->Shared->Prop} {s:Shared}
theorem br{t b:Addr}{h:List Value}{Q:Value->Shared->Prop}(m:IsTup s.heap t #[])(o:IsTup s.heap b h.toArray)(h1:Q (.ref b) s):wpAny (model prog w) A (binaryOp .Add (.ref t) (.ref b)) Q E s:=by
 obtain⟨⟨cls,p,data,k⟩,i,hc,n,hd⟩:=id m
 obtain⟨⟨j,g,e,f⟩,a,c,l,d⟩:=id o
 simp only at hc hd c d
 subst hc hd c d
 exact concat_meets ⟨_,i,rfl⟩ ⟨_,a,rfl⟩ noFill_tuple_add seq_tuple_add PySem.F.slot_tuple_add PySem.F.entry_tuple_add (PySem.F.args_tuple_add_2 _ _) (tuple_addW0 t b #[] h.toArray n l p g k f rfl) ⟨i,a,h1⟩
end
def Lb(K:PySem.W.Frag):R2:=λx y H Q=>∃ a b ys,x=.ref a/\y=.ref b/\SqT K H a []/\SqT K H b ys/\Q (.ref b) H
theorem bu:OpR X (binaryOp .Add) (Lb X.K):=by
 intro pins s σ H x y v u Q I g e h
 obtain⟨a,b,ys,rfl,rfl,d,f,q⟩:=h
 cases g
 cases e
 obtain⟨i,r1,p1,_⟩:=I.tuple d
 obtain⟨c,j,p2,_⟩:=I.tuple f
 cases r1
 exact br p1 p2 ⟨.ref b,H,I,rfl,q⟩
def Az:RW2:=λx y G Q=>match x,y with
 | .tup xs,.tup ys=>xs.length+ys.length<=sizeLine/\Q (.tup (xs++ys)) G
 | x,y=>Bo x y G Q
variable {G:Hw}{Q:Kw}
theorem CY{xs ys:List W}:Az (.tup xs) (.tup ys) G Q=(xs.length+ys.length<=sizeLine/\Q (.tup (xs++ys)) G):=rfl
theorem HS{x y:W}(a:¬((∃ xs,x=.tup xs)/\∃ ys,y=.tup ys)):Az x y G Q=Bo x y G Q:=by
 cases x <;> cases y <;> first | rfl | exact absurd ⟨⟨_,rfl⟩,⟨_,rfl⟩⟩ a
theorem OX:RW2.M Az:=λx y G Q b h q=>by
 by_cases a:(∃ xs,x=.tup xs)/\∃ ys,y=.tup ys
 ·obtain⟨⟨xs,rfl⟩,⟨ys,rfl⟩⟩:=a
  exact⟨q.1,h _ _ q.2⟩
 ·rw[HS a]at q ⊢
  exact KH _ _ _ _ _ h q
theorem bv:OpR X (binaryOp .Add) (λx y H Q=>((rI0 λi j=>.int (i+j)) x y H Q\/(∃ i j,x=.str i/\y=.str j/\i.length+j.length<=sizeLine/\Q (.str (i++j)) H)\/Gm x y H Q)\/Lb X.K x y H Q\/Km X.K x y H Q):=OpR.or N8 (OpR.or bu WW)
theorem bw(x y:W)(v u:V)(G:Hw)(H:Hp)(Q:VK)(m:Tr K H v x)(ty:Tr K H u y)(r:RelH K H G)(q:Az x y G (dn K H Q)):
  ((rI0 λi j=>.int (i+j)) v u H Q\/(∃ i j,v=.str i/\u=.str j/\i.length+j.length<=sizeLine/\Q (.str (i++j)) H)\/Gm v u H Q)\/Lb K v u H Q\/Km K v u H Q:=by
 by_cases l:(∃ xs,x=.tup xs)/\∃ ys,y=.tup ys
 ·obtain⟨⟨xs,rfl⟩,⟨ys,rfl⟩⟩:=l
  rw[CY]at q
  cases m with
  | tup k c =>
   cases ty with
   | tup f d =>
    rename_i a o b n
    cases c with
    | nil=>exact .inr (.inl ⟨a,b,n,rfl,rfl,k,f,by simpa using q.2 _ H .refl (.tup f d) r⟩)
    | cons h c =>
     refine .inr (.inr ⟨a,b,_,n,rfl,rfl,k,f,by simp,?_,λe=>?_,λe p g=>?_⟩)
     ·rw[(TrL.cons h c).length,d.length];exact q.1
     ·subst e
      cases d
      have:=q.2 (.ref a) H .refl (by simpa using Tr.tup k (.cons h c)) r
      exact this
     ·exact q.2 _ _ (Mono.new g _) (.tup (SqT.of BO) (((TrL.cons h c).append d).mono (Mono.new g _))) (r.mono0 g)
 ·refine .inl (N9 x y v u G H Q m ty r ?_)
  rwa [HS l]at q
theorem D9{a b:Expr}{ga gb:GE}(c:Em X a ga)(d:Em X b gb):Em X (.BinOp a .Add b pos) (Ad Az ga gb):=⟨D3 bv OX c.m d.m bw c.p d.p,Cs OX c.m d.m⟩
end L3
namespace L3
open PySem PySem.Spec PyProof.Rows L2
variable {K:PySem.W.Frag} {H H' H2:Hp}
theorem TrP.lookup{α:Type}[BEq α]:∀{vs:List (α×V)}{a:List (α×W)}{f:α}{w:W},TrP K H vs a->a.lookup f=some w->∃ v,vs.lookup f=some v/\Tr K H v w
 | _,_,_,_,.nil,e=>by cases e
 | _,_,f,w,.cons (f:=g) r t,e=>by
  rw[List.lookup_cons]at e ⊢
  cases b:f==g with
  | true=>rw[b]at e;cases e;exact⟨_,rfl,r⟩
  | false=>rw[b]at e;exact t.lookup e
theorem TrP.length{α:Type}:∀{vs:List (α×V)}{a:List (α×W)},TrP K H vs a->vs.length=a.length
 | _,_,.nil=>rfl
 | _,_,.cons _ t=>congrArg (·+1) t.length
section
variable {X:Cx} {P:Hp->Prop} {o e value:Expr} {es:List Expr} {f m:Str} {C:Addr} {pos pos' tpos apos p:Pos} {ga gv:GE} {gs:GA} {ex:Xw}
theorem Mono.ins{p C dx:Addr}{xs:List (Str×V)}(a:H p=some (.ins C dx xs))(o:HO):Mono K H (upd H p o):=Mono.was a _ (λ_ z=>by cases z) (λ_ _ z=>by cases z)
end
section
variable {X:Cx} {P:Hp->Prop} {o e value:Expr} {es:List Expr} {f m:Str} {C:Addr} {pos pos' tpos apos p:Pos} {ga gv:GE} {gs:GA} {ex:Xw}
end
section
variable {P:Program} {w:World} {mg:Str->Option Value} {base:Heap} {C:Addr}
end
def isStr(o:W)(_:Hw):Prop:=∃ x,o=.str x
end L3
namespace HT
open PySem PySem.Spec PyProof.Rows
section
variable {prog:Program} {w:World} {A:Around} {E:Value->Shared->Prop} {s:Shared}
theorem getItem_tuple_whole{t f:Addr}{items:Array Value}{g i:Value}{lo hi:Option Int}{Q:Value->Shared->Prop}(a:IsTup s.heap t items)(hs:s.heap.IsSliceOf f g i .none)(pl:IsPart g lo)(k:IsPart i hi)
  (hw:sIx items.size 0 lo=0/\sIx items.size items.size hi=items.size) (h:Q (.ref t) s):wpAny (model prog w) A (getItem (.ref t) (.ref f)) Q E s:=by
 obtain⟨os,d,c,j⟩:=id hs
 have e:s.TypeIs (.ref f) "slice":=⟨os,d,c⟩
 unfold getItem
 try with_reducible refine wpAny_holding ?_
 first | refine Qg (Qh ?_)| skip
 refine Qg (wpAny_sequenceKey a.typeIs (by decide) ?_)
 refine Qg (wpAny_callSpecial?_slot (name:=Str.ofString "__getitem__") a.typeIs PyProof.Rows.slot_tuple_getitem
  (wpAny_call_entry PyProof.Rows.slot_tuple_getitem a.typeIs entry_tuple_getitem ?_ (args_tuple_getitem _ _)))
 show wpAny _ _ (Builtin.Tuple.tupleItemsOf (.ref t) >>=_) _ _ s
 refine Qg (tupleItemsOf_ a ?_)
 refine Qg (wpAny_typeOf e ?_)
 rw[if_pos (by decide)]
 refine Qg (Ny hs pl k ?_)
 have b:(((sIx items.size 0 lo:Nat):Int)==0&&(1:Int)==1&&(sIx items.size items.size hi - sIx items.size 0 lo)==items.size)=true:=by
  rw[hw.1,hw.2]
  simp
 show wpAny _ _ (if(((sIx items.size 0 lo:Nat):Int)==0&&(1:Int)==1&&(sIx items.size items.size hi - sIx items.size 0 lo)==items.size)=true then _ else _) _ _ s
 rw[if_pos b]
 have l:=a.typeIs
 unfold Builtin.Tuple.tupleIsExact
 repeat (any_goals (first | assumption | wp_step))
 exact⟨_,rfl,Qh h⟩
end
end HT
namespace L3
open PySem PySem.Spec PyProof.Rows L2
variable {K:PySem.W.Frag} {H H' H2:Hp}
def OY(K:PySem.W.Frag):V->Option Int->Option Int->Hp->VK->Prop:=λx lo hi H Q=>∃ a xs,x=.ref a/\SqT K H a xs/\(HT.sIx xs.length 0 lo=0/\HT.sIx xs.length xs.length hi=xs.length)/\Q (.ref a) H
variable {X:Cx}
theorem bx:SlR X (OY X.K):=by
 intro pins s σ H x v k l lo hi i Q I f hs pl e h
 obtain⟨a,xs,rfl,g,hw,q⟩:=h
 cases f
 obtain⟨c,r,d,j⟩:=I.tuple g
 have b:c.toArray.size=xs.length:=by rw[Yn];exact r.length.symm
 refine⟨"tuple",_,PyProof.Rows.slot_tuple_getitem.lookup,d.typeIs,?_⟩
 exact HT.getItem_tuple_whole d hs pl e (by rw[b];exact hw) ⟨.ref a,H,I,rfl,q⟩
def OZ:V->Option Int->Option Int->Hp->VK->Prop:=λx lo hi H Q=>∃ z,x=.str z/\z.length<=sizeLine/\Q (.str (Txt.slice z lo hi)) H
theorem bz:SlR X OZ:=by
 intro pins s σ H x v o p lo hi n Q I g hs pl f h
 obtain⟨z,rfl,e,q⟩:=h
 obtain⟨t,rfl⟩:=g
 obtain⟨os,b,a,c⟩:=id hs
 refine⟨"str",_,F.slot_str_getitem.lookup,typeIs_str _ _ _,?_⟩
 have d:∀ t' k,EP X pins σ Q (.str (Txt.slice z lo hi) t') {s with toks:=k}:=λt' k=>⟨.str _,H,I.tok k,⟨t',rfl⟩,q⟩
 cases pl with
 | none =>
  cases f with
  | none=>exact wpAny_getItem_str_slice (l:=none) (u:=none) (st:=none) ⟨os,b,a,c⟩ rfl (post_val_or_str ⟨Yt (Txt.slice_le z _ _) e,d⟩)
  | int j u=>exact wpAny_getItem_str_slice (l:=none) (u:=some (j,u)) (st:=none) ⟨os,b,a,c⟩ rfl (post_val_or_str ⟨Yt (Txt.slice_le z _ _) e,d⟩)
 | int i u =>
  cases f with
  | none=>exact wpAny_getItem_str_slice (l:=some (i,u)) (u:=none) (st:=none) ⟨os,b,a,c⟩ rfl (post_val_or_str ⟨Yt (Txt.slice_le z _ _) e,d⟩)
  | int j m=>exact wpAny_getItem_str_slice (l:=some (i,u)) (u:=some (j,m)) (st:=none) ⟨os,b,a,c⟩ rfl (post_val_or_str ⟨Yt (Txt.slice_le z _ _) e,d⟩)
def slA(w:W)(lo hi:Option Int)(G:Hw)(Q:Kw):Prop:=match w with
 | .tup xs=>Q (.tup (BI xs lo hi)) G
 | .str z=>z.length<=sizeLine/\Q (.str (Txt.slice z lo hi)) G
 | w=>slW w lo hi G Q
variable {w:W}{lo hi:Option Int}{G:Hw}
theorem O0{Q c:Kw}(h:∀ w d,Q w d->c w d)(q:slA w lo hi G Q):slA w lo hi G c:=by
 cases w with
 | tup xs=>exact h _ _ q
 | str z=>exact⟨q.1,h _ _ q.2⟩
 | non=>exact Qf q
 | bl b=>exact Qf q
 | int i=>exact Qf q
 | rol xs=>exact HN (w:=.rol xs) (lo:=lo) (hi:=hi) (G:=G) h q
 | ref a=>exact HN (w:=.ref a) (lo:=lo) (hi:=hi) (G:=G) h q
theorem bA{v:V}{Q:VK}(t:Tr K H v w)(r:RelH K H G)(q:slA w lo hi G (dn K H Q)):((Kl K v lo hi H Q\/Kr K v lo hi H Q)\/OY K v lo hi H Q)\/OZ v lo hi H Q:=by
 cases t with
 | tup h l =>
  rename_i a d c
  by_cases hw:HT.sIx c.length 0 lo=0/\HT.sIx c.length c.length hi=c.length
  ·refine .inl (.inr ⟨a,d,rfl,h,by rw[l.length];exact hw,?_⟩)
   refine q _ H .refl ?_ r
   have e:BI c lo hi=c:=by unfold BI;rw[hw.1,hw.2];simp
   rw[e]
   exact .tup h l
  ·exact .inl (.inl (HP (.tup h l) r ⟨hw,q⟩))
 | str z=>exact .inr ⟨z,rfl,q.1,q.2 _ H .refl (.str _) r⟩
 | non=>exact Qf q
 | bl b=>exact Qf q
 | int i=>exact Qf q
 | rol h l=>exact .inl (.inl (HP (.rol h l) r q))
 | ref a=>exact .inl (.inl (HP (.ref a) r q))
section
variable {X:Cx} {a b e:Expr} {ga gb:GE} {pos:Pos}
def AN(ga:GE)(gl gh:GO):GE:=λω G Q=>ga ω G λw G1=>gl ω G1 λlo G2=>gh ω G2 λhi G3=>slA w lo hi G3 Q
theorem bB{lo hi:Option Expr}{n k:GO}{p2:Pos}(b:Em X e ga)(hl:Om X lo n)(f:Om X hi k):Em X (.Subscript e (.Slice lo hi none p2) pos) (AN ga n k):=
 ⟨Bg (Nz (SlR.or (SlR.or (SlR.or NC NF) bx) bz) b.p hl.p f.p) λσ H Q⟨ω,G,i,r,q⟩=>⟨ω,G,i,r,b.m _ _ _ _ (λw j z v H1 c t r1=>⟨ω,j,i.mono c,r1,hl.m _ _ _ _ (λl s g H2 d A=>
   ⟨ω,s,(i.mono c).mono d,A,f.m _ _ _ _ (λh x a B o y=>bA ((t.mono d).mono o) y (O0 (λw D z=>Cr ((c.trans d).trans o) z) a)) g⟩) z⟩) q⟩,
  λω G Q E h q=>b.m _ _ _ _ (λw j z=>hl.m _ _ _ _ (λl s g=>f.m _ _ _ _ (λu x a=>O0 h a) g) z) q⟩
end
theorem StrsAre.len:∀{vs:List Value}{ys:List Str},StrsAre vs ys->vs.length=ys.length
 | _,_,.nil=>rfl
 | _,_,.cons _ _ r=>congrArg (·+1) (StrsAre.len r)
section
variable {prog:Program} {w:World} {A:Around} {E:Value->Shared->Prop} {s:Shared}
end
def BZ:RW2:=λx y G Q=>match x,y with
 | .int i,.int j=>CMul i j/\Q (.int (i*j)) G
 | .str x,.int n=>MulOk x n/\Q (.str (Txt.mul x n)) G
 | .ref a,.int k=>(match G a with
  | some (.lst xs)=>-(2 ^ 63)<=k/\k < 2 ^ 63/\xs.length*k.toNat<=sizeLine/\∀ p,G p=none->Q (.ref p) (put G p (.lst (List.replicate k.toNat xs).flatten))
  | _=>False)
 | _,_=>False
theorem O1:RW2.M BZ:=λx y G Q c h q=>by
 cases x <;> cases y <;> first | exact q | exact⟨q.1,h _ _ q.2⟩| skip
 rename_i a k
 unfold BZ at q ⊢
 dsimp only at q ⊢
 cases e:G a with
 | none=>rw[e]at q;exact q
 | some o =>
  rw[e]at q
  cases o <;> first | exact q | exact⟨q.1,q.2.1,q.2.2.1,λp b=>h _ _ (q.2.2.2 p b)⟩
def O2:R2:=λx y H Q=>∃ z n,x=.str z/\y=.int n/\MulOk z n/\Q (.str (Txt.mul z n)) H
theorem bC:OpR X (binaryOp .Mult) O2:=by
 intro pins s σ H x y v u Q I b a h
 obtain⟨z,n,rfl,rfl,ok,q⟩:=h
 obtain⟨t,rfl⟩:=b
 obtain⟨c,rfl⟩:=a
 exact SB.mul ok λt' k=>⟨.str _,H,I.tok k,⟨t',rfl⟩,q⟩
theorem TrL.rep{vs:List V}{a:List W}(t:TrL K H vs a):∀ k:Nat,TrL K H (List.replicate k vs).flatten (List.replicate k a).flatten
 | 0=>.nil
 | k+1=>by
  rw[List.replicate_succ,List.replicate_succ,List.flatten_cons,List.flatten_cons]
  exact t.append (t.rep k)
theorem bD(x y:W)(v u:V)(G:Hw)(H:Hp)(Q:VK)(h:Tr K H v x)(ty:Tr K H u y)(r:RelH K H G)(q:BZ x y G (dn K H Q)):(rI CMul λi j=>.int (i*j)) v u H Q\/O2 v u H Q\/NJ v u H Q:=by
 cases h with
 | int i=>cases ty <;> first | exact q.elim | exact .inl ⟨_,_,rfl,rfl,q.1,q.2 _ H .refl (.int _) r⟩
 | str z=>cases ty <;> first | exact q.elim | exact .inr (.inl ⟨_,_,rfl,rfl,q.1,q.2 _ H .refl (.str _) r⟩)
 | ref a =>
  cases ty <;> try exact q.elim
  unfold BZ at q
  dsimp only at q
  cases b:G a with
  | none=>rw[b]at q;exact q.elim
  | some e =>
   rw[b]at q
   cases e <;> try exact q.elim
   obtain⟨f,g,d⟩:=r a _ b
   exact .inr (.inr ⟨a,_,f,rfl,rfl,g,q.1,q.2.1,by rw[d.length];exact q.2.2.1,λp c=>q.2.2.2 p (r.no c) _ _ (Mono.new c _) (.ref p) (r.new c (d.rep _))⟩)
 | _=>exact q.elim
variable {pos:Pos}
theorem bE{a b:Expr}{ga gb:GE}(c:Em X a ga)(d:Em X b gb):Em X (.BinOp a .Mult b pos) (Ad BZ ga gb):=⟨D3 (OpR.or Nk (OpR.or bC Xh)) O1 c.m d.m bD c.p d.p,Cs O1 c.m d.m⟩
variable {x:Str}
theorem HU{P:Hp->Prop}{elt tg iter:Expr}{ifs:List Expr}{scope:Scope}{pos' a:Pos}{i:Nat}{Nc:List Str}{n:Nat}{js:List Nat}{cl:List (Str×Addr)}{gi:GI}{A:GG}{gt:GT}{ge:GE}(J:X.N.Nodup)(h:X.N[i]?=some x)(F:Gr X.env.scope x=true)
  (o:swapsWith (.ListComp elt [⟨tg,iter,ifs,0⟩] scope pos) (some (.Name x pos')) a.line X.env=pure true) (hc:X.calm=true) (B:Blk X Nc scope cl (Bi n js)) (hs:∀ x,foldedSetIterable iter X.env x=pure x) (hi:Im X tg iter gi)
  (b:TgC X Nc scope cl tg A) (u:∀ C fp s H,Fm (cxB X Nc scope cl C fp s H) ifs gt) (E:∀ C fp s H,Em (cxB X Nc scope cl C fp s H) elt ge):
  Sm X P (.Assign [.Name x pos'] (.ListComp elt [⟨tg,iter,ifs,0⟩] scope pos) a) (An i (AW gi n js A gt ge)):=by
 have d:gt.M:=(u 0 [] X.s₀ X.H₀).m
 have f:ge.M:=(E 0 [] X.s₀ X.H₀).m
 refine⟨λO R=>?_,KC (K9 hi.m b.mono d f)⟩
 obtain⟨L,c,j⟩:=hi.p
 obtain⟨g,e,k⟩:=b.ex
 refine CT (Xs (tt:=upT X.K gt) (te:=up X.K ge) J h (Gs F) o hc c B e (λC fp s H=>(u C fp s H).p) (λC fp s H=>(E C fp s H).p) hs) λD σ H l=>?_
 obtain⟨ω,G,y,r,I,q⟩:=l
 refine OV j k b.mono d f σ H _ ⟨ω,G,y,r,K9 hi.m b.mono d f _ _ _ _ (λw Q z v H1 m t r1=>?_) q⟩
 exact z _ H1 (I.trans m) ((y.mono m).set i t) r1
section
variable {X:Cx} {CX:CXT} {k:Nat} {f:Addr} {fd:FuncData} {ps:List Str} {sp:Sp} {Eσ:St->XK} {x:Str} {p pos:Pos} {e:Expr} {es:List Expr} {t:TA}
variable {i:Nat}
theorem bF{E:Value->Shared->Prop}{pins:List (Addr×Obj)}{s:Shared}{σ:St}{v:V}{Q:Value->Shared->Prop}(I:Inv X pins σ H s)(h:X.N[i]?=some x)(k:Vis X.env.scope x)(e:σ[i]?=some (some v))(hd:(x==("__debug__":Str))=false)(f:(x==("__classdict__":Str))=false)
  (b:∀ u,RelV v u->Q u s):wpAny (model X.prog X.w) X.A (eval (.Name x pos) X.env) Q E s:=by
 obtain⟨m,g,hl⟩:=I.loc
 obtain⟨u,r,l⟩:=hl i x v h e k
 rcases l with⟨d,j⟩|⟨d,c,hc,a⟩
 ·exact wpAny_Name (wpAny_loadName_local I.ok.kind d g j (b u r)) hd
 ·rcases d with d | d
  ·exact wpAny_Name (wpAny_loadName_cell I.ok.kind d hc a (b u r)) hd
  ·exact wpAny_Name (wpAny_loadName_free I.ok.kind d hc a (b u r) f) hd
theorem bG(F:FnOk X.prog X.w X.K X.mg X.base CX k f fd ps sp)(D:Room k X.A)(E:X.N[i]?=some x)(y:Vis X.env.scope x)(G:PySem.W.keepIn X.K (.ref f)=true)(o:Binds X.K fd ps [])(z:Kv CX X Eσ)
  (B:PA X (e::es) t) (j:(x==("__debug__":Str))=false) (d:(x==("__classdict__":Str))=false) (L:starEach (e::es) X.env=(false,eval e X.env)::starEach es X.env) (g:(backTo pos (starEach es X.env)).any (·.1)=false):
  PE X (.Call (.Name x p) (e::es) [] pos) (λσ H Q=>σ[i]?=some (some (.ref f))/\NQ sp [] Eσ t σ H Q):=by
 intro pins s σ H Q I ⟨hi,h⟩
 refine wpAny_Call_Name_kw (bF I E y hi j d λu v=>?_)
 cases v
 refine PySem.W.callWith_K (h₀:=X.base) I.ok.mod.kin G (thn (B pos pins s σ H _ I h) λc l⟨m,H1,a,r,q⟩=>⟨a.kIn,?_⟩) L g
 have n:Vals (m++[]) (c++[]):=r.append .nil
 have hl:(c++[]).length=ps.length:=by rw[<- n.length];exact F.len _ _ _ _ q
 refine wpAny_call (codeAny_mono (F.run X.A X.stack l H1 ⟨c,[]⟩ (c++[]) (m++[]) Q (Eσ σ) D a.env0 (o l c a.kIn hl) n q) λr s' b=>?_)
 cases r with
 | error e=>exact z pins σ H1 l e s' a b
 | ok J =>
  cases J with
  | ret u=>exact a.after b
  | next=>exact Qf b
  | brk=>exact Qf b
  | cont=>exact Qf b
end
def fAt(mg:Str->Option Value)(x:Str):Addr:=match mg x with | some (.ref f)=>f | _=>0
theorem O3{mg:Str->Option Value}{f:Addr}(h:mg x=some (.ref f)):fAt mg x=f:=by unfold fAt;rw[h]
section
variable {X:Cx} {e:Expr} {es:List Expr} {pos p:Pos} {ga gb:GE} {gs:GA} {ex:Xw}
def CZ(i:Nat)(f:Addr)(sp:Spw)(ex:Xw)(gs:GA):GE:=λω G Q=>ω[i]?=some (some (.ref f))/\gs ω G λws G1=>sp ws G1 Q (ex ω)
variable {i:Nat}{sp:Spw}
theorem bH{f:Addr}(m:sp.M)(a:gs.M):GE.M (CZ i f sp ex gs):=λω G Q c h q=>⟨q.1,a _ _ _ _ (λd b q1=>m _ _ _ _ _ _ h (λ_ _ z=>z) q1) q.2⟩
variable {y:Str}{k n:Nat}
theorem bI(D:Df X.prog X.w X.K X.mg X.base y k n sp)(J:Room k X.A)(O:X.N[i]?=some x)(B:Vis X.env.scope x)(o:FC X ex)(m:gs.M)(E:PAw X (e::es) gs)
  (c:(x==("__debug__":Str))=false) (a:(x==("__classdict__":Str))=false) (S:starEach (e::es) X.env=(false,eval e X.env)::starEach es X.env) (b:(backTo pos (starEach es X.env)).any (·.1)=false):
  PEw X (.Call (.Name x p) (e::es) [] pos) (CZ i (fAt X.mg y) sp ex gs):=by
 obtain⟨f,fd,ps,P,R,s,_,F⟩:=D.ex
 rw[O3 P]
 refine Bg (bG F J O B R s o E c a S b) λσ H Q h=>?_
 obtain⟨ω,G,d,r,u,q⟩:=h
 obtain⟨v,ev,tv⟩:=d.get i _ u
 cases tv
 refine⟨ev,ω,G,d,r,m _ _ _ _ (λI L q1 U H1 j g r1=>?_) q⟩
 refine⟨I,L,by rw[Yx];exact g,r1,D.mono _ _ _ _ _ _ (λw l z=>Cr j z) (λC l z H2 t T=>?_) q1⟩
 exact⟨C,ω,l,rfl,(d.mono j).mono t,T,z⟩
theorem HV(D:Df X.prog X.w X.K X.mg X.base y k n sp)(g:Room k X.A)(hi:place X.N x=some i)(j:seen X.env.scope x=true)(f:FC X ex)(d:(x==("__debug__":Str))=false)(b:(x==("__classdict__":Str))=false)(h:starEach (e::es) X.env=(false,eval e X.env)::starEach es X.env)(c:(backTo pos (starEach es X.env)).any (·.1)=false)
  (a:Am X (e::es) gs):Em X (.Call (.Name x p) (e::es) [] pos) (CZ i (fAt X.mg y) sp ex gs):=⟨bI D g (ZI hi) (Oc j) f a.m a.p d b h c,bH D.mono a.m⟩
theorem HX(D:Df X.prog X.w X.K X.mg X.base x k n sp)(b:Gl X x)(hd:(x==("__debug__":Str))=false):Em X (.Name x pos) (gC (.ref (fAt X.mg x))):=by
 obtain⟨f,fd,ps,a,c,d,_,F⟩:=D.ex
 rw[O3 a]
 exact⟨NU (v:=.ref f) b a rfl (λH=>.ref f) hd,FA⟩
end
end L3
namespace L3
open PySem PySem.Spec PyProof.Rows L2
theorem bJ{t:SetTable}{n:Nat}(h1:t.place.size=n)(h2:t.dummies=#[])(a:n<=t.mask):t.fits n=true:=by
 unfold SetTable.fits SetTable.fill
 rw[h2,h1]
 simp
 exact a
section
variable {prog:Program} {w:World} {A:Around} {E:Value->Shared->Prop} {s:Shared}
end
section
variable {prog:Program} {w:World} {A:Around} {E:Value->Shared->Prop} {s:Shared}
end
section
variable {prog:Program} {w:World} {A:Around} {E:Value->Shared->Prop} {s:Shared}
structure Bare(led:Bool)(n:Nat)(t:SetTable):Prop where
 pl:t.place=#[]
 dm:t.dummies=#[]
 cv:Tb.cover (t.mask+1)=true
 rm:n<=t.mask
 ld:t.led=led
theorem Bare.fits{led:Bool}{n:Nat}{t:SetTable}(B:Bare led n t):t.fits 0=true:=bJ (by rw[B.pl];rfl) B.dm (YT _)
end
section
variable {prog:Program} {w:World} {A:Around} {E:Value->Shared->Prop} {s:Shared}
variable {a:Addr}{ks:List Str}
theorem SS.ty(S:SS w s.heap a ks):s.TypeIs (.ref a) "set":=by
 obtain⟨o,es,d,t,c,b,_⟩:=S
 exact⟨o,c,b.1⟩
theorem SS.new(S:SS w s.heap a ks)(o:Obj):SS w (s.heap.push o) a ks:=S.kept λ_ e=>Qi _ e
theorem SS.lt(S:SS w s.heap a ks):a < s.heap.objs.size:=by
 obtain⟨o,es,c,t,b,_⟩:=S
 exact Qj b
theorem SS.same{h h':Heap}{b:Addr}(S:SS w h a ks)(d:a≠b)(c:Heap.SameBut b h h'):SS w h' a ks:=S.kept λo e=>by rw[c.2 a d];exact e
end
section
variable {prog:Program} {w:World} {A:Around} {E:Value->Shared->Prop} {s:Shared}
abbrev Itr(first:Value)(i:Nat)(a:Addr)(n ep:Nat):Obj:={cls:=.type "set_iterator",data:=.fields #[first,.int i 0,.ref a,.int n 0,.int ep 0]}
inductive Md(w:World)(a T:Addr)(es:Array (Int×Value))(ep:Nat)(t:SetTable)(l:List (Int×Value))(h:Heap):Value->Nat->Prop where
 | drawn {ps:List Nat} {oT:Obj} {c i:Nat}:h.get? T=some oT->oT.data=.seq (ps.map λp:Nat=>rawInt p).toArray c->ps.length=l.length->(∀(j p:Nat),ps[j]?=some p->∃ e,es[p]?=some e/\l[j]?=some e)->Md w a T es ep t l h (.ref T) i
 | text {k i:Nat}:bt w=true->l=(pickOrder (w.params.setOrder a ep) es).toList->Md w a T es ep t l h (.int k 0) i
 | few {k i:Nat}:bt w=false->t.led=true->es.size<=1->l=es.toList->(i=0->k=0)->(∀ j:Nat,i=1->t.place[0]?=some j->k=j+1)->Md w a T es ep t l h (.int k 0) i
structure Wk(w:World)(it a T:Addr)(ob:Obj)(es:Array (Int×Value))(ep:Nat)(t:SetTable)(l:List (Int×Value))(i:Nat)(h:Heap):Prop where
 st:∃ first,h.get? it=some (Itr first i a es.size ep)/\Md w a T es ep t l h first i
 ob:h.get? a=some ob
theorem Md.at{a T:Addr}{es:Array (Int×Value)}{ep:Nat}{t:SetTable}{l:List (Int×Value)}{h h':Heap}{v:Value}{i:Nat}(M:Md w a T es ep t l h v i)(k:∀ o,h.get? T=some o->h'.get? T=some o):Md w a T es ep t l h' v i:=by
 cases M with
 | drawn h1 h2 b c=>exact .drawn (k _ h1) h2 b c
 | text h1 h2=>exact .text h1 h2
 | few h1 h2 b c e d=>exact .few h1 h2 b c e d
end
section
variable {prog:Program} {w:World} {A:Around} {E:Value->Shared->Prop} {s:Shared}
end
section
variable {prog:Program} {w:World} {A:Around} {E:Value->Shared->Prop} {s:Shared}
end
theorem BB{α:Type}{es:Array α}:∀{ys:List Nat},(∀ p∈ys,p < es.size)->(ys.filterMap (es[·]?)).length=ys.length/\∀(j p:Nat),ys[j]?=some p->∃ e,es[p]?=some e/\(ys.filterMap (es[·]?))[j]?=some e
 | [],_=>⟨rfl,λj p h=>by simp at h⟩
 | y::ys,h=>by
  have b:es[y]?=some (es[y]'(h y Ye)):=YV _
  obtain⟨h1,h2⟩:=BB (ys:=ys) λp c=>h p (Yd _ c)
  rw[List.filterMap_cons,b]
  refine⟨by simp[h1],λj p a=>?_⟩
  cases j with
  | zero =>
   simp only[Yb,Option.some.injEq]at a
   subst a
   exact⟨_,b,rfl⟩
  | succ j =>
   simp only[Yc]at a ⊢
   exact h2 j p a
section
variable {prog:Program} {w:World} {A:Around} {E:Value->Shared->Prop} {s:Shared}
end
section
variable {prog:Program} {w:World} {A:Around} {E:Value->Shared->Prop} {s:Shared}
end
end L3
namespace L3
open PySem PySem.Spec PyProof.Rows L2
variable {K:PySem.W.Frag} {H H' H2:Hp}
theorem O4:∀{xs:List Str}{a:List Value},Vals (xs.map V.str) a->StrsAre a xs
 | [],_,.nil=>.nil
 | x::xs,_,.cons r b=>by
  obtain⟨t,rfl⟩:=r
  exact .cons x t (O4 b)
theorem O5:∀{xs:List Str}{a:List Value},StrsAre a xs->Vals (xs.map V.str) a
 | [],_,.nil=>.nil
 | x::xs,_,.cons _ t b=>.cons ⟨t,rfl⟩ (O5 b)
section
variable {X:Cx} {e eb:Expr} {p1 p2 p3 q1 q2 q3 qb:Pos} {ta tb:TE}
theorem O6:∀(xs:List Str),TrL K H (xs.map V.str) (xs.map W.str)
 | []=>.nil
 | x::xs=>.cons (.str x) (O6 xs)
end
end L3
namespace L3
open PySem PySem.Spec PyProof.Rows L2
def BP{α:Type}(kvs:List (Key×α))(x:Str)(d:α):α:=((kvs.find? λy=>decide (y.1=Sum.inr x)).map (·.2)).getD d
theorem GJ{α:Type}{k:Key}{v d:α}{kvs:List (Key×α)}{x:Str}:BP ((k,v)::kvs) x d=if k=Sum.inr x then v else BP kvs x d:=by
 unfold BP
 rw[List.find?_cons]
 by_cases h:k=Sum.inr x
 ·simp[h]
 ·simp[h]
theorem O7{x:Str}{d:V}{r:Value}(a:RelV d r):∀{kvs:List (Key×V)}{vs:List (Key×Value)},KV kvs vs->RelV (BP kvs x d) ((valueAt vs (Sum.inr x)).getD r)
 | _,_,.nil=>a
 |(k,v)::kvs,(f,g)::vs,.cons ⟨e,c⟩ t=>by
  have b:=O7 (x:=x) a t
  cases(show k=f from e)
  rw[GJ]
  unfold valueAt at b ⊢
  rw[List.find?_cons]
  by_cases h:k=Sum.inr x
  ·simp[h];exact c
  ·simp[h];exact b
theorem O8{K:PySem.W.Frag}{H:Hp}{x:Str}{d:V}{w:W}(td:Tr K H d w):∀{vs:List (Key×V)}{a:List (Key×W)},TrP K H vs a->Tr K H (BP vs x d) (BP a x w)
 | _,_,.nil=>td
 |(k,v)::vs,(_,u)::a,.cons tv t=>by
  rw[GJ,GJ]
  split
  ·exact tv
  ·exact O8 td t
def GK(o:W)(ws:List W)(G:Hw)(Q:Kw):Prop:=∃ p kvs x d,o=.ref p/\ws=[.str x,d]/\G p=some (.dct kvs)/\Q (BP kvs x d) G
def GL(o:W)(G:Hw):Prop:=∃ p kvs,o=.ref p/\G p=some (.dct kvs)
variable {X:Cx}
theorem bK:MtR X "dict.get" (λv vs H Q=>∃ p kvs x d,v=.ref p/\vs=[.str x,d]/\H p=some (.dK kvs)/\Q (BP kvs x d) H):=by
 intro pins s σ H x vs v i Q I e c h
 obtain⟨p,kvs,x,d,rfl,rfl,g,q⟩:=h
 cases e
 cases c with
 | cons r1 t =>
  cases t with
  | cons f t =>
   cases t
   obtain⟨t,rfl⟩:=r1
   obtain⟨z,hd,vs,a,b⟩:kvs.length<=sizeLine/\(p==sysModules)=false/\∃ vs,KV kvs vs/\s.heap.DictOf (Bs X.prog X.w) p vs:=I.hok p _ g
   refine call_meetsIn PySem.F.slot_dict_get b.typeIs PySem.F.entry_dict_get (PySem.F.args_dict_get_3 _ _ _) (meets_dict_get_default (Bs X.prog X.w) p (k:=Sum.inr x) (by simp[Bs,D1,Value.isStrOf]) hd _) ⟨_,b.mapOf,?_⟩
   exact⟨_,H,I.tok _,O7 f a,q⟩
theorem bL:Mth X "dict" "get" "dict.get" GL GK where
 pa:=PySem.F.plainAttrs_dict
 slot:=PySem.F.slot_dict_get
 ty:=PySem.F.type_dict_get
 ex:=⟨_,bK,λo j v n G H Q tv c r q=>by
  obtain⟨p,a,x,d,rfl,rfl,e,q⟩:=q
  cases tv
  cases c with
  | cons i t =>
   cases t with
   | cons g t =>
    cases t
    cases i
    obtain⟨f,b,l⟩:=r p _ e
    exact⟨p,f,x,_,rfl,rfl,b,q _ _ .refl (O8 g l) r⟩⟩
 pr:=λo v G H t r h=>by
  obtain⟨p,a,rfl,e⟩:=h
  cases t
  obtain⟨f,b,l⟩:=r p _ e
  exact .inr (.inr (.inl ⟨rfl,.inl ⟨f,b⟩⟩))
 m:=(by rintro o j G Q s h ⟨p,a,x,d,h1,h2,k,q⟩;exact⟨p,a,x,d,h1,h2,k,h _ _ q⟩)
section
variable {X:Cx} {e:Expr} {p1 p3 q1 q3:Pos} {ta:TE}
end
section
variable {prog:Program} {w:World} {A:Around} {E:Value->Shared->Prop} {s:Shared}
variable {l:Addr}{i:Nat}{xs:Array Value}{x:Value}{Q:Value->Shared->Prop}
theorem GM{a:Addr}(u:s.heap.IsTupleIter a l i)(v:s.heap.IsTuple l xs)(g:xs[i]?=some x)(e:∀ h',h'.IsTupleIter a l (i+1)->Heap.SameBut a s.heap h'->Q x {s with heap:=h'}):
  wpAny (model prog w) A (Builtin.SmallTypes.nextOf (.ref a)) Q E s:=by
 obtain⟨h,c,d,b⟩:=id u
 obtain⟨k,el,_,j,f⟩:=v
 unfold Builtin.SmallTypes.nextOf
 refine Qg (wpAny_callSpecial?_slot (name:=Str.ofString "__next__") u.typeIs PySem.F.slot_tuple_iterator_next (wpAny_call_entry PySem.F.slot_tuple_iterator_next u.typeIs PySem.F.entry_tuple_iterator_next ?_ (PySem.F.args_tuple_iterator_next_1 _)))
 refine Qg (m:=field (.ref a) 0) (wpAny_field c b (x:=.ref l) rfl ?_)
 show wpAny (model prog w) _ (if(Value.ref l==Value.none)=true then _ else _) _ E s
 rw[if_neg (show ¬ ((Value.ref l==Value.none)=true)from YS)];refine Qg (m:=field (.ref a) 1) (wpAny_field c b (x:=.int i 0) rfl ?_)
 refine Qg (m:=seqItems? (.ref l)) (wpAny_seqItems el f ?_)
 simp only[Int.toNat_natCast];rw[g]
 refine Qg (wpAny_setField c b (by simp) (Qh ⟨x,rfl,Qh (e _ ⟨_,Heap.get?_update_self _ c (Obj.isFreed_of_fields (Obj.data_mapFields b _)),(Obj.cls_mapFields ..).trans d,?_⟩ (Heap.SameBut.update ..))⟩))
 rw[Obj.data_mapFields b];simp[rawInt]
theorem Lc{b:Addr}(g:A.handled=none)(u:s.heap.IsTupleIter b l i)(v:s.heap.IsTuple l xs)(j:xs[i]?=none)
  (f:∀ h' e,Heap.ExtBut b s.heap h'->(∃ o,h'.get? e=some o/\o.cls=.type "StopIteration")->E (.ref e) {s with heap:=h'}):wpAny (model prog w) A (Builtin.SmallTypes.nextOf (.ref b)) Q E s:=by
 obtain⟨k,d,p,c⟩:=id u
 obtain⟨q,el,_,n,h⟩:=v
 unfold Builtin.SmallTypes.nextOf
 refine Qg (wpAny_callSpecial?_slot (name:=Str.ofString "__next__") u.typeIs PySem.F.slot_tuple_iterator_next (wpAny_call_entry PySem.F.slot_tuple_iterator_next u.typeIs PySem.F.entry_tuple_iterator_next ?_ (PySem.F.args_tuple_iterator_next_1 _)))
 refine Qg (m:=field (.ref b) 0) (wpAny_field d c (x:=.ref l) rfl ?_)
 show wpAny (model prog w) _ (if(Value.ref l==Value.none)=true then _ else _) _ E s
 rw[if_neg (show ¬ ((Value.ref l==Value.none)=true)from YS)];refine Qg (m:=field (.ref b) 1) (wpAny_field d c (x:=.int i 0) rfl ?_)
 refine Qg (m:=seqItems? (.ref l)) (wpAny_seqItems el h ?_)
 simp only[Int.toNat_natCast];rw[j]
 refine Qg (wpAny_rule (Qg (wpAny_setField d c (by simp) ?_)));refine Qg (m:=newExc (.type "StopIteration") []) ?_
 simp only[newExc,newTuple]
 refine Qg (wpAny_newObj_type ?_ (by size_fits));refine Qg (m:=firstArgMember _ _) (wpAny_of_eq (a:=Value.none) (by first | rfl |(simp only[firstArgMember];rfl)) (wpAny_newObj_type ?_ (by size_fits)))
 simp only[raiseNew]
 refine Qg (wpAny_handled ?_);rw[show A.in1.handled=none from g]
 refine Qg (Qh (wpAny_throw ?_))
 exact f _ _ (((Heap.SameBut.update ..).extBut.push _).push _) ⟨_,Qk _ rfl,rfl⟩
variable {z G F:Addr}{k1 k2:Nat}{ys:Array Value}{a b:Value}
theorem bM{TI TO T N:Addr}{y:Value}(D:ZipApart z TI TO G F T N)(I:IsZip s.heap z TI TO .none)(U:IsPair s.heap TI (.ref G) (.ref F))(hTO:IsPair s.heap TO a b)
  (u1:s.heap.IsTupleIter G T k1) (u2:s.heap.IsTupleIter F N k2) (v1:s.heap.IsTuple T xs) (v2:s.heap.IsTuple N ys) (hx:xs[k1]?=some x) (hy:ys[k2]?=some y)
  (hQ:∀ h',IsZip h' z TI TO (rawInt s.heap.objs.size)->IsPair h' TO x y->h'.IsTupleIter G T (k1+1)->h'.IsTupleIter F N (k2+1)->IsPair h' s.heap.objs.size x y->(∀ c o,c≠z->c≠TO->c≠G->c≠F->s.heap.get? c=some o->h'.get? c=some o)->Q (.ref s.heap.objs.size) {s with heap:=h'}):
  wpAny (model prog w) A (Builtin.«zip.__next__» ⟨[.ref z],[]⟩) (λX s'=>∃ v,X=.done (.ret v)/\Q v s') E s:=by
 refine Qg (m:=field (.ref z) 2) (wpAny_field I rfl (x:=.bool false) rfl ?_)
 refine Qg (m:=field (.ref z) 3) (wpAny_field I rfl (x:=.ref TI) rfl (Qg (m:=seqItems? (.ref TI)) (wpAny_seqItems U rfl ?_)))
 walk_at "pG"
 unfold Builtin.SmallTypes.ownedTupleIsFree
 refine Qg (m:=field (.ref z) 0) (wpAny_field I rfl (x:=.none) rfl (Qh ?_));simp only[if_true]
 refine Qg (wpAny_rule (Qg (wpAny_field I rfl (x:=.ref TO) rfl (Qg (wpAny_setField_rec I (by simp) λS l f=>?_)))))
 replace l:IsZip S z TI TO .ellipsis:=l
 refine Qg ?_
 walk_at "pD"
 walk_at "pj"
 refine GM (u1.extBut f.extBut D.i1z) (v1.extBut f.extBut D.l1z) hx λK w1 h=>Qh ?_
 have hTO₂:IsPair K TO a b:=h.extBut _ _ D.TOi1 (f.extBut _ _ D.TOz hTO)
 refine Qg (wpAny_seqItems hTO₂ rfl (Qg (wpAny_updateSeq_pair hTO₂ λP hTO₃ g=>?_)))
 replace hTO₃:IsPair P TO x b:=hTO₃
 walk_at "pc"
 refine GM (((u2.extBut f.extBut D.i2z).extBut h.extBut D.i12.symm).extBut g.extBut D.TOi2.symm) (((v2.extBut f.extBut D.l2z).extBut h.extBut D.l2i1).extBut g.extBut D.l2TO) hy λO w2 i=>Qh ?_
 have hTO₄:IsPair O TO x b:=i.extBut _ _ D.TOi2 hTO₃
 refine Qg (wpAny_seqItems hTO₄ rfl (Qg (wpAny_updateSeq_pair hTO₄ λd hTO₅ j=>?_)))
 replace hTO₅:IsPair d TO x y:=hTO₅
 walk_at "pt"
 have L:d.objs.size=s.heap.objs.size:=by rw[j.1,i.1,g.1,h.1,f.1]
 have t:IsZip d z TI TO .ellipsis:=j.extBut _ _ D.TOz.symm (i.extBut _ _ D.i2z.symm (g.extBut _ _ D.TOz.symm (h.extBut _ _ D.i1z.symm l)))
 have Z:d.IsTupleIter G T (k1+1):=((w1.extBut g.extBut D.TOi1.symm).extBut i.extBut D.i12).extBut j.extBut D.TOi1.symm
 have Y:d.IsTupleIter F N (k2+1):=w2.extBut j.extBut D.TOi2.symm
 refine Qg (m:=Builtin.SmallTypes.ownedTupleHandOut (.ref z) (.ref d.objs.size)) ?_
 unfold Builtin.SmallTypes.ownedTupleHandOut
 have B:IsZip (d.push {cls:=.type "tuple",data:=.seq #[x,y]}) z TI TO .ellipsis:=Qi _ t
 refine Qg (wpAny_setField_rec B (by simp) λJ n r=>?_)
 replace n:IsZip J z TI TO (rawInt d.objs.size):=n
 refine wpAny_setField_rec n (by simp) λp k q=>?_
 replace k:IsZip p z TI TO (rawInt d.objs.size):=k
 have H:d.objs.size≠z:=Nat.ne_of_gt (Qj t)
 have u:∀ c o,c≠z->d.get? c=some o->p.get? c=some o:=λc o R e=>q.extBut _ _ R (r.extBut _ _ R (Qi _ e))
 have hT₈:IsPair p d.objs.size x y:=q.extBut _ _ H (r.extBut _ _ H (Qk _ rfl))
 rw[L]at k hT₈
 refine Qh ⟨_,rfl,(?_:Q (.ref d.objs.size) _)⟩
 rw[L]
 obtain⟨o1,e1,r1⟩:=Z
 obtain⟨o2,e2,r2⟩:=Y
 walk_at "pi"
theorem bN{TI TO U O:Addr}{Q:Fin->Shared->Prop}(Z:A.handled=none)(D:ZipApart z TI TO G F U O)(v:IsZip s.heap z TI TO .none)(K:IsPair s.heap TI (.ref G) (.ref F))(T:IsPair s.heap TO a b)
  (X:s.heap.IsTupleIter G U k1) (u2:s.heap.IsTupleIter F O k2) (Y:s.heap.IsTuple U xs) (v2:s.heap.IsTuple O ys) (B:xs[k1]?=none\/ys[k2]?=none)
  (hE:∀ h' e,(∀ c o,c≠z->c≠TO->c≠G->c≠F->s.heap.get? c=some o->h'.get? c=some o)->(∃ o,h'.get? e=some o/\o.cls=.type "StopIteration")->E (.ref e) {s with heap:=h'}):wpAny (model prog w) A (Builtin.«zip.__next__» ⟨[.ref z],[]⟩) Q E s:=by
 refine Qg (m:=field (.ref z) 2) (wpAny_field v rfl (x:=.bool false) rfl ?_)
 refine Qg (m:=field (.ref z) 3) (wpAny_field v rfl (x:=.ref TI) rfl (Qg (m:=seqItems? (.ref TI)) (wpAny_seqItems K rfl ?_)))
 walk_at "pG"
 unfold Builtin.SmallTypes.ownedTupleIsFree
 refine Qg (m:=field (.ref z) 0) (wpAny_field v rfl (x:=.none) rfl (Qh ?_));simp only[if_true]
 refine Qg (wpAny_rule (Qg (wpAny_field v rfl (x:=.ref TO) rfl (Qg (wpAny_setField_rec v (by simp) λJ h d=>?_)))))
 replace h:IsZip J z TI TO .ellipsis:=h
 refine Qg ?_
 walk_at "pD"
 walk_at "pj"
 cases L:xs[k1]? with
 | none =>
  refine Lc Z (X.extBut d.extBut D.i1z) (Y.extBut d.extBut D.l1z) L λp e f R=>?_
  obtain⟨N,i,k⟩:=R
  have n:IsZip p z TI TO .ellipsis:=f _ _ D.i1z.symm h
  have u:e≠z:=λq=>by subst q;rw[n]at i;cases i;simp at k
  exact wpAny_setField_rec n (by simp) λt _ g=>hE t e (λc o I _ P _ q=>g.extBut _ _ I (f _ _ P (d.extBut _ _ I q))) ⟨N,g.extBut _ _ u i,k⟩
 | some x =>
  have hy:ys[k2]?=none:=by
   rcases B with q | q
   ·rw[L]at q;cases q
   ·exact q
  refine GM (X.extBut d.extBut D.i1z) (Y.extBut d.extBut D.l1z) L λp w1 f=>Qh ?_
  have hTO₂:IsPair p TO a b:=f.extBut _ _ D.TOi1 (d.extBut _ _ D.TOz T)
  refine Qg (wpAny_seqItems hTO₂ rfl (Qg (wpAny_updateSeq_pair hTO₂ λt hTO₃ g=>?_)))
  walk_at "pc"
  refine Lc Z (((u2.extBut d.extBut D.i2z).extBut f.extBut D.i12.symm).extBut g.extBut D.TOi2.symm) (((v2.extBut d.extBut D.l2z).extBut f.extBut D.l2i1).extBut g.extBut D.l2TO) hy λH e j S=>?_
  obtain⟨N,i,k⟩:=S
  have l:IsZip H z TI TO .ellipsis:=j _ _ D.i2z.symm (g.extBut _ _ D.TOz.symm (f.extBut _ _ D.i1z.symm h))
  have u:e≠z:=λq=>by subst q;rw[l]at i;cases i;simp at k
  walk_at "po"
end
end L3
namespace L3
open PySem PySem.Spec PyProof.Rows L2
variable {K:PySem.W.Frag} {H H' H2:Hp}
section
variable {prog:Program} {w:World} {A:Around} {E:Value->Shared->Prop} {s:Shared}
variable {h h':Heap}{a:Addr}
theorem tat{t:Addr}{i:Nat}(x:h.IsTupleIter a t i)(k:∀ o,h.get? a=some o->h'.get? a=some o):h'.IsTupleIter a t i:=by
 obtain⟨o,e,r⟩:=x
 exact⟨o,k o e,r⟩
variable {xs:Array Value}
theorem FM(x:h.IsTuple a xs)(k:∀ o,h.get? a=some o->h'.get? a=some o):h'.IsTuple a xs:=by
 obtain⟨o,e,r⟩:=x
 exact⟨o,k o e,r⟩
theorem O9(hh:A.handled=none)(z TI TO m l u r:Addr)(D:ZipApart z TI TO m l u r)(xs ys:Array Value):WalksT prog w A z [z,TI,TO,m,l,u,r] [z,TO,m,l] (min xs.size ys.size) (λi G=>∃ x y,xs[i]?=some x/\ys[i]?=some y/\G=#[x,y])
   (λi h=>IsZip h z TI TO .none/\IsPair h TI (.ref m) (.ref l)/\(∃ a b,IsPair h TO a b)/\h.IsTupleIter m u i/\h.IsTupleIter l r i/\h.IsTuple u xs/\h.IsTuple r ys)
   (λi T h=>IsZip h z TI TO (rawInt T)/\IsPair h TI (.ref m) (.ref l)/\(∃ a b,IsPair h TO a b)/\h.IsTupleIter m u (i+1)/\h.IsTupleIter l r (i+1)/\h.IsTuple u xs/\h.IsTuple r ys/\T≠z/\T≠TO/\T≠m/\T≠l/\NoD h T) where
 sub:=λc hc=>by simp at hc ⊢;rcases hc with rfl | rfl | rfl | rfl <;> simp
 frame:=λi h h' st t=>by
  walk_at "pO"
  exact⟨t z (by simp) _ j,t TI (by simp) _ d,⟨a,b,t TO (by simp) _ f⟩,tat h1 λo e=>t m (by simp) o e,tat h2 λo e=>t l (by simp) o e,FM g1 λo e=>t u (by simp) o e,FM g2 λo e=>t r (by simp) o e⟩
 item:=λi s Q E hi st p=>by
  walk_at "pO"
  have J:i < xs.size:=Yu hi (Nat.min_le_left ..)
  have K:i < ys.size:=Yu hi (Nat.min_le_right ..)
  have n:s.TypeIs (.ref z) "zip":=⟨_,j,rfl⟩
  walk_at "pz"
  unfold pyNext
  refine Qg (wpAny_attempt (wpAny_callSpecial?_slot (name:=Str.ofString "__next__") n PySem.F.slot_zip_next (wpAny_call_entry PySem.F.slot_zip_next n PySem.F.entry_zip_next (bM D j d f h1 h2 g1 g2 (YV J) (YV K) λh' S a2 X Z N v=>Qh ?_) (PySem.F.args_zip_next_1 _))))
  exact p s.heap.objs.size #[xs[i],ys[i]] h' s.toks ⟨_,_,YV J,YV K,rfl⟩ (Yr _) ⟨_,N,rfl,_,rfl⟩ ⟨S,v _ _ D.TIz D.TITO D.TIi1 D.TIi2 d,⟨_,_,a2⟩,X,Z,FM g1 λo e=>v _ o D.l1z D.l1TO D.l1i1 D.l1i2 e,FM g2 λo e=>v _ o D.l2z D.l2TO D.l2i1 D.l2i2 e,lt j,lt f,(by obtain⟨_,e,_⟩:=h1;exact lt e),(by obtain⟨_,e,_⟩:=h2;exact lt e),⟨_,N,rfl⟩⟩ λc o hc e=>v c o (λx=>hc (by simp[x])) (λx=>hc (by simp[x])) (λx=>hc (by simp[x])) (λx=>hc (by simp[x])) e
 go:=λL k pos i T s Q E H p=>by
  obtain⟨j,d,⟨a,b,f⟩,h1,h2,g1,g2,_⟩:=H
  walk_at "pe"
 apart:=λi T h H n=>by
  obtain⟨_,_,_,_,_,_,_,O,U,R,Y,_⟩:=H
  simp at n
  rcases n with e | e | e | e
  ·exact O e
  ·exact U e
  ·exact R e
  ·exact Y e
 done:=λs Q E st p=>by
  walk_at "pO"
  have B:xs[min xs.size ys.size]?=none\/ys[min xs.size ys.size]?=none:=by
   rcases Nat.le_total xs.size ys.size with q | q
   ·exact .inl (Array.getElem?_eq_none (by omega))
   ·exact .inr (Array.getElem?_eq_none (by omega))
  have n:s.TypeIs (.ref z) "zip":=⟨_,j,rfl⟩
  unfold pyNext
  refine Qg (wpAny_attempt (wpAny_callSpecial?_slot (name:=Str.ofString "__next__") n PySem.F.slot_zip_next (wpAny_call_entry PySem.F.slot_zip_next n PySem.F.entry_zip_next (bN hh D j d f h1 h2 g1 g2 B λh' e v he=>?_) (PySem.F.args_zip_next_1 _))))
  obtain⟨o,P,hc⟩:=he
  exact Qg (wpAny_isInstance (T:="StopIteration") (b:=true) ⟨o,P,hc⟩ isSubtype_stop (Qh (p h' s.toks λc o hc e=>v c o (λx=>hc (by simp[x])) (λx=>hc (by simp[x])) (λx=>hc (by simp[x])) (λx=>hc (by simp[x])) e)))
 self:=λi s Q E st p=>wpAny_pyIter_zip st.1 p
abbrev zT1(h:Heap)(l1:Addr):Heap:=h.push {cls:=.type "tuple_iterator",data:=.fields #[.ref l1,.int 0 0]}
abbrev zT2(h:Heap)(l1 l2:Addr):Heap:=(zT1 h l1).push {cls:=.type "tuple_iterator",data:=.fields #[.ref l2,.int 0 0]}
abbrev zT3(h:Heap)(l1 l2:Addr):Heap:=(zT2 h l1 l2).push {cls:=.type "tuple",data:=.seq #[.ref h.objs.size,.ref (zT1 h l1).objs.size]}
abbrev zT4(h:Heap)(l1 l2:Addr):Heap:=(zT3 h l1 l2).push {cls:=.type "tuple",data:=.seq #[.none,.none]}
abbrev zT5(h:Heap)(l1 l2:Addr):Heap:=(zT4 h l1 l2).push {cls:=.type "zip",data:=.fields #[.none,.bool false,.bool false,.ref (zT2 h l1 l2).objs.size,.ref (zT3 h l1 l2).objs.size]}
theorem bO(a b:Addr)(xs ys:Array Value):Meets (Builtin.«zip.__new__» ⟨[.type "zip",.ref a,.ref b],[]⟩) (λ_ R s=>s.heap.IsTuple a xs/\s.heap.IsTuple b ys/\R (.ok (.ret (.ref (zT4 s.heap a b).objs.size))) {s with heap:=zT5 s.heap a b}):=
 .of_wp λprog w A R s h=>by
  obtain⟨f,g,d,tk,os⟩:=s
  obtain⟨j,k,h⟩:=h
  have i:=sub_zip
  have e:Heap.IsTuple (Shared.heap ⟨f,g,d,tk,os⟩) a xs:=j
  have c:Heap.IsTuple (Shared.heap ⟨f.push {cls:=.type "tuple_iterator",data:=.fields #[.ref a,.int 0 0]},g,d,tk,os⟩) b ys:=Heap.IsTuple.push k _
  wp_walk using wpAny_pyIter_tuple e,wpAny_pyIter_tuple c
  exact⟨_,rfl,h⟩
theorem bP{b:Addr}{ys:Array Value}{Q:Value->Shared->Prop}(j:s.heap.IsTuple a xs)(k:s.heap.IsTuple b ys)
  (h:∀ h',IsZip h' (s.heap.objs.size+4) (s.heap.objs.size+2) (s.heap.objs.size+3) .none->IsPair h' (s.heap.objs.size+2) (.ref s.heap.objs.size) (.ref (s.heap.objs.size+1))->IsPair h' (s.heap.objs.size+3) .none .none->h'.IsTupleIter s.heap.objs.size a 0->h'.IsTupleIter (s.heap.objs.size+1) b 0->h'.objs.size=s.heap.objs.size+5->(∀ c o,s.heap.get? c=some o->h'.get? c=some o)->Q (.ref (s.heap.objs.size+4)) {s with heap:=h'}):
  wpAny (model prog w) A (call (.type "zip") [.ref a,.ref b]) Q E s:=by
 refine callType_new PySem.F.called_zip (by decide) (PySem.F.typeCall_zip_2 _ _) (PySem.F.newCall_zip_2 _ _) (λobj=>PySem.F.args_object_init_3 obj _ _) PySem.F.entry_zip_new (bO a b xs ys) ⟨j,k,?_⟩
 have f:(zT1 s.heap a).objs.size=s.heap.objs.size+1:=Ql ..
 have i:(zT2 s.heap a b).objs.size=s.heap.objs.size+2:=by rw[Ql,f]
 have d:(zT3 s.heap a b).objs.size=s.heap.objs.size+3:=by rw[Ql,i]
 have e:(zT4 s.heap a b).objs.size=s.heap.objs.size+4:=by rw[Ql,d]
 have l:(zT5 s.heap a b).objs.size=s.heap.objs.size+5:=by rw[Ql,e]
 have g:(zT5 s.heap a b).get? (zT4 s.heap a b).objs.size=some _:=Qk _ rfl
 have g4:(zT5 s.heap a b).get? (zT3 s.heap a b).objs.size=some _:=Qi _ (Qk _ rfl)
 have g3:(zT5 s.heap a b).get? (zT2 s.heap a b).objs.size=some _:=Qi _ (Qi _ (Qk _ rfl))
 have g2:(zT5 s.heap a b).get? (zT1 s.heap a).objs.size=some _:=Qi _ (Qi _ (Qi _ (Qk _ rfl)))
 have g1:(zT5 s.heap a b).get? s.heap.objs.size=some _:=Qi _ (Qi _ (Qi _ (Qi _ (Qk _ rfl))))
 rw[i,d,e]at g
 rw[f,i]at g3
 rw[d]at g4
 rw[f]at g2
 rw[e]
 walk_at "pg"
end
def Pa(K:PySem.W.Frag)(l1 l2:Addr):It :=
 ⟨λi H=>∃ xs ys,SqT K H l1 xs/\SqT K H l2 ys/\i < xs.length/\i < ys.length,
  λi H v H'=>∃ T x y,H T=none/\v=.ref T/\H'=upd H T (.tup [x,y])/\∀ xs ys,SqT K H l1 xs->SqT K H l2 ys->xs[i]?=some x/\ys[i]?=some y,
  λi H=>∃ xs ys,SqT K H l1 xs/\SqT K H l2 ys/\i=min xs.length ys.length⟩
variable {k:Nat}{tpos:Pos}
theorem bQ{P:Program}{w:World}{F:List Expr}{z TI TO y u l1 Y:Addr}(D:ZipApart z TI TO y u l1 Y):
  CQ P w K (.Tuple F k tpos) (Pa K l1 Y) [z,TI,TO,y,u] z (λi h=>IsZip h z TI TO .none/\IsPair h TI (.ref y) (.ref u)/\(∃ a b,IsPair h TO a b)/\h.IsTupleIter y l1 i/\h.IsTupleIter u Y i) where
 mem:=by simp
 obj:=λi h st b n=>by
  obtain⟨B,f,⟨a,c,l⟩,⟨o1,e1,_,d1⟩,⟨o2,e2,_,d2⟩⟩:=st
  walk_at "pA"
  rcases n with rfl | rfl | rfl | rfl | rfl
  ·exact⟨_,B,λv z=>by cases z⟩
  ·exact⟨_,f,λv z=>by cases z⟩
  ·exact⟨_,l,λv z=>by cases z⟩
  ·exact⟨o1,e1,λv z=>by rw[d1]at z;cases z⟩
  ·exact⟨o2,e2,λv z=>by rw[d2]at z;cases z⟩
 keep:=λi h h' st kk=>by
  obtain⟨B,f,⟨a,c,l⟩,h1,h2⟩:=st
  exact⟨kk z (by simp) _ B,kk TI (by simp) _ f,⟨a,c,kk TO (by simp) _ l⟩,h1.at λo e=>kk y (by simp) o e,h2.at λo e=>kk u (by simp) o e⟩
 item:=by
  walk_at "pN"
  subst hP hw hK
  obtain⟨xs,ys,hx,hy,hix,hiy⟩:=hg
  obtain⟨g,r1,J,z1⟩:=I.tuple hx
  obtain⟨j,r2,N,z2⟩:=I.tuple hy
  have n1:=r1.length
  have n2:=r2.length
  obtain⟨B,f,l,h1,h2⟩:=st
  have Wk:=O9 (prog:=X.prog) (w:=X.w) (A:=X.A) (I.ok.hd hc) z TI TO y u l1 Y D g.toArray j.toArray
  refine Wk.item i s _ _ (by simp only[Yn];omega) ⟨B,f,l,h1,h2,J,N⟩ λT vals h' tk hPt hT U t hk=>⟨.ref T,rfl,?_⟩
  refine Wk.go F k tpos i T _ _ _ t λG r S=>?_
  obtain⟨v1,v2,g1,g2,rfl⟩:=hPt
  have g1':g[i]?=some v1:=by simpa using g1
  have g2':j[i]?=some v2:=by simpa using g2
  have gx:xs[i]?=some xs[i]:=Yp hix
  have gy:ys[i]?=some ys[i]:=Yp hiy
  obtain⟨u1,q1,rv1⟩:=r1.get gx
  obtain⟨u2,q2,rv2⟩:=r2.get gy
  rw[g1']at q1;cases q1
  rw[g2']at q2;cases q2
  have O:∀ b,b∉[z,TI,TO,y,u]->b∉[z,TO,y,u]:=λb n hc=>n (by
   walk_at "pv"
   rcases hc with h | h | h | h <;> simp[h])
  walk_at "pu"
  have Z:H T=none:=I.hok.fresh hT
  have L:TupP G T #[v1,v2]:=by
   obtain⟨o,e,c,m,d⟩:=U
   obtain⟨o',e',hd⟩:=t.2.2.2.2.2.2.2.2.2.2.2
   rw[e]at e'
   cases e'
   exact⟨o,S _ _ (Wk.apart _ _ _ t) e,c,hd,m,d⟩
  walk_at "ph"
  have I2:Inv X pins σ (upd H T (.tup [xs[i],ys[i]])) {s with heap:=G,toks:=tk}:=by
   walk_at "pr"
   ·obtain⟨m,⟨o,es,ep,ho,_⟩,_⟩:=I.loc
    exact YU (lt ho)
   ·obtain⟨v,o,ho,_⟩:=I.cell x c e
    exact lt ho
   ·exact lt (I.pin p hp).1
   ·cases e:X.s₀.heap.get? T with
    | none=>rfl
    | some o=>exact absurd (Yu (Qj e) (Yt I.sz hT)) (YJ _)
  walk_at "pn"
  ·rw[I.tuple_inj hx' hx,I.tuple_inj hy' hy];exact⟨gx,gy⟩
  ·have hb':=(hf b n).1
   have:b≠T:=by
    obtain⟨o,e,_⟩:∃ o,s.heap.get? b=some o/\True:=by
     obtain⟨a,c,R⟩:=l
     obtain⟨o1,e1,_⟩:=h1
     obtain⟨o2,e2,_⟩:=h2
     walk_at "pA"
     rcases n with rfl | rfl | rfl | rfl | rfl
     ·exact⟨_,B,trivial⟩
     ·exact⟨_,f,trivial⟩
     ·exact⟨_,R,trivial⟩
     ·exact⟨_,e1,trivial⟩
     ·exact⟨_,e2,trivial⟩
    exact lt e
   rw[A4 this];exact hb'
 done:=by
  walk_at "pN"
  subst hP hw hK
  obtain⟨xs,ys,hx,hy,hi⟩:=hg
  obtain⟨g,r1,J,z1⟩:=I.tuple hx
  obtain⟨j,r2,N,z2⟩:=I.tuple hy
  have n1:=r1.length
  have n2:=r2.length
  obtain⟨B,f,l,h1,h2⟩:=st
  have Wk:=O9 (prog:=X.prog) (w:=X.w) (A:=X.A) (I.ok.hd hc) z TI TO y u l1 Y D g.toArray j.toArray
  have hi':i=min g.toArray.size j.toArray.size:=by simp only[Yn];omega
  subst hi'
  refine Wk.done s _ _ ⟨B,f,l,h1,h2,J,N⟩ λh' tk hk=>⟨rfl,Inv.turneds I hf λb o n e=>hk b o (λhc=>n ?_) e⟩
  walk_at "pv"
  rcases hc with h | h | h | h <;> simp[h]
 self:=λA i s Q E st h=>wpAny_pyIter_zip st.1 h
def bR(K:PySem.W.Frag)(ta:TA):TI:=λσ H R=>ta σ H λvs H1=>∃ a b xs ys,vs=[.ref a,.ref b]/\SqT K H1 a xs/\SqT K H1 b ys/\R (Pa K a b) H1
variable {X:Cx}{a b:Expr}{p pos:Pos}
theorem bS{ta:TA}{i:List Expr}(P:Gl X "zip")(L:X.mg "zip"=none)(F:PA X [a,b] ta)(hs:starEach [a,b] X.env=[(false,eval a X.env),(false,eval b X.env)])(d:starEach [b] X.env=[(false,eval b X.env)]):
  PI X (.Tuple i k tpos) (.Call (.Name "zip" p) [a,b] [] pos) (bR X.K ta):=by
 intro pins s σ H R I h
 walk_at "pk"
 obtain⟨S,H1,c,r1,q1⟩:=t
 obtain⟨Q,J,xs,ys,e,D,A,q⟩:=q1
 subst e
 obtain⟨u,T,rfl,B,r⟩:=HB r1
 cases B
 cases r
 obtain⟨y,_,f,_⟩:=c.tuple D
 obtain⟨z,_,j,_⟩:=c.tuple A
 have E:Q < l.heap.objs.size:=by obtain⟨_,e,_⟩:=f;exact Qj e
 have O:J < l.heap.objs.size:=by obtain⟨_,e,_⟩:=j;exact Qj e
 refine bP f j λh' x n v o m G N=>wpAny_pyIter_zip x ?_
 refine⟨_,_,_,_,H1,rfl,c.kept (t':=l.toks) N,bQ (zipApart_new E O),⟨x,n,⟨_,_,v⟩,o,m⟩,λb w=>?_,q⟩
 have g:l.heap.objs.size<=b:=by
  simp only[Yo,YY,or_false]at w
  rcases w with rfl | rfl | rfl | rfl | rfl
  ·exact YX _ 4
  ·exact YX _ 2
  ·exact YX _ 3
  ·exact Yr _
  ·exact YX _ 1
 exact c.fpOk g (c.hok.fresh g)
def CH(gs:GA):GI:=λω G R=>gs ω G λws G1=>∃ xs ys,ws=[.tup xs,.tup ys]/\R (BA xs ys) yes G1
variable {gs:GA}
theorem bT(m:gs.M):GI.M (CH gs):=λω G R a h q=>m _ _ _ _ ((by rintro c b ⟨xs,ys,e,z⟩;exact⟨xs,ys,e,h _ _ _ z⟩)) q
theorem Ld{v:V}{xs:List W}(t:Tr K H v (.tup xs)):∃ a vs,v=.ref a/\SqT K H a vs/\TrL K H vs xs:=by
 cases t with
 | tup h l=>exact⟨_,_,rfl,h,l⟩
theorem GN{h:List Expr}(L:X.mg "zip"=none)(P:Gl X "zip")(hs:starEach [a,b] X.env=[(false,eval a X.env),(false,eval b X.env)])(s:starEach [b] X.env=[(false,eval b X.env)])(u:Am X [a,b] gs):
  Im X (.Tuple h k tpos) (.Call (.Name "zip" p) [a,b] [] pos) (CH gs):=by
 refine⟨⟨_,bS P L u.p hs s,λσ H ω G R R0 F r q S=>⟨ω,G,F,r,u.m _ _ _ _ (λws G1 z U H1 m t r1=>?_) q⟩⟩,bT u.m⟩
 obtain⟨xs,ys,rfl,z⟩:=z
 cases t with
 | cons Q t =>
  cases t with
  | cons ty t =>
   cases t
   obtain⟨E,f,rfl,e,y⟩:=Ld Q
   obtain⟨O,g,rfl,d,w⟩:=Ld ty
   refine⟨E,O,f,g,rfl,e,d,S _ _ _ H1 _ z m r1 trivial ⟨λi j A c o g3 hi=>?_,λi j A v Y c o g3 I hi=>?_,λj A c o g3=>?_⟩⟩
   ·rw[E0]at hi
    exact⟨f,g,c.tup _ _ e,c.tup _ _ d,by rw[y.length];omega,by rw[w.length];omega⟩
   ·obtain⟨T,J,N,B,rfl,rfl,D⟩:=I
    obtain⟨g1,g2⟩:=D _ _ (c.tup _ _ e) (c.tup _ _ d)
    obtain⟨w1,q1,x⟩:=(y.mono c).get' g1
    obtain⟨Z,q2,l⟩:=(w.mono c).get' g2
    have n:Mono X.K j (upd j T (.tup [J,N])):=Mono.new B _
    exact⟨n,o.mono0 B,_,HQ _ _ i q1 q2,.tup (SqT.of BO) (.cons (x.mono n) (.cons (l.mono n) .nil))⟩
   ·exact⟨f,g,c.tup _ _ e,c.tup _ _ d,by rw[E0,y.length,w.length]⟩
end L3
namespace L3
open PySem PySem.Spec PyProof.Rows L2
abbrev E3(h:Heap)(T:Addr)(a b c:Value):Prop:=h.get? T=some {cls:=.type "tuple",data:=.seq #[a,b,c]}
section
variable {prog:Program} {w:World} {A:Around} {E:Value->Shared->Prop} {s:Shared}
def St3(n l1 l2 l3:Nat)(f0:Value)(i:Nat)(h:Heap):Prop:=IsZip h (n+5) (n+3) (n+4) f0/\E3 h (n+3) (.ref n) (.ref (n+1)) (.ref (n+2))/\(∃ a b c,E3 h (n+4) a b c)/\h.IsListIter n l1 i/\h.IsListIter (n+1) l2 i/\h.IsListIter (n+2) l3 i
end
end L3
namespace L3
open PySem PySem.Spec PyProof.Rows L2
variable {K:PySem.W.Frag} {H H' H2:Hp}
section
variable {prog:Program} {w:World} {A:Around} {E:Value->Shared->Prop} {s:Shared}
theorem St3.at{n m g l:Nat}{j:Value}{i:Nat}{h h':Heap}(st:St3 n m g l j i h)(k:∀(c:Nat)o,n<=c->c<=n+5->h.get? c=some o->h'.get? c=some o):St3 n m g l j i h':=by
 obtain⟨q,f,⟨a,b,c,d⟩,r,s,p⟩:=st
 exact⟨k _ _ (by omega) (by omega) q,k _ _ (by omega) (by omega) f,⟨a,b,c,k _ _ (by omega) (by omega) d⟩,r.at λo e=>k _ o (by omega) (by omega) e,s.at λo e=>k _ o (by omega) (by omega) e,p.at λo e=>k _ o (by omega) (by omega) e⟩
end
def HY(w:W):Bool:=match w with | .non=>true | _=>false
def isF(neg:Bool)(x y:W)(_:Hw):Option W:=match y with | .non=>some (.bl (HY x != neg))| _=>none
theorem bU{v:V}{x:W}(t:Tr K H v x):decide (v=.non)=HY x:=by cases t <;> rfl
theorem bV{u:V}(t:Tr K H u .non):u=.non:=by cases t;rfl
theorem bW(neg:Bool)(x y:W)(v u:V)(G:Hw)(H:Hp)(Q:VK)(b:Tr K H v x)(ty:Tr K H u y)(r:RelH K H G)(q:Ae (isF neg) x y G (dn K H Q)):u=.non/\Q (.bl (HY x != neg)) H:=by
 obtain⟨w,e,a⟩:=CV q
 cases y with
 | non=>cases e;exact⟨bV ty,a _ H .refl (.bl _) r⟩
 | _=>cases e
theorem bX{X:Cx}:Cop X .Is (Ae (isF false)):=⟨⟨_,Wu,λx y v u G H Q a ty r q=>by
 obtain⟨h1,h2⟩:=bW false x y v u G H Q a ty r q
 refine⟨h1,?_⟩
 rw[bU a];simpa using h2⟩,D5⟩
section
variable {prog:Program} {w:World} {A:Around} {E:Value->Shared->Prop} {s:Shared}
def St3T(n l1 l2 l3:Nat)(f0:Value)(i:Nat)(h:Heap):Prop:=IsZip h (n+5) (n+3) (n+4) f0/\E3 h (n+3) (.ref n) (.ref (n+1)) (.ref (n+2))/\(∃ a b c,E3 h (n+4) a b c)/\h.IsTupleIter n l1 i/\h.IsTupleIter (n+1) l2 i/\h.IsTupleIter (n+2) l3 i
theorem St3T.at{n m g l:Nat}{j:Value}{i:Nat}{h h':Heap}(st:St3T n m g l j i h)(k:∀(c:Nat)o,n<=c->c<=n+5->h.get? c=some o->h'.get? c=some o):St3T n m g l j i h':=by
 obtain⟨q,f,⟨a,b,c,d⟩,r,s,p⟩:=st
 exact⟨k _ _ (by omega) (by omega) q,k _ _ (by omega) (by omega) f,⟨a,b,c,k _ _ (by omega) (by omega) d⟩,tat r λo e=>k _ o (by omega) (by omega) e,tat s λo e=>k _ o (by omega) (by omega) e,tat p λo e=>k _ o (by omega) (by omega) e⟩
end
section
variable {prog:Program} {w:World} {A:Around} {E:Value->Shared->Prop} {s:Shared}
end
def Le(K:PySem.W.Frag)(mg:Str->Option Value)(base:Heap)(x:Str)(D:List (Str×List Str)):Prop:=∃ d,mg x=some (.ref d)/\KTD.TabOf (λss v=>∃ a,v=.ref a/\∀ H:Hp,SqT K H a (ss.map V.str)) base d D
theorem Pc(H:Hp):∀ a:List Str,TrL K H (a.map V.str) (a.map W.str)
 | []=>.nil
 | s::a=>.cons (.str _) (Pc H a)
variable {x:Str}{D:List (Str×List Str)}
theorem bY{h base:Heap}{mg:Str->Option Value}(X:K.In h)(G:h.Ns mainGlobals mg)(B:K.In base){d:Addr}{o:Obj}{es:Array DictEntry}{ep:Nat}(e:PySem.W.nsIn K mainGlobals x=some (some (.ref d)))(l:K.lookup d=some o)
  (hd:(d==sysModules)=false) (f:o.ExactDict) (c:o.data=.dict es ep) (g:KTD.Rows (λb v=>∃ a,v=.ref a/\∀ H:Hp,SqT K H a (b.map V.str)) es.toList D):Le K mg base x D :=
 ⟨d,PySem.W.mg_of X G e,hd,o,es,ep,B _ _ l,f,c,g⟩
theorem Ca{e:DictEntry}{t:Tok}{a:Addr}{ts:List (Str×Tok)}{dd:Option Addr}{n:Nat}{c:Array (Option Value)}{es:List DictEntry}(h1:e.key=.str x t)(h2:e.val=.ref a)(l:K.lookup a=some ⟨.type "tuple",none,.seq ((ts.map λp=>Value.str p.1 p.2).toArray) n,c⟩)(f:ts.length<=1000)
  (r:KTD.Rows (λb v=>∃ a,v=.ref a/\∀ H:Hp,SqT K H a (b.map V.str)) es D):KTD.Rows (λb v=>∃ a,v=.ref a/\∀ H:Hp,SqT K H a (b.map V.str)) (e::es) ((x,ts.map (·.1))::D):=by
 refine .cons h1 ⟨a,h2,λH=>.inr ⟨_,_,n,l,rfl,rfl,rfl,?_,?_⟩⟩ r
 ·simp only[Yn,Yh]
  exact Yt f (by decide)
 ·have d:∀ ts:List (Str×Tok),Vals ((ts.map (·.1)).map V.str) (ts.map λp=>Value.str p.1 p.2):=λts=>by
   induction ts with
   | nil=>exact .nil
   | cons p ts g=>exact .cons ⟨p.2,rfl⟩ g
  simpa using d ts
end L3
namespace L3
open PySem PySem.Spec PyProof.Rows L2
abbrev bZ(h:Heap)(z TI TO:Addr)(f0:Value)(b:Bool):Prop:=h.get? z=some {cls:=.type "zip",dict:=none,data:=.fields #[f0,.bool b,.bool false,.ref TI,.ref TO],slots:=#[]}
section
variable {prog:Program} {w:World} {A:Around} {E:Value->Shared->Prop} {s:Shared}
def Hd3(n l1 l2 l3 i:Nat)(h:Heap):Prop:=(∃(T:Nat)(o:Obj)(b:Bool),bZ h (n+5) (n+3) (n+4) (rawInt T) b/\h.get? T=some o/\(T < n\/n+5 < T))/\E3 h (n+3) (.ref n) (.ref (n+1)) (.ref (n+2))/\h.IsListIter n l1 i/\h.IsListIter (n+1) l2 i/\h.IsListIter (n+2) l3 i
def Cm3(n l1 l2 l3 i:Nat)(h:Heap):Prop:=(i=0/\St3 n l1 l2 l3 .none 0 h)\/Hd3 n l1 l2 l3 i h
theorem Cm3.zip{n e a c i:Nat}{h:Heap}(st:Cm3 n e a c i h):∃ o,h.get? (n+5)=some o/\o.cls=.type "zip":=by
 rcases st with⟨_,st⟩| st
 ·exact⟨_,st.1,rfl⟩
 ·obtain⟨⟨T,o,b,d,_⟩,_⟩:=st
  exact⟨_,d,rfl⟩
end
section
variable {prog:Program} {w:World} {A:Around} {E:Value->Shared->Prop} {s:Shared}
end
end L3
namespace L3
open PySem PySem.Spec PyProof.Rows L2
variable {K:PySem.W.Frag} {H H' H2:Hp}
section
variable {prog:Program} {w:World} {A:Around} {E:Value->Shared->Prop} {s:Shared}
def St3M(n l1 l2 l3:Nat)(f0:Value)(i:Nat)(h:Heap):Prop:=IsZip h (n+5) (n+3) (n+4) f0/\E3 h (n+3) (.ref n) (.ref (n+1)) (.ref (n+2))/\(∃ a b c,E3 h (n+4) a b c)/\h.IsListIter n l1 i/\h.IsTupleIter (n+1) l2 i/\h.IsTupleIter (n+2) l3 i
theorem St3M.at{n m g l:Nat}{j:Value}{i:Nat}{h h':Heap}(st:St3M n m g l j i h)(k:∀(c:Nat)o,n<=c->c<=n+5->h.get? c=some o->h'.get? c=some o):St3M n m g l j i h':=by
 obtain⟨q,f,⟨a,b,c,d⟩,r,s,p⟩:=st
 exact⟨k _ _ (by omega) (by omega) q,k _ _ (by omega) (by omega) f,⟨a,b,c,k _ _ (by omega) (by omega) d⟩,r.at λo e=>k _ o (by omega) (by omega) e,tat s λo e=>k _ o (by omega) (by omega) e,tat p λo e=>k _ o (by omega) (by omega) e⟩
end
end L3
namespace L3
open PySem PySem.Spec PyProof.Rows L2
end L3
namespace L3
open PySem PySem.Spec PyProof.Rows L2
variable {K:PySem.W.Frag} {H H' H2:Hp}
def atT{α:Type}(kvs:List (Key×α))(x:Str):Option α:=(kvs.find? λy=>decide (y.1=Sum.inr x)).map (·.2)
variable {k:Key}
theorem Lf{α:Type}{v:α}{kvs:List (Key×α)}{x:Str}:atT ((k,v)::kvs) x=if k=Sum.inr x then some v else atT kvs x:=by
 unfold atT
 rw[List.find?_cons]
 by_cases h:k=Sum.inr x
 ·simp[h]
 ·simp[h]
theorem Pd{x:Str}:∀{kvs:List (Key×V)}{vs:List (Key×Value)},KV kvs vs->(atT kvs x=none/\valueAt vs (Sum.inr x)=none)\/∃ v u,atT kvs x=some v/\valueAt vs (Sum.inr x)=some u/\RelV v u
 | _,_,.nil=>.inl ⟨rfl,rfl⟩
 |(k,v)::kvs,(d,c)::vs,.cons ⟨e,b⟩ t=>by
  have a:=Pd (x:=x) t
  cases(show k=d from e)
  rw[Lf]
  unfold valueAt at a ⊢
  rw[List.find?_cons]
  by_cases h:k=Sum.inr x
  ·simp only[h,if_true,decide_true]
   exact .inr ⟨v,c,rfl,rfl,b⟩
  ·simp only[h,if_false,decide_false];exact a
theorem Pe{x:Str}:∀{vs:List (Key×V)}{a:List (Key×W)},TrP K H vs a->(atT vs x=none/\atT a x=none)\/∃ v w,atT vs x=some v/\atT a x=some w/\Tr K H v w
 | _,_,.nil=>.inl ⟨rfl,rfl⟩
 |(k,v)::vs,(_,u)::a,.cons tv t=>by
  rw[Lf,Lf]
  by_cases h:k=Sum.inr x
  ·rw[if_pos h,if_pos h];exact .inr ⟨_,_,rfl,rfl,tv⟩
  ·rw[if_neg h,if_neg h];exact Pe t
def inK(neg:Bool)(x y:W)(G:Hw):Option W:=match x,y with
 | .str z,.ref p=>(match G p with | some (.dct kvs)=>some (.bl ((atT kvs z).isSome != neg))| _=>none)
 | _,_=>none
def Pf:R2:=λx y H Q=>∃ p kvs z v,x=.ref p/\y=.str z/\H p=some (.dK kvs)/\atT kvs z=some v/\Q v H
variable {X:Cx}
theorem b0:IxR X Pf:=by
 intro value slice pins s σ H x y v u Q I l j h hs
 obtain⟨p,a,z,v,rfl,rfl,i,b,q⟩:=h
 cases l
 obtain⟨t,rfl⟩:=j
 obtain⟨_,hd,c,e,f⟩:a.length<=sizeLine/\(p==sysModules)=false/\∃ c,KV a c/\s.heap.DictOf (Bs X.prog X.w) p c:=I.hok p _ i
 rcases Pd (x:=z) e with⟨d,_⟩|⟨n,u,d,m,g⟩
 ·rw[d]at b;cases b
 ·rw[d]at b
  cases b
  refine subscriptTail_builtinR (x:=u) f.typeIs PySem.F.slot_dict_getitem.lookup ?_ hs
  exact wpAny_getItem_of (knd:=Bs X.prog X.w) (k:=Sum.inr z) (Q:=λr s'=>r=u/\EP X pins σ Q r s') (by simp[Bs,D1,Value.isStrOf]) f.mapOf m ⟨rfl,_,H,I.tok _,g,q⟩
def ixK(x y:W)(G:Hw):Option W:=match x,y with
 | .ref p,.str z=>(match G p with | some (.dct kvs)=>atT kvs z | _=>none)
 | _,_=>none
theorem b4(x y:W)(v u:V)(G:Hw)(H:Hp)(Q:VK)(c:Tr K H v x)(ty:Tr K H u y)(r:RelH K H G)(q:Ae ixK x y G (dn K H Q)):Pf v u H Q:=by
 obtain⟨w,e,i⟩:=CV q
 unfold ixK at e
 split at e
 ·rename_i p z
  split at e
  ·rename_i f b
   cases c
   cases ty
   obtain⟨g,d,l⟩:=r p _ b
   rcases Pe (x:=z) l with⟨_,a⟩|⟨v,u,a,h,tv⟩
   ·rw[a]at e;cases e
   ·rw[h]at e
    cases e
    exact⟨p,g,z,v,rfl,rfl,d,a,i _ H .refl tv r⟩
  ·cases e
 ·cases e
variable {pos:Pos}
theorem b5{a b:Expr}{ga gb:GE}(hs:HE b)(c:Em X a ga)(d:Em X b gb):Em X (.Subscript a b pos) (Ad (Ae ixK) ga gb):=⟨NV b0 D5 c.m d.m b4 c.p d.p hs,Cs D5 c.m d.m⟩
def BC{α:Type}(kvs:List (Key×α))(k:Key)(v:α):List (Key×α):=if kvs.any (λkv=>decide (kv.1=k))then kvs.map (λkv=>if kv.1=k then(kv.1,v)else kv)else kvs++[(k,v)]
theorem b6{α:Type}(kvs:List (Key×α))(k:Key)(v:α):(BC kvs k v).length<=kvs.length+1:=by unfold BC;split <;> simp
theorem Pg{k:Key}:∀{kvs:List (Key×V)}{vs:List (Key×Value)},KV kvs vs->kvs.any (λkv=>decide (kv.1=k))=vs.any (λkv=>decide (kv.1=k))
 | _,_,.nil=>rfl
 | _,_,.cons ⟨e,_⟩ t=>by rw[List.any_cons,List.any_cons,Pg t,e]
theorem Ph{k:Key}{v:V}{u:Value}(r:RelV v u):∀{kvs:List (Key×V)}{vs:List (Key×Value)},KV kvs vs->KV (kvs.map λkv=>if kv.1=k then(kv.1,v)else kv) (vs.map λkv=>if kv.1=k then(kv.1,u)else kv)
 | _,_,.nil=>.nil
 |(a,x)::_,(b,y)::_,.cons ⟨e,c⟩ t=>by
  cases(show a=b from e)
  rw[Ym,Ym]
  refine .cons ?_ (Ph r t)
  by_cases h:a=k
  ·rw[if_pos h,if_pos h];exact⟨rfl,r⟩
  ·rw[if_neg h,if_neg h];exact⟨rfl,c⟩
theorem Pi{k:Key}{v:V}{u:Value}(r:RelV v u):∀{kvs:List (Key×V)}{vs:List (Key×Value)},KV kvs vs->KV (kvs++[(k,v)]) (vs++[(k,u)])
 | _,_,.nil=>.cons ⟨rfl,r⟩ .nil
 | _,_,.cons h t=>.cons h (Pi r t)
variable {v:V}
theorem b7{u:Value}(r:RelV v u){kvs:List (Key×V)}{vs:List (Key×Value)}(h:KV kvs vs):KV (BC kvs k v) (stored vs k u):=by
 unfold BC stored
 rw[Pg h]
 split
 ·exact Ph r h
 ·exact Pi r h
theorem Pj{k:Key}:∀{vs:List (Key×V)}{a:List (Key×W)},TrP K H vs a->vs.any (λkv=>decide (kv.1=k))=a.any (λkv=>decide (kv.1=k))
 | _,_,.nil=>rfl
 | _,_,.cons _ t=>by rw[List.any_cons,List.any_cons,Pj t]
theorem Lg{k:Key}{v:V}{w:W}(r:Tr K H v w):∀{vs:List (Key×V)}{b:List (Key×W)},TrP K H vs b->TrP K H (vs.map λkv=>if kv.1=k then(kv.1,v)else kv) (b.map λkv=>if kv.1=k then(kv.1,w)else kv)
 | _,_,.nil=>.nil
 |(a,x)::_,(_,y)::_,.cons tv t=>by
  rw[Ym,Ym]
  by_cases h:a=k
  ·simp only[h,if_true];exact .cons r (Lg r t)
  ·simp only[h,if_false];exact .cons tv (Lg r t)
theorem Pk{k:Key}{v:V}{w:W}(r:Tr K H v w):∀{vs:List (Key×V)}{a:List (Key×W)},TrP K H vs a->TrP K H (vs++[(k,v)]) (a++[(k,w)])
 | _,_,.nil=>.cons r .nil
 | _,_,.cons h t=>.cons h (Pk r t)
theorem b8{w:W}(r:Tr K H v w){vs:List (Key×V)}{a:List (Key×W)}(h:TrP K H vs a):TrP K H (BC vs k v) (BC a k w):=by
 unfold BC
 rw[Pj h]
 split
 ·exact Lg r h
 ·exact Pk r h
theorem Pl:∀{vs:List (Key×V)}{a:List (Key×W)},TrP K H vs a->vs.length=a.length
 | _,_,.nil=>rfl
 | _,_,.cons _ t=>by rw[Yg,Yg,Pl t]
def Pn:V->V->V->Hp->(Hp->Prop)->Prop:=λo i v H Q=>∃ p kvs z,o=.ref p/\i=.str z/\H p=some (.dK kvs)/\kvs.length < sizeLine/\Q (upd H p (.dK (BC kvs (Sum.inr z) v)))
theorem b9:J9 X Pn:=by
 intro pins s σ H o i v E F u Q I D m n h
 obtain⟨p,a,z,rfl,rfl,g,hl,q⟩:=h
 cases D
 obtain⟨t,rfl⟩:=m
 obtain⟨_,hd,f,c,B⟩:a.length<=sizeLine/\(p==sysModules)=false/\∃ f,KV a f/\s.heap.DictOf (Bs X.prog X.w) p f:=I.hok p _ g
 have j:=Paired.length c
 refine wpAny_setItem_pairs (knd:=Bs X.prog X.w) (k:=Sum.inr z) (by simp[Bs,D1,Value.isStrOf]) B (λh' d l=>?_) (by omega)
 have A:∃ o,h'.get? p=some o:=by obtain⟨o,_,_,y,_⟩:=d;exact⟨o,y⟩
 refine⟨_,I.write (t':=s.toks+1) (x:=p) (e:=p) (o:=.dK (BC a (Sum.inr z) v)) (by rw[g];trivial) (.inl rfl) (λb w r e=>(l.2 b r).trans e) A ?_,q⟩
 have:=b6 a (Sum.inr z) v
 exact⟨by omega,hd,_,b7 n c,d⟩
def Po(o k v:W)(G:Hw)(Q:Hw->Prop):Prop:=∃ p kvs z,o=.ref p/\k=.str z/\G p=some (.dct kvs)/\kvs.length < sizeLine/\Q (put G p (.dct (BC kvs (Sum.inr z) v)))
theorem ca{o k v:W}{x y u:V}{G:Hw}{Pq:Hw->Prop}{R:Hp->Prop}(i:Tr K H x v)(ty:Tr K H y o)(h:Tr K H u k)(r:RelH K H G)(q:Po o k v G Pq)(f:∀ d b,Mono K H b->RelH K b d->Pq d->R b):Pn y u x H R:=by
 obtain⟨p,a,z,rfl,rfl,e,j,q⟩:=q
 cases ty
 cases h
 obtain⟨c,g,t⟩:=r p _ e
 have m:Mono K H (upd H p (.dK (BC c (Sum.inr z) x))):=Mono.was g _ (λ_ z=>by cases z) (λ_ _ z=>by cases z)
 exact⟨p,c,z,rfl,rfl,g,by rw[Pl t];exact j,f _ _ m (RelH.laid (u:=.dct (BC a (Sum.inr z) v)) r m ⟨_,BO,(b8 i t).mono m⟩) q⟩
def FN(gv go gi:GE):GS:=λD ω G=>gv ω G λv G1=>go ω G1 λo G2=>gi ω G2 λk G3=>Po o k v G3 λG4=>D.nx ω G4
variable {gv go gi:GE}
theorem cb(c:gv.M)(f:go.M)(d:gi.M):GS.M (FN gv go gi):=λω G D j h1 _ _ _ q=>
 c _ _ _ _ (λv i z=>f _ _ _ _ (λo l z=>d _ _ _ _ ((by rintro k m ⟨p,a,z,h,g,e,b,q⟩;exact⟨p,a,z,h,g,e,b,h1 _ _ q⟩)) z) z) q
theorem cc{P:Hp->Prop}{o i e:Expr}{pos':Pos}(w:∀ v,assign (.Subscript o i pos') X.env v=(do
   let ov <- holding [v] (eval o X.env)
   let iv <- holding [v,ov] (eval i X.env)
   standAt pos'
   holding [v,ov,iv] (setItem ov iv v)
   release [v,ov,iv] [])) (hs:swapsWithSole [.Subscript o i pos'] e pos.line X.env=pure false) (hw:swappedStores [.Subscript o i pos'] e X.env=pure none)
  (h1:(assignEach [.Subscript o i pos'] X.env).map (·.2)=[assign (.Subscript o i pos') X.env]) (g:Em X e gv) (f:Em X o go) (hi:Em X i gi):Sm X P (.Assign [.Subscript o i pos'] e pos) (FN gv go gi):=
 ⟨λB R=>CT (Kb g.p (Nh f.p hi.p b9 w) hs hw h1) λD σ H⟨ω,G,b,r,A,q⟩=>⟨ω,G,b,r,g.m _ _ _ _ (λv I z x H1 c J r1=>
  ⟨ω,I,b.mono c,r1,f.m _ _ _ _ (λS E L y H2 a ty K=>
   ⟨ω,E,(b.mono c).mono a,K,hi.m _ _ _ _ (λk O t u Q d F n=>
    ca ((J.mono a).mono d) (ty.mono d) F n t (λN s h l j=>j σ s ((((A.trans c).trans a).trans d).trans h) ((((b.mono c).mono a).mono d).mono h) l)) L⟩) z⟩) q⟩,cb g.m f.m hi.m⟩
def ce:TE:=λ_ H Q=>∀ l,H l=none->Q (.ref l) (upd H l (.dK []))
theorem cf:PE X (.Dict [] [] pos) ce:=by
 intro pins s σ H Q I h
 refine wpAny_Dict_empty ?_
 have a:sysModules < s.heap.objs.size:=by
  have h:mainGlobals < s.heap.objs.size:=(I.mod.glob.keeps I.bk).lt
  exact Nat.lt_trans (by decide) h
 have c:=I.hok.fresh (Yr s.heap.objs.size)
 have J:Inv X pins σ (upd H s.heap.objs.size (.dK [])) {s with heap:=s.heap.push {cls:=.type "dict",data:=.dict #[]},toks:=s.toks}:=I.laid (t':=s.toks) (λb u e=>Qi _ e) (Yr _) (show ObjOk X.prog X.w _ _ _ (.dK _)from⟨YT _,by simpa using Nat.ne_of_gt a,[],.nil,Heap.DictOf.new s.heap⟩)
 exact⟨.ref _,_,J,rfl,h _ c⟩
def HZ:GE:=λ_ G Q=>∀ l,G l=none->Q (.ref l) (put G l (.dct []))
theorem cg:Em X (.Dict [] [] pos) HZ:=by
 refine⟨Bg cf λσ H Q⟨ω,G,a,r,q⟩l hl=>?_,λω G Q b h q l hl=>h _ _ (q l hl)⟩
 exact q l (r.no hl) _ _ (Mono.new hl _) (.ref l) (RelH.laid r (Mono.new hl _) ⟨_,BO,.nil⟩)
end L3
namespace L3
open PySem PySem.Spec PyProof.Rows L2
section
variable {prog:Program} {w:World} {A:Around} {E:Value->Shared->Prop} {s:Shared}
end
theorem ci{prog:Program}{w:World}{z:Str}{v:Value}(h:(Bs prog w).is (Sum.inr z) v=true):∃ t,v=.str z t:=by
 rcases C6 (show D1 (Sum.inr z) v=true from h)with⟨i,t,e,_⟩|⟨x,t,e,rfl⟩
 ·cases e
 ·cases e;exact⟨t,rfl⟩
theorem Pp{prog:Program}{w:World}:∀{zs:List Str}{kvs:List (Key×Value)}{a:List Value},kvs.map (·.1)=zs.map Sum.inr->a.length=kvs.length->(∀(j:Nat)(v:Value),a[j]?=some v->∃ k x,kvs[j]?=some (k,x)/\(Bs prog w).is k v=true)->Vals (zs.map V.str) a
 | [],[],a,_,hl,_=>by
  cases a with
  | nil=>exact .nil
  | cons _ _=>cases hl
 | z::zs,(k,x)::kvs,a,e,hl,h=>by
  cases a with
  | nil=>cases hl
  | cons v a =>
   rw[Ym,Ym]at e
   obtain⟨d,g⟩:=List.cons.inj e
   obtain⟨b,c,h1,h2⟩:=h 0 v rfl
   cases h1
   cases(show k=Sum.inr z from d)
   obtain⟨t,rfl⟩:=ci h2
   refine .cons ⟨t,rfl⟩ (Pp (prog:=prog) (w:=w) g (Nat.succ.inj hl) λj u f=>?_)
   obtain⟨b,c,h1,h2⟩:=h (j+1) u (by simpa using f)
   exact⟨b,c,by simpa using h1,h2⟩
theorem Pr:∀{kvs:List (Key×V)}{vs:List (Key×Value)},KV kvs vs->vs.map (·.1)=kvs.map (·.1)
 | _,_,.nil=>rfl
 | _,_,.cons h t=>by rw[Ym,Ym,Pr t,h.1]
theorem Ps{K:PySem.W.Frag}{H:Hp}:∀{vs:List (Key×V)}{a:List (Key×W)},TrP K H vs a->vs.map (·.1)=a.map (·.1)
 | _,_,.nil=>rfl
 | _,_,.cons _ t=>by rw[Ym,Ym,Ps t]
def H9(g:GE):GE:=λω G Q=>g ω G λx G1=>∃ i,x=.int i/\Q (.int (-i)) G1
variable {g:GE}
theorem cj(m:g.M):GE.M (H9 g):=λω G Q b h q=>m _ _ _ _ (by rintro x a ⟨i,e,z⟩;exact⟨i,e,h _ _ z⟩) q
theorem ck{X:Cx}{a:Expr}{pos:Pos}(h:Em X a g):Em X (.UnaryOp .USub a pos) (H9 g):=
 ⟨Bg (Wd Wl h.p) λσ H Q⟨ω,G,b,r,q⟩=>⟨ω,G,b,r,h.m _ _ _ _ (λx c z v H1 m t r1=>by
  obtain⟨i,rfl,z⟩:=z
  cases t
  exact⟨_,rfl,z _ _ m (.int _) r1⟩) q⟩,cj h.m⟩
end L3
namespace L3
open PySem PySem.Spec PyProof.Rows L2
variable {K:PySem.W.Frag} {H H' H2:Hp}
def Ia(gg:GG)(ga:GE):GS:=λD ω G=>ga ω G λw G1=>gg w ω G1 D.nx
theorem cm{X:Cx}{P:Hp->Prop}{tg e:Expr}{ga:GE}{f:GG}{pos:Pos}(hs:swapsWithSole [tg] e pos.line X.env=pure false)(hw:swappedStores [tg] e X.env=pure none)(h1:(assignEach [tg] X.env).map (·.2)=[assign tg X.env])(o:TgW X tg f)(b:Em X e ga):
  Sm X P (.Assign [tg] e pos) (Ia f ga):=by
 obtain⟨⟨g,pg,a⟩,mg⟩:=o
 refine⟨λB s=>CT (Kb b.p pg hs hw h1) ?_,λω G D u h _ _ _ q=>b.m _ _ _ _ (λw d z=>mg _ _ _ _ _ h z) q⟩
 rintro D σ H ⟨ω,G,i,r,j,q⟩
 exact⟨ω,G,i,r,b.m _ _ _ _ (λw d z v H1 m t r1=>a v w σ ω H1 d _ t (i.mono m) r1 (mg _ _ _ _ _ (λω2 x n σ2 H2 k c l=>n σ2 H2 (j.trans (m.trans k)) c l) z)) q⟩
section
variable {X:Cx} {e:Expr} {p pc pd pt pos:Pos} {ge:GE}
end
end L3
namespace L3
open PySem PySem.Spec PyProof.Rows L2
def ev{α:Type}(lt:Nat->Nat->Bool)(n:Nat):PySem.W.KasT α->Option α
 | .ret a=>some a
 | .ask i j k=>if i≠j/\i < n/\j < n then ev lt n (k (lt i j))else none
section
variable {prog:Program} {w:World} {A:Around} {E:Value->Shared->Prop} {s:Shared}
end
end L3
namespace L3
open PySem PySem.Spec PyProof.Rows L2
variable {K:PySem.W.Frag} {H H' H2:Hp}
theorem Pt:bootBuiltins "sorted"=some (.builtin "sorted"):=by decide +kernel
end L3
namespace L3
open PySem PySem.Spec PyProof.Rows L2
section
variable {prog:Program} {w:World} {A:Around} {E:Value->Shared->Prop} {s:Shared}
end
section
variable {X:Cx} {e:Expr} {p3 pa q1 q3:Pos} {ta:TE}
end
end L3
namespace L3
open PySem PySem.Spec PyProof.Rows L2
variable {K:PySem.W.Frag} {H H' H2:Hp}
end L3
namespace L3
open PySem PySem.Spec PyProof.Rows L2
section
variable {prog:Program} {w:World} {A:Around} {E:Value->Shared->Prop} {s:Shared}
end
section
variable {prog:Program} {w:World} {A:Around} {E:Value->Shared->Prop} {s:Shared}
end
end L3
namespace L3
open PySem PySem.Spec PyProof.Rows L2
variable {K:PySem.W.Frag} {H H' H2:Hp}
section
variable {X:Cx} {e eb:Expr} {p1 p2 p3 q1 q2 q3 qb:Pos} {ta tb:TE}
end
end L3
namespace L3
open PySem PySem.Spec PyProof.Rows L2
section
variable {prog:Program} {w:World} {A:Around} {E:Value->Shared->Prop} {s:Shared}
theorem cn{d:Addr}{kvs:List (Key×Value)}{ep:Nat}{R:List Value->Shared->Prop}(B:A.handled=none)(hd:(d==sysModules)=false)(t:s.heap.DictAt (Bs prog w) d kvs ep)(z:kvs.length<=sizeLine)
  (h:∀(h':Heap)(tk:Nat)(a:Array Value),(∀ b o,s.heap.get? b=some o->h'.get? b=some o)->s.heap.objs.size<=h'.objs.size->ItemsOf (λi v=>∃ k x,kvs[i]?=some (k,x)/\(Bs prog w).is k v=true) a kvs.length->R a.toList {s with heap:=h',toks:=tk}):
  wpAny (model prog w) A (collect (.ref d)) R E s:=by
 have n:d < s.heap.objs.size:=t.lt_size
 unfold collect
 refine Qg (wpAny_runValue (codeAny_builtin PySem.F.entry_proto_collect ?_));rw[Around.under_plainId PySem.F.plain_proto_collect _]
 refine Qg (m:=newList []) (wpAny_newList ?_ (YT _))
 refine Qh ⟨plainId_quiet PySem.F.plain_list_iadd _,codeAny_builtin PySem.F.entry_list_iadd ?_⟩;rw[Around.under_plainId PySem.F.plain_list_iadd _]
 have D:(s.heap.push (seqObj "list" #[] 0)).get? s.heap.objs.size=some {cls:=.type "list",data:=.seq #[]}:=Qk _ rfl
 refine(?_:wpAny (model prog w) A.in1 (Builtin.List.listExtendWith (.ref s.heap.objs.size) (.ref d) (.ref s.heap.objs.size)) _ _ {s with heap:=s.heap.push (seqObj "list" #[] 0)})
 have key:=PySem.W.kdl_extend (A:=A) (s:={s with heap:=s.heap.push (seqObj "list" #[] 0)}) (R:=λ(q:Result)(s':Shared)=>∃(h':Heap)(tk:Nat)(a:Array Value)(c:Nat),q=.ok (.ret (.ref s.heap.objs.size))/\s'={s with heap:=h',toks:=tk}/\(∀ b o,s.heap.get? b=some o->h'.get? b=some o)/\h'.get? s.heap.objs.size=some {cls:=.type "list",dict:=none,data:=.seq a c,slots:=#[]}/\ItemsOf (λi v=>∃ k x,kvs[i]?=some (k,x)/\(Bs prog w).is k v=true) a kvs.length)
  (PySem.W.kdl_dict (knd:=Bs prog w) (kvs:=kvs) (ep:=ep) hd) B (t.push _) s.heap.objs.size (Nat.ne_of_gt n) (Nat.ne_of_gt n) (.ref s.heap.objs.size) 0 D (λh' tk a c l j g=>⟨h',tk,a,c,rfl,rfl,λb o e=>l b o (Ys (Qj e)) (Qi _ e),j,g⟩) z
 refine wpAny_mono key (λp s' x=>?_) λe s' x=>?_
 ·cases p with
  | done f =>
   obtain⟨h',tk,a,c,e,rfl,l,j,g⟩:=x
   cases e
   refine Qg (m:=load s.heap.objs.size) (wpAny_load j (Qh ?_))
   exact h h' tk a l (Nat.le_of_lt (Qj j)) g
  | again u =>
   refine⟨x.1,codeAny_mono x.2 λq r y=>?_⟩
   obtain⟨h',tk,a,c,rfl,rfl,l,j,g⟩:=y
   refine Qg (m:=load s.heap.objs.size) (wpAny_load j (Qh ?_))
   exact h h' tk a l (Nat.le_of_lt (Qj j)) g
 ·obtain⟨_,_,_,_,G,_⟩:=x
  cases G
end
variable {X:Cx}
theorem cp(hc:X.calm=true):CallR X (.builtin "sorted") (λxs H Q=>∃(p:Addr)(kvs:List (Key×V))(zs:List Str),xs=[.ref p]/\H p=some (.dK kvs)/\kvs.map (·.1)=zs.map Sum.inr/\zs.length < 64/\∀(ys:List Str)l,sortedS ys=true->ys.Perm zs->H l=none->Q (.ref l) (upd H l (.lst (ys.map V.str)))):=by
 intro pins s σ H xs us Q I r h
 obtain⟨p,kvs,zs,rfl,K,O,R,q⟩:=h
 obtain⟨u,rfl,S⟩:=Cq r
 cases S
 obtain⟨Y,hd,vs,A,L⟩:kvs.length<=sizeLine/\(p==sysModules)=false/\∃ vs,KV kvs vs/\s.heap.DictOf (Bs X.prog X.w) p vs:=I.hok p _ K
 have hl:=Paired.length A
 obtain⟨ep,E⟩:=L.dictAt
 have g:vs.map (·.1)=zs.map Sum.inr:=by rw[<- O,Pr A]
 have U:zs.length=vs.length:=by have:=congrArg List.length g;simpa using this.symm
 have G:(64:Nat)<=sizeLine:=by decide
 refine Calls.call_function_entry kind_sorted plain_sorted entry_sorted (args_sorted1 _) ?_;unfold Builtin.«sorted»
 refine Qg (m:=checkCount "sorted" 1 1 _) (Qh ?_)
 refine Qg (cn (by simp[I.ok.hd hc]) hd E (by omega) λh1 tk i keep t a=>?_)
 have f:StrsAre i.toList zs:=O4 (Pp (prog:=X.prog) (w:=X.w) g (by rw[YR];exact a.1) λj v e=>a.2 j v (by rw[<- Array.getElem?_toList];exact e))
 generalize i.toList=ac at f ⊢
 have B:ac.length < 64:=by rw[f.length];exact R
 refine Qg (wpAny_newList ?_ (by omega))
 have d:(h1.push (seqObj "list" ac.toArray 0)).get? h1.objs.size=some (seqObj "list" ac.toArray 0):=Qk _ rfl
 refine Qg (wpAny_holding (wpAny_call_entry slot_list_sort ⟨_,d,rfl⟩ entry_list_sort (list_sort_treeK (s:={s with heap:=h1.push (seqObj "list" ac.toArray 0),toks:=tk}) strKind_oneLt d f.keysOf (λZ v2 r e=>keyKind_strs (by rw[<- e];exact f)) B λc N P=>⟨_,rfl,?_⟩) (args_list_sort _)))
 obtain⟨ys,F,k,D⟩:=sorted_out_str f N P
 obtain⟨e,T⟩:=sortedHeap_at (n:=0) (vs:=ac) (out:=(arrOf c).map (·.2)) d
 have y:∀ b o,s.heap.get? b=some o->(sortedHeap (h1.push (seqObj "list" ac.toArray 0)) h1.objs.size ac ((arrOf c).map (·.2))).get? b=some o:=λb o z=>by
  have x:=Qj (keep b o z)
  rw[sortedHeap_old (Ys x) (by rw[Ql];exact Nat.lt_succ_of_lt x)]
  exact Qi _ (keep b o z)
 have J:Inv X pins σ (upd H h1.objs.size (.lst (ys.map V.str))) {s with heap:=_,toks:=tk}:=I.laid (t':=tk) y t (show ObjOk X.prog X.w _ _ _ (.lst (ys.map V.str))from⟨by rw[Yh,k.length_eq];omega,((arrOf c).map (·.2)).toList,e,O5 F,by rw[Array.toArray_toList];exact T⟩)
 exact Qh ⟨_,rfl,.ref h1.objs.size,_,J,rfl,q ys _ D k (I.hok.fresh t)⟩
def Ib(ws:List W)(G:Hw)(Q:Kw):Prop:=∃(p:Addr)(kvs:List (Key×W))(zs:List Str),ws=[.ref p]/\G p=some (.dct kvs)/\kvs.map (·.1)=zs.map Sum.inr/\zs.length < 64/\∀(ys:List Str)l,sortedS ys=true->ys.Perm zs->G l=none->Q (.ref l) (put G l (.lst (ys.map W.str)))
theorem cq:RWc.M Ib:=λf G Q g h⟨p,c,zs,h1,h2,e,d,q⟩=>⟨p,c,zs,h1,h2,e,d,λys l a b hl=>h _ _ (q ys l a b hl)⟩
theorem cr{K:PySem.W.Frag}:UpC K Ib (λxs H Q=>∃(p:Addr)(kvs:List (Key×V))(zs:List Str),xs=[.ref p]/\H p=some (.dK kvs)/\kvs.map (·.1)=zs.map Sum.inr/\zs.length < 64/\∀(ys:List Str)l,sortedS ys=true->ys.Perm zs->H l=none->Q (.ref l) (upd H l (.lst (ys.map V.str)))):=λj i G H Q t r q=>by
 obtain⟨p,kvs,zs,rfl,d,e,c,q⟩:=q
 cases t with
 | cons g t =>
  cases t
  cases g
  obtain⟨h,f,l⟩:=r p _ d
  refine⟨p,h,zs,rfl,f,by rw[Ps l];exact e,c,λys l a b hl=>?_⟩
  exact q ys l a b (r.no hl) _ _ (Mono.new hl _) (.ref l) (r.new hl (O6 ys))
theorem cu(hc:X.calm=true):Blt X (.builtin "sorted") Ib:=⟨⟨_,cp hc,cr⟩,cq⟩
end L3
namespace L3
open PySem PySem.Spec PyProof.Rows L2
variable {K:PySem.W.Frag} {H H' H2:Hp}
section
variable {prog:Program} {w:World} {A:Around} {E:Value->Shared->Prop} {s:Shared}
end
def Ite(K:PySem.W.Frag)(l:Addr):It :=
 ⟨λi H=>∃ xs,SqL K H l xs/\i < xs.length,
  λi H v H'=>∃ T x,H T=none/\v=.ref T/\H'=upd H T (.tup [.int i,x])/\∀ xs,SqL K H l xs->xs[i]?=some x,
  λi H=>∃ xs,SqL K H l xs/\i=xs.length⟩
variable {P:Program}{w:World}{k:Nat}{tpos:Pos}
theorem cw{y:List Expr}{e t l:Addr}(n1:e≠t)(n2:l≠e)(n3:l≠t):
  CQ P w K (.Tuple y k tpos) (Ite K l) [e,t] e (λi h=>(∃ a,IsEnum h e t i a)/\h.IsListIter t l i) where
 mem:=by simp
 obj:=λi h st b d=>by
  obtain⟨⟨a,f⟩,⟨o1,L,_,d1⟩⟩:=st
  simp only[Yo,YY,or_false]at d
  rcases d with rfl | rfl
  ·exact⟨_,f,λv z=>by cases z⟩
  ·exact⟨o1,L,λv z=>by rw[d1]at z;cases z⟩
 keep:=λi h h' st kk=>by
  obtain⟨⟨a,f⟩,h1⟩:=st
  exact⟨⟨a,kk e (by simp) _ f⟩,h1.at λo x=>kk t (by simp) o x⟩
 item:=by
  intro X N hw R hc i pins s σ H E I F st Z
  subst N hw R
  obtain⟨xs,D,Y⟩:=Z
  obtain⟨u,r1,n,z1⟩:=I.list D
  have q1:=r1.length
  obtain⟨⟨a,f⟩,h1⟩:=st
  have gx:xs[i]?=some xs[i]:=Yp Y
  obtain⟨O,g1,S⟩:=r1.get gx
  refine wpAny_pyNext_enum_item f h1 n.isList (x:=O) (by simpa using g1) n1 λh' hO hI' hT hsz U=>⟨.ref s.heap.objs.size,rfl,?_⟩
  refine wpAny_letOwnedTupleGo_enum hO λg hE2 j=>?_
  have lt:∀{b:Addr}{o:Obj},s.heap.get? b=some o->b≠s.heap.objs.size:=λx q=>absurd (Qj x) (by rw[q];exact YJ _)
  have ne:s.heap.objs.size≠e:=λq=>lt f q.symm
  have I1:Inv X pins σ H {s with heap:=g,toks:=s.toks+1}:=Inv.turneds I F λb o d x=>j.extBut b o (λq=>d (by simp[q])) (U b o (λq=>d (by simp[q])) (λq=>d (by simp[q])) x)
  have B:H s.heap.objs.size=none:=I.hok.fresh (Yr _)
  have r:TupP g s.heap.objs.size #[.int i s.toks,O]:=⟨_,j.extBut _ _ ne hT,rfl,rfl,_,rfl⟩
  have I2:Inv X pins σ (upd H s.heap.objs.size (.tup [.int i,xs[i]])) {s with heap:=g,toks:=s.toks+1}:=by
   refine I1.track B ?_ (λx c z=>?_) (λp hp=>?_) ?_ ⟨by show 2<=sizeLine;decide,[.int i s.toks,O],.cons ⟨_,rfl⟩ (.cons S .nil),r⟩
   ·obtain⟨m,⟨o,es,ep,J,_⟩,_⟩:=I.loc
    exact YU (lt J)
   ·obtain⟨v,o,J,_⟩:=I.cell x c z
    exact lt J
   ·exact lt (I.pin p hp).1
   ·cases z:X.s₀.heap.get? s.heap.objs.size with
    | none=>rfl
    | some o=>exact absurd (Yu (Qj z) I.sz) (YJ _)
  refine⟨.ref s.heap.objs.size,_,I2,rfl,⟨s.heap.objs.size,_,B,rfl,rfl,λxs' G=>?_⟩,⟨⟨_,hE2⟩,hI'.extBut j.extBut (YU n1)⟩,λb d=>?_⟩
  ·rw[I.list_inj G D];exact gx
  ·have T:=(F b d).1
   have:b≠s.heap.objs.size:=by
    obtain⟨o1,L,_⟩:=h1
    simp only[Yo,YY,or_false]at d
    rcases d with rfl | rfl
    ·exact lt f
    ·exact lt L
   rw[A4 this];exact T
 done:=by
  intro X N hw R hc i pins s σ H E I F st Z
  subst N hw R
  obtain⟨xs,D,rfl⟩:=Z
  obtain⟨u,r1,n,z1⟩:=I.list D
  have q1:=r1.length
  obtain⟨⟨a,f⟩,h1⟩:=st
  refine wpAny_pyNext_enum_end (I.ok.hd hc) f h1 n.isList (by simp;omega) λh' U=>⟨rfl,?_⟩
  exact Inv.turneds (t':=s.toks) I F λb o d x=>U b o (λq=>d (by simp[q])) x
 self:=λA i s Q E st h=>by
  obtain⟨⟨a,f⟩,_⟩:=st
  exact wpAny_pyIter_enum f h
def cx(K:PySem.W.Frag)(ta:TA):TI:=λσ H R=>ta σ H λvs H1=>∃ a xs,vs=[.ref a]/\SqL K H1 a xs/\R (Ite K a) H1
variable {X:Cx}{a:Expr}{ta:TA}{p pos:Pos}
theorem cy{f:List Expr}(A:Gl X "enumerate")(y:X.mg "enumerate"=none)(w:PA X [a] ta)(hs:starEach [a] X.env=[(false,eval a X.env)]):
  PI X (.Tuple f k tpos) (.Call (.Name "enumerate" p) [a] [] pos) (cx X.K ta):=by
 intro pins s σ H R I h
 refine Call_ (DZ I A y boot_enumerate (Qc (thn (w pos pins s σ H _ I h) λE l j=>?_) (by rw[hs];rfl) rfl))
 obtain⟨D,H1,g,r1,q1⟩:=j
 obtain⟨B,xs,e,v,q⟩:=q1
 subst e
 obtain⟨u,rfl,t⟩:=Cq r1
 cases t
 obtain⟨r,_,c,_⟩:=g.list v
 have n:B < l.heap.objs.size:=by obtain⟨_,e,_⟩:=c.isList;exact Qj e
 refine call_enumerate_list c.isList λh' o i x z=>wpAny_pyIter_enum o ?_
 refine⟨_,_,_,_,H1,rfl,g.kept (t':=l.toks) z,cw (Nat.succ_ne_self _) (Ys (Nat.lt_succ_of_lt n)) (Ys n),⟨⟨_,o⟩,i⟩,λb m=>?_,q⟩
 have d:l.heap.objs.size<=b:=by
  simp only[Yo,YY,or_false]at m
  rcases m with rfl | rfl
  ·exact YX _ 1
  ·exact Yr _
 exact g.fpOk d (g.hok.fresh d)
def Ea:Nat->List W->List W
 | _,[]=>[]
 | i,x::xs=>.tup [.int i,x]::Ea (i+1) xs
theorem Lh:∀(i:Nat)(xs:List W),(Ea i xs).length=xs.length
 | _,[]=>rfl
 | i,x::xs=>by simp only[Ea,Yg,Lh (i+1) xs]
theorem Pu:∀(j:Nat)(xs:List W)(i:Nat){x:W},xs[i]?=some x->(Ea j xs)[i]?=some (.tup [.int ((j+i:Nat):Int),x])
 | _,[],_,_,h=>by simp at h
 | j,a::xs,0,x,h=>by simp at h;subst h;rfl
 | j,a::xs,i+1,x,h=>by
  have:=Pu (j+1) xs i (x:=x) (by simpa using h)
  rw[show j+1+i=j+(i+1) by omega]at this
  simpa[Ea]using this
def FO(gs:GA):GI:=λω G R=>gs ω G λws G1=>∃ x xs,ws=[x]/\rdL G1 x=some xs/\R (Ea 0 xs) (λG=>rdL G x=some xs) G1
variable {gs:GA}
theorem cz(m:gs.M):GI.M (FO gs):=λω G R b h q=>m _ _ _ _ (λd c z=>by
 obtain⟨x,xs,rfl,a,z⟩:=z
 exact⟨x,xs,rfl,a,h _ _ _ z⟩) q
theorem Pv{e:List Expr}(N:X.mg "enumerate"=none)(O:Gl X "enumerate")(hs:starEach [a] X.env=[(false,eval a X.env)])(o:Am X [a] gs):
  Im X (.Tuple e k tpos) (.Call (.Name "enumerate" p) [a] [] pos) (FO gs):=by
 refine⟨⟨_,cy O N o.p hs,λσ H ω G R R0 I r q P=>⟨ω,G,I,r,o.m _ _ _ _ (λU Y z Q H1 m t r1=>?_) q⟩⟩,cz o.m⟩
 obtain⟨x,xs,rfl,y,z⟩:=z
 cases t with
 | cons l t =>
  cases t
  obtain⟨F,n,rfl,s,l1⟩:=B4 r1 l y
  refine⟨F,n,rfl,s,P _ _ _ H1 _ z m r1 y ⟨λi j A g c g3 hi=>?_,λi j A v S g c g3 J hi=>?_,λj A g c g3=>?_⟩⟩
  ·obtain⟨D,b,f,h,d⟩:=B4 c (l.mono g) g3
   cases f
   rw[Lh]at hi
   exact⟨b,h,by rw[d.length];omega⟩
  ·obtain⟨D,b,f,h,d⟩:=B4 c (l.mono g) g3
   cases f
   obtain⟨T,L,B,rfl,rfl,E⟩:=J
   have g1:=E _ h
   obtain⟨Z,q1,u⟩:=d.get' g1
   have w:Mono X.K j (upd j T (.tup [.int i,L])):=Mono.new B _
   have g2:=Pu 0 xs i q1
   rw[Nat.zero_add]at g2
   exact⟨w,c.mono0 B,_,g2,.tup (SqT.of BO) (.cons (.int _) (.cons (u.mono w) .nil))⟩
  ·obtain⟨D,b,f,h,d⟩:=B4 c (l.mono g) g3
   cases f
   exact⟨b,h,by rw[Lh,d.length]⟩
def prs(X:Cx)(pos:Pos):List (Option Expr)->List Expr->List (Sem Value×Sem Value)
 | some k::ks,v::vs=>(eval k X.env,do let x <- eval v X.env;standAt pos;pure x)::prs X pos ks vs
 | _,_=>[]
def KVs:List Str->List V->List (Value×Value)->Prop
 | [],[],[]=>True
 | k::ks,v::vs,p::ps=>(∃ t,p.1=.str k t)/\RelV v p.2/\KVs ks vs ps
 | _,_,_=>False
def PD(X:Cx)(pos:Pos)(kes:List (Option Expr))(ves:List Expr)(ks:List Str)(t:TA):Prop :=
 ∀(pins:List (Addr×Obj))(s:Shared)(σ:St)(H:Hp)(Q:List V->Hp->Prop),Inv X pins σ H s->t σ H Q->wpAny (model X.prog X.w) X.A (evalPairs (prs X pos kes ves)) (λps s'=>∃ vs H',Inv X pins σ H' s'/\KVs ks vs ps/\Q vs H') X.xe s
theorem cA:PD X pos [] [] [] Gi:=λ_ _ _ H Q I h=>evalPairs_nil ⟨[],H,I,trivial,h⟩
variable {v:Expr}{b:List Expr}{ks:List Str}{t:TA}
theorem cB{f:Expr}{c:List (Option Expr)}{k:Str}{te:TE}(q:PE X f (tC (.str k)))(l:PE X v te)(o:PD X pos c b ks t):PD X pos (some f::c) (v::b) (k::ks) (Fz te t):=by
 intro pins s σ H Q I h
 refine evalPairs_cons (thn (q pins s σ H (λu H'=>u=.str k/\H'=H) I ⟨rfl,rfl⟩) λa z d=>?_)
 obtain⟨B,H1,g,r,rfl,rfl⟩:=d
 refine Qg (thn (l pins z σ _ _ g h) λx m e=>Qg (wpAny_standAt (Qh ?_)))
 obtain⟨p,H2,w,y,q2⟩:=e
 exact thn (o pins m σ H2 _ w q2) (by rintro ps D ⟨i,n,A,j,q3⟩;exact⟨p::i,n,A,⟨r,y,j⟩,q3⟩)
theorem Pw{a:List (Option Expr)}{t':TA}(h:PD X pos a b ks t)(i:∀ σ H Q,t' σ H Q->t σ H Q):PD X pos a b ks t':=λpins s σ H Q I q=>h pins s σ H Q I (i σ H Q q)
def kvW{α:Type}:List Str->List α->List (Key×α)
 | k::ks,v::vs=>(Sum.inr k,v)::kvW ks vs
 | _,_=>[]
theorem KVs.len:∀{ks:List Str}{vs:List V}{ps:List (Value×Value)},KVs ks vs ps->vs.length=ks.length/\ps.length=ks.length
 | [],[],[],_=>⟨rfl,rfl⟩
 | k::ks,v::vs,p::ps,h=>by
  obtain⟨a,b⟩:=KVs.len h.2.2
  simp only[Yg];omega
theorem Px{α:Type}:∀{ks:List Str}{vs:List α},(kvW ks vs).length<=ks.length
 | [],vs=>by cases vs <;> exact Yr _
 | k::ks,[]=>YT _
 | k::ks,v::vs=>by have:=Px (ks:=ks) (vs:=vs);simp only[kvW,Yg];omega
theorem KVs.carries:∀{ks:List Str}{vs:List V}{ps:List (Value×Value)},KVs ks vs ps->Carries (Bs P w) ps (kvW ks (ps.map (·.2)))
 | [],[],[],_=>trivial
 | k::ks,v::vs,(a,x)::ps,h=>by
  obtain⟨⟨t,e⟩,_,h⟩:=h
  have b:a=.str k t:=e
  subst b
  exact⟨Vd _ _ _ _,rfl,h.carries⟩
theorem KVs.kv:∀{ks:List Str}{vs:List V}{ps:List (Value×Value)},KVs ks vs ps->KV (kvW ks vs) (kvW ks (ps.map (·.2)))
 | [],[],[],_=>.nil
 | k::ks,v::vs,(a,x)::ps,h=>.cons ⟨rfl,h.2.1⟩ h.2.2.kv
theorem cC{a:List (Key×Value)}{k:Key}{v:Value}(h:∀ y∈a,y.1≠k):stored a k v=a++[(k,v)]:=by
 unfold stored
 rw[if_neg]
 intro z
 obtain⟨y,b,e⟩:=List.any_eq_true.mp z
 exact h y b (of_decide_eq_true e)
theorem Py:∀(ks:List Str)(vs:List Value)(a:List (Key×Value)),ks.Nodup->(∀ y∈a,∀ k∈ks,y.1≠Sum.inr k)->merged a (kvW ks vs)=a++kvW ks vs
 | [],vs,a,_,_=>by cases vs <;> simp[kvW,merged]
 | k::ks,[],a,_,_=>by simp[kvW,merged]
 | k::ks,v::vs,a,f,c=>by
  obtain⟨h,g⟩:=YQ.mp f
  show merged (stored a (Sum.inr k) v) (kvW ks vs)=a++(Sum.inr k,v)::kvW ks vs
  rw[cC λy b=>c y b k Ye,Py ks vs _ g λy b j d=>?_,Yv]
  ·rfl
  ·rcases Yz.mp b with b | b
   ·exact c y b j (Yd _ d)
   ·rw[YA.mp b]
    intro e
    exact h (by rw[Sum.inr.inj e];exact d)
def cD(ks:List Str)(t:TA):TE:=λσ H Q=>t σ H λvs H1=>ks.Nodup/\∀ l,H1 l=none->Q (.ref l) (upd H1 l (.dK (kvW ks vs)))
theorem cE{d:List (Option Expr)}{a:List Expr}(m:(evalEachOpt d X.env).zip ((evalEach a X.env).map λv=>do let x <- v;standAt pos;pure x)=(prs X pos d a).map λp=>(some p.1,p.2))(G:prs X pos d a≠[])(hl:(prs X pos d a).length<=15)(y:ks.length<=15)(f:PD X pos d a ks t):PE X (.Dict d a pos) (cD ks t):=by
 intro pins s σ H Q I h
 have k:∀ b:Addr,s.heap.objs.size<=b->H b=none:=λb i=>I.hok.fresh i
 refine wpAny_Dict_pairs (knd:=Bs X.prog X.w) m G hl ?_
 have n:(s.heap.push {cls:=.type "dict",data:=.dict #[]}).get? s.heap.objs.size=some {cls:=.type "dict",data:=.dict #[]}:=Qk _ rfl
 have D:Inv X pins σ H {s with heap:=s.heap.push {cls:=.type "dict",data:=.dict #[]}}:=I.kept (t':=s.toks) λb u e=>Qi _ e
 have L:Inv X (pins++[(s.heap.objs.size,{cls:=.type "dict",data:=.dict #[]})]) σ H {s with heap:=s.heap.push {cls:=.type "dict",data:=.dict #[]}}:=D.pins_of λp f=>by
  rcases Yz.mp f with z | z
  ·exact D.pin p (YK _ z)
  ·rw[YA.mp z]
   exact⟨n,k _ (Yr _),Nat.ne_of_gt I.lt,I.nofs (Yr _),λv z=>by cases z⟩
 refine thn (f _ _ σ H _ L h) λps j l=>?_
 obtain⟨E,K,A,kv,O,q⟩:=l
 have pd:=A.pin (s.heap.objs.size,{cls:=.type "dict",data:=.dict #[]}) (by simp)
 refine⟨kvW ks (ps.map (·.2)),kv.carries,⟨_,#[],0,pd.1,⟨rfl,rfl,rfl⟩,rfl,λ_ R=>by simp at R,Pairs.nil,List.nodup_nil⟩,λh' B P=>?_⟩
 rw[Py ks _ [] O (λ_ F=>by cases F),Yw]at B
 have J:=A.unpinned
 have r:sysModules < s.heap.objs.size:=by
  have h:mainGlobals < s.heap.objs.size:=(I.mod.glob.keeps I.bk).lt
  exact Nat.lt_trans (by decide) h
 have N:Inv X pins σ K {j with heap:=h',toks:=j.toks+ps.length}:=by
  refine J.turned (t':=j.toks+ps.length) (λb o i e=>(P.2 b i).trans e) pd.2.1 pd.2.2.1 (.inr I.sz) (λx c e=>?_) λp f=>?_
  ·obtain⟨v,o,g,_⟩:=I.cell x c e
   exact Ys (Qj g)
  ·exact Ys (Qj (I.pin p f).1)
 refine⟨.ref s.heap.objs.size,_,N.track (o:=.dK (kvW ks E)) pd.2.1 pd.2.2.1 (λx c e=>?_) (λp f=>Ys (Qj (I.pin p f).1)) ?_ ⟨Yt Px (Yt y (by decide)),by simpa using Nat.ne_of_gt r,_,kv.kv,B⟩,rfl,q _ pd.2.1⟩
 ·obtain⟨v,o,g,_⟩:=I.cell x c e
  exact Ys (Qj g)
 ·cases e:X.s₀.heap.get? s.heap.objs.size with
  | none=>rfl
  | some o=>exact absurd (Yu (Qj e) I.sz) (YJ _)
structure Pm(X:Cx)(pos:Pos)(kes:List (Option Expr))(ves:List Expr)(ks:List Str)(g:GA):Prop where
 p:PD X pos kes ves ks (upA X.K g)
 m:g.M
theorem Pz:Pm X pos [] [] [] Ac:=⟨Pw cA (by rintro σ H Q ⟨ω,G,a,r,q⟩;exact q [] H .refl .nil r),NW⟩
theorem C0{kp:Pos}{a:List (Option Expr)}{k:Str}{j}{ga:GE}(e:Em X v ga)(d:Pm X pos a b ks gs):Pm X pos (some (.Constant (.str k) j kp)::a) (v::b) (k::ks) (Aa ga gs):=
 ⟨Pw (cB Ng e.p d.p) (by rintro σ H Q ⟨ω,G,g,r,q⟩;exact⟨ω,G,g,r,e.m _ _ _ _ (λx i q1 v H1 f n r1=>⟨ω,i,g.mono f,r1,d.m _ _ _ _ (λxs s q2 o H2 h c l=>q2 _ H2 (f.trans h) (.cons (n.mono h) c) l) q1⟩) q⟩),NX e.m d.m⟩
def Ic(ks:List Str)(gs:GA):GE:=λω G Q=>gs ω G λws G1=>ks.Nodup/\∀ l,G1 l=none->Q (.ref l) (put G1 l (.dct (kvW ks ws)))
theorem cG(m:gs.M):GE.M (Ic ks gs):=λω G Q c h q=>m _ _ _ _ (by rintro b a ⟨e,z⟩;exact⟨e,λl hl=>h _ _ (z l hl)⟩) q
theorem PB:∀{ks:List Str}{vs:List V}{b:List W},TrL K H vs b->TrP K H (kvW ks vs) (kvW ks b)
 | [],_,_,t=>by cases t <;> exact .nil
 | k::ks,_,_,.nil=>.nil
 | k::ks,_,_,.cons a t=>.cons a (PB t)
theorem PC{a:List (Option Expr)}(d:(evalEachOpt a X.env).zip ((evalEach b X.env).map λv=>do let x <- v;standAt pos;pure x)=(prs X pos a b).map λp=>(some p.1,p.2))(h:prs X pos a b≠[])(hl:(prs X pos a b).length<=15)(e:ks.length<=15)(c:Pm X pos a b ks gs):Em X (.Dict a b pos) (Ic ks gs):=by
 refine⟨Bg (cE d h hl e c.p) λσ H Q⟨ω,G,i,r,q⟩=>⟨ω,G,i,r,c.m _ _ _ _ (λn j z k H1 g tv r1=>?_) q⟩,cG c.m⟩
 obtain⟨f,z⟩:=z
 exact⟨f,λl hl=>z l (r1.no hl) _ _ (g.trans (Mono.new hl _)) (.ref l) (RelH.laid r1 (Mono.new hl _) ⟨_,BO,PB (tv.mono (Mono.new hl _))⟩)⟩
section
variable {prog:Program} {w:World} {A:Around} {E:Value->Shared->Prop} {s:Shared}
variable {h₀:Heap}{tk:Tok}
theorem cH{δ:Type}{R:δ->Value->Prop}{a:Addr}{D:List (Str×δ)}{k:Str}{Q:Option Value->Shared->Prop}(T:KTD.TabOf R h₀ a D)(m:∀ b o,h₀.get? b=some o->s.heap.get? b=some o)
  (h1:∀ d v,KTD.datumAt k D=some d->R d v->Q (some v) {s with toks:=s.toks+1}) (h2:KTD.datumAt k D=none->Q none {s with toks:=s.toks+1}):wpAny (model prog w) A (dictGet a (.str k tk)) Q E s:=by
 obtain⟨_,o,es,p,g,hc,hd,h⟩:=T
 have g:=m _ _ g
 unfold dictGet
 try with_reducible refine wpAny_holding ?_
 refine Qg (wpAny_pyHash_str (Qg (KTD.kt_dictFind_strs (s:={s with toks:=s.toks+1}) g hd (by obtain⟨l⟩:=es;simpa using h.exact) ?_)))
 have c:Q (findBy (λk v=>v.isStr k) es k) {s with toks:=s.toks+1}:=by
  have j:findBy (λk v=>v.isStr k) es k=(es.toList.find? λe=>e.key.isStr k).map (·.val):=by
   obtain⟨l⟩:=es
   simp[findBy]
  rw[j]
  cases f:KTD.datumAt k D with
  | none=>rw[h.find_none f];exact h2 f
  | some d=>obtain⟨v,e,n⟩:=h.find_some f;rw[e];exact h1 d v f n
 rw[findBy_of_findIdx?]at c
 cases hi:es.findIdx? λe=>e.key.isStr k with
 | none=>rw[hi]at c;exact Qh c
 | some i=>rw[hi]at c;exact Qg (wpAny_dictEntries (s:={s with toks:=s.toks+1}) g hd (Qh c))
theorem cI{δ:Type}{R:δ->Value->Prop}{a:Addr}{D:List (Str×δ)}{k:Str}:MeetsIn prog w (Builtin.«dict.get» ⟨[.ref a,.str k tk],[]⟩) (λ_ Z s=>(KTD.TabOf R h₀ a D/\∀ b o,h₀.get? b=some o->s.heap.get? b=some o)/\(∀ d v,KTD.datumAt k D=some d->R d v->Z (.ok (.ret v)) {s with toks:=s.toks+1})/\(KTD.datumAt k D=none->Z (.ok (.ret .none)) {s with toks:=s.toks+1})):=
 .of_wp λA Z s⟨⟨T,f⟩,h1,h2⟩=>by
  show wpAny _ _ (dictGet a (.str k tk) >>=_) _ _ s
  refine Qg (cH T f (λd v e g=>Qh ⟨v,rfl,h1 d v e g⟩) λc=>?_)
  show wpAny _ _ (Builtin.Dict.missed a (.str k tk) >>=_) _ _ _
  exact Qg (wpAny_missed_other T.1 (Qh ⟨.none,rfl,h2 c⟩))
end
def E4(D:List (Str×List Str))(z:Str):W:=match KTD.datumAt z D with | some ss=>.tup (ss.map W.str)| none=>.non
def Ie(D:List (Str×List Str))(gk:GE):GE:=λω G Q=>gk ω G λw G1=>match w with | .str z=>Q (E4 D z) G1 | _=>False
theorem cJ{x:Str}{D:List (Str×List Str)}{e:Expr}{i apos cpos:Pos}{l:GE}(h:Le X.K X.mg X.base x D)(hg:Gl X x)(hd:(x==("__debug__":Str))=false)(a:attributeBase (.Name x i) "get" X.env (eval (.Name x i) X.env)=eval (.Name x i) X.env)
  (f:((backTo cpos (starEach [e] X.env)).all (λx=>!x.1)&&(backToKw cpos (keywordEach [] X.env)).all (λx=>x.1.isSome)&&decide ([e].length+([]:List Keyword).length+(if([]:List Keyword).isEmpty then 0 else 1) < 30))=true)
  (c:(apos.endLine==cpos.line)=true) (hs:starEach [e] X.env=(false,eval e X.env)::starEach [] X.env) (hplain:(backTo cpos (starEach [] X.env)).any (·.1)=false) (g:Em X e l):
  Em X (.Call (.Attribute (.Name x i) "get" apos) [e] [] cpos) (Ie D l):=by
 refine⟨λpins s σ H Q I⟨ω,G,R,r,q⟩=>?_,λω G Q Q' Z q=>g.m _ _ _ _ (λw S z=>by cases w <;> first | exact Z _ _ z | exact z) q⟩
 obtain⟨d,U,T⟩:=h
 have ty:∀{s:Shared},(∀ b o,X.base.get? b=some o->s.heap.get? b=some o)->s.TypeIs (.ref d) "dict":=λg=>by
  obtain⟨_,o,_,_,k,hc,_⟩:=T
  exact⟨o,g _ _ k,hc.1⟩
 have nd:∀ b,Value.ref d=.ref b->∃ E,s.heap.get? b=some E/\E.dict=none:=λb e=>by
  injection e with e;subst e
  obtain⟨_,o,_,_,k,hc,_⟩:=T
  exact⟨o,I.bk _ _ k,hc.2.1⟩
 refine wpAny_Call_method_late a f c rfl (Gg I hg U ⟨"dict","dict.get",PySem.F.plainAttrs_dict,PySem.F.slot_dict_get,PySem.F.type_dict_get,ty I.bk,nd,?_⟩ hd)
 have pa:PA X [e] (Fz (up X.K l) Gi):=Gj g.p HC hs
 have A:=pa cpos pins s σ H (λB H1=>∃ z,B=[.str z]/\∀ v,Tr X.K H1 v (E4 D z)->Q v H1) I ⟨ω,G,R,r,g.m _ _ _ _ (λw S z v H1 m t r1=>by
  cases w with
  | str y=>exact⟨y,by rw[N1 t],λv tv=>z v H1 m tv r1⟩
  | _=>exact z.elim) q⟩
 rw[hs]at A ⊢
 refine Calls.callWith_builtin (by show(false||(backTo cpos (starEach [] X.env)).any (·.1))=false;rw[hplain] <;> rfl) (Calls.evalArgs_plain ?_)
 refine thn A λus s2 n=>?_
 obtain⟨B,H2,j,r2,z,J,q2⟩:=n
 subst J
 obtain⟨u,rfl,L⟩:=Cq r2
 obtain⟨t,rfl⟩:=L
 refine call_meetsIn PySem.F.slot_dict_get (ty j.bk) PySem.F.entry_dict_get (PySem.F.args_dict_get_2 _ _) (cI (h₀:=X.base) (D:=D)) ⟨⟨T,j.bk⟩,λO v P N=>?_,λhn=>?_⟩
 ·obtain⟨b,rfl,Y⟩:=N
  exact⟨.ref b,H2,j.tok _,rfl,q2 _ (by unfold E4;rw[P];exact .tup (Y H2) (Pc H2 O))⟩
 ·exact⟨.non,H2,j.tok _,rfl,q2 _ (by unfold E4;rw[hn];exact .non)⟩
section
variable {prog:Program} {w:World} {A:Around} {E:Value->Shared->Prop} {s:Shared}
variable {h:Heap}{xs:Array Value}
theorem Li{h':Heap}{a:Addr}(x:h.IsList a xs)(k:∀ o,h.get? a=some o->h'.get? a=some o):h'.IsList a xs:=by
 obtain⟨o,e,r⟩:=x
 exact⟨o,k o e,r⟩
theorem cK{a:Addr}{o:Obj}(x:h.IsList a xs):(h.push o).IsList a xs:=Li x λ_ e=>Qi _ e
variable {z G F:Addr}{k1 k2:Nat}{ys:Array Value}{Q:Value->Shared->Prop}
theorem cL{TI TO T N:Addr}{x y a b:Value}(D:ZipApart z TI TO G F T N)(I:IsZip s.heap z TI TO .none)(U:IsPair s.heap TI (.ref G) (.ref F))(hTO:IsPair s.heap TO a b)
  (u1:s.heap.IsTupleIter G T k1) (u2:s.heap.IsListIter F N k2) (v1:s.heap.IsTuple T xs) (v2:s.heap.IsList N ys) (hx:xs[k1]?=some x) (hy:ys[k2]?=some y)
  (hQ:∀ h',IsZip h' z TI TO (rawInt s.heap.objs.size)->IsPair h' TO x y->h'.IsTupleIter G T (k1+1)->h'.IsListIter F N (k2+1)->IsPair h' s.heap.objs.size x y->(∀ c o,c≠z->c≠TO->c≠G->c≠F->s.heap.get? c=some o->h'.get? c=some o)->Q (.ref s.heap.objs.size) {s with heap:=h'}):
  wpAny (model prog w) A (Builtin.«zip.__next__» ⟨[.ref z],[]⟩) (λX s'=>∃ v,X=.done (.ret v)/\Q v s') E s:=by
 refine Qg (m:=field (.ref z) 2) (wpAny_field I rfl (x:=.bool false) rfl ?_)
 refine Qg (m:=field (.ref z) 3) (wpAny_field I rfl (x:=.ref TI) rfl (Qg (m:=seqItems? (.ref TI)) (wpAny_seqItems U rfl ?_)))
 walk_at "pG"
 unfold Builtin.SmallTypes.ownedTupleIsFree
 refine Qg (m:=field (.ref z) 0) (wpAny_field I rfl (x:=.none) rfl (Qh ?_));simp only[if_true]
 refine Qg (wpAny_rule (Qg (wpAny_field I rfl (x:=.ref TO) rfl (Qg (wpAny_setField_rec I (by simp) λS l f=>?_)))))
 replace l:IsZip S z TI TO .ellipsis:=l
 refine Qg ?_
 walk_at "pD"
 walk_at "pj"
 refine GM (u1.extBut f.extBut D.i1z) (v1.extBut f.extBut D.l1z) hx λK w1 h=>Qh ?_
 have hTO₂:IsPair K TO a b:=h.extBut _ _ D.TOi1 (f.extBut _ _ D.TOz hTO)
 refine Qg (wpAny_seqItems hTO₂ rfl (Qg (wpAny_updateSeq_pair hTO₂ λP hTO₃ g=>?_)))
 replace hTO₃:IsPair P TO x b:=hTO₃
 walk_at "pc"
 refine wpAny_nextOf_list_item (((u2.extBut f.extBut D.i2z).extBut h.extBut D.i12.symm).extBut g.extBut D.TOi2.symm) (((v2.extBut f.extBut D.l2z).extBut h.extBut D.l2i1).extBut g.extBut D.l2TO) hy λO w2 i=>Qh ?_
 have hTO₄:IsPair O TO x b:=i.extBut _ _ D.TOi2 hTO₃
 refine Qg (wpAny_seqItems hTO₄ rfl (Qg (wpAny_updateSeq_pair hTO₄ λd hTO₅ j=>?_)))
 replace hTO₅:IsPair d TO x y:=hTO₅
 walk_at "pt"
 have L:d.objs.size=s.heap.objs.size:=by rw[j.1,i.1,g.1,h.1,f.1]
 have t:IsZip d z TI TO .ellipsis:=j.extBut _ _ D.TOz.symm (i.extBut _ _ D.i2z.symm (g.extBut _ _ D.TOz.symm (h.extBut _ _ D.i1z.symm l)))
 have Z:d.IsTupleIter G T (k1+1):=((w1.extBut g.extBut D.TOi1.symm).extBut i.extBut D.i12).extBut j.extBut D.TOi1.symm
 have Y:d.IsListIter F N (k2+1):=w2.extBut j.extBut D.TOi2.symm
 refine Qg (m:=Builtin.SmallTypes.ownedTupleHandOut (.ref z) (.ref d.objs.size)) ?_
 unfold Builtin.SmallTypes.ownedTupleHandOut
 have B:IsZip (d.push {cls:=.type "tuple",data:=.seq #[x,y]}) z TI TO .ellipsis:=Qi _ t
 refine Qg (wpAny_setField_rec B (by simp) λJ n r=>?_)
 replace n:IsZip J z TI TO (rawInt d.objs.size):=n
 refine wpAny_setField_rec n (by simp) λp k q=>?_
 replace k:IsZip p z TI TO (rawInt d.objs.size):=k
 have H:d.objs.size≠z:=Nat.ne_of_gt (Qj t)
 have u:∀ c o,c≠z->d.get? c=some o->p.get? c=some o:=λc o R e=>q.extBut _ _ R (r.extBut _ _ R (Qi _ e))
 have hT₈:IsPair p d.objs.size x y:=q.extBut _ _ H (r.extBut _ _ H (Qk _ rfl))
 rw[L]at k hT₈
 refine Qh ⟨_,rfl,(?_:Q (.ref d.objs.size) _)⟩
 rw[L]
 obtain⟨o1,e1,r1⟩:=Z
 obtain⟨o2,e2,r2⟩:=Y
 walk_at "pi"
theorem cM{TI TO U O:Addr}{a b:Value}{Q:Fin->Shared->Prop}(Z:A.handled=none)(D:ZipApart z TI TO G F U O)(v:IsZip s.heap z TI TO .none)(K:IsPair s.heap TI (.ref G) (.ref F))(T:IsPair s.heap TO a b)
  (X:s.heap.IsTupleIter G U k1) (u2:s.heap.IsListIter F O k2) (Y:s.heap.IsTuple U xs) (v2:s.heap.IsList O ys) (B:xs[k1]?=none\/ys[k2]?=none)
  (hE:∀ h' e,(∀ c o,c≠z->c≠TO->c≠G->c≠F->s.heap.get? c=some o->h'.get? c=some o)->(∃ o,h'.get? e=some o/\o.cls=.type "StopIteration")->E (.ref e) {s with heap:=h'}):wpAny (model prog w) A (Builtin.«zip.__next__» ⟨[.ref z],[]⟩) Q E s:=by
 refine Qg (m:=field (.ref z) 2) (wpAny_field v rfl (x:=.bool false) rfl ?_)
 refine Qg (m:=field (.ref z) 3) (wpAny_field v rfl (x:=.ref TI) rfl (Qg (m:=seqItems? (.ref TI)) (wpAny_seqItems K rfl ?_)))
 walk_at "pG"
 unfold Builtin.SmallTypes.ownedTupleIsFree
 refine Qg (m:=field (.ref z) 0) (wpAny_field v rfl (x:=.none) rfl (Qh ?_));simp only[if_true]
 refine Qg (wpAny_rule (Qg (wpAny_field v rfl (x:=.ref TO) rfl (Qg (wpAny_setField_rec v (by simp) λJ h d=>?_)))))
 replace h:IsZip J z TI TO .ellipsis:=h
 refine Qg ?_
 walk_at "pD"
 walk_at "pj"
 cases L:xs[k1]? with
 | none =>
  refine Lc Z (X.extBut d.extBut D.i1z) (Y.extBut d.extBut D.l1z) L λp e f R=>?_
  obtain⟨N,i,k⟩:=R
  have n:IsZip p z TI TO .ellipsis:=f _ _ D.i1z.symm h
  have u:e≠z:=λq=>by subst q;rw[n]at i;cases i;simp at k
  exact wpAny_setField_rec n (by simp) λt _ g=>hE t e (λc o I _ P _ q=>g.extBut _ _ I (f _ _ P (d.extBut _ _ I q))) ⟨N,g.extBut _ _ u i,k⟩
 | some x =>
  have hy:ys[k2]?=none:=by
   rcases B with q | q
   ·rw[L]at q;cases q
   ·exact q
  refine GM (X.extBut d.extBut D.i1z) (Y.extBut d.extBut D.l1z) L λp w1 f=>Qh ?_
  have hTO₂:IsPair p TO a b:=f.extBut _ _ D.TOi1 (d.extBut _ _ D.TOz T)
  refine Qg (wpAny_seqItems hTO₂ rfl (Qg (wpAny_updateSeq_pair hTO₂ λt hTO₃ g=>?_)))
  walk_at "pc"
  refine wpAny_nextOf_list_end Z (((u2.extBut d.extBut D.i2z).extBut f.extBut D.i12.symm).extBut g.extBut D.TOi2.symm) (((v2.extBut d.extBut D.l2z).extBut f.extBut D.l2i1).extBut g.extBut D.l2TO) hy λH e j S=>?_
  obtain⟨N,i,k⟩:=S
  have l:IsZip H z TI TO .ellipsis:=j _ _ D.i2z.symm (g.extBut _ _ D.TOz.symm (f.extBut _ _ D.i1z.symm h))
  have u:e≠z:=λq=>by subst q;rw[l]at i;cases i;simp at k
  walk_at "po"
theorem PH(hh:A.handled=none)(z TI TO m l u r:Addr)(D:ZipApart z TI TO m l u r)(xs ys:Array Value):WalksT prog w A z [z,TI,TO,m,l,u,r] [z,TO,m,l] (min xs.size ys.size) (λi G=>∃ x y,xs[i]?=some x/\ys[i]?=some y/\G=#[x,y])
   (λi h=>IsZip h z TI TO .none/\IsPair h TI (.ref m) (.ref l)/\(∃ a b,IsPair h TO a b)/\h.IsTupleIter m u i/\h.IsListIter l r i/\h.IsTuple u xs/\h.IsList r ys)
   (λi T h=>IsZip h z TI TO (rawInt T)/\IsPair h TI (.ref m) (.ref l)/\(∃ a b,IsPair h TO a b)/\h.IsTupleIter m u (i+1)/\h.IsListIter l r (i+1)/\h.IsTuple u xs/\h.IsList r ys/\T≠z/\T≠TO/\T≠m/\T≠l/\NoD h T) where
 sub:=λc hc=>by simp at hc ⊢;rcases hc with rfl | rfl | rfl | rfl <;> simp
 frame:=λi h h' st t=>by
  walk_at "pO"
  exact⟨t z (by simp) _ j,t TI (by simp) _ d,⟨a,b,t TO (by simp) _ f⟩,tat h1 λo e=>t m (by simp) o e,h2.at λo e=>t l (by simp) o e,FM g1 λo e=>t u (by simp) o e,Li g2 λo e=>t r (by simp) o e⟩
 item:=λi s Q E hi st p=>by
  walk_at "pO"
  have J:i < xs.size:=Yu hi (Nat.min_le_left ..)
  have K:i < ys.size:=Yu hi (Nat.min_le_right ..)
  have n:s.TypeIs (.ref z) "zip":=⟨_,j,rfl⟩
  walk_at "pz"
  unfold pyNext
  refine Qg (wpAny_attempt (wpAny_callSpecial?_slot (name:=Str.ofString "__next__") n PySem.F.slot_zip_next (wpAny_call_entry PySem.F.slot_zip_next n PySem.F.entry_zip_next (cL D j d f h1 h2 g1 g2 (YV J) (YV K) λh' S a2 X Z N v=>Qh ?_) (PySem.F.args_zip_next_1 _))))
  exact p s.heap.objs.size #[xs[i],ys[i]] h' s.toks ⟨_,_,YV J,YV K,rfl⟩ (Yr _) ⟨_,N,rfl,_,rfl⟩ ⟨S,v _ _ D.TIz D.TITO D.TIi1 D.TIi2 d,⟨_,_,a2⟩,X,Z,FM g1 λo e=>v _ o D.l1z D.l1TO D.l1i1 D.l1i2 e,Li g2 λo e=>v _ o D.l2z D.l2TO D.l2i1 D.l2i2 e,lt j,lt f,(by obtain⟨_,e,_⟩:=h1;exact lt e),(by obtain⟨_,e,_⟩:=h2;exact lt e),⟨_,N,rfl⟩⟩ λc o hc e=>v c o (λx=>hc (by simp[x])) (λx=>hc (by simp[x])) (λx=>hc (by simp[x])) (λx=>hc (by simp[x])) e
 go:=λL k pos i T s Q E H p=>by
  obtain⟨j,d,⟨a,b,f⟩,h1,h2,g1,g2,_⟩:=H
  walk_at "pe"
 apart:=λi T h H n=>by
  obtain⟨_,_,_,_,_,_,_,O,U,R,Y,_⟩:=H
  simp at n
  rcases n with e | e | e | e
  ·exact O e
  ·exact U e
  ·exact R e
  ·exact Y e
 done:=λs Q E st p=>by
  walk_at "pO"
  have B:xs[min xs.size ys.size]?=none\/ys[min xs.size ys.size]?=none:=by
   rcases Nat.le_total xs.size ys.size with q | q
   ·exact .inl (Array.getElem?_eq_none (by omega))
   ·exact .inr (Array.getElem?_eq_none (by omega))
  have n:s.TypeIs (.ref z) "zip":=⟨_,j,rfl⟩
  unfold pyNext
  refine Qg (wpAny_attempt (wpAny_callSpecial?_slot (name:=Str.ofString "__next__") n PySem.F.slot_zip_next (wpAny_call_entry PySem.F.slot_zip_next n PySem.F.entry_zip_next (cM hh D j d f h1 h2 g1 g2 B λh' e v he=>?_) (PySem.F.args_zip_next_1 _))))
  obtain⟨o,P,hc⟩:=he
  exact Qg (wpAny_isInstance (T:="StopIteration") (b:=true) ⟨o,P,hc⟩ isSubtype_stop (Qh (p h' s.toks λc o hc e=>v c o (λx=>hc (by simp[x])) (λx=>hc (by simp[x])) (λx=>hc (by simp[x])) (λx=>hc (by simp[x])) e)))
 self:=λi s Q E st p=>wpAny_pyIter_zip st.1 p
abbrev zM1(h:Heap)(l1:Addr):Heap:=h.push {cls:=.type "tuple_iterator",data:=.fields #[.ref l1,.int 0 0]}
abbrev zM2(h:Heap)(l1 l2:Addr):Heap:=(zM1 h l1).push {cls:=.type "list_iterator",data:=.fields #[.ref l2,.int 0 0]}
abbrev zM3(h:Heap)(l1 l2:Addr):Heap:=(zM2 h l1 l2).push {cls:=.type "tuple",data:=.seq #[.ref h.objs.size,.ref (zM1 h l1).objs.size]}
abbrev zM4(h:Heap)(l1 l2:Addr):Heap:=(zM3 h l1 l2).push {cls:=.type "tuple",data:=.seq #[.none,.none]}
abbrev zM5(h:Heap)(l1 l2:Addr):Heap:=(zM4 h l1 l2).push {cls:=.type "zip",data:=.fields #[.none,.bool false,.bool false,.ref (zM2 h l1 l2).objs.size,.ref (zM3 h l1 l2).objs.size]}
theorem cN(a b:Addr)(xs ys:Array Value):Meets (Builtin.«zip.__new__» ⟨[.type "zip",.ref a,.ref b],[]⟩) (λ_ R s=>s.heap.IsTuple a xs/\s.heap.IsList b ys/\R (.ok (.ret (.ref (zM4 s.heap a b).objs.size))) {s with heap:=zM5 s.heap a b}):=
 .of_wp λprog w A R s h=>by
  obtain⟨f,g,d,tk,os⟩:=s
  obtain⟨j,k,h⟩:=h
  have i:=sub_zip
  have e:Heap.IsTuple (Shared.heap ⟨f,g,d,tk,os⟩) a xs:=j
  have c:Heap.IsList (Shared.heap ⟨f.push {cls:=.type "tuple_iterator",data:=.fields #[.ref a,.int 0 0]},g,d,tk,os⟩) b ys:=cK k
  wp_walk using wpAny_pyIter_tuple e,wpAny_pyIter_list c
  exact⟨_,rfl,h⟩
theorem cO{a b:Addr}(j:s.heap.IsTuple a xs)(k:s.heap.IsList b ys)
  (h:∀ h',IsZip h' (s.heap.objs.size+4) (s.heap.objs.size+2) (s.heap.objs.size+3) .none->IsPair h' (s.heap.objs.size+2) (.ref s.heap.objs.size) (.ref (s.heap.objs.size+1))->IsPair h' (s.heap.objs.size+3) .none .none->h'.IsTupleIter s.heap.objs.size a 0->h'.IsListIter (s.heap.objs.size+1) b 0->h'.objs.size=s.heap.objs.size+5->(∀ c o,s.heap.get? c=some o->h'.get? c=some o)->Q (.ref (s.heap.objs.size+4)) {s with heap:=h'}):
  wpAny (model prog w) A (call (.type "zip") [.ref a,.ref b]) Q E s:=by
 refine callType_new PySem.F.called_zip (by decide) (PySem.F.typeCall_zip_2 _ _) (PySem.F.newCall_zip_2 _ _) (λobj=>PySem.F.args_object_init_3 obj _ _) PySem.F.entry_zip_new (cN a b xs ys) ⟨j,k,?_⟩
 have f:(zM1 s.heap a).objs.size=s.heap.objs.size+1:=Ql ..
 have i:(zM2 s.heap a b).objs.size=s.heap.objs.size+2:=by rw[Ql,f]
 have d:(zM3 s.heap a b).objs.size=s.heap.objs.size+3:=by rw[Ql,i]
 have e:(zM4 s.heap a b).objs.size=s.heap.objs.size+4:=by rw[Ql,d]
 have l:(zM5 s.heap a b).objs.size=s.heap.objs.size+5:=by rw[Ql,e]
 have g:(zM5 s.heap a b).get? (zM4 s.heap a b).objs.size=some _:=Qk _ rfl
 have g4:(zM5 s.heap a b).get? (zM3 s.heap a b).objs.size=some _:=Qi _ (Qk _ rfl)
 have g3:(zM5 s.heap a b).get? (zM2 s.heap a b).objs.size=some _:=Qi _ (Qi _ (Qk _ rfl))
 have g2:(zM5 s.heap a b).get? (zM1 s.heap a).objs.size=some _:=Qi _ (Qi _ (Qi _ (Qk _ rfl)))
 have g1:(zM5 s.heap a b).get? s.heap.objs.size=some _:=Qi _ (Qi _ (Qi _ (Qi _ (Qk _ rfl))))
 rw[i,d,e]at g
 rw[f,i]at g3
 rw[d]at g4
 rw[f]at g2
 rw[e]
 walk_at "pg"
end
def PJ(K:PySem.W.Frag)(l1 l2:Addr):It :=
 ⟨λi H=>∃ xs ys,SqT K H l1 xs/\SqL K H l2 ys/\i < xs.length/\i < ys.length,
  λi H v H'=>∃ T x y,H T=none/\v=.ref T/\H'=upd H T (.tup [x,y])/\∀ xs ys,SqT K H l1 xs->SqL K H l2 ys->xs[i]?=some x/\ys[i]?=some y,
  λi H=>∃ xs ys,SqT K H l1 xs/\SqL K H l2 ys/\i=min xs.length ys.length⟩
theorem cP{F:List Expr}{z TI TO y u l1 Y:Addr}(D:ZipApart z TI TO y u l1 Y):
  CQ P w K (.Tuple F k tpos) (PJ K l1 Y) [z,TI,TO,y,u] z (λi h=>IsZip h z TI TO .none/\IsPair h TI (.ref y) (.ref u)/\(∃ a b,IsPair h TO a b)/\h.IsTupleIter y l1 i/\h.IsListIter u Y i) where
 mem:=by simp
 obj:=λi h st b n=>by
  obtain⟨B,f,⟨a,c,l⟩,⟨o1,e1,_,d1⟩,⟨o2,e2,_,d2⟩⟩:=st
  walk_at "pA"
  rcases n with rfl | rfl | rfl | rfl | rfl
  ·exact⟨_,B,λv z=>by cases z⟩
  ·exact⟨_,f,λv z=>by cases z⟩
  ·exact⟨_,l,λv z=>by cases z⟩
  ·exact⟨o1,e1,λv z=>by rw[d1]at z;cases z⟩
  ·exact⟨o2,e2,λv z=>by rw[d2]at z;cases z⟩
 keep:=λi h h' st kk=>by
  obtain⟨B,f,⟨a,c,l⟩,h1,h2⟩:=st
  exact⟨kk z (by simp) _ B,kk TI (by simp) _ f,⟨a,c,kk TO (by simp) _ l⟩,tat h1 λo e=>kk y (by simp) o e,h2.at λo e=>kk u (by simp) o e⟩
 item:=by
  walk_at "pN"
  subst hP hw hK
  obtain⟨xs,ys,hx,hy,hix,hiy⟩:=hg
  obtain⟨g,r1,J,z1⟩:=I.tuple hx
  obtain⟨j,r2,N,z2⟩:=I.list hy
  have n1:=r1.length
  have n2:=r2.length
  obtain⟨B,f,l,h1,h2⟩:=st
  have Wk:=PH (prog:=X.prog) (w:=X.w) (A:=X.A) (I.ok.hd hc) z TI TO y u l1 Y D g.toArray j.toArray
  refine Wk.item i s _ _ (by simp only[Yn];omega) ⟨B,f,l,h1,h2,J,N.isList⟩ λT vals h' tk hPt hT U t hk=>⟨.ref T,rfl,?_⟩
  refine Wk.go F k tpos i T _ _ _ t λG r S=>?_
  obtain⟨v1,v2,g1,g2,rfl⟩:=hPt
  have g1':g[i]?=some v1:=by simpa using g1
  have g2':j[i]?=some v2:=by simpa using g2
  have gx:xs[i]?=some xs[i]:=Yp hix
  have gy:ys[i]?=some ys[i]:=Yp hiy
  obtain⟨u1,q1,rv1⟩:=r1.get gx
  obtain⟨u2,q2,rv2⟩:=r2.get gy
  rw[g1']at q1;cases q1
  rw[g2']at q2;cases q2
  have O:∀ b,b∉[z,TI,TO,y,u]->b∉[z,TO,y,u]:=λb n hc=>n (by
   walk_at "pv"
   rcases hc with h | h | h | h <;> simp[h])
  walk_at "pu"
  have Z:H T=none:=I.hok.fresh hT
  have L:TupP G T #[v1,v2]:=by
   obtain⟨o,e,c,m,d⟩:=U
   obtain⟨o',e',hd⟩:=t.2.2.2.2.2.2.2.2.2.2.2
   rw[e]at e'
   cases e'
   exact⟨o,S _ _ (Wk.apart _ _ _ t) e,c,hd,m,d⟩
  walk_at "ph"
  have I2:Inv X pins σ (upd H T (.tup [xs[i],ys[i]])) {s with heap:=G,toks:=tk}:=by
   walk_at "pr"
   ·obtain⟨m,⟨o,es,ep,ho,_⟩,_⟩:=I.loc
    exact YU (lt ho)
   ·obtain⟨v,o,ho,_⟩:=I.cell x c e
    exact lt ho
   ·exact lt (I.pin p hp).1
   ·cases e:X.s₀.heap.get? T with
    | none=>rfl
    | some o=>exact absurd (Yu (Qj e) (Yt I.sz hT)) (YJ _)
  walk_at "pn"
  ·rw[I.tuple_inj hx' hx,I.list_inj hy' hy];exact⟨gx,gy⟩
  ·have hb':=(hf b n).1
   have:b≠T:=by
    obtain⟨o,e,_⟩:∃ o,s.heap.get? b=some o/\True:=by
     obtain⟨a,c,R⟩:=l
     obtain⟨o1,e1,_⟩:=h1
     obtain⟨o2,e2,_⟩:=h2
     walk_at "pA"
     rcases n with rfl | rfl | rfl | rfl | rfl
     ·exact⟨_,B,trivial⟩
     ·exact⟨_,f,trivial⟩
     ·exact⟨_,R,trivial⟩
     ·exact⟨_,e1,trivial⟩
     ·exact⟨_,e2,trivial⟩
    exact lt e
   rw[A4 this];exact hb'
 done:=by
  walk_at "pN"
  subst hP hw hK
  obtain⟨xs,ys,hx,hy,hi⟩:=hg
  obtain⟨g,r1,J,z1⟩:=I.tuple hx
  obtain⟨j,r2,N,z2⟩:=I.list hy
  have n1:=r1.length
  have n2:=r2.length
  obtain⟨B,f,l,h1,h2⟩:=st
  have Wk:=PH (prog:=X.prog) (w:=X.w) (A:=X.A) (I.ok.hd hc) z TI TO y u l1 Y D g.toArray j.toArray
  have hi':i=min g.toArray.size j.toArray.size:=by simp only[Yn];omega
  subst hi'
  refine Wk.done s _ _ ⟨B,f,l,h1,h2,J,N.isList⟩ λh' tk hk=>⟨rfl,Inv.turneds I hf λb o n e=>hk b o (λhc=>n ?_) e⟩
  walk_at "pv"
  rcases hc with h | h | h | h <;> simp[h]
 self:=λA i s Q E st h=>wpAny_pyIter_zip st.1 h
def cQ(K:PySem.W.Frag)(ta:TA):TI:=λσ H R=>ta σ H λvs H1=>∃ a b xs ys,vs=[.ref a,.ref b]/\SqT K H1 a xs/\SqL K H1 b ys/\R (PJ K a b) H1
theorem cR{b:Expr}{i:List Expr}(P:Gl X "zip")(L:X.mg "zip"=none)(F:PA X [a,b] ta)(hs:starEach [a,b] X.env=[(false,eval a X.env),(false,eval b X.env)])(d:starEach [b] X.env=[(false,eval b X.env)]):
  PI X (.Tuple i k tpos) (.Call (.Name "zip" p) [a,b] [] pos) (cQ X.K ta):=by
 intro pins s σ H R I h
 walk_at "pk"
 obtain⟨S,H1,c,r1,q1⟩:=t
 obtain⟨Q,J,xs,ys,e,D,A,q⟩:=q1
 subst e
 obtain⟨u,T,rfl,B,r⟩:=HB r1
 cases B
 cases r
 obtain⟨y,_,f,_⟩:=c.tuple D
 obtain⟨z,_,j,_⟩:=c.list A
 have E:Q < l.heap.objs.size:=by obtain⟨_,e,_⟩:=f;exact Qj e
 have O:J < l.heap.objs.size:=by obtain⟨_,e,_⟩:=j.isList;exact Qj e
 refine cO f j.isList λh' x n v o m G N=>wpAny_pyIter_zip x ?_
 refine⟨_,_,_,_,H1,rfl,c.kept (t':=l.toks) N,cP (zipApart_new E O),⟨x,n,⟨_,_,v⟩,o,m⟩,λb w=>?_,q⟩
 have g:l.heap.objs.size<=b:=by
  simp only[Yo,YY,or_false]at w
  rcases w with rfl | rfl | rfl | rfl | rfl
  ·exact YX _ 4
  ·exact YX _ 2
  ·exact YX _ 3
  ·exact Yr _
  ·exact YX _ 1
 exact c.fpOk g (c.hok.fresh g)
def E5(gs:GA):GI:=λω G R=>gs ω G λws G1=>∃ xs y ys,ws=[.tup xs,y]/\rdL G1 y=some ys/\R (BA xs ys) (λG=>rdL G y=some ys) G1
theorem cS(m:gs.M):GI.M (E5 gs):=λω G R b h q=>m _ _ _ _ ((by rintro d c ⟨xs,y,ys,e,a,z⟩;exact⟨xs,y,ys,e,a,h _ _ _ z⟩)) q
theorem PK{b:Expr}{j:List Expr}(U:X.mg "zip"=none)(hg:Gl X "zip")(hs:starEach [a,b] X.env=[(false,eval a X.env),(false,eval b X.env)])(w:starEach [b] X.env=[(false,eval b X.env)])(x:Am X [a,b] gs):
  Im X (.Tuple j k tpos) (.Call (.Name "zip" p) [a,b] [] pos) (E5 gs):=by
 refine⟨⟨_,cR hg U x.p hs w,λσ H ω G R R0 P r q kk=>⟨ω,G,P,r,x.m _ _ _ _ (λws G1 z vs H1 m t r1=>?_) q⟩⟩,cS x.m⟩
 obtain⟨xs,y,ys,rfl,L,z⟩:=z
 cases t with
 | cons tx t =>
  cases t with
  | cons ty t =>
   cases t
   obtain⟨O,f,rfl,d,E⟩:=Ld tx
   obtain⟨Z,B,rfl,A,l2⟩:=B4 r1 ty L
   refine⟨O,Z,f,B,rfl,d,A,kk _ _ _ H1 _ z m r1 L ⟨λi o I e g g3 hi=>?_,λi o I v H4 e g g3 Q hi=>?_,λo I e g g3=>?_⟩⟩
   ·obtain⟨F,c,n,l,h⟩:=B4 g (ty.mono e) g3
    cases n
    rw[E0]at hi
    exact⟨f,c,e.tup _ _ d,l,by rw[E.length];omega,by rw[h.length];omega⟩
   ·obtain⟨F,c,n,l,h⟩:=B4 g (ty.mono e) g3
    cases n
    obtain⟨T,S,Y,J,rfl,rfl,N⟩:=Q
    obtain⟨g1,g2⟩:=N _ _ (e.tup _ _ d) l
    obtain⟨w1,q1,D⟩:=(E.mono e).get' g1
    obtain⟨w2,q2,s⟩:=h.get' g2
    have u:Mono X.K o (upd o T (.tup [S,Y])):=Mono.new J _
    exact⟨u,g.mono0 J,_,HQ _ _ i q1 q2,.tup (SqT.of BO) (.cons (D.mono u) (.cons (s.mono u) .nil))⟩
   ·obtain⟨F,c,n,l,h⟩:=B4 g (ty.mono e) g3
    cases n
    exact⟨f,c,e.tup _ _ d,l,by rw[E0,E.length,h.length]⟩
theorem cT{i:Int}{n:Nat}{b:Hw->Prop}{H1:Hp}:D4 K H1 (L2.Itr i n) ((List.range n).map λk:Nat=>W.int (i+k)) b where
 go:=λj H G m r g hi=>by show j < n;simpa using hi
 yld:=λj H G x H' m r g y hi=>by
  obtain⟨e,ex⟩:=y
  subst ex
  have a:j < n:=by simpa using hi
  exact Gn r e ⟨.int (i+j),by simp[a],.int _⟩
 stop:=λH G m r g=>by show n<=_;simp
def FP(gs:GA):GI:=λω G R=>gs ω G λws G1=>∃ i j:Int,ws=[.int i,.int j]/\(-(2 ^ 62)<=i/\i < 2 ^ 62/\-(2 ^ 62)<=j/\j < 2 ^ 62)/\R ((List.range (j - i).toNat).map λk:Nat=>W.int (i+k)) yes G1
theorem cU(m:gs.M):GI.M (FP gs):=λω G R a h q=>m _ _ _ _ (by rintro d c ⟨i,j,e,b,z⟩;exact⟨i,j,e,b,h _ _ _ z⟩) q
theorem PL{tg b:Expr}(f:X.mg "range"=none)(h:Gl X "range")(hs:starEach [a,b] X.env=[(false,eval a X.env),(false,eval b X.env)])(c:starEach [b] X.env=[(false,eval b X.env)])(e:Am X [a,b] gs):Im X tg (.Call (.Name "range" p) [a,b] [] pos) (FP gs):=by
 refine⟨⟨_,V7 h f e.p hs c,λσ H ω G R s l r q k=>⟨ω,G,l,r,e.m _ _ _ _ (λu n z o H1 m t r1=>?_) q⟩⟩,cU e.m⟩
 obtain⟨i,j,rfl,b,z⟩:=z
 cases t with
 | cons g t =>
  cases t with
  | cons d t =>
   cases t;cases g;cases d
   exact⟨_,_,rfl,b,k _ _ _ H1 _ z m r1 trivial cT⟩
end L3
namespace L3
open PySem PySem.Spec PyProof.Rows L2
variable {X:Cx}
theorem cV:CallR X (.type "dict") (λxs H Q=>∃(p:Addr)(kvs:List (Key×V)),xs=[.ref p]/\H p=some (.dK kvs)/\∀ l,H l=none->Q (.ref l) (upd H l (.dK kvs))):=by
 intro pins s σ H xs n Q I r h
 obtain⟨p,kvs,rfl,m,q⟩:=h
 obtain⟨u,rfl,i⟩:=Cq r
 cases i
 obtain⟨f,hd,c,a,j⟩:kvs.length<=sizeLine/\(p==sysModules)=false/\∃ c,KV kvs c/\s.heap.DictOf (Bs X.prog X.w) p c:=I.hok p _ m
 have hl:=Paired.length a
 refine kt_call_dict hd j (by omega) λh' g hs=>?_
 have d:sysModules < s.heap.objs.size:=by
  have h:mainGlobals < s.heap.objs.size:=(I.mod.glob.keeps I.bk).lt
  exact Nat.lt_trans (by decide) h
 have k:Inv X pins σ (upd H s.heap.objs.size (.dK kvs)) {s with heap:=h'}:=
  I.laid (t':=s.toks) (λb u e=>(hs.2 b (Ys (Qj e))).trans (Qi _ e)) (Yr _) (show ObjOk X.prog X.w _ _ _ (.dK _)from⟨f,by simpa using Nat.ne_of_gt d,_,a,g⟩)
 exact⟨.ref s.heap.objs.size,_,k,rfl,q _ (I.hok.fresh (Yr _))⟩
def GP(ws:List W)(G:Hw)(Q:Kw):Prop:=∃(p:Addr)(kvs:List (Key×W)),ws=[.ref p]/\G p=some (.dct kvs)/\∀ l,G l=none->Q (.ref l) (put G l (.dct kvs))
theorem cW:RWc.M GP:=λb G Q c h⟨p,a,h1,h2,q⟩=>⟨p,a,h1,h2,λl hl=>h _ _ (q l hl)⟩
theorem cX{K:PySem.W.Frag}:UpC K GP (λxs H Q=>∃(p:Addr)(kvs:List (Key×V)),xs=[.ref p]/\H p=some (.dK kvs)/\∀ l,H l=none->Q (.ref l) (upd H l (.dK kvs))):=λg f G H Q t r q=>by
 obtain⟨p,kvs,rfl,b,q⟩:=q
 cases t with
 | cons d t =>
  cases t
  cases d
  obtain⟨e,c,l⟩:=r p _ b
  refine⟨p,e,rfl,c,λa hl=>?_⟩
  exact q a (r.no hl) _ _ (Mono.new hl _) (.ref a) (RelH.laid r (Mono.new hl _) ⟨_,BO,l.mono (Mono.new hl _)⟩)
theorem cY(_:X.calm=true):Blt X (.type "dict") GP:=⟨⟨_,cV,cX⟩,cW⟩
end L3
namespace L2
open PySem PySem.Spec PyProof.Rows
end L2
namespace L3
open PySem PySem.Spec PyProof.Rows L2
section
variable {α:Type} {x y z:α} {xs:List α}
theorem Bf:atI (x::xs) 0=some x:=C7 (j:=0) (xs:=x::xs) rfl
theorem A0:atI (x::y::xs) 1=some y:=C7 (j:=1) (xs:=x::y::xs) rfl
theorem B0:atI (x::y::z::xs) 2=some z:=C7 (j:=2) (xs:=x::y::z::xs) rfl
end
theorem Ak{w:W}{f:W->Prop}:opt (some w) f=f w:=rfl
variable {p:Addr}{o:HW}
theorem AB{G:Hw}(h:G p=none):Sub G (put G p o):=Sub.refl.put h
theorem BD{G a:Hw}(s:Sub G a)(h:a p=none):Sub G (put a p o):=s.trans (AB h)
theorem GQ{G:Hw}{o':HW}:put (put G p o) p o'=put G p o':=by
 funext b;unfold put;split <;> rfl
variable {xs:List W}
theorem EK{G:Hw}(h:G p=some (.lst xs)):Dq G (.ref p)=some xs:=by unfold Dq;dsimp only;rw[h]
theorem Ig{G:Hw}(h:G p=some (.lst xs)):Dd G (.ref p)=some xs:=by unfold Dd;dsimp only;rw[h]
theorem CI{G:Hw}(h:G p=some (.lst xs)):rdL G (.ref p)=some xs:=by unfold rdL;dsimp only;rw[h]
theorem PM{G:Hw}(h:G p=some (.lst xs)):B9 (.ref p) G=some (.int xs.length):=by unfold B9;dsimp only;rw[h]
theorem Eb{G:Hw}{i:Int}(h:G p=some (.lst xs)):ixW (.ref p) (.int i) G=atI xs i:=by unfold ixW;dsimp only;rw[h]
theorem Hv:∀ bs:List Bool,EU (bs.map W.bl)=some bs
 | []=>rfl
 | b::bs=>by show(EU (bs.map W.bl)).map (b::·)=_;rw[Hv bs];rfl
theorem Lj:∀ bs:List Int,D6 (bs.map W.int)=some bs
 | []=>rfl
 | b::bs=>by show(D6 (bs.map W.int)).map (b::·)=_;rw[Lj bs];rfl
theorem PN:∀ bs:List Str,EW (bs.map W.str)=some (bs.map V.str)
 | []=>rfl
 | b::bs=>by show(GB (.str b)).bind (λv=>(EW (bs.map W.str)).map (v::·))=_;rw[PN bs];rfl
theorem Lk(s:Str):∀ bs:List Str,inV (.str s) (bs.map V.str)=bs.any (·==s)
 | []=>rfl
 | b::bs=>by
  show(eqV (.str b) (.str s)||inV (.str s) (bs.map V.str))=_
  rw[Lk s bs];rfl
theorem Dz{c:Hw->Prop}{ge:GE}{R:List W->Hw->Prop}{f:W->W}{G:Hw}(a:c G):∀(b:List W)(o:Option W)(ys:List W),(∀ x∈b,∀ Q:Kw,Q (f x) G->ge [some x] G Q)->
  ys.length+b.length<=sizeLine->R (ys++b.map f) G->AV c (gNm 0) AA ge R b [o] G ys
 | [],o,ys,_,_,r=>⟨a,by simpa using r⟩
 | x::b,o,ys,h,hl,r=>by
  refine⟨a,by simp only[Yg]at hl;omega,?_⟩
  show ge [some x] G λy e=>AV c (gNm 0) AA ge R b [some x] e (ys++[y])
  refine h x Ye _ (Dz a b (some x) (ys++[f x]) (λy d=>h y (Yd _ d)) ?_ ?_)
  ·simp only[Yj,Yg,Yi]at hl ⊢;omega
  ·simpa[Yv]using r
theorem PP{c:Hw->Prop}{ge:GE}{R:List W->Hw->Prop}{f:W->W->W}{G:Hw}(a:c G):∀(b:List (W×W))(o o':Option W)(ys:List W),(∀ x∈b,∀ Q:Kw,Q (f x.1 x.2) G->ge [some x.1,some x.2] G Q)->
  ys.length+b.length<=sizeLine->R (ys++b.map λx=>f x.1 x.2) G->AV c (AY 0 1) AA ge R (b.map λx=>W.tup [x.1,x.2]) [o,o'] G ys
 | [],o,o',ys,_,_,r=>⟨a,by simpa using r⟩
 | x::b,o,o',ys,h,hl,r=>by
  refine⟨a,by simp only[Yg]at hl;omega,?_⟩
  show ge [some x.1,some x.2] G λy e=>AV c (AY 0 1) AA ge R (b.map λx=>W.tup [x.1,x.2]) [some x.1,some x.2] e (ys++[y])
  refine h x Ye _ (PP a b (some x.1) (some x.2) (ys++[f x.1 x.2]) (λy d=>h y (Yd _ d)) ?_ ?_)
  ·simp only[Yj,Yg,Yi]at hl ⊢;omega
  ·simpa[Yv]using r
theorem PQ:∀(xs ys:List W),BA xs ys=(xs.zip ys).map λx=>W.tup [x.1,x.2]
 | [],_=>by simp[BA]
 | _::_,[]=>by simp[BA]
 | x::xs,y::ys=>by simp[BA,PQ xs ys]
def spR{α:Type}(A:α->List W->Hw->Prop)(f:α->W):Spw:=λws G Q _=>∃ x,A x ws G/\Q (f x) G
theorem Bu{α:Type}{A:α->List W->Hw->Prop}{f:α->W}:Spw.M (spR A f):=(by rintro b G Q c E a h _ ⟨x,h1,q⟩;exact⟨x,h1,h _ _ q⟩)
def spL{α:Type}(A:α->List W->Hw->Prop)(f:α->List W):Spw:=λws G Q _=>∃ x,A x ws G/\∀ p,G p=none->Q (.ref p) (put G p (.lst (f x)))
theorem BE{α:Type}{A:α->List W->Hw->Prop}{f:α->List W}:Spw.M (spL A f):=(by rintro c G Q d E b h _ ⟨x,h1,q⟩;exact⟨x,h1,λp a=>h _ _ (q p a)⟩)
theorem CJ{α:Type}(xs:List α):BI xs (some 1) none=xs.drop 1:=by
 have e:HT.sIx xs.length 0 (some 1)=min 1 xs.length:=HT.sIx_nat xs.length 0 1
 unfold BI
 rw[e,HT.sIx_none]
 cases xs with
 | nil=>rfl
 | cons x xs =>
  have a:min 1 (x::xs).length=1:=by simp only[Yg];omega
  rw[a]
  show(xs.take ((xs.length+1) - 1))=xs
  rw[Nat.add_sub_cancel,List.take_length]
theorem GR{α:Type}(x:α)(xs:List α):¬ (HT.sIx (x::xs).length 0 (some 1)=0/\HT.sIx (x::xs).length (x::xs).length none=(x::xs).length):=by
 have e:HT.sIx (x::xs).length 0 (some 1)=min 1 (x::xs).length:=HT.sIx_nat (x::xs).length 0 1
 intro h
 have:=h.1
 rw[e]at this
 simp only[Yg]at this
 omega
theorem Ll{G:Hw}{lo hi:Option Int}{Q:Kw}(h:G p=some (.lst xs))(q:∀ p1,G p1=none->Q (.ref p1) (put G p1 (.lst (BI xs lo hi)))):slW (.ref p) lo hi G Q:=by
 unfold slW
 dsimp only
 rw[h]
 exact q
theorem AI{G:Hw}{q:Addr}(h:G p=some o)(h':G q=none):p≠q:=by intro e;rw[e,h']at h;cases h
variable {n:Nat}
theorem AT(h:n<=100000):n<=sizeLine:=Yt h (by decide)
theorem Bl(h:n<=100000):n < sizeLine:=Nat.lt_of_le_of_lt h (by decide)
section
variable {P:Program} {w:World} {K:PySem.W.Frag} {mg:Str->Option Value} {base:Heap}
theorem ok0{x:Str}{st:Stmt}{f:Addr}{fd:FuncData}{N ps:List Str}{k:Nat}{sp:Spw}{g:GS}(F:Fun K x x st f fd)(S:AE N ps (Ar st))(len:∀ c G Q E,sp c G Q E->c.length=ps.length)
  (o:∀{f:Addr}{cdv:Value}{A:Around}{outer:List Env}{s:Shared}{H:Hp}{E:XK},Room k (A.deeper (envOfC x (Ar st) s.heap.objs.size f cdv))->Ssm (cxW P w K mg base N x (Ar st) f cdv A outer s H E).nox (λB=>B=H) (Cb st) g)
  (ok:∀ c G(Q:Kw)(E:Addr->Hw->Prop),Kw.C Q->sp c G Q E->g (Av Q) (BX N c) G):FnOk P w K mg base (CXe P w) (k+1) f fd ps (FD K sp):=by
 obtain⟨v,y,kV,l,pm,u,cdv,ct,h,rfl,lk,d⟩:=F.ex
 refine HD lk d S ((by rintro i H Q E ⟨c,G,t,r,q⟩;rw[t.length];exact len c G _ _ q)) λA outer s H i Q E j e=>?_
 obtain⟨c,G,t,r,q⟩:=e
 have D:=o (cdv:=cdv) (outer:=outer) (H:=H) (E:=E) j
 refine⟨_,(D.p H rfl).nox,BX N c,G,KA t,r,.refl,?_⟩
 exact D.m _ _ (Av (dn K H Q)) _ (λa b z σ H2 m I n=>z _ H2 m Tr.non n) (λa b z=>z) (λa b z=>z.elim) (λa b z=>z.elim) (ok c G _ _ KB q)
end
def Ih:Spw:=λws _ Q _=>∃ ns:List Int,ws=[.rol (ns.map W.int)]/\ns.length<=63/\∀ G',Q (.bl true) G'
theorem PR{K:PySem.W.Frag}{H:Hp}:∀ ns:List Int,TrL K H (ns.map V.int) (ns.map W.int)
 | []=>.nil
 | n::ns=>.cons (.int n) (PR ns)
variable {K:PySem.W.Frag}{H:Hp}
theorem cZ{a:Addr}{ns:List Int}(hl:ns.length<=63)(b:HF H)(d:SqL K H a (ns.map V.int)):FD K Ih [.ref a] H (λv _=>v=.bl true) (λ_ _ _=>False):=by
 have c:RoL K H a (ns.map V.int):=by
  rcases d with(h |⟨o,h⟩)| h
  ·rcases b a with z |⟨o,xs,z⟩
   ·rw[z]at h;cases h
   ·rw[z]at h;cases h
  ·exact .inl ⟨o,h⟩
  ·exact .inr h
 exact⟨[.rol (ns.map W.int)],λ_=>none,.cons (.rol c (PR ns)) .nil,(λa o e=>by cases e),ns,rfl,hl,λf v H' m t r=>ER t⟩
theorem c0{P:Program}{w:World}{s:Shared}{e:Value}{s':Shared}(h:CXe P w [] H s (λ_ _ _=>False) e s'):False:=by
 obtain⟨_,_,_,_,_,q⟩:=h
 exact q
section
variable {K:PySem.W.Frag} {h:Heap} {mg:Str->Option Value} (X:K.In h) (G:h.Ns mainGlobals mg)
include X G
variable {x:Str}
theorem c1{st:Stmt}{ps:List Str}{f:Addr}{g:Value}{i d:Option Addr}{e:Array (Option Value)}{kV a pm cdv ct:Value}(h:PySem.W.nsIn K mainGlobals x=some (some (.ref f)))
  (l:K.lookup f=some ⟨g,i,.func (PySem.W.fnOf x x (EL st) (Cb st) (Ar st) .none kV a pm d cdv ct),e⟩) (c:PySem.W.codeIn K cdv x=true) (k:PySem.W.keepIn K (.ref f)=true)
  (b:∀(kV a pm:Value)(d:Option Addr)(cdv ct:Value)(us:List Value),us.length=ps.length->bindArgs (PySem.W.fnOf x x (EL st) (Cb st) (Ar st) .none kV a pm d cdv ct) ⟨us,[]⟩=pure (ps.zip us)):Fn K mg st x ps :=
 ⟨f,_,PySem.W.mg_of X G h,NL l c k,(NL l c k).binds b⟩
theorem FQ{i:Int}{t:Tok}(e:PySem.W.nsIn K mainGlobals x=some (some (.int i t))):Glb K mg x (.int i):=⟨.int i,.int i t,PySem.W.mg_of X G e,⟨t,rfl⟩,λH=>.int i⟩
theorem c5{d:Addr}{ts:List (Str×Tok)}{dd:Option Addr}{b:Array (Option Value)}(e:PySem.W.nsIn K mainGlobals x=some (some (.ref d)))(l:K.lookup d=some ⟨.type "tuple",none,.seq ((ts.map λp=>Value.str p.1 p.2).toArray) n,b⟩)(f:ts.length<=1000):
  Glb K mg x (.tup (ts.map λp=>.str p.1)):=by
 have c:∀ ts:List (Str×Tok),Vals (ts.map λp=>V.str p.1) (ts.map λp=>Value.str p.1 p.2):=λts=>by
  induction ts with
  | nil=>exact .nil
  | cons p ts a=>exact .cons ⟨p.2,rfl⟩ a
 have g:∀(H:Hp)(ts:List (Str×Tok)),TrL K H (ts.map λp=>V.str p.1) (ts.map λp=>W.str p.1):=λH ts=>by
  induction ts with
  | nil=>exact .nil
  | cons p ts a=>exact .cons (.str _) a
 refine⟨.ref d,.ref d,PySem.W.mg_of X G e,rfl,λH=>.tup (.inr ⟨_,_,n,l,rfl,rfl,rfl,?_,by simpa using c ts⟩) (g H ts)⟩
 simp only[Yn,Yh]
 exact Yt f (by decide)
end
theorem c6{h base:Heap}{mg:Str->Option Value}(X:K.In h)(G:h.Ns mainGlobals mg)(B:K.In base){x:Str}{d:Addr}{o:Obj}{es:Array DictEntry}{ep:Nat}{D:List (Str×Int)}(e:PySem.W.nsIn K mainGlobals x=some (some (.ref d)))(l:K.lookup d=some o)
  (hd:(d==sysModules)=false) (b:o.ExactDict) (a:o.data=.dict es ep) (c:KTD.Rows (KTD.Dat.At base) es.toList (D.map λp=>(p.1,KTD.Dat.flat (.int p.2)))):K6 mg base x D :=
 ⟨d,PySem.W.mg_of X G e,hd,o,es,ep,B _ _ l,b,a,c⟩
theorem c7{l:PySem.W.OpenLaw}{q:Program}{loose:List Str}{XP:(Str->Option Value)->Heap->Prop}{YP:World->Heap->Prop}{d:DefRec}{K:Params->PySem.W.Frag}{k:Nat}(j:Room k callerA)(g:l.most=some 63)(b:d.params.defaults=[])
  (i:∀(w:World)(h:Heap),YP w h->(K w.params).In h)
  (F:∀(w:World)(mg:Str->Option Value)(c:Addr)(h:Heap),(K w.params).In h->h.Ns mainGlobals mg->mg d.name=some (.ref c)->
   ∃ fd:FuncData,(∀(s:Shared)(u:Value),BindsTo s fd ⟨[u],[]⟩ [("script",u)])/\∀ base:Heap,(K w.params).In base->base.Ns mainGlobals mg->FnOk l.prog w (K w.params) mg base (CXe l.prog w) k c fd ["script"] (FD (K w.params) Ih)):
  PySem.W.WalkO q loose XP YP l.row.toRowW d [] (λf vs=>PySem.call f vs):=
 L2.Xm (n:=63) (k:=k) (x:="script") (CX:=λw=>CXe l.prog w) (sp:=λw=>FD (K w.params) Ih) g (by decide) b j i F (λw H a ns hl o m=>cZ hl o m) λw H s e s' z=>c0 z
variable {us:List Value}
theorem ln0(h:us.length=0):us=[]:=List.length_eq_zero_iff.mp h
theorem ln1(h:us.length=n+1):∃ a r,us=a::r/\r.length=n:=by
 cases us with
 | nil=>cases h
 | cons a r=>exact⟨a,r,rfl,Nat.succ.inj h⟩
end L3
namespace KS
open PySem L2 L3
mutual
inductive Kd where
 | any | num | truth
 | to (a b:Kd)| box (a:Kd)| row (fs:Fs) (o:Bool)
inductive Fs where
 | nil | cons (n:Str) (m:Bool) (k:Kd) (r:Fs)
end
def BQ(m:Bool):Str:=if m then "must" else "may"
mutual
def Kd.enc:Kd->W
 | .any=>.tup [.str "any"]
 | .num=>.tup [.str "num"]
 | .truth=>.tup [.str "truth"]
 | .to a b=>.tup [.str "to",a.enc,b.enc]
 | .box a=>.tup [.str "box",a.enc]
 | .row fs o=>.tup [.str "row",.tup fs.enc,.bl o]
def Fs.enc:Fs->List W
 | .nil=>[]
 | .cons n m k r=>.tup [.str n,.str (BQ m),k.enc]::r.enc
end
def Fs.kinds:Fs->List Kd
 | .nil=>[]
 | .cons _ _ k r=>k::r.kinds
def Fs.names:Fs->List Str
 | .nil=>[]
 | .cons n _ _ r=>n::r.names
def Kd.kids:Kd->List Kd
 | .to a b=>[a,b]
 | .box a=>[a]
 | .row fs _=>fs.kinds
 | _=>[]
mutual
def Kd.cnt:Kd->Nat
 | .to a b=>1+(a.cnt+b.cnt)
 | .box a=>1+a.cnt
 | .row fs _=>1+fs.cnt
 | _=>1
def Fs.cnt:Fs->Nat
 | .nil=>0
 | .cons _ _ k r=>k.cnt+r.cnt
end
mutual
def Kd.dp:Kd->Nat
 | .to a b=>1+max a.dp b.dp
 | .box a=>1+a.dp
 | .row fs _=>1+fs.dp
 | _=>1
def Fs.dp:Fs->Nat
 | .nil=>0
 | .cons _ _ k r=>max k.dp r.dp
end
mutual
def Kd.all:Kd->List Kd
 | .to a b=>.to a b::(a.all++b.all)
 | .box a=>.box a::a.all
 | .row fs o=>.row fs o::fs.all
 | .any=>[.any]
 | .num=>[.num]
 | .truth=>[.truth]
def Fs.all:Fs->List Kd
 | .nil=>[]
 | .cons _ _ k r=>k.all++r.all
end
def AM:List Kd->Nat
 | []=>0
 | k::r=>k.cnt+AM r
def dpL:List Kd->Nat
 | []=>0
 | k::r=>max k.dp (dpL r)
theorem Ii:∀ fs:Fs,fs.cnt=AM fs.kinds
 | .nil=>rfl
 | .cons _ _ k r=>by show k.cnt+r.cnt=k.cnt+AM r.kinds;rw[Ii r]
theorem PU:∀ fs:Fs,fs.dp=dpL fs.kinds
 | .nil=>rfl
 | .cons _ _ k r=>by show max k.dp r.dp=max k.dp (dpL r.kinds);rw[PU r]
theorem PV:∀ fs:Fs,fs.all=fs.kinds.flatMap Kd.all
 | .nil=>rfl
 | .cons _ _ k r=>by show k.all++r.all=(k::r.kinds).flatMap Kd.all;rw[PV r,Qa]
theorem Cf(k:Kd):k.cnt=1+AM k.kids:=by
 cases k with
 | to a b=>show 1+(a.cnt+b.cnt)=1+(a.cnt+(b.cnt+0));omega
 | box a=>show 1+a.cnt=1+(a.cnt+0);omega
 | row fs o=>show 1+fs.cnt=1+AM fs.kinds;rw[Ii]
 | _=>rfl
theorem FR(k:Kd):k.dp=1+dpL k.kids:=by
 cases k with
 | to a b=>show 1+max a.dp b.dp=1+max a.dp (max b.dp 0);omega
 | box a=>show 1+a.dp=1+max a.dp 0;omega
 | row fs o=>show 1+fs.dp=1+dpL fs.kinds;rw[PU]
 | _=>rfl
theorem PX(k:Kd):k.all=k::k.kids.flatMap Kd.all:=by
 cases k with
 | to a b=>show Kd.to a b::(a.all++b.all)=Kd.to a b::[a,b].flatMap Kd.all;simp[Qa]
 | box a=>show Kd.box a::a.all=Kd.box a::[a].flatMap Kd.all;simp[Qa]
 | row fs o=>show Kd.row fs o::fs.all=Kd.row fs o::fs.kinds.flatMap Kd.all;rw[PV]
 | _=>rfl
theorem PY:∀(l m:List Kd),AM (l++m)=AM l+AM m
 | [],m=>by simp[AM]
 | k::l,m=>by show k.cnt+AM (l++m)=k.cnt+AM l+AM m;rw[PY l m];omega
theorem PZ:∀(l m:List Kd),dpL (l++m)=max (dpL l) (dpL m)
 | [],m=>by simp[dpL]
 | k::l,m=>by show max k.dp (dpL (l++m))=max (max k.dp (dpL l)) (dpL m);rw[PZ l m];omega
theorem Ij(k:Kd):1<=k.cnt:=by rw[Cf];omega
theorem C1(k:Kd):1<=k.dp:=by rw[FR];omega
theorem P0:∀ l:List Kd,AM l=l.length+AM (l.flatMap Kd.kids)
 | []=>rfl
 | k::l=>by
  show k.cnt+AM l=(l.length+1)+AM ((k::l).flatMap Kd.kids)
  rw[Qa,PY,P0 l,Cf k];omega
theorem P1:∀ l:List Kd,l≠[]->dpL l=1+dpL (l.flatMap Kd.kids)
 | [],h=>absurd rfl h
 | [k],_=>by
  show max k.dp 0=1+dpL ([k].flatMap Kd.kids)
  rw[Qa,List.flatMap_nil,Yx,FR];omega
 | k::a::l,_=>by
  have b:=P1 (a::l) (by simp)
  show max k.dp (dpL (a::l))=1+dpL ((k::a::l).flatMap Kd.kids)
  rw[Qa,PZ,b,FR k];omega
theorem Ec:∀ l:List Kd,l.length<=AM l
 | []=>Yr _
 | k::l=>by have:=Ec l;have:=Ij k;show l.length+1<=k.cnt+AM l;omega
theorem GU:∀{l:List Kd}{k:Kd},k∈l->k.cnt<=AM l
 | a::l,k,h=>by
  show k.cnt<=a.cnt+AM l
  walk_at "pC"
  ·omega
  ·have:=GU h;omega
theorem EV:∀{l:List Kd}{k:Kd},k∈l->k.dp<=dpL l
 | a::l,k,h=>by
  show k.dp<=max a.dp (dpL l)
  walk_at "pC"
  ·omega
  ·have:=EV h;omega
theorem E6{k c:Kd}(h:c∈k.kids):c.dp+1<=k.dp:=by rw[FR k];have:=EV h;omega
theorem P3{k c:Kd}(h:c∈k.kids):c.cnt+1<=k.cnt:=by rw[Cf k];have:=GU h;omega
theorem c8(k:Kd):k.kids.length+1<=k.cnt:=by rw[Cf k];have:=Ec k.kids;omega
theorem Lm:∀ fs:Fs,fs.enc.length=fs.kinds.length
 | .nil=>rfl
 | .cons _ _ k r=>by show r.enc.length+1=r.kinds.length+1;rw[Lm r]
theorem c9:∀(n:Nat)(k:Kd),k.dp<=n->k.all.length=k.cnt:=by
 intro n
 induction n with
 | zero=>intro k h;have:=C1 k;omega
 | succ n b =>
  intro k h
  have key:∀ l:List Kd,(∀ c∈l,c.dp<=n)->(l.flatMap Kd.all).length=AM l:=by
   intro l
   induction l with
   | nil=>intro _;rfl
   | cons c l a =>
    intro hl
    rw[Qa,Yj,b c (hl c Ye),a (λd hd=>hl d (Yd _ hd))];rfl
  rw[PX,Yg,key k.kids (λc hc=>by have:=E6 hc;omega),Cf];omega
theorem Ln(k:Kd):k.all.length=k.cnt:=c9 k.dp k (Yr _)
def Kd.unk:Kd->Bool
 | .any=>true
 | .row _ o=>o
 | _=>false
def Kd.fb:Kd->Bool
 | .to _ _=>true
 | .box _=>true
 | _=>false
def Kd.known(k:Kd):Bool:=!(k.all.any Kd.unk)
def Kd.data(k:Kd):Bool:=!(k.all.any Kd.fb)
def Kd.hd:Kd->Str
 | .any=>"any"
 | .num=>"num"
 | .truth=>"truth"
 | .to _ _=>"to"
 | .box _=>"box"
 | .row _ _=>"row"
def Kd.own:Kd->List Str
 | .row _ o=>if o then["row","open"]else["row"]
 | k=>[k.hd]
def GV(z:Str):Bool:=!A6 z "a"&&!A6 "z" z
def AC(n:Str):Bool:=decide (1<=n.length)&&decide (n.length<=8)&&n.cps.toList.all λc=>GV ⟨#[c]⟩
def A3:List Str->Bool
 | a::b::r=>A6 a b&&A3 (b::r)
 | _=>true
mutual
def Kd.ok:Kd->Bool
 | .to a b=>a.ok&&b.ok
 | .box a=>a.ok
 | .row fs _=>A3 fs.names&&fs.ok
 | _=>true
def Fs.ok:Fs->Bool
 | .nil=>true
 | .cons n _ k r=>AC n&&k.ok&&r.ok
end
theorem P4:∀{fs:Fs},fs.ok=true->∀ c∈fs.kinds,c.ok=true
 | .nil,_,c,hc=>by cases hc
 | .cons n m k r,h,c,hc=>by
  have h':(AC n&&k.ok&&r.ok)=true:=h
  walk_at "pa"
  rcases Yo.mp hc with rfl | hc
  ·exact h'.1.2
  ·exact P4 h'.2 c hc
theorem GW{k:Kd}(h:k.ok=true):∀ c∈k.kids,c.ok=true:=by
 intro c hc
 cases k with
 | to a b =>
  have h':(a.ok&&b.ok)=true:=h
  walk_at "pa"
  have d:c=a\/c=b:=by simpa[Kd.kids]using hc
  rcases d with rfl | rfl
  ·exact h'.1
  ·exact h'.2
 | box a=>have d:c=a:=by simpa[Kd.kids]using hc
          subst d;exact h
 | row fs o =>
  have h':(A3 fs.names&&fs.ok)=true:=h
  walk_at "pa"
  exact P4 h'.2 c hc
 | _=>cases hc
theorem Bm(n:Bool)(i j:Int)(G:Hw):eqF n (.int i) (.int j) G=some (.bl ((i==j) != n)):=rfl
theorem Bn(n:Bool)(i j:Str)(G:Hw):eqF n (.str i) (.str j) G=some (.bl ((i==j) != n)):=rfl
open PySem PySem.Spec PyProof.Rows L2 L3
abbrev Lo:Stmt:=top 18
abbrev Lp:Stmt:=top 19
abbrev Lq:Stmt:=top 17
abbrev Lr:Stmt:=top 16
abbrev Ls:Stmt:=top 15
abbrev Lu:Stmt:=top 14
abbrev Lv:Stmt:=top 13
abbrev Ik:Stmt:=top 11
abbrev FT:Stmt:=top 10
abbrev Lw:Stmt:=top 9
abbrev Lx:Stmt:=top 12
abbrev Ly:Stmt:=top 27
abbrev Lz:Stmt:=top 28
abbrev LA:Stmt:=top 31
abbrev LC:Stmt:=top 33
abbrev LD:Stmt:=top 32
abbrev LF:Stmt:=top 30
abbrev LG:Stmt:=top 29
abbrev LH:Stmt:=top 26
abbrev GX:Stmt:=top 25
abbrev LI:Stmt:=top 37
abbrev LJ:Stmt:=top 38
abbrev LK:Stmt:=top 41
abbrev Il:Stmt:=top 42
abbrev Io:Stmt:=top 40
abbrev Iq:Stmt:=top 43
abbrev LM:Stmt:=top 44
abbrev GY:Stmt:=top 39
abbrev LN:Stmt:=top 35
abbrev LO:Stmt:=top 36
abbrev LP:Stmt:=top 46
abbrev LQ:Stmt:=top 47
abbrev LR:Stmt:=top 48
abbrev LS:Stmt:=top 49
abbrev GZ:Stmt:=top 50
abbrev Ir:Stmt:=top 51
abbrev LU:Stmt:=top 52
abbrev G0:Stmt:=top 53
abbrev LV:Stmt:=top 54
abbrev LW:Stmt:=top 55
abbrev LX:Stmt:=top 56
abbrev Iu:Stmt:=top 57
abbrev Iv:Stmt:=top 58
abbrev LY:Stmt:=top 59
abbrev LZ:Stmt:=top 60
abbrev L0:Stmt:=top 61
abbrev L1:Stmt:=top 62
abbrev L5:Stmt:=top 63
abbrev FU:Stmt:=top 64
def P5:List (Str×Int):=[("any",1),("num",1),("truth",1),("to",3),("box",2),("row",3)]
def AX:List (Str×List Str):=[("num",["number"]),("truth",["truth"]),("name",["name"]),("fun",["name","kind","term"]),("call",["term","term"]),("rec",["fields"]),("get",["term","name"]),("or",["term","name","term"]),("if",["term","term","term"]),("plus",["term","term"]),("less",["term","term"]),("new",["term"]),("read",["term"]),("write",["term","term"]),("as",["term","kind"])]
structure Adr where
 CastError:Addr
 NoTerm:Addr
structure Fns(K:PySem.W.Frag)(mg:Str->Option Value):Prop where
 da:Fn K mg Lo "is_small_letter" ["sign"]
 db:Fn K mg Lp "names_rise" ["names"]
 de:Fn K mg Lq "is_name" ["thing"]
 df:Fn K mg Lr "is_field" ["thing"]
 dg:Fn K mg Ls "are_fields" ["thing"]
 dh:Fn K mg Lu "has_form" ["thing"]
 di:Fn K mg Lv "kinds_within" ["kind"]
 P6:Fn K mg Ik "layer_within" ["layer","things_within"]
 P7:Fn K mg FT "is_made_of" ["thing","is_formed","things_within","most","deepest"]
 dj:Fn K mg Lw "is_kind" ["thing"]
 P8:Fn K mg Lx "kinds_in" ["kind"]
 dk:Fn K mg Ly "form_of" ["word"]
 dq:Fn K mg Lz "parts_of" ["term"]
 dr:Fn K mg LA "is_number" ["thing"]
 dt:Fn K mg LC "is_term_field" ["thing"]
 du:Fn K mg LD "are_term_fields" ["thing"]
 dv:Fn K mg LF "is_of_sort" ["thing","sort"]
 dw:Fn K mg LG "has_term_form" ["thing"]
 dy:Fn K mg LH "is_term" ["thing"]
 dz:Fn K mg GX "check_term" ["thing"]
 dA:Fn K mg LI "told_by" ["term"]
 P9:Fn K mg LJ "all_told" ["term"]
 dB:Fn K mg LK "with_one" ["things","number","thing"]
 dD:Fn K mg Il "with_kinds_within" ["kind","inner"]
 Qm:Fn K mg Io "less_kinds" ["kind"]
 dE:Fn K mg Iq "with_kind" ["term","kind"]
 dF:Fn K mg LM "with_parts" ["term","parts"]
 Qn:Fn K mg GY "less_terms" ["term"]
 dG:Fn K mg LN "forgettings" ["term"]
 dH:Fn K mg LO "kinds_told" ["term"]
 dI:Fn K mg LP "_law_state" ["script","k"]
 dJ:Fn K mg LQ "_law_take" ["state","many"]
 dL:Fn K mg LR "_law_whole" ["found"]
 Qo:Fn K mg LS "_law_kind" ["state","deep"]
 Qp:Fn K mg GZ "_law_least" ["state","want"]
 Qq:Fn K mg Ir "_law_dim" ["state","kind"]
 dM:Fn K mg LU "_law_blur" ["state","part"]
 dN:Fn K mg G0 "_law_by_name" ["state","want","names","deep"]
 Qr:Fn K mg LV "_law_term" ["state","want","names","deep"]
 dO:Fn K mg LW "_law_any_first" ["state","want","names","deep"]
 dP:Fn K mg LX "_law_around" ["state","want","names","deep"]
 dQ:Fn K mg Iu "_law_parts" ["term"]
 Qs:Fn K mg Iv "_law_size" ["term"]
 dR:Fn K mg LY "_law_drawn" ["state","want"]
 Qt:Fn K mg LZ "_law_less_kinds" ["kind"]
 Qu:Fn K mg L0 "_law_less_terms" ["term"]
 Qv:Fn K mg L1 "_law_count" ["kind"]
 Qw:Fn K mg L5 "_law_told" ["term"]
 dS:Fn K mg FU "law" ["script"]
structure Bls(mg:Str->Option Value):Prop where
 DA:mg "all"=none
 dU:mg "bool"=none
 L6:mg "dict"=none
 Qx:mg "enumerate"=none
 Qy:mg "int"=none
 FV:mg "isinstance"=none
 dV:mg "len"=none
 Qz:mg "list"=none
 QA:mg "max"=none
 L8:mg "range"=none
 Iw:mg "sorted"=none
 dW:mg "str"=none
 FW:mg "sum"=none
 FX:mg "tuple"=none
 Ed:mg "zip"=none
structure Tx(K:PySem.W.Frag)(mg:Str->Option Value)(base:Heap)(a:Adr):Prop extends Fns K mg,Bls mg where
 dX:mg "CastError"=some (.ref a.CastError)
 QB:mg "NoTerm"=some (.ref a.NoTerm)
 FY:PySem.W.excIn K a.NoTerm [.type "ValueError",.type "Exception",.type "BaseException",.type "object"] "ValueError.__new__"=true
 FZ:Glb K mg "MARKS" (.tup [(.str "must"),(.str "may")])
 F0:Glb K mg "MOST_DEPTH" (.int 8)
 F1:Glb K mg "MOST_KINDS" (.int 40)
 F2:Glb K mg "MOST_LETTERS" (.int 8)
 F3:Glb K mg "MOST_NUMBER" (.int 99999999999999999999)
 F4:Glb K mg "MOST_TERMS" (.int 40)
 F5:Glb K mg "MOST_TERM_DEPTH" (.int 10)
 QC:K6 mg base "LENGTHS" P5
 QD:Le K mg base "FORMS" AX
def Dn(P:Program)(w:World)(K:PySem.W.Frag)(mg:Str->Option Value)(base:Heap)(N:List Str)(x:Str)(st:Stmt)(k:Nat)(g:GS):Prop:=∀{f:Addr}{cdv:Value}{A:Around}{outer:List Env}{s:Shared}{H:Hp}{E:XK},Room k (A.deeper (envOfC x (Ar st) s.heap.objs.size f cdv))->Ssm (cxW P w K mg base N x (Ar st) f cdv A outer s H E).nox (λB=>B=H) (Cb st) g
variable {K:PySem.W.Frag}{mg:Str->Option Value}{base:Heap}{st:Stmt}{ps:List Str}{k n:Nat}{sp:Spw}
theorem mk0{P:Program}{w:World}{x:Str}{N:List Str}{g:GS}(Fx:Fn K mg st x ps)(c:ps.length=n)(S:AE N ps (Ar st))(b:sp.M)(len:∀ a G Q E,sp a G Q E->a.length=n)(d:Dn P w K mg base N x st k g)(ok:∀ a G(Q:Kw)(E:Addr->Hw->Prop),Kw.C Q->sp a G Q E->g (Av Q) (BX N a) G):Df P w K mg base x (k+1) n sp:=L3.mk0 Fx c S b len d ok
set_option hygiene false in
local macro_rules | `(tactic| walk_at "s") => `(tactic| exact ⟨rfl, rfl, rfl, by decide +kernel, rfl, by decide +kernel, by decide +kernel⟩)
set_option hygiene false in
local macro_rules | `(tactic| walk_at "c") => `(tactic| first | exact aC hu | exact aD hu | exact aE | exact cop_nin | exact aA | exact az | exact aB | exact K0 | exact bX | exact cop_isn | exact cop_inT hu | exact cop_nInT hu | exact cop_nInU hu | exact cop_isB | exact cop_inN hu | exact cop_inK | exact cop_ninK | exact cop_inS)
set_option hygiene false in
local macro_rules | `(tactic| walk_at "b") => `(tactic| first | refine BJ Dw (Ds rfl) rfl T.DA (by decide) rfl rfl rfl ?_ | refine Dr K5 (blt_dict rfl) rfl T.L6 (by decide) rfl rfl rfl ?_ | refine Dr OL (aO) rfl T.Qy (by decide) rfl rfl rfl ?_ | refine BJ bb (aI) rfl T.dV (by decide) rfl rfl rfl ?_ | refine Dr OK (aL) rfl T.Qz (by decide) rfl rfl rfl ?_ | refine BJ OJ (OC rfl) rfl T.QA (by decide) rfl rfl rfl ?_ | refine BJ Pt (blt_sorted) rfl T.Iw (by decide) rfl rfl rfl ?_ | refine BJ FJ (FG rfl) rfl T.FW (by decide) rfl rfl rfl ?_ | refine Dr FK (GF) rfl T.FX (by decide) rfl rfl rfl ?_ | refine Dr K5 (cY rfl) rfl T.L6 (by decide) rfl rfl rfl ?_ | refine BJ Pt (cu rfl) rfl T.Iw (by decide) rfl rfl rfl ?_ | refine FI (T := "tuple") (by decide) FK T.FX T.FV rfl rfl (by decide) rfl rfl rfl ?_ | refine FI (T := "list") (by decide) OK T.Qz T.FV rfl rfl (by decide) rfl rfl rfl ?_ | refine FI (T := "str") (by decide) bc T.dW T.FV rfl rfl (by decide) rfl rfl rfl ?_ | refine FI (T := "int") (by decide) OL T.Qy T.FV rfl rfl (by decide) rfl rfl rfl ?_ | refine FI (T := "bool") (by decide) bd T.dU T.FV rfl rfl (by decide) rfl rfl rfl ?_ | refine FI (T := "dict") (by decide) K5 T.L6 T.FV rfl rfl (by decide) rfl rfl rfl ?_ | refine bh T.QC rfl rfl rfl rfl rfl rfl rfl ?_ | refine Du aS rfl rfl rfl rfl rfl ?_ ?_ | refine Du EY rfl rfl rfl rfl rfl ?_ ?_ | refine Du bL rfl rfl rfl rfl rfl ?_ ?_ | exact E1 T.FZ rfl rfl | exact E1 T.F0 rfl rfl | exact E1 T.F1 rfl rfl | exact E1 T.F2 rfl rfl | exact E1 T.F3 rfl rfl | exact E1 T.F4 rfl rfl | exact E1 T.F5 rfl rfl)
set_option hygiene false in
local macro_rules | `(tactic| walk_at "v") => `(tactic| (first | (show Am _ _ _; first | exact Be | refine AU rfl ?_ ?_) | (show Em _ _ _; first | exact be rfl rfl rfl rfl | exact Gu | exact KM | refine ZQ (fun _ _ => rfl) ?_ ?_ | refine FE (by assumption) (hr.mono (by assumption)) rfl Dx rfl rfl rfl ?_ | refine KN ?_ | refine Od ?_ | exact ZJ | refine aF (by walk_at "c") rfl ?_ ?_ | refine D9 ?_ ?_ | refine ZM ?_ ?_ | refine ZO ?_ ?_ | refine Zip ?_ ?_ | refine bE ?_ ?_ | refine ZN ?_ ?_ | refine ZP ?_ ?_ | walk_at "b" | exact ZK | refine ZT ?_ ?_ ?_ | refine KP ?_ ?_ | refine ZR ?_ ?_ | refine KO ?_ | refine ZS ?_ | refine ZL ?_ ?_ | refine bB ?_ ?_ ?_ | refine ax ?_ ?_ ?_ | refine Oy (by walk_at "c") (by walk_at "c") rfl ?_ ?_ ?_ | refine b5 (fun _ _ => rfl) ?_ ?_ | exact cg | refine em_sortI rfl T.Iw rfl rfl rfl rfl ?_ | refine em_sortUD rfl T.Iw T.n_set rfl rfl rfl rfl rfl ?_ ?_) | (show Tm _ _ _; first | refine aG (by walk_at "c") rfl ?_ ?_ | refine Gx ?_ | refine Oe ?_ | refine Gv (fun _ => rfl) ?_ | refine aH (by walk_at "c") (by walk_at "c") rfl ?_ ?_ ?_) | (show Ssm _ _ _ _; first | refine Ax ?_ ?_ | exact Ct | refine A5 ?_) | (show Sm _ _ _ _; first | refine Bq ?_ | refine HR hN rfl rfl rfl ?_ | refine Cc ?_ ?_ ?_ | refine ET rfl ?_ | refine CW PassesOwn.never rfl (fun _ => rfl) ?_ ?_ ?_ | refine KY PassesOwn.never ?_ ?_ | refine bf hN rfl rfl ?_ | refine au (fun _ => rfl) rfl rfl rfl ?_ ?_ ?_ | refine cm rfl rfl rfl ?_ ?_ | refine bp hN rfl rfl rfl rfl ?_ | exact sm_pass | exact sm_never | refine cc (fun _ => rfl) rfl rfl rfl ?_ ?_ ?_) | (show Wm _ _ _; first | refine ZV ?_ ?_ | refine KQ ?_ ?_ | refine ZU ?_ | refine Of ?_) | (show Im _ _ _ _; first | refine im_seq ?_ | refine ZW (fun _ _ => rfl) ?_ | refine a5 T.L8 rfl rfl ?_) | (show Om _ _ _; first | exact av | refine aw ?_) | (show Fm _ _ _; first | exact Bc | refine bg ?_) | exact N4 hN rfl (.inl rfl) (.inr rfl) | exact bq rfl hN rfl (.inl rfl) (.inr rfl) rfl (.inl rfl) (.inr rfl) rfl (.inl rfl) (.inr rfl) | exact N5 rfl hN rfl (.inl rfl) (.inr rfl) rfl (.inl rfl) (.inr rfl) | exact N5 rfl hN rfl (.inr rfl) (.inl rfl) rfl (.inl rfl) (.inr rfl) | exact N4 hN rfl (.inr rfl) (.inl rfl)) <;> walk_at "v")
set_option hygiene false in
local macro_rules | `(tactic| walk_at "z") => `(tactic| (intro f cdv A outer s H E hr; have hu := A7 hr; walk_at "v"))
variable {P:Program} {w:World} {K:PySem.W.Frag} {mg:Str->Option Value} {base:Heap} {a:Adr}
abbrev QE:List Str:=["sign"]
theorem QF:AE QE ["sign"] (Ar Lo):=by walk_at "s"
def QG:GS:=(Ai (Cy (A9 (λi j=>decide (i<=j)) (λa b=>!A6 b a)) (A9 (λi j=>decide (i<=j)) (λa b=>!A6 b a)) (gC (.str "a")) (Ab 0) (gC (.str "z"))))
theorem dY(T:Tx K mg base a):Dn P w K mg base QE "is_small_letter" Lo k (QG):=by
 have hN:=QF.nd
 walk_at "z"
abbrev QH:List Str:=["names"]
theorem QI:AE QH ["names"] (Ar Lp):=by walk_at "s"
def QJ:GS:=(Ai (gB (rF By) (Aa (AQ (Dv (Aa (Ab 0) (Aa (gSl (Ab 0) (AG (gC (.int 1))) AF) Ac))) 2 (AY 0 1) AA (Ad (A9 (λi j=>decide (i < j)) A6) (Ab 0) (Ab 1))) Ac)))
theorem dZ(T:Tx K mg base a):Dn P w K mg base QH "names_rise" Lp k (QJ):=λ{f cdv A outer s H E}hr=>
 have hu:=A7 hr
 have hN:=QI.nd
 (A5 (Bq (BJ Dw (Ds rfl) rfl T.DA (by decide) rfl rfl rfl (AU rfl (BL (Nc:=["one","other"]) rfl (BF rfl (by decide +kernel) (by decide +kernel)) (λ_=>rfl) (ba T.Ed rfl rfl rfl (by walk_at "v")) (Gp (i:=0) (j:=1) rfl (by decide) rfl rfl rfl rfl) (λC fp s1 H1=>Bc) (λC fp s1 H1=>(by walk_at "v"))) Be))))
abbrev QK:List Str:=["thing"]
theorem QL:AE QK ["thing"] (Ar Lq):=by walk_at "s"
def QM(Iy:Spw):GS:=(Af (gIf (gOr (gNt (AO (A2 "str" (Ab 0)))) (gNt (gTB (Cy (A9 (λi j=>decide (i<=j)) (λa b=>!A6 b a)) (A9 (λi j=>decide (i<=j)) (λa b=>!A6 b a)) (gC (.int 1)) (gB (rF AZ) (Aa (Ab 0) Ac)) (gC (.int 8)))))) (Ai (gC (.bl false))) Al) (Ai (gB (rF By) (Aa (AQ (Au (Ab 0)) 1 (gNm 0) AA (Ag Iy XF (Aa (Ab 0) Ac))) Ac))))
theorem d0(T:Tx K mg base a){Iz:Nat}{Iy:Spw}(iC:Df P w K mg base "is_small_letter" Iz 1 Iy)(iD:Iz<=k):Dn P w K mg base QK "is_name" Lq k (QM Iy):=λ{f cdv A outer s H E}hr=>
 have hu:=A7 hr
 have hN:=QL.nd
 (Ax (by walk_at "v") (A5 (Bq (BJ Dw (Ds rfl) rfl T.DA (by decide) rfl rfl rfl (AU rfl (BL (Nc:=["sign"]) rfl (BF rfl (by decide +kernel) (by decide +kernel)) (λ_=>rfl) (by walk_at "v") (B8 (i:=0) (by decide) rfl rfl) (λC fp s1 H1=>Bc) (λC fp s1 H1=>(by walk_at "v"))) Be)))))
abbrev QN:List Str:=["thing"]
theorem QO:AE QN ["thing"] (Ar Lr):=by walk_at "s"
def QP(Cg:Spw):GS:=(Af (gIf (gOr (gNt (AO (A2 "tuple" (Ab 0)))) (gTB (Ad (Ae (eqF true)) (gB (rF AZ) (Aa (Ab 0) Ac)) (gC (.int 3))))) (Ai (gC (.bl false))) Al) (Ai (B2 (Ag Cg XF (Aa (Ad (Ae ixW) (Ab 0) (gC (.int 0))) Ac)) (Ad (Ae (inF false)) (Ad (Ae ixW) (Ab 0) (gC (.int 1))) (gC (.tup [(.str "must"),(.str "may")]))))))
variable {Cg:Spw}
theorem d3(T:Tx K mg base a){CK:Nat}(QQ:Df P w K mg base "is_name" CK 1 Cg)(QR:CK<=k):Dn P w K mg base QN "is_field" Lr k (QP Cg):=by
 have hN:=QO.nd
 walk_at "z"
abbrev QS:List Str:=["thing"]
theorem QT:AE QS ["thing"] (Ar Ls):=by walk_at "s"
def QU(IA:Spw)(DB:Spw):GS:=(Af (gIf (gNt (AO (A2 "tuple" (Ab 0)))) (Ai (gC (.bl false))) Al) (Ai (B2 (gB (rF By) (Aa (AQ (Au (Ab 0)) 1 (gNm 0) AA (Ag IA XF (Aa (Ab 0) Ac))) Ac)) (Ag DB XF (Aa (AQ (Au (Ab 0)) 1 (gNm 0) AA (Ad (Ae ixW) (Ab 0) (gC (.int 0)))) Ac)))))
variable {DB:Spw}
theorem d4(T:Tx K mg base a){IB:Nat}{IA:Spw}(iE:Df P w K mg base "is_field" IB 1 IA)(iF:IB<=k){Ee:Nat}(L9:Df P w K mg base "names_rise" Ee 1 DB)(Ma:Ee<=k):Dn P w K mg base QS "are_fields" Ls k (QU IA DB):=λ{f cdv A outer s H E}hr=>
 have hu:=A7 hr
 have hN:=QT.nd
 (Ax (by walk_at "v") (A5 (Bq (KP (BJ Dw (Ds rfl) rfl T.DA (by decide) rfl rfl rfl (AU rfl (BL (Nc:=["part"]) rfl (BF rfl (by decide +kernel) (by decide +kernel)) (λ_=>rfl) (by walk_at "v") (B8 (i:=0) (by decide) rfl rfl) (λC fp s1 H1=>Bc) (λC fp s1 H1=>(by walk_at "v"))) Be)) (KO (FE L9 (hr.mono Ma) rfl Dx rfl rfl rfl (AU rfl (BL (Nc:=["part"]) rfl (BF rfl (by decide +kernel) (by decide +kernel)) (λ_=>rfl) (by walk_at "v") (B8 (i:=0) (by decide) rfl rfl) (λC fp s1 H1=>Bc) (λC fp s1 H1=>(by walk_at "v"))) Be)))))))
local macro_rules | `(tactic| walk_at "rd") => `(tactic| ((try dsimp only [Af,gIf,Ai,An,Aw,Al,Ab,gC,Ad,gTB,AO,gNt,A1,gOr,B2,C9,Da,BH,Ah,Ap,Aa,Ac,Ag,gB,rF,Ae,A2,gMt,B3,Cy,A9,Bb,Ay,L3.Bo,BY,gSl,AG,AF,AQ,Au,Dv,Av,BX,List.map_cons,List.map_nil,List.length_cons,List.length_nil,List.cons_append,List.nil_append,List.getElem?_cons_zero,List.getElem?_cons_succ,List.set_cons_zero,List.set_cons_succ,List.replicate,BG,tyN,Ak,Bf,A0,B0,ixW,Bm,Bn,AZ,B9,By,List.getElem?_nil]); (try simp only [Af,gIf,Ai,An,Aw,Al,Ab,gC,Ad,gTB,AO,gNt,A1,gOr,B2,C9,Da,BH,Ah,Ap,Aa,Ac,Ag,gB,rF,Ae,A2,gMt,B3,Cy,A9,Bb,Ay,L3.Bo,BY,gSl,AG,AF,AQ,Au,Dv,Av,BX,List.map_cons,List.map_nil,List.length_cons,List.length_nil,List.cons_append,List.nil_append,List.getElem?_cons_zero,List.getElem?_cons_succ,List.set_cons_zero,List.set_cons_succ,List.replicate,BG,tyN,Ak,Bf,A0,B0,ixW,Bm,Bn,AZ,B9,By,List.getElem?_nil])))
abbrev d5:Spw:=spR (λ(z:Str)ws _=>ws=[.str z]) λz=>.bl (GV z)
theorem Iz(T:Tx K mg base a):Df P w K mg base "is_small_letter" 1 1 d5:=by
 refine mk0 T.da rfl QF Bu ((by rintro b G Q E ⟨z,e,_⟩;rw[e];rfl)) (dY T) λb G Q E c q=>?_
 obtain⟨z,rfl,q⟩:=q
 unfold QG
 walk_at "rd"
 dsimp only at q
 unfold GV at q
 walk_at "pb"
 ·rw[h]at q;simpa using q
 ·rw[Bool.eq_false_iff.mpr h]at q;simpa using q
theorem QV:∀ ns:List Str,A3 ns=((ns.zip (ns.drop 1)).map λx=>A6 x.1 x.2).all id
 | []=>rfl
 | [_]=>rfl
 | a::b::r=>by
  show(A6 a b&&A3 (b::r))=_
  rw[QV (b::r)];rfl
abbrev d6:Spw:=spR (λ(ns:List Str)ws G=>∃ p,ws=[.ref p]/\G p=some (.lst (ns.map W.str))/\ns.length<=1000) λns=>.bl (A3 ns)
def ltW(x y:W):W:=match x,y with | .str a,.str b=>.bl (A6 a b)| _,_=>.non
theorem Ee(T:Tx K mg base a):Df P w K mg base "names_rise" 1 1 d6:=by
 refine mk0 T.db rfl QI Bu ((by rintro j G Q E ⟨ns,⟨p,e,_⟩,_⟩;rw[e];rfl)) (dZ T) λj G Q E k q=>?_
 obtain⟨ns,⟨p,rfl,b,hl⟩,q⟩:=q
 unfold QJ
 walk_at "rd"
 refine Ll b λp1 h1=>?_
 have d:=AI b h1
 have c:rdL (put G p1 (.lst (BI (ns.map W.str) (some 1) none))) (.ref p)=some (ns.map W.str):=CI (by rw[Aq d];exact b)
 have g:rdL (put G p1 (.lst (BI (ns.map W.str) (some 1) none))) (.ref p1)=some (BI (ns.map W.str) (some 1) none):=CI Aj
 simp only[c,g]
 rw[CJ,<- List.map_drop,PQ,List.zip_map,YB]
 have l:((λx:W×W=>W.tup [x.1,x.2])∘Prod.map W.str W.str)=(λx:W×W=>W.tup [x.1,x.2])∘λx:Str×Str=>(W.str x.1,W.str x.2):=rfl
 rw[l,<- YB]
 refine PP (f:=ltW) ⟨by rw[CJ,<- List.map_drop]at c;exact c,by rw[CJ,<- List.map_drop]at g;exact g⟩ _ none none [] (λx h n m=>?_) ?_ ?_
 ·obtain⟨y,o,rfl⟩:=YC.mp h
  exact m
 ·rw[Yh,List.length_zip]
  exact AT (by simp only[Yi];omega)
 ·intro p2 h2
  rw[YB]
  have i:((λx:W×W=>ltW x.1 x.2)∘λx:Str×Str=>(W.str x.1,W.str x.2))=W.bl∘λx:Str×Str=>A6 x.1 x.2:=rfl
  rw[i,<- YB,Yw]
  walk_at "pw"
  rw[<- QV]
  exact k _ _ _ (BD (AB h1) h2) q
abbrev d9:Spw:=spR (λ(z:Str)ws _=>ws=[.str z]/\z.length<=100000) λz=>.bl (AC z)
def QW(x:W):W:=match x with | .str z=>.bl (GV z)| _=>.non
theorem CK(T:Tx K mg base a):Df P w K mg base "is_name" 2 1 d9:=by
 refine mk0 T.de rfl QL Bu ((by rintro m G Q E ⟨z,⟨e,_⟩,_⟩;rw[e];rfl)) (d0 T (Iz T) (Yr _)) λm G Q E n q=>?_
 obtain⟨z,⟨rfl,h⟩,q⟩:=q
 unfold QM
 walk_at "rd"
 have g:z.length<=sizeLine:=AT h
 have l:Bt "str" "str"=true:=by decide
 simp only[l,g,if_true,Ak,YE,Yq,if_false]
 unfold AC at q
 by_cases h1:1<=z.length
 ·by_cases i:z.length<=8
  ·have b:(1:Int)<=(z.length:Int):=by omega
   have d:(z.length:Int)<=8:=by omega
   simp only[b,d,decide_true,if_true,YE,Yq,if_false]
   refine Dz (f:=QW) trivial (ES z) none [] (λx o s r=>?_) ?_ ?_
   ·obtain⟨c,hc,rfl⟩:=YC.mp o
    exact⟨_,rfl,r⟩
   ·rw[ES,Yh]
    exact AT (by show 0+z.cps.toList.length<=100000;rw[Nat.zero_add];simpa[Str.length]using h)
   ·intro p k
    have j:(ES z).map QW=(z.cps.toList.map λc=>GV ⟨#[c]⟩).map W.bl:=by
     unfold ES;rw[YB,YB];rfl
    rw[Yw,j]
    walk_at "pw"
    rw[List.all_map]
    simp only[h1,i,decide_true,Bool.true_and]at q
    exact n _ _ _ (AB k) q
  ·have b:(1:Int)<=(z.length:Int):=by omega
   have d:¬ (z.length:Int)<=8:=by omega
   simp only[h1,i,decide_true,decide_false,Bool.true_and,Bool.false_and]at q
   simp only[b,d,decide_true,decide_false,if_true,YL,Yq,if_false]
   exact q
 ·have b:¬ (1:Int)<=(z.length:Int):=by omega
  simp only[h1,decide_false,Bool.false_and]at q
  simp only[b,decide_false,if_true,YL,Yq,if_false]
  exact q
abbrev QX:List Str:=["thing"]
theorem QY:AE QX ["thing"] (Ar Lu):=by walk_at "s"
def QZ(IC:Spw):GS:=(Af (gIf (gOr (gNt (AO (A2 "tuple" (Ab 0)))) (gOr (gTB (Ad (Ae (eqF false)) (gB (rF AZ) (Aa (Ab 0) Ac)) (gC (.int 0)))) (gNt (AO (A2 "str" (Ad (Ae ixW) (Ab 0) (gC (.int 0)))))))) (Ai (gC (.bl false))) Al) (Af (gIf (gTB (Ad (Ae (eqF true)) (gB (rF AZ) (Aa (Ab 0) Ac)) (FL P5 (Ad (Ae ixW) (Ab 0) (gC (.int 0)))))) (Ai (gC (.bl false))) Al) (Ai (C9 (Ad (Ae (eqF true)) (Ad (Ae ixW) (Ab 0) (gC (.int 0))) (gC (.str "row"))) (B2 (Ag IC XF (Aa (Ad (Ae ixW) (Ab 0) (gC (.int 1))) Ac)) (A2 "bool" (Ad (Ae ixW) (Ab 0) (gC (.int 2)))))))))
theorem ee(T:Tx K mg base a){ID:Nat}{IC:Spw}(iG:Df P w K mg base "are_fields" ID 1 IC)(iH:ID<=k):Dn P w K mg base QX "has_form" Lu k (QZ IC):=by
 have hN:=QY.nd
 walk_at "z"
abbrev Q0:List Str:=["kind"]
theorem Q1:AE Q0 ["kind"] (Ar Lv):=by walk_at "s"
def Q2:GS:=(Af (gIf (gTB (Ad (Ae (eqF false)) (Ad (Ae ixW) (Ab 0) (gC (.int 0))) (gC (.str "row")))) (Ai (AQ (Au (Ad (Ae ixW) (Ab 0) (gC (.int 1)))) 1 (gNm 0) AA (Ad (Ae ixW) (Ab 0) (gC (.int 2))))) Al) (Ai (gB (FH) (Aa (gSl (Ab 0) (AG (gC (.int 1))) AF) Ac))))
theorem ef(T:Tx K mg base a):Dn P w K mg base Q0 "kinds_within" Lv k (Q2):=λ{f cdv A outer s H E}hr=>
 have hu:=A7 hr
 have hN:=Q1.nd
 (Ax (Cc (by walk_at "v") (A5 (Bq (BL (Nc:=["field"]) rfl (BF rfl (by decide +kernel) (by decide +kernel)) (λ_=>rfl) (by walk_at "v") (B8 (i:=0) (by decide) rfl rfl) (λC fp s1 H1=>Bc) (λC fp s1 H1=>(by walk_at "v"))))) Ct) (by walk_at "v"))
abbrev Mb:List Str:=["layer","things_within","found","thing"]
theorem IE:AE Mb ["layer","things_within"] (Ar Ik):=by walk_at "s"
def Q3(mg:Str->Option Value)(BU:Spw):GS:=(Af (An 2 (Ap Ac)) (Af (AD (Au (Ab 0)) (gNm 3) (Aw (gMt AH Bz (Ab 2) (Aa (CZ 1 (fAt mg "kinds_within") BU XF (Aa (Ab 3) Ac)) Ac)))) (Ai (Ab 2))))
variable {BU:Spw}
theorem eg(T:Tx K mg base a){B5:Nat}(Ha:Df P w K mg base "kinds_within" B5 1 BU)(IF:B5<=k):Dn P w K mg base Mb "layer_within" Ik k (Q3 mg BU):=λ{f cdv A outer s H E}hr=>
 have hu:=A7 hr
 have hN:=IE.nd
 (Ax (by walk_at "v") (Ax (CW PassesOwn.never rfl (λ_=>rfl) (by walk_at "v") (by walk_at "v") (A5 (ET rfl (Du EY rfl rfl rfl rfl rfl (by walk_at "v") (AU rfl (HV (i:=1) Ha (hr.mono IF) rfl rfl Dx rfl rfl rfl rfl (by walk_at "v")) Be))))) (by walk_at "v")))
abbrev Mc:List Str:=["thing","is_formed","things_within","most","deepest","layer","count","depth"]
theorem IG:AE Mc ["thing","is_formed","things_within","most","deepest"] (Ar FT):=by walk_at "s"
def Q4(mg:Str->Option Value)(Ef:Spw)(DC:Spw):GS:=(Af (An 5 (Ap (Aa (Ab 0) Ac))) (Af (An 6 (gC (.int 0))) (Af (An 7 (gC (.int 0))) (Af (GC (gTB (Ad (Bb λi j=>decide (j < i)) (gB (rF AZ) (Aa (Ab 5) Ac)) (gC (.int 0)))) (Af (B3 6 BY (gB (rF AZ) (Aa (Ab 5) Ac))) (Af (B3 7 BY (gC (.int 1))) (Af (gIf (gOr (gTB (Ad (Bb λi j=>decide (j < i)) (Ab 6) (Ab 3))) (gTB (Ad (Bb λi j=>decide (j < i)) (Ab 7) (Ab 4)))) (Ai (gC (.bl false))) Al) (Af (gIf (gNt (AO (gB (rF By) (Aa (AW (Au (Ab 5)) 1 [1] (gNm 0) AA (CZ 1 (fAt mg "has_form") Ef XF (Aa (Ab 0) Ac))) Ac)))) (Ai (gC (.bl false))) Al) (An 5 (Ag DC XF (Aa (Ab 5) (Aa (Ab 2) Ac))))))))) (Ai (gC (.bl true)))))))
variable {Ef DC:Spw}
theorem eh(T:Tx K mg base a){Eg:Nat}(Me:Df P w K mg base "has_form" Eg 1 Ef)(Q5:Eg<=k){E7:Nat}(ei:Df P w K mg base "layer_within" E7 2 DC)(ej:E7<=k):Dn P w K mg base Mc "is_made_of" FT k (Q4 mg Ef DC):=λ{f cdv A outer s H E}hr=>
 have hu:=A7 hr
 have hN:=IG.nd
 (Ax (by walk_at "v") (Ax (by walk_at "v") (Ax (by walk_at "v") (Ax (KY PassesOwn.never (by walk_at "v") (Ax (by walk_at "v") (Ax (by walk_at "v") (Ax (by walk_at "v") (Ax (Cc (Gx (Gv (λ_=>rfl) (BJ Dw (Ds rfl) rfl T.DA (by decide) rfl rfl rfl (AU rfl (Dg rfl (Ce (own:=["part"]) (fr:=["is_formed"]) (js:=[1]) (scX:=Ar FT) (n:=s.heap.objs.size+1) rfl (by decide +kernel) (by decide +kernel) (by decide +kernel) (by decide +kernel) rfl rfl rfl (by decide +kernel) rfl) (λ_=>rfl) (by walk_at "v") (CG (i:=0) (by decide) rfl rfl) (λC fp s1 H1=>Bc) (λC fp s1 H1=>(HV (i:=1) Me (hr.mono Q5) rfl rfl Dx rfl rfl rfl rfl (by walk_at "v")))) Be)))) (by walk_at "v") Ct) (by walk_at "v")))))) (by walk_at "v")))))
abbrev Q6:List Str:=["thing"]
theorem Q7:AE Q6 ["thing"] (Ar Lw):=by walk_at "s"
def Q8(mg:Str->Option Value)(Ef:Spw)(BU:Spw)(DD:Spw):GS:=(Ai (Ag DD XF (Aa (Ab 0) (Aa (gC (.ref (fAt mg "has_form"))) (Aa (gC (.ref (fAt mg "kinds_within"))) (Aa (gC (.int 40)) (Aa (gC (.int 8)) Ac)))))))
variable {DD:Spw}
theorem em(T:Tx K mg base a){Eg:Nat}(Me:Df P w K mg base "has_form" Eg 1 Ef)(Q5:Eg<=k){B5:Nat}(Ha:Df P w K mg base "kinds_within" B5 1 BU)(IF:B5<=k){E8:Nat}(Mf:Df P w K mg base "is_made_of" E8 5 DD)(Mg:E8<=k):Dn P w K mg base Q6 "is_kind" Lw k (Q8 mg Ef BU DD):=λ{f cdv A outer s H E}hr=>
 have hu:=A7 hr
 have hN:=Q7.nd
 (A5 (Bq (FE Mf (hr.mono Mg) rfl Dx rfl rfl rfl (AU rfl (by walk_at "v") (AU rfl (HX Me rfl rfl) (AU rfl (HX Ha rfl rfl) (by walk_at "v")))))))
abbrev Q9:List Str:=["kind","found","inner"]
theorem Ra:AE Q9 ["kind"] (Ar Lx):=by walk_at "s"
def Rb(BU:Spw)(DE:Spw):GS:=(Af (An 1 (Ap (Aa (Ab 0) Ac))) (Af (AD (Au (Ag BU XF (Aa (Ab 0) Ac))) (gNm 2) (Aw (gMt AH Bz (Ab 1) (Aa (Ag DE XF (Aa (Ab 2) Ac)) Ac)))) (Ai (Ab 1))))
variable {DE:Spw}
theorem eo(T:Tx K mg base a){B5:Nat}(Ha:Df P w K mg base "kinds_within" B5 1 BU)(IF:B5<=k){Eh:Nat}(er:Df P w K mg base "kinds_in" Eh 1 DE)(et:Eh<=k):Dn P w K mg base Q9 "kinds_in" Lx k (Rb BU DE):=by
 have hN:=Ra.nd
 walk_at "z"
def Rc(mg:Str->Option Value)(BV:Spw):GS:=(Af (An 2 (Ap Ac)) (Af (AD (Au (Ab 0)) (gNm 3) (Aw (gMt AH Bz (Ab 2) (Aa (CZ 1 (fAt mg "parts_of") BV XF (Aa (Ab 3) Ac)) Ac)))) (Ai (Ab 2))))
variable {BV:Spw}
theorem eu(T:Tx K mg base a){B6:Nat}(Hb:Df P w K mg base "parts_of" B6 1 BV)(IH:B6<=k):Dn P w K mg base Mb "layer_within" Ik k (Rc mg BV):=λ{f cdv A outer s H E}hr=>
 have hu:=A7 hr
 have hN:=IE.nd
 (Ax (by walk_at "v") (Ax (CW PassesOwn.never rfl (λ_=>rfl) (by walk_at "v") (by walk_at "v") (A5 (ET rfl (Du EY rfl rfl rfl rfl rfl (by walk_at "v") (AU rfl (HV (i:=1) Hb (hr.mono IH) rfl rfl Dx rfl rfl rfl rfl (by walk_at "v")) Be))))) (by walk_at "v")))
def Re(mg:Str->Option Value)(Ei:Spw)(DC:Spw):GS:=(Af (An 5 (Ap (Aa (Ab 0) Ac))) (Af (An 6 (gC (.int 0))) (Af (An 7 (gC (.int 0))) (Af (GC (gTB (Ad (Bb λi j=>decide (j < i)) (gB (rF AZ) (Aa (Ab 5) Ac)) (gC (.int 0)))) (Af (B3 6 BY (gB (rF AZ) (Aa (Ab 5) Ac))) (Af (B3 7 BY (gC (.int 1))) (Af (gIf (gOr (gTB (Ad (Bb λi j=>decide (j < i)) (Ab 6) (Ab 3))) (gTB (Ad (Bb λi j=>decide (j < i)) (Ab 7) (Ab 4)))) (Ai (gC (.bl false))) Al) (Af (gIf (gNt (AO (gB (rF By) (Aa (AW (Au (Ab 5)) 1 [1] (gNm 0) AA (CZ 1 (fAt mg "has_term_form") Ei XF (Aa (Ab 0) Ac))) Ac)))) (Ai (gC (.bl false))) Al) (An 5 (Ag DC XF (Aa (Ab 5) (Aa (Ab 2) Ac))))))))) (Ai (gC (.bl true)))))))
variable {Ei:Spw}
theorem ey(T:Tx K mg base a){Ej:Nat}(Mh:Df P w K mg base "has_term_form" Ej 1 Ei)(Rf:Ej<=k){E7:Nat}(ei:Df P w K mg base "layer_within" E7 2 DC)(ej:E7<=k):Dn P w K mg base Mc "is_made_of" FT k (Re mg Ei DC):=λ{f cdv A outer s H E}hr=>
 have hu:=A7 hr
 have hN:=IG.nd
 (Ax (by walk_at "v") (Ax (by walk_at "v") (Ax (by walk_at "v") (Ax (KY PassesOwn.never (by walk_at "v") (Ax (by walk_at "v") (Ax (by walk_at "v") (Ax (by walk_at "v") (Ax (Cc (Gx (Gv (λ_=>rfl) (BJ Dw (Ds rfl) rfl T.DA (by decide) rfl rfl rfl (AU rfl (Dg rfl (Ce (own:=["part"]) (fr:=["is_formed"]) (js:=[1]) (scX:=Ar FT) (n:=s.heap.objs.size+1) rfl (by decide +kernel) (by decide +kernel) (by decide +kernel) (by decide +kernel) rfl rfl rfl (by decide +kernel) rfl) (λ_=>rfl) (by walk_at "v") (CG (i:=0) (by decide) rfl rfl) (λC fp s1 H1=>Bc) (λC fp s1 H1=>(HV (i:=1) Mh (hr.mono Rf) rfl rfl Dx rfl rfl rfl rfl (by walk_at "v")))) Be)))) (by walk_at "v") Ct) (by walk_at "v")))))) (by walk_at "v")))))
local macro_rules | `(tactic| walk_at "rd") => `(tactic| ((try dsimp only [Af,gIf,Ai,An,Aw,Al,Ab,gC,Ad,gTB,AO,gNt,A1,gOr,B2,C9,Da,BH,Ah,Ap,Aa,Ac,Ag,gB,rF,Ae,A2,gMt,B3,EX,Cy,A9,Bb,Ay,L3.Bo,BY,gSl,AG,AF,AQ,Au,Dv,CF,AD,FL,Cw,Av,BX,List.map_cons,List.map_nil,List.length_cons,List.length_nil,List.cons_append,List.nil_append,List.getElem?_cons_zero,List.getElem?_cons_succ,List.set_cons_zero,List.set_cons_succ,List.replicate,BG,tyN,Ak,Bf,A0,B0,ixW,Bm,Bn,AZ,B9,By,BK,Dt,List.getElem?_nil]); (try simp only [Af,gIf,Ai,An,Aw,Al,Ab,gC,Ad,gTB,AO,gNt,A1,gOr,B2,C9,Da,BH,Ah,Ap,Aa,Ac,Ag,gB,rF,Ae,A2,gMt,B3,EX,Cy,A9,Bb,Ay,L3.Bo,BY,gSl,AG,AF,AQ,Au,Dv,CF,AD,FL,Cw,Av,BX,List.map_cons,List.map_nil,List.length_cons,List.length_nil,List.cons_append,List.nil_append,List.getElem?_cons_zero,List.getElem?_cons_succ,List.set_cons_zero,List.set_cons_succ,List.replicate,BG,tyN,Ak,Bf,A0,B0,ixW,Bm,Bn,AZ,B9,By,BK,Dt,List.getElem?_nil])))
abbrev ez:Spw:=spR (λ(x:Str×Bool×W)ws _=>ws=[.tup [.str x.1,.str (BQ x.2.1),x.2.2]]/\AC x.1=true) λ_=>.bl true
theorem Mi{n:Str}(h:AC n=true):n.length<=8:=by
 unfold AC at h
 simp only[YF,YN]at h
 exact h.1.2
theorem eA(b:Bool)(G:Hw):inF false (.str (BQ b)) (.tup [.str "must",.str "may"]) G=some (.bl true):=by cases b <;> kernel_rfl
theorem IB(T:Tx K mg base a):Df P w K mg base "is_field" 3 1 ez:=by
 refine mk0 T.df rfl QO Bu ((by rintro f G Q E ⟨x,⟨e,_⟩,_⟩;rw[e];rfl)) (d3 T (CK T) (Yr _)) λf G Q E g q=>?_
 obtain⟨⟨n,b,k⟩,⟨rfl,c⟩,q⟩:=q
 have hl:n.length<=8:=Mi c
 dsimp only at q c
 unfold QP
 walk_at "rd"
 have d:Bt "tuple" "tuple"=true:=by decide
 simp only[d,YE,Yq,if_false]
 refine⟨n,⟨rfl,by omega⟩,?_⟩
 dsimp only
 rw[c]
 simp only[if_true,eA,Ak]
 exact q
theorem Hd(k:Kd):∃ xs,k.enc=.tup (.str k.hd::xs):=by cases k <;> exact⟨_,rfl⟩
abbrev eB:Spw:=spR (λ(fs:Fs)ws _=>ws=[.tup fs.enc]/\fs.ok=true/\A3 fs.names=true/\fs.cnt<=1000) λ_=>.bl true
def F6(x:W):W:=match x with | .tup (n::_)=>n | _=>.non
theorem Mj:∀{fs:Fs}{x:W},fs.ok=true->x∈fs.enc->∃ n b k,x=.tup [.str n,.str (BQ b),k]/\AC n=true
 | .nil,x,_,h=>by cases h
 | .cons n m k r,x,a,h=>by
  have h':(AC n&&k.ok&&r.ok)=true:=a
  walk_at "pa"
  walk_at "pC"
  ·exact⟨n,m,k.enc,rfl,h'.1.1⟩
  ·exact Mj h'.2 h
theorem Rg:∀ fs:Fs,fs.enc.map F6=fs.names.map W.str
 | .nil=>rfl
 | .cons n m k r=>by show W.str n::r.enc.map F6=W.str n::r.names.map W.str;rw[Rg r]
theorem Rh:∀ fs:Fs,fs.names.length=fs.enc.length
 | .nil=>rfl
 | .cons n m k r=>by show r.names.length+1=r.enc.length+1;rw[Rh r]
theorem II(fs:Fs):fs.enc.length<=fs.cnt:=by rw[Lm,Ii];exact Ec _
theorem ID(T:Tx K mg base a):Df P w K mg base "are_fields" 4 1 eB:=by
 refine mk0 T.dg rfl QT Bu ((by rintro r G Q E ⟨x,⟨e,_⟩,_⟩;rw[e];rfl)) (d4 T (IB T) (Yr _) (Ee T) (by omega)) λr G Q E t q=>?_
 obtain⟨fs,⟨rfl,j,s,hc⟩,q⟩:=q
 have hl:=II fs
 unfold QU
 walk_at "rd"
 have o:Bt "tuple" "tuple"=true:=by decide
 simp only[o,YE,Yq,if_false]
 refine Dz (f:=λ_=>.bl true) trivial fs.enc none [] (λx g l h=>?_) (by simp only[Yi];exact AT (by omega)) ?_
 ·obtain⟨n,b,k,rfl,i⟩:=Mj j g
  exact⟨⟨n,b,k⟩,⟨rfl,i⟩,h⟩
 ·intro p m
  rw[Yw,show(λ_:W=>W.bl true)=W.bl∘(λ_=>true)from rfl,<- YB]
  walk_at "pw"
  have c:(fs.enc.map λ_=>true).all id=true:=by simp
  rw[c]
  simp only[if_true]
  refine Dz (f:=F6) trivial fs.enc none [] (λx g l h=>?_) (by simp only[Yi];exact AT (by omega)) ?_
  ·obtain⟨n,b,k,rfl,i⟩:=Mj j g
   show Ad (Ae ixW) (Ab 0) (gC (.int 0)) [some (W.tup [.str n,.str (BQ b),k])] _ l
   walk_at "rd"
   exact h
  ·intro p2 d
   rw[Yw,Rg]
   refine⟨fs.names,⟨p2,rfl,Aj,by rw[Rh];omega⟩,?_⟩
   dsimp only
   rw[s]
   exact t _ _ _ (BD (AB m) d) q
abbrev eD:Spw:=spR (λ(k:Kd)ws _=>ws=[k.enc]/\k.ok=true/\k.cnt<=1000) λ_=>.bl true
theorem Eg(T:Tx K mg base a):Df P w K mg base "has_form" 5 1 eD:=by
 refine mk0 T.dh rfl QY Bu ((by rintro f G Q E ⟨x,⟨e,_⟩,_⟩;rw[e];rfl)) (ee T (ID T) (Yr _)) λf G Q E i q=>?_
 obtain⟨k,⟨rfl,g,hc⟩,q⟩:=q
 have b:Bt "tuple" "tuple"=true:=by decide
 have d:Bt "bool" "bool"=true:=by decide
 have c:Bt "str" "str"=true:=by decide
 unfold QZ
 cases k with
 | any =>
  simp only[Kd.enc];walk_at "rd"
  walk_at "py"
  exact q
 | num =>
  simp only[Kd.enc];walk_at "rd"
  walk_at "py"
  exact q
 | truth =>
  simp only[Kd.enc];walk_at "rd"
  walk_at "py"
  exact q
 | to x y =>
  simp only[Kd.enc];walk_at "rd"
  walk_at "py"
  exact q
 | box x =>
  simp only[Kd.enc];walk_at "rd"
  walk_at "py"
  exact q
 | row fs o =>
  have h':(A3 fs.names&&fs.ok)=true:=g
  walk_at "pa"
  have h:1+fs.cnt<=1000:=hc
  simp only[Kd.enc];walk_at "rd"
  walk_at "py"
  refine⟨fs,⟨rfl,h'.2,h'.1,by omega⟩,?_⟩
  simp only[if_true,d]
  exact q
def Mk(x:W):W:=match x with | .tup [_,_,k]=>k | _=>.non
theorem Ri:∀ fs:Fs,fs.enc.map Mk=fs.kinds.map Kd.enc
 | .nil=>rfl
 | .cons n m k r=>by show k.enc::r.enc.map Mk=k.enc::r.kinds.map Kd.enc;rw[Ri r]
theorem Rj:∀{fs:Fs}{x:W},x∈fs.enc->∃ n b k,x=.tup [.str n,.str (BQ b),k]
 | .nil,x,h=>by cases h
 | .cons n m k r,x,h=>by
  walk_at "pC"
  ·exact⟨n,m,k.enc,rfl⟩
  ·exact Rj h
abbrev Rk:Spw:=spL (λ(k:Kd)ws _=>ws=[k.enc]/\k.cnt<=20000) λk=>k.kids.map Kd.enc
theorem B5(T:Tx K mg base a):Df P w K mg base "kinds_within" 1 1 Rk:=by
 refine mk0 T.di rfl Q1 BE ((by rintro d G Q E ⟨x,⟨e,_⟩,_⟩;rw[e];rfl)) (ef T) λd G Q E j q=>?_
 obtain⟨k,⟨rfl,hc⟩,q⟩:=q
 unfold Q2
 cases k with
 | row fs o =>
  have g:1+fs.cnt<=20000:=hc
  have hl:=II fs
  simp only[Kd.enc];walk_at "rd"
  refine Dz (f:=Mk) trivial fs.enc none [] (λx h c i=>?_) (by simp only[Yi];exact AT (by omega)) ?_
  ·obtain⟨n,b,k,rfl⟩:=Rj h
   show Ad (Ae ixW) (Ab 0) (gC (.int 2)) [some (W.tup [.str n,.str (BQ b),k])] _ c
   walk_at "rd"
   exact i
  ·rw[Yw,Ri]
   exact q
 | any=>simp only[Kd.enc];walk_at "rd";exact⟨GR _ _,q⟩
 | num=>simp only[Kd.enc];walk_at "rd";exact⟨GR _ _,q⟩
 | truth=>simp only[Kd.enc];walk_at "rd";exact⟨GR _ _,q⟩
 | to x y=>simp only[Kd.enc];walk_at "rd";exact⟨GR _ _,q⟩
 | box x=>simp only[Kd.enc];walk_at "rd";exact⟨GR _ _,q⟩
variable {G:Hw}{p:Addr}{xs zs:List W}{Q:Kw}
theorem Ek{r:Addr}(a:G p=some (.lst xs))(b:G r=some (.lst zs))(hl:xs.length+zs.length<=sizeLine)(q:Q .non (put G p (.lst (xs++zs)))):Bz (.ref p) [.ref r] G Q:=by
 unfold Bz
 refine K3 a ?_ q
 rw[EK b,Option.bind_some,if_pos hl]
theorem Bv(h:G p=some (.lst xs)):AH (.ref p) G:=⟨xs,EK h⟩
abbrev Rl(n:Nat):Spw:=spL (λ(k:Kd)ws _=>ws=[k.enc]/\k.dp<=n/\k.cnt<=10000) λk=>k.all.map Kd.enc
local macro_rules | `(tactic| walk_at "rd") => `(tactic| ((try dsimp only [Af,gIf,Ai,An,Aw,Al,Ab,gC,Ad,gTB,AO,gNt,A1,gOr,B2,C9,Da,BH,Ah,Ap,Aa,Ac,Ag,gB,rF,Ae,A2,gMt,B3,EX,Cy,A9,Bb,Ay,L3.Bo,BY,gSl,AG,AF,AQ,Au,Dv,CF,AD,FL,Cw,CZ,AW,Bi,Av,BX,List.map_cons,List.map_nil,List.length_cons,List.length_nil,List.cons_append,List.nil_append,List.getElem?_cons_zero,List.getElem?_cons_succ,List.set_cons_zero,List.set_cons_succ,List.replicate,BG,tyN,Ak,Bf,A0,B0,ixW,Bm,Bn,AZ,B9,By,BK,Dt,List.getElem?_nil]); (try simp only [Af,gIf,Ai,An,Aw,Al,Ab,gC,Ad,gTB,AO,gNt,A1,gOr,B2,C9,Da,BH,Ah,Ap,Aa,Ac,Ag,gB,rF,Ae,A2,gMt,B3,EX,Cy,A9,Bb,Ay,L3.Bo,BY,gSl,AG,AF,AQ,Au,Dv,CF,AD,FL,Cw,CZ,AW,Bi,Av,BX,List.map_cons,List.map_nil,List.length_cons,List.length_nil,List.cons_append,List.nil_append,List.getElem?_cons_zero,List.getElem?_cons_succ,List.set_cons_zero,List.set_cons_succ,List.replicate,BG,tyN,Ak,Bf,A0,B0,ixW,Bm,Bn,AZ,B9,By,BK,Dt,List.getElem?_nil])))
abbrev eE(mg:Str->Option Value):Spw:=spL (λ(l:List Kd)ws G=>∃ p,ws=[.ref p,.ref (fAt mg "kinds_within")]/\G p=some (.lst (l.map Kd.enc))/\AM l<=10000) λl=>(l.flatMap Kd.kids).map Kd.enc
theorem Rm{D:Ew}{p q j:Addr}{items:List W}:∀(l:List Kd)(o:Option W)(k0:W)(G:Hw)(a:List W),a.length+AM l<=20000->p≠q->G p=some (.lst a)->G q=some (.lst items)->
  (∀ ω i,(∃ o',ω=[some k0,some (.ref j),some (.ref p),o'])->i p=some (.lst (a++(l.flatMap Kd.kids).map Kd.enc))->(∀ b,b≠p->∀ u,G b=some u->i b=some u)->D.nx ω i)->
  Bh (holds q items) (gNm 3) (Aw (gMt AH Bz (Ab 2) (Aa (CZ 1 j Rk XF (Aa (Ab 3) Ac)) Ac))) D (l.map Kd.enc) [some k0,some (.ref j),some (.ref p),o] G
 | [],o,k0,G,a,_,e,f,g,d=>⟨g,d _ G ⟨o,rfl⟩ (by simpa using f) λ_ _ _ h=>h⟩
 | c::l,o,k0,G,a,hl,e,f,g,d=>by
  have v:a.length+(c.cnt+AM l)<=20000:=hl
  have w:=c8 c
  refine⟨g,?_⟩
  show Aw _ _ [some k0,some (.ref j),some (.ref p),some c.enc] G
  walk_at "rd"
  refine⟨Bv f,trivial,c,⟨rfl,by omega⟩,λr n=>?_⟩
  have m:=AI f n
  have k:=AI g n
  refine Ek (by rw[Aq m];exact f) Aj (by rw[Yh];exact AT (by omega)) ?_
  refine Rm l (some c.enc) k0 _ (a++c.kids.map Kd.enc) (by rw[Yj,Yh];omega) e Aj ?_ ?_
  ·rw[Aq (YU e),Aq k];exact g
  ·intro ω i hω h1 h2
   refine d ω i hω (by rw[h1,Qa,Yy,Yv]) λb s u t=>h2 b s u ?_
   rw[Aq s,Aq (AI t n)];exact t
theorem E7(T:Tx K mg base a):Df P w K mg base "layer_within" 2 2 (eE mg):=by
 refine mk0 T.P6 rfl IE BE ((by rintro k G Q E ⟨x,⟨p,e,_⟩,_⟩;rw[e];rfl)) (eg T (B5 T) (by omega)) λk G Q E m q=>?_
 obtain⟨l,⟨h,rfl,j,hl⟩,q⟩:=q
 unfold Q3
 walk_at "rd"
 refine⟨by decide,λp i=>?_⟩
 have d:p≠h:=YU (AI j i)
 have c:put G p (.lst []) h=some (.lst (l.map Kd.enc)):=by rw[Aq (YU d)];exact j
 simp only[c]
 refine Rm l none (.ref h) _ [] (by simp only[Yi];omega) d Aj c ?_
 intro ω n hω h1 h2
 obtain⟨o',rfl⟩:=hω
 simp only[Yb,Yc]
 rw[Yw]at h1
 have hs:Sub (put G p (.lst ((l.flatMap Kd.kids).map Kd.enc))) n:=λb u g=>by
  by_cases f:b=p
  ·subst f
   rw[Aj]at g;cases g
   exact h1
  ·rw[Aq f]at g
   exact h2 b f u (by rw[Aq f];exact g)
 exact m _ _ _ hs (q p i)
theorem El{α:Type}{enc f:α->W}{b:Hw->Prop}{ge:GE}{R:List W->Hw->Prop}{G:Hw}{cst:Sw}(a:b G):∀(l:List α)(o:Option W)(ys:List W),(∀ x∈l,∀ Q:Kw,Q (f x) G->ge (some (enc x)::cst) G Q)->
  ys.length+l.length<=sizeLine->R (ys++l.map f) G->AV b (gNm 0) AA ge R (l.map enc) (o::cst) G ys
 | [],o,ys,_,_,r=>⟨a,by simpa using r⟩
 | x::l,o,ys,h,hl,r=>by
  refine⟨a,by simp only[Yg]at hl;omega,?_⟩
  show ge (some (enc x)::cst) G λy c=>AV b (gNm 0) AA ge R (l.map enc) (some (enc x)::cst) c (ys++[y])
  refine h x Ye _ (El a l (some (enc x)) (ys++[f x]) (λy d=>h y (Yd _ d)) ?_ ?_)
  ·simp only[Yj,Yg,Yi]at hl ⊢;omega
  ·simpa[Yv]using r
def Bd(k:Kd):Bool:=decide (k.cnt<=40/\k.dp<=8)
abbrev eF(mg:Str->Option Value):Spw:=spR (λ(k:Kd)ws _=>ws=[k.enc,.ref (fAt mg "has_form"),.ref (fAt mg "kinds_within"),.int 40,.int 8]/\k.ok=true/\k.cnt<=1000) λk=>.bl (Bd k)
theorem E8(T:Tx K mg base a):Df P w K mg base "is_made_of" 6 5 (eF mg):=by
 refine mk0 T.P7 rfl IG Bu ((by rintro L G Q E ⟨x,⟨e,_⟩,_⟩;rw[e];rfl)) (eh T (Eg T) (Yr _) (E7 T) (by omega)) λL G Q E t q=>?_
 obtain⟨k,⟨rfl,D,hc⟩,q⟩:=q
 unfold Q4
 walk_at "rd"
 refine⟨by decide,λp B=>?_⟩
 refine⟨λm ω A=>∃(l:List Kd)(p:Addr)(c d:Nat),ω=[some k.enc,some (.ref (fAt mg "has_form")),some (.ref (fAt mg "kinds_within")),some (.int 40),some (.int 8),some (.ref p),some (.int c),some (.int d)]/\A p=some (.lst (l.map Kd.enc))/\Sub G A/\c+AM l=k.cnt/\d+dpL l=k.dp/\(∀ x∈l,x.ok=true)/\c<=40/\d<=8/\m=9 - d,⟨9,[k],p,0,0,rfl,Aj,AB B,?_,?_,?_,by omega,by omega,rfl⟩,?_⟩
 ·show 0+(k.cnt+0)=k.cnt;omega
 ·show 0+max k.dp 0=k.dp;omega
 ·intro x I;rw[YA.mp I];exact D
 rintro m ω Z ⟨l,p,c,d,rfl,hl,hs,F,S,hok,J,X,rfl⟩
 have b:(l.map Kd.enc).length=l.length:=Yh _
 walk_at "rd"
 simp only[hl,Ak,b]
 cases l with
 | nil =>
  have u:¬ ((0:Int) <((([]:List Kd).length:Nat):Int)):=by simp
  simp only[u,decide_false,Yq,if_false]
  have j:Bd k=true:=by
   unfold Bd
   have z1:c+0=k.cnt:=F
   have z2:d+0=k.dp:=S
   simp only[YN]
   omega
  dsimp only at q
  rw[j]at q
  exact t _ _ _ hs q
 | cons x l =>
  have H:=P0 (x::l)
  have R:=P1 (x::l) (by simp)
  have u:(0:Int) <(((x::l).length:Nat):Int):=by simp only[Yg];omega
  simp only[u,decide_true,if_true,hl,Ak,b]
  have s:decide ((40:Int) <(c:Int)+(((x::l).length:Nat):Int))=decide (40 < c+(x::l).length):=by
   rw[decide_eq_decide];omega
  have N:decide ((8:Int) <(d:Int)+1)=decide (8 < d+1):=by
   rw[decide_eq_decide];omega
  rw[s,N]
  by_cases g:40 < c+(x::l).length
  ·have j:Bd k=false:=by
    unfold Bd
    simp only[decide_eq_false_iff_not]
    omega
   dsimp only at q
   rw[j]at q
   simp only[g,decide_true,if_true]
   exact t _ _ _ hs q
  ·by_cases v:8 < d+1
   ·have j:Bd k=false:=by
     unfold Bd
     simp only[decide_eq_false_iff_not]
     omega
    dsimp only at q
    rw[j]at q
    simp only[g,v,decide_true,decide_false,if_true,Yq,if_false]
    exact t _ _ _ hs q
   ·simp only[g,v,decide_false,Yq,if_false]
    refine El (f:=λ_=>.bl true) (cst:=[some (.ref (fAt mg "has_form"))]) hl (x::l) none [] (λz n Y U=>?_) (by exact AT (by simp only[Yi];omega)) ?_
    ·have O:=GU n
     exact⟨rfl,z,⟨rfl,hok z n,by omega⟩,U⟩
    ·intro p1 h
     rw[Yw,show(λ_:Kd=>W.bl true)=W.bl∘(λ_=>true)from rfl,<- YB]
     walk_at "pw"
     have i:((x::l).map λ_=>true).all id=true:=by simp
     rw[i]
     simp only[YE,Yq,if_false]
     refine⟨x::l,⟨p,rfl,by rw[Aq (AI hl h)];exact hl,by omega⟩,λp2 r=>?_⟩
     refine⟨9 -(d+1),by omega,(x::l).flatMap Kd.kids,p2,c+(x::l).length,d+1,?_,Aj,?_,by omega,by omega,?_,by omega,by omega,rfl⟩
     ·simp only[Int.natCast_add,Int.natCast_one]
     ·exact BD (BD hs h) r
     ·intro y o
      obtain⟨z,n,o⟩:=List.mem_flatMap.mp o
      exact GW (hok z n) y o
abbrev eG:Spw:=spR (λ(k:Kd)ws _=>ws=[k.enc]/\k.ok=true/\k.cnt<=1000) λk=>.bl (Bd k)
theorem IJ(T:Tx K mg base a):Df P w K mg base "is_kind" 7 1 eG:=by
 refine mk0 T.dj rfl Q7 Bu ((by rintro b G Q E ⟨x,⟨e,_⟩,_⟩;rw[e];rfl)) (em T (Eg T) (by omega) (B5 T) (by omega) (E8 T) (Yr _)) λb G Q E d q=>?_
 obtain⟨k,⟨rfl,c,hc⟩,q⟩:=q
 unfold Q8
 walk_at "rd"
 exact⟨k,⟨rfl,c,hc⟩,q⟩
abbrev Rn:List Str:=["word"]
theorem Ro:AE Rn ["word"] (Ar Ly):=by walk_at "s"
def Rp:GS:=(Ai (Ie AX (Ab 0)))
theorem eH(T:Tx K mg base a):Dn P w K mg base Rn "form_of" Ly k (Rp):=λ{f cdv A outer s H E}hr=>
 have hu:=A7 hr
 have hN:=Ro.nd
 (A5 (Bq (cJ T.QD rfl rfl rfl rfl rfl rfl rfl (by walk_at "v"))))
abbrev Rq:List Str:=["term"]
theorem Rr:AE Rq ["term"] (Ar Lz):=by walk_at "s"
def Rt(Br:Spw):GS:=(Af (gIf (gTB (Ad (Ae (eqF false)) (Ad (Ae ixW) (Ab 0) (gC (.int 0))) (gC (.str "rec")))) (Ai (AQ (Au (Ad (Ae ixW) (Ab 0) (gC (.int 1)))) 1 (gNm 0) AA (Ad (Ae ixW) (Ab 0) (gC (.int 1))))) Al) (Ai (AQ (CH (Aa (Ag Br XF (Aa (Ad (Ae ixW) (Ab 0) (gC (.int 0))) Ac)) (Aa (AN (Ab 0) (AG (gC (.int 1))) AF) Ac))) 2 (AY 0 1) (gTB (Ad (Ae (eqF false)) (Ab 0) (gC (.str "term")))) (Ab 1))))
variable {Br:Spw}
theorem eI(T:Tx K mg base a){BM:Nat}(IK:Df P w K mg base "form_of" BM 1 Br)(IL:BM<=k):Dn P w K mg base Rq "parts_of" Lz k (Rt Br):=λ{f cdv A outer s H E}hr=>
 have hu:=A7 hr
 have hN:=Rr.nd
 (Ax (Cc (by walk_at "v") (A5 (Bq (BL (Nc:=["field"]) rfl (BF rfl (by decide +kernel) (by decide +kernel)) (λ_=>rfl) (by walk_at "v") (B8 (i:=0) (by decide) rfl rfl) (λC fp s1 H1=>Bc) (λC fp s1 H1=>(by walk_at "v"))))) Ct) (A5 (Bq (BL (Nc:=["sort","thing"]) rfl (BF rfl (by decide +kernel) (by decide +kernel)) (λ_=>rfl) (GN T.Ed rfl rfl rfl (by walk_at "v")) (Gp (i:=0) (j:=1) rfl (by decide) rfl rfl rfl rfl) (λC fp s1 H1=>(by walk_at "v")) (λC fp s1 H1=>(by walk_at "v"))))))
abbrev Ru:List Str:=["thing"]
theorem Rv:AE Ru ["thing"] (Ar LA):=by walk_at "s"
def Rw:GS:=(Af (gIf (gOr (gNt (AO (A2 "int" (Ab 0)))) (AO (A2 "bool" (Ab 0)))) (Ai (gC (.bl false))) Al) (Ai (Cy (A9 (λi j=>decide (i<=j)) (λa b=>!A6 b a)) (A9 (λi j=>decide (i<=j)) (λa b=>!A6 b a)) (H9 (gC (.int 99999999999999999999))) (Ab 0) (gC (.int 99999999999999999999)))))
theorem eJ(T:Tx K mg base a):Dn P w K mg base Ru "is_number" LA k (Rw):=λ{f cdv A outer s H E}hr=>
 have hu:=A7 hr
 have hN:=Rv.nd
 (Ax (by walk_at "v") (A5 (Bq (Oy K0 K0 rfl (ck (by walk_at "v")) (by walk_at "v") (by walk_at "v")))))
abbrev Rx:List Str:=["thing"]
theorem Ry:AE Rx ["thing"] (Ar LC):=by walk_at "s"
def Rz(Cg:Spw):GS:=(Ai (B2 (A2 "tuple" (Ab 0)) (B2 (Ad (Ae (eqF false)) (gB (rF AZ) (Aa (Ab 0) Ac)) (gC (.int 2))) (Ag Cg XF (Aa (Ad (Ae ixW) (Ab 0) (gC (.int 0))) Ac)))))
theorem eK(T:Tx K mg base a){CK:Nat}(QQ:Df P w K mg base "is_name" CK 1 Cg)(QR:CK<=k):Dn P w K mg base Rx "is_term_field" LC k (Rz Cg):=by
 have hN:=Ry.nd
 walk_at "z"
abbrev RA:List Str:=["thing"]
theorem RB:AE RA ["thing"] (Ar LD):=by walk_at "s"
def RC(IM:Spw)(DB:Spw):GS:=(Af (gIf (gNt (AO (A2 "tuple" (Ab 0)))) (Ai (gC (.bl false))) Al) (Ai (B2 (gB (rF By) (Aa (AQ (Au (Ab 0)) 1 (gNm 0) AA (Ag IM XF (Aa (Ab 0) Ac))) Ac)) (Ag DB XF (Aa (AQ (Au (Ab 0)) 1 (gNm 0) AA (Ad (Ae ixW) (Ab 0) (gC (.int 0)))) Ac)))))
theorem eL(T:Tx K mg base a){IN:Nat}{IM:Spw}(iI:Df P w K mg base "is_term_field" IN 1 IM)(iJ:IN<=k){Ee:Nat}(L9:Df P w K mg base "names_rise" Ee 1 DB)(Ma:Ee<=k):Dn P w K mg base RA "are_term_fields" LD k (RC IM DB):=λ{f cdv A outer s H E}hr=>
 have hu:=A7 hr
 have hN:=RB.nd
 (Ax (by walk_at "v") (A5 (Bq (KP (BJ Dw (Ds rfl) rfl T.DA (by decide) rfl rfl rfl (AU rfl (BL (Nc:=["part"]) rfl (BF rfl (by decide +kernel) (by decide +kernel)) (λ_=>rfl) (by walk_at "v") (B8 (i:=0) (by decide) rfl rfl) (λC fp s1 H1=>Bc) (λC fp s1 H1=>(by walk_at "v"))) Be)) (KO (FE L9 (hr.mono Ma) rfl Dx rfl rfl rfl (AU rfl (BL (Nc:=["part"]) rfl (BF rfl (by decide +kernel) (by decide +kernel)) (λ_=>rfl) (by walk_at "v") (B8 (i:=0) (by decide) rfl rfl) (λC fp s1 H1=>Bc) (λC fp s1 H1=>(by walk_at "v"))) Be)))))))
abbrev RD:List Str:=["thing","sort"]
theorem RE:AE RD ["thing","sort"] (Ar LF):=by walk_at "s"
def RF(IP:Spw)(Cg:Spw)(IQ:Spw)(IR:Spw):GS:=(Af (gIf (gTB (Ad (Ae (eqF false)) (Ab 1) (gC (.str "number")))) (Ai (Ag IP XF (Aa (Ab 0) Ac))) Al) (Af (gIf (gTB (Ad (Ae (eqF false)) (Ab 1) (gC (.str "truth")))) (Ai (A2 "bool" (Ab 0))) Al) (Af (gIf (gTB (Ad (Ae (eqF false)) (Ab 1) (gC (.str "name")))) (Ai (Ag Cg XF (Aa (Ab 0) Ac))) Al) (Af (gIf (gTB (Ad (Ae (eqF false)) (Ab 1) (gC (.str "kind")))) (Ai (Ag IQ XF (Aa (Ab 0) Ac))) Al) (Af (gIf (gTB (Ad (Ae (eqF false)) (Ab 1) (gC (.str "fields")))) (Ai (Ag IR XF (Aa (Ab 0) Ac))) Al) (Ai (gC (.bl true))))))))
theorem eM(T:Tx K mg base a){IS:Nat}{IP:Spw}(iK:Df P w K mg base "is_number" IS 1 IP)(iL:IS<=k){CK:Nat}(QQ:Df P w K mg base "is_name" CK 1 Cg)(QR:CK<=k){IJ:Nat}{IQ:Spw}(iM:Df P w K mg base "is_kind" IJ 1 IQ)(iN:IJ<=k){IT:Nat}{IR:Spw}(iO:Df P w K mg base "are_term_fields" IT 1 IR)(iP:IT<=k):Dn P w K mg base RD "is_of_sort" LF k (RF IP Cg IQ IR):=by
 have hN:=RE.nd
 walk_at "z"
abbrev RG:List Str:=["thing","form"]
theorem RH:AE RG ["thing"] (Ar LG):=by walk_at "s"
def RI(Br:Spw)(IU:Spw):GS:=(Af (gIf (gOr (gNt (AO (A2 "tuple" (Ab 0)))) (gOr (gTB (Ad (Ae (eqF false)) (gB (rF AZ) (Aa (Ab 0) Ac)) (gC (.int 0)))) (gNt (AO (A2 "str" (Ad (Ae ixW) (Ab 0) (gC (.int 0)))))))) (Ai (gC (.bl false))) Al) (Af (An 1 (Ag Br XF (Aa (Ad (Ae ixW) (Ab 0) (gC (.int 0))) Ac))) (Af (gIf (gOr (gTB (Ad (Ae (isF false)) (Ab 1) (gC .non))) (gTB (Ad (Ae (eqF true)) (gB (rF AZ) (Aa (Ab 0) Ac)) (Ad (Az) (gC (.int 1)) (gB (rF AZ) (Aa (Ab 1) Ac)))))) (Ai (gC (.bl false))) Al) (Ai (gB (rF By) (Aa (AQ (CH (Aa (AN (Ab 0) (AG (gC (.int 1))) AF) (Aa (Ab 1) Ac))) 2 (AY 0 1) AA (Ag IU XF (Aa (Ab 0) (Aa (Ab 1) Ac)))) Ac))))))
theorem eN(T:Tx K mg base a){BM:Nat}(IK:Df P w K mg base "form_of" BM 1 Br)(IL:BM<=k){IV:Nat}{IU:Spw}(iQ:Df P w K mg base "is_of_sort" IV 2 IU)(iR:IV<=k):Dn P w K mg base RG "has_term_form" LG k (RI Br IU):=λ{f cdv A outer s H E}hr=>
 have hu:=A7 hr
 have hN:=RH.nd
 (Ax (by walk_at "v") (Ax (by walk_at "v") (Ax (by walk_at "v") (A5 (Bq (BJ Dw (Ds rfl) rfl T.DA (by decide) rfl rfl rfl (AU rfl (BL (Nc:=["part","sort"]) rfl (BF rfl (by decide +kernel) (by decide +kernel)) (λ_=>rfl) (GN T.Ed rfl rfl rfl (by walk_at "v")) (Gp (i:=0) (j:=1) rfl (by decide) rfl rfl rfl rfl) (λC fp s1 H1=>Bc) (λC fp s1 H1=>(by walk_at "v"))) Be)))))))
abbrev RJ:List Str:=["thing"]
theorem RK:AE RJ ["thing"] (Ar LH):=by walk_at "s"
def RL(mg:Str->Option Value)(Ei:Spw)(BV:Spw)(DD:Spw):GS:=(Ai (Ag DD XF (Aa (Ab 0) (Aa (gC (.ref (fAt mg "has_term_form"))) (Aa (gC (.ref (fAt mg "parts_of"))) (Aa (gC (.int 40)) (Aa (gC (.int 10)) Ac)))))))
theorem eO(T:Tx K mg base a){Ej:Nat}(Mh:Df P w K mg base "has_term_form" Ej 1 Ei)(Rf:Ej<=k){B6:Nat}(Hb:Df P w K mg base "parts_of" B6 1 BV)(IH:B6<=k){E8:Nat}(Mf:Df P w K mg base "is_made_of" E8 5 DD)(Mg:E8<=k):Dn P w K mg base RJ "is_term" LH k (RL mg Ei BV DD):=λ{f cdv A outer s H E}hr=>
 have hu:=A7 hr
 have hN:=RK.nd
 (A5 (Bq (FE Mf (hr.mono Mg) rfl Dx rfl rfl rfl (AU rfl (by walk_at "v") (AU rfl (HX Mh rfl rfl) (AU rfl (HX Hb rfl rfl) (by walk_at "v")))))))
abbrev RM:List Str:=["thing"]
theorem RN:AE RM ["thing"] (Ar GX):=by walk_at "s"
def Ml(K:PySem.W.Frag)(a:Adr)(IW:Spw)(E:Addr->Hw->Prop):GS:=(gIf (gNt (AO (Ag IW (λ_=>E) (Aa (Ab 0) Ac)))) (OG a.NoTerm E (Aa (gC (.str "this is no term")) Ac)) Al)
variable {f:Addr}{cdv:Value}{A:Around}{outer:List Env}{H:Hp}
theorem eP(T:Tx K mg base a){IX:Nat}{IW:Spw}(eQ:Df P w K mg base "is_term" IX 1 IW)(eR:IX<=k){s:Shared}{E:XK}(hr:Room k (A.deeper (envOfC "check_term" (Ar GX) s.heap.objs.size f cdv))):Ssm (cxW P w K mg base RM "check_term" (Ar GX) f cdv A outer s H E) (λB=>B=H) (Cb GX) (Ml K a IW (dnX K H E)):=
 have hu:=A7 hr
 have hN:=RN.nd
 (A5 (Cc (Gx (Gv (λ_=>rfl) (FE eQ (hr.mono eR) rfl XT rfl rfl rfl (by walk_at "v")))) (A5 (aT T.QB T.FY PySem.F.excBase_ValueError rfl rfl rfl rfl (by walk_at "v"))) Ct))
mutual
inductive Te where
 | nd (w:Str) (r:As)
inductive As where
 | nil | num (i:Int) (r:As)| tru (b:Bool) (r:As)| nam (x:Str) (r:As)| knd (k:Kd) (r:As)| trm (t:Te) (r:As)| fld (f:Fl) (r:As)
inductive Fl where
 | nil | cons (x:Str) (t:Te) (r:Fl)
end
mutual
def Te.enc:Te->W
 | .nd w r=>.tup (.str w::r.enc)
def As.enc:As->List W
 | .nil=>[]
 | .num i r=>.int i::r.enc
 | .tru b r=>.bl b::r.enc
 | .nam x r=>.str x::r.enc
 | .knd k r=>k.enc::r.enc
 | .trm t r=>t.enc::r.enc
 | .fld f r=>.tup f.enc::r.enc
def Fl.enc:Fl->List W
 | .nil=>[]
 | .cons x t r=>.tup [.str x,t.enc]::r.enc
end
def Fl.names:Fl->List Str
 | .nil=>[]
 | .cons x _ r=>x::r.names
def Fl.terms:Fl->List Te
 | .nil=>[]
 | .cons _ t r=>t::r.terms
def As.sorts:As->List Str
 | .nil=>[]
 | .num _ r=>"number"::r.sorts
 | .tru _ r=>"truth"::r.sorts
 | .nam _ r=>"name"::r.sorts
 | .knd _ r=>"kind"::r.sorts
 | .trm _ r=>"term"::r.sorts
 | .fld _ r=>"fields"::r.sorts
def As.parts:As->List Te
 | .nil=>[]
 | .num _ r=>r.parts
 | .tru _ r=>r.parts
 | .nam _ r=>r.parts
 | .knd _ r=>r.parts
 | .trm t r=>t::r.parts
 | .fld f r=>f.terms++r.parts
def As.told:As->List Kd
 | .nil=>[]
 | .num _ r=>r.told
 | .tru _ r=>r.told
 | .nam _ r=>r.told
 | .knd k r=>k::r.told
 | .trm _ r=>r.told
 | .fld _ r=>r.told
def Te.parts:Te->List Te
 | .nd _ r=>r.parts
def Te.told:Te->List Kd
 | .nd _ r=>r.told
mutual
def Te.cnt:Te->Nat
 | .nd _ r=>1+r.cnt
def As.cnt:As->Nat
 | .nil=>0
 | .num _ r=>r.cnt
 | .tru _ r=>r.cnt
 | .nam _ r=>r.cnt
 | .knd _ r=>r.cnt
 | .trm t r=>t.cnt+r.cnt
 | .fld f r=>f.cnt+r.cnt
def Fl.cnt:Fl->Nat
 | .nil=>0
 | .cons _ t r=>t.cnt+r.cnt
end
mutual
def Te.dp:Te->Nat
 | .nd _ r=>1+r.dp
def As.dp:As->Nat
 | .nil=>0
 | .num _ r=>r.dp
 | .tru _ r=>r.dp
 | .nam _ r=>r.dp
 | .knd _ r=>r.dp
 | .trm t r=>max t.dp r.dp
 | .fld f r=>max f.dp r.dp
def Fl.dp:Fl->Nat
 | .nil=>0
 | .cons _ t r=>max t.dp r.dp
end
abbrev NB:Int:=99999999999999999999
mutual
def Te.ok:Te->Bool
 | .nd w r=>decide (KTD.datumAt w AX=some r.sorts)&&r.ok
def As.ok:As->Bool
 | .nil=>true
 | .num i r=>decide (-NB<=i/\i<=NB)&&r.ok
 | .tru _ r=>r.ok
 | .nam x r=>AC x&&r.ok
 | .knd k r=>(k.ok&&Bd k)&&r.ok
 | .trm t r=>t.ok&&r.ok
 | .fld f r=>(A3 f.names&&f.ok)&&r.ok
def Fl.ok:Fl->Bool
 | .nil=>true
 | .cons x t r=>(AC x&&t.ok)&&r.ok
end
def AK:List Te->Nat
 | []=>0
 | t::r=>t.cnt+AK r
def tdp:List Te->Nat
 | []=>0
 | t::r=>max t.dp (tdp r)
theorem Mm:∀(l m:List Te),AK (l++m)=AK l+AK m
 | [],m=>by simp[AK]
 | v::l,m=>by show v.cnt+AK (l++m)=v.cnt+AK l+AK m;rw[Mm l m];omega
theorem Mn:∀(l m:List Te),tdp (l++m)=max (tdp l) (tdp m)
 | [],m=>by simp[tdp]
 | v::l,m=>by show max v.dp (tdp (l++m))=max (max v.dp (tdp l)) (tdp m);rw[Mn l m];omega
theorem RO:∀ f:Fl,f.cnt=AK f.terms/\f.dp=tdp f.terms
 | .nil=>⟨rfl,rfl⟩
 | .cons _ t r=>by
  obtain⟨a,b⟩:=RO r
  exact⟨by show t.cnt+r.cnt=t.cnt+AK r.terms;rw[a],by show max t.dp r.dp=max t.dp (tdp r.terms);rw[b]⟩
theorem En:∀ r:As,r.cnt=AK r.parts/\r.dp=tdp r.parts
 | .nil=>⟨rfl,rfl⟩
 | .num _ r=>En r
 | .tru _ r=>En r
 | .nam _ r=>En r
 | .knd _ r=>En r
 | .trm t r=>by
  obtain⟨a,b⟩:=En r
  exact⟨by show t.cnt+r.cnt=t.cnt+AK r.parts;rw[a],by show max t.dp r.dp=max t.dp (tdp r.parts);rw[b]⟩
 | .fld f r=>by
  obtain⟨a,b⟩:=En r
  obtain⟨c,d⟩:=RO f
  exact⟨by show f.cnt+r.cnt=AK (f.terms++r.parts);rw[Mm,a,c],by show max f.dp r.dp=tdp (f.terms++r.parts);rw[Mn,b,d]⟩
theorem Ci(t:Te):t.cnt=1+AK t.parts:=by cases t with | nd w r=>show 1+r.cnt=_;rw[(En r).1];rfl
theorem CL(t:Te):t.dp=1+tdp t.parts:=by cases t with | nd w r=>show 1+r.dp=_;rw[(En r).2];rfl
theorem RP(t:Te):1<=t.cnt:=by rw[Ci];omega
theorem He(t:Te):1<=t.dp:=by rw[CL];omega
theorem RQ:∀ l:List Te,AK l=l.length+AK (l.flatMap Te.parts)
 | []=>rfl
 | v::l=>by
  show v.cnt+AK l=(l.length+1)+AK ((v::l).flatMap Te.parts)
  rw[Qa,Mm,RQ l,Ci v];omega
theorem RS:∀ l:List Te,l≠[]->tdp l=1+tdp (l.flatMap Te.parts)
 | [],h=>absurd rfl h
 | [v],_=>by
  show max v.dp 0=1+tdp ([v].flatMap Te.parts)
  rw[Qa,List.flatMap_nil,Yx,CL];omega
 | v::u::l,_=>by
  have a:=RS (u::l) (by simp)
  show max v.dp (tdp (u::l))=1+tdp ((v::u::l).flatMap Te.parts)
  rw[Qa,Mn,a,CL v];omega
theorem IY:∀ l:List Te,l.length<=AK l
 | []=>Yr _
 | v::l=>by have:=IY l;have:=RP v;show l.length+1<=v.cnt+AK l;omega
theorem Hf:∀{l:List Te}{v:Te},v∈l->v.cnt<=AK l
 | u::l,v,h=>by
  show v.cnt<=u.cnt+AK l
  walk_at "pC"
  ·omega
  ·have:=Hf h;omega
theorem F7:∀{l:List Te}{v:Te},v∈l->v.dp<=tdp l
 | u::l,v,h=>by
  show v.dp<=max u.dp (tdp l)
  walk_at "pC"
  ·omega
  ·have:=F7 h;omega
theorem IZ(t:Te):t.parts.length+1<=t.cnt:=by rw[Ci t];have:=IY t.parts;omega
theorem Mo:∀ f:Fl,f.enc.length=f.terms.length
 | .nil=>rfl
 | .cons _ t r=>by show r.enc.length+1=r.terms.length+1;rw[Mo r]
theorem RT:∀ f:Fl,f.names.length=f.terms.length
 | .nil=>rfl
 | .cons _ t r=>by show r.names.length+1=r.terms.length+1;rw[RT r]
theorem Dh:∀ r:As,r.enc.length=r.sorts.length
 | .nil=>rfl
 | .num _ r=>congrArg (·+1) (Dh r)
 | .tru _ r=>congrArg (·+1) (Dh r)
 | .nam _ r=>congrArg (·+1) (Dh r)
 | .knd _ r=>congrArg (·+1) (Dh r)
 | .trm _ r=>congrArg (·+1) (Dh r)
 | .fld _ r=>congrArg (·+1) (Dh r)
theorem RU:∀{f:Fl},f.ok=true->∀ c∈f.terms,c.ok=true
 | .nil,_,c,hc=>by cases hc
 | .cons x t r,h,c,hc=>by
  have h':((AC x&&t.ok)&&r.ok)=true:=h
  walk_at "pa"
  rcases Yo.mp hc with rfl | hc
  ·exact h'.1.2
  ·exact RU h'.2 c hc
theorem E9:∀{r:As},r.ok=true->∀ c∈r.parts,c.ok=true
 | .nil,_,c,hc=>by cases hc
 | .num i r,h,c,hc=>by
  walk_at "pB"
  walk_at "pa"
  exact E9 h'.2 c hc
 | .tru _ r,h,c,hc=>E9 (r:=r) h c hc
 | .nam x r,h,c,hc=>by
  have h':(AC x&&r.ok)=true:=h
  walk_at "pa"
  exact E9 h'.2 c hc
 | .knd k r,h,c,hc=>by
  have h':((k.ok&&Bd k)&&r.ok)=true:=h
  walk_at "pa"
  exact E9 h'.2 c hc
 | .trm t r,h,c,hc=>by
  have h':(t.ok&&r.ok)=true:=h
  walk_at "pa"
  rcases Yo.mp hc with rfl | hc
  ·exact h'.1
  ·exact E9 h'.2 c hc
 | .fld f r,h,c,hc=>by
  have h':((A3 f.names&&f.ok)&&r.ok)=true:=h
  walk_at "pa"
  rcases Yz.mp hc with hc | hc
  ·exact RU h'.1.2 c hc
  ·exact E9 h'.2 c hc
variable {r:As}
theorem Cj{w:Str}(h:(Te.nd w r).ok=true):KTD.datumAt w AX=some r.sorts/\r.ok=true:=by
 have h':(decide (KTD.datumAt w AX=some r.sorts)&&r.ok)=true:=h
 simp only[YF,YN]at h'
 exact h'
variable {t:Te}
theorem C2(h:t.ok=true):∀ c∈t.parts,c.ok=true:=by
 cases t with
 | nd w r=>exact E9 (Cj h).2
def Ja(x:W):W:=match x with | .tup [_,k]=>k | _=>.non
abbrev eS:Spw:=spR (λ(z:Str)ws _=>ws=[.str z]) λz=>E4 AX z
theorem BM(T:Tx K mg base a):Df P w K mg base "form_of" 1 1 eS:=by
 refine mk0 T.dk rfl Ro Bu (λb G Q E⟨x,e,_⟩=>by rw[e];rfl) (eH T) λb G Q E c q=>?_
 obtain⟨z,rfl,q⟩:=q
 unfold Rp
 show Ie AX (Ab 0) [some (.str z)] G _
 simp only[Ie,Ab,Yb]
 exact q
theorem Hg{w:Str}{a:List Str}(h:KTD.datumAt w AX=some a):E4 AX w=.tup (a.map W.str):=by unfold E4;rw[h]
theorem Jb{δ:Type}:∀{D:List (Str×δ)}{k:Str}{d:δ},KTD.datumAt k D=some d->(k,d)∈D
 | [],k,d,h=>by cases h
 |(x,e)::D,k,d,h=>by
  have h':(if decide (k=x)=true then some e else KTD.datumAt k D)=some d:=h
  by_cases a:k=x
  ·rw[if_pos (YG a)]at h'
   cases h'
   rw[a];exact Ye
  ·rw[if_neg (by simp[a])]at h'
   exact Yd _ (Jb h')
theorem eT:(AX.all λp=>decide (p.1="rec")||!p.2.contains ("fields":Str))=true:=by decide +kernel
theorem eU:(AX.all λp=>!decide (p.1="rec")||decide (p.2=[("fields":Str)]))=true:=by decide +kernel
theorem DF{w:Str}(h:KTD.datumAt w AX=some r.sorts):(w="rec"->∃ f,r=.fld f .nil)/\(w≠"rec"->("fields":Str)∉r.sorts):=by
 have b:=Jb h
 have h1:=List.all_eq_true.mp eT _ b
 have h2:=List.all_eq_true.mp eU _ b
 simp only[Bool.or_eq_true,Bool.not_eq_true',YN,decide_eq_false_iff_not]at h1 h2
 constructor
 ·intro e
  have a:r.sorts=[("fields":Str)]:=h2.resolve_left λz=>z e
  cases r with
  | fld f r =>
   have c:("fields":Str)::r.sorts=[("fields":Str)]:=a
   injection c with _ h5
   cases r with
   | nil=>exact⟨f,rfl⟩
   | num _ _=>cases h5
   | tru _ _=>cases h5
   | nam _ _=>cases h5
   | knd _ _=>cases h5
   | trm _ _=>cases h5
   | fld _ _=>cases h5
  | nil=>cases a
  | num _ _=>exact absurd (List.cons.inj a).1 (by decide +kernel)
  | tru _ _=>exact absurd (List.cons.inj a).1 (by decide +kernel)
  | nam _ _=>exact absurd (List.cons.inj a).1 (by decide +kernel)
  | knd _ _=>exact absurd (List.cons.inj a).1 (by decide +kernel)
  | trm _ _=>exact absurd (List.cons.inj a).1 (by decide +kernel)
 ·intro e z
  have a:=h1.resolve_left e
  rw[List.contains_iff_mem.mpr z]at a
  cases a
theorem Mp:∀ f:Fl,f.enc.map Ja=f.terms.map Te.enc
 | .nil=>rfl
 | .cons x t r=>by show t.enc::r.enc.map Ja=t.enc::r.terms.map Te.enc;rw[Mp r]
theorem RV:∀ f:Fl,f.enc.map F6=f.names.map W.str
 | .nil=>rfl
 | .cons x t r=>by show W.str x::r.enc.map F6=W.str x::r.names.map W.str;rw[RV r]
theorem Hh:∀{f:Fl}{x:W},f.ok=true->x∈f.enc->∃ n v,x=.tup [.str n,v]/\AC n=true
 | .nil,x,_,h=>by cases h
 | .cons n t r,x,a,h=>by
  have h':((AC n&&t.ok)&&r.ok)=true:=a
  walk_at "pa"
  walk_at "pC"
  ·exact⟨n,t.enc,rfl,h'.1.1⟩
  ·exact Hh h'.2 h
abbrev gTe:GT:=gTB (Ad (Ae (eqF false)) (Ab 0) (gC (.str "term")))
variable {v:W}
theorem eV{s:Str}{Q:Bool->Hw->Prop}(q:Q (s=="term") G):gTe [some (.str s),some v] G Q:=by
 simp only[gTe,gTB,Ad,Ae,Ab,gC,Yb,Bn,Ak]
 cases h:(s=="term")with
 | true=>rw[h]at q;exact q
 | false=>rw[h]at q;exact q
variable {ys:List W}
theorem Hi{R:List W->Hw->Prop}{s:Str}{o o':Option W}(hl:ys.length < 1000)(h:AV yes (AY 0 1) gTe (Ab 1) R zs [some (.str s),some v] G (if(s=="term")=true then ys++[v]else ys)):
  AV yes (AY 0 1) gTe (Ab 1) R (.tup [.str s,v]::zs) [o,o'] G ys:=by
 refine⟨trivial,Bl (by omega),?_⟩
 show gTe [some (.str s),some v] G _
 refine eV ?_
 cases e:(s=="term")with
 | true =>
  rw[e]at h
  rw[if_pos rfl]
  exact h
 | false =>
  rw[e]at h
  rw[if_neg (by decide)]
  exact h
theorem J6{G:Hw}{R:List W->Hw->Prop}:∀(r:As)(o o':Option W)(ys:List W),("fields":Str)∉r.sorts->ys.length+r.enc.length<=1000->R (ys++r.parts.map Te.enc) G->
  AV yes (AY 0 1) gTe (Ab 1) R (BA (r.sorts.map W.str) r.enc) [o,o'] G ys
 | .nil,o,o',ys,_,_,h=>⟨trivial,by have h':R (ys++[]) G:=h;rw[Yx]at h';exact h'⟩
 | .num i r,o,o',ys,a,hl,h=>by
  have b:ys.length+(r.enc.length+1)<=1000:=hl
  refine Hi (s:="number") (v:=.int i) (by omega) ?_
  walk_at "pp"
  walk_at "pK"
 | .tru i r,o,o',ys,a,hl,h=>by
  have b:ys.length+(r.enc.length+1)<=1000:=hl
  refine Hi (s:="truth") (v:=.bl i) (by omega) ?_
  walk_at "pp"
  walk_at "pK"
 | .nam i r,o,o',ys,a,hl,h=>by
  have b:ys.length+(r.enc.length+1)<=1000:=hl
  refine Hi (s:="name") (v:=.str i) (by omega) ?_
  walk_at "pp"
  walk_at "pK"
 | .knd i r,o,o',ys,a,hl,h=>by
  have b:ys.length+(r.enc.length+1)<=1000:=hl
  refine Hi (s:="kind") (v:=i.enc) (by omega) ?_
  walk_at "pp"
  walk_at "pK"
 | .trm t r,o,o',ys,a,hl,h=>by
  have b:ys.length+(r.enc.length+1)<=1000:=hl
  refine Hi (s:="term") (v:=t.enc) (by omega) ?_
  rw[if_pos (by decide +kernel)]
  refine J6 r _ _ _ (λz=>a (Yd _ z)) (by rw[Yj];simp only[Yg,Yi];omega) ?_
  rw[Yv];exact h
 | .fld f r,o,o',ys,a,_,_=>absurd Ye a
theorem Hj:∀ f:Fl,f.enc.length<=f.cnt
 | .nil=>Yr _
 | .cons _ t r=>by have:=Hj r;have:=RP t;show r.enc.length+1<=t.cnt+r.cnt;omega
theorem eW:(AX.all λp=>decide (p.2.length<=3))=true:=by decide +kernel
theorem DG{w:Str}(h:KTD.datumAt w AX=some r.sorts):r.sorts.length<=3:=of_decide_eq_true (List.all_eq_true.mp eW _ (Jb h))
abbrev Mq:Spw:=spL (λ(t:Te)ws _=>ws=[t.enc]/\t.ok=true/\t.cnt<=20000) λt=>t.parts.map Te.enc
theorem B6(T:Tx K mg base a):Df P w K mg base "parts_of" 2 1 Mq:=by
 refine mk0 (k:=1) T.dq rfl Rr BE (λg G Q E⟨x,⟨e,_⟩,_⟩=>by rw[e];rfl) (eI T (BM T) (Yr _)) λg G Q E m q=>?_
 obtain⟨t,⟨rfl,h,hc⟩,q⟩:=q
 cases t with
 | nd w r =>
 obtain⟨h1,h2⟩:=Cj h
 have hs:=DG h1
 have hl:=Dh r
 unfold Rt
 show Af (gIf _ _ Al) _ (Av Q) [some (.tup (.str w::r.enc))] G
 walk_at "ps"
 by_cases e:w="rec"
 ·rw[show(w==("rec":Str))=true by simp[e]]
  obtain⟨f,rfl⟩:=(DF h1).1 e
  have i:1+(f.cnt+0)<=20000:=hc
  have l:=Hj f
  have b:((A3 f.names&&f.ok)&&true)=true:=h2
  simp only[Bool.and_true,YF]at b
  simp only[show(true != false)=true from rfl,if_true,Ai,AQ,Au,Ad,Ae,Ab,gC,Yb,As.enc,ixW,A0,Ak,Av,List.replicate]
  refine Dz (f:=Ja) trivial f.enc none [] (λx d j c=>?_) (by simp only[Yi];exact AT (by omega)) ?_
  ·obtain⟨n,u,rfl,_⟩:=Hh b.2 d
   show Ad (Ae ixW) (Ab 0) (gC (.int 1)) [some (W.tup [.str n,u])] _ j
   simp only[Ad,Ae,Ab,gC,Yb,ixW,A0,Ak]
   exact c
  ·rw[Yw,Mp]
   have c:∀ p,G p=none->Q (.ref p) (put G p (.lst ((f.terms++[]).map Te.enc))):=q
   rw[Yx]at c
   exact c
 ·rw[show(w==("rec":Str))=false by simpa using e]
  simp only[show(false != false)=false from rfl,Yq,if_false,Al,Ai,AQ,CH,Ag,AN,AG,AF,Aa,Ac,Ad,Ae,Ab,gC,Yb,ixW,Bf,Ak,Av,List.replicate]
  refine⟨w,rfl,?_⟩
  show slA (.tup (.str w::r.enc)) (some 1) none G _
  show ∃ xs ys,_
  refine⟨r.sorts.map W.str,r.enc,?_,?_⟩
  ·rw[CJ];dsimp only;rw[Hg h1];rfl
  ·exact J6 r none none [] ((DF h1).2 e) (by simp only[Yi];omega) (by rw[Yw];exact q)
theorem eX:Bt "int" "int"=true:=by decide
theorem eY:Bt "int" "bool"=false:=by decide
theorem eZ:Bt "bool" "bool"=true:=by decide
theorem Mr:Bt "tuple" "tuple"=true:=by decide
theorem e4:Bt "str" "str"=true:=by decide
abbrev e6:Spw:=spR (λ(i:Int)ws _=>ws=[.int i]/\-NB<=i/\i<=NB) λ_=>.bl true
theorem IS(T:Tx K mg base a):Df P w K mg base "is_number" 1 1 e6:=by
 refine mk0 T.dr rfl Rv Bu (λc G Q E⟨x,⟨e,_⟩,_⟩=>by rw[e];rfl) (eJ T) λc G Q E d q=>?_
 obtain⟨i,⟨rfl,h1,h2⟩,q⟩:=q
 unfold Rw
 walk_at "rd"
 simp only[eX,eY,YE,Yq,if_false,H9,gC]
 have b:decide (i<=(99999999999999999999:Int))=true:=YG h2
 simp only[b]
 refine⟨99999999999999999999,rfl,?_⟩
 rw[if_pos (YG h1)]
 exact q
abbrev e7:Spw:=spR (λ(x:Str×W)ws _=>ws=[.tup [.str x.1,x.2]]/\AC x.1=true) λ_=>.bl true
theorem IN(T:Tx K mg base a):Df P w K mg base "is_term_field" 3 1 e7:=by
 refine mk0 T.dt rfl Ry Bu (λc G Q E⟨x,⟨e,_⟩,_⟩=>by rw[e];rfl) (eK T (CK T) (Yr _)) λc G Q E d q=>?_
 obtain⟨⟨n,u⟩,⟨rfl,b⟩,q⟩:=q
 have hl:n.length<=8:=Mi b
 dsimp only at q b
 unfold Rz
 walk_at "rd"
 simp only[Mr,if_true]
 refine⟨n,⟨rfl,by omega⟩,?_⟩
 dsimp only
 rw[b]
 exact q
abbrev e8:Spw:=spR (λ(f:Fl)ws _=>ws=[.tup f.enc]/\f.ok=true/\A3 f.names=true/\f.cnt<=1000) λ_=>.bl true
theorem IT(T:Tx K mg base a):Df P w K mg base "are_term_fields" 4 1 e8:=by
 refine mk0 T.du rfl RB Bu (λl G Q E⟨x,⟨e,_⟩,_⟩=>by rw[e];rfl) (eL T (IN T) (Yr _) (Ee T) (by omega)) λl G Q E o q=>?_
 obtain⟨f,⟨rfl,h,m,hc⟩,q⟩:=q
 have hl:=Hj f
 unfold RC
 walk_at "rd"
 simp only[Mr,YE,Yq,if_false]
 refine Dz (f:=λ_=>.bl true) trivial f.enc none [] (λx d i g=>?_) (by simp only[Yi];exact AT (by omega)) ?_
 ·obtain⟨n,u,rfl,j⟩:=Hh h d
  exact⟨(n,u),⟨rfl,j⟩,g⟩
 ·intro p k
  rw[Yw,show(λ_:W=>W.bl true)=W.bl∘(λ_=>true)from rfl,<- YB]
  walk_at "pw"
  have b:(f.enc.map λ_=>true).all id=true:=by simp
  rw[b]
  simp only[if_true]
  refine Dz (f:=F6) trivial f.enc none [] (λx d i g=>?_) (by simp only[Yi];exact AT (by omega)) ?_
  ·obtain⟨n,u,rfl,_⟩:=Hh h d
   show Ad (Ae ixW) (Ab 0) (gC (.int 0)) [some (W.tup [.str n,u])] _ i
   walk_at "rd"
   exact g
  ·intro p2 c
   rw[Yw,RV]
   refine⟨f.names,⟨p2,rfl,Aj,by rw[RT,<- Mo];omega⟩,?_⟩
   dsimp only
   rw[m]
   exact o _ _ _ (BD (AB k) c) q
inductive Ok1:W->Str->Prop
 | num (i:Int) (h:-NB<=i/\i<=NB):Ok1 (.int i) "number"
 | tru (b:Bool):Ok1 (.bl b) "truth"
 | nam (x:Str) (h:AC x=true):Ok1 (.str x) "name"
 | knd (k:Kd) (h:k.ok=true) (h2:Bd k=true):Ok1 k.enc "kind"
 | trm (t:Te):Ok1 t.enc "term"
 | fld (f:Fl) (h:f.ok=true) (h2:A3 f.names=true) (h3:f.cnt<=1000):Ok1 (.tup f.enc) "fields"
def Hk:Spw:=λws G Q _=>∃ v s,ws=[v,.str s]/\Ok1 v s/\Q (.bl true) G
theorem e9:Spw.M Hk:=(by rintro b G Q c E a h _ ⟨v,s,h1,h2,q⟩;exact⟨v,s,h1,h2,h _ _ q⟩)
variable {e:GE}{D:Ew}{ω:Sw}
theorem BN{s t:Str}{Ao:GS}(h1:ω[1]?=some (some (.str s)))(h:if s=t then e ω G D.rt else Ao D ω G):Af (gIf (gTB (Ad (Ae (eqF false)) (Ab 1) (gC (.str t)))) (Ai e) Al) Ao D ω G:=by
 simp only[Af,gIf,gTB,Ad,Ae,Ab,h1,gC,Bn,Ak,Ai,Al]
 by_cases z:s=t
 ·rw[if_pos z]at h
  rw[show(s==t)=true by simp[z]];exact h
 ·rw[if_neg z]at h
  rw[show(s==t)=false by simpa using z];exact h
theorem IV(T:Tx K mg base a):Df P w K mg base "is_of_sort" 8 2 Hk:=by
 refine mk0 (k:=7) T.dv rfl RE e9 (λd G Q E⟨_,_,e,_⟩=>by rw[e];rfl) (eM T (IS T) (by omega) (CK T) (by omega) (IJ T) (by omega) (IT T) (by omega)) λd G Q E j q=>?_
 obtain⟨v,s,rfl,h,q⟩:=q
 unfold RF
 show Af _ _ (Av Q) [some v,some (.str s)] G
 cases h with
 | num i h =>
  refine BN rfl ?_
  rw[if_pos rfl]
  exact⟨i,⟨rfl,h⟩,q⟩
 | tru b =>
  refine BN rfl ?_
  walk_at "pp"
  refine BN rfl ?_
  rw[if_pos rfl]
  simp only[A2,Ab,Yb,tyN,eZ,Ak]
  exact q
 | nam x h =>
  have hl:x.length<=8:=Mi h
  refine BN rfl ?_
  walk_at "pp"
  refine BN rfl ?_
  walk_at "pp"
  refine BN rfl ?_
  rw[if_pos rfl]
  refine⟨x,⟨rfl,by omega⟩,?_⟩
  dsimp only
  rw[h];exact q
 | knd k h h2 =>
  have g:k.cnt<=40/\k.dp<=8:=of_decide_eq_true h2
  refine BN rfl ?_
  walk_at "pp"
  refine BN rfl ?_
  walk_at "pp"
  refine BN rfl ?_
  walk_at "pp"
  refine BN rfl ?_
  rw[if_pos rfl]
  refine⟨k,⟨rfl,h,by omega⟩,?_⟩
  dsimp only
  rw[h2];exact q
 | trm t =>
  refine BN rfl ?_
  walk_at "pp"
  refine BN rfl ?_
  walk_at "pp"
  refine BN rfl ?_
  walk_at "pp"
  refine BN rfl ?_
  walk_at "pp"
  refine BN rfl ?_
  walk_at "pp"
  exact q
 | fld f h h2 c =>
  refine BN rfl ?_
  walk_at "pp"
  refine BN rfl ?_
  walk_at "pp"
  refine BN rfl ?_
  walk_at "pp"
  refine BN rfl ?_
  walk_at "pp"
  refine BN rfl ?_
  rw[if_pos rfl]
  exact⟨f,⟨rfl,h,h2,c⟩,q⟩
def As.prs:As->List (W×Str)
 | .nil=>[]
 | .num i r=>(.int i,"number")::r.prs
 | .tru b r=>(.bl b,"truth")::r.prs
 | .nam x r=>(.str x,"name")::r.prs
 | .knd k r=>(k.enc,"kind")::r.prs
 | .trm t r=>(t.enc,"term")::r.prs
 | .fld f r=>(.tup f.enc,"fields")::r.prs
theorem Fa:∀ r:As,BA r.enc (r.sorts.map W.str)=r.prs.map λx=>.tup [x.1,.str x.2]
 | .nil=>rfl
 | .num _ r=>congrArg (_::·) (Fa r)
 | .tru _ r=>congrArg (_::·) (Fa r)
 | .nam _ r=>congrArg (_::·) (Fa r)
 | .knd _ r=>congrArg (_::·) (Fa r)
 | .trm _ r=>congrArg (_::·) (Fa r)
 | .fld _ r=>congrArg (_::·) (Fa r)
theorem Fb:∀{r:As},r.ok=true->r.cnt<=1000->∀ x∈r.prs,Ok1 x.1 x.2
 | .nil,_,_,x,a=>by cases a
 | .num i r,h,hc,x,a=>by
  walk_at "pB"
  simp only[YF,YN]at h'
  walk_at "pH"
  ·exact .num i h'.1
  ·exact Fb (r:=r) h'.2 hc x a
 | .tru b r,h,hc,x,a=>by
  walk_at "pH"
  ·exact .tru b
  ·exact Fb (r:=r) h hc x a
 | .nam y r,h,hc,x,a=>by
  have h':(AC y&&r.ok)=true:=h
  walk_at "pa"
  walk_at "pH"
  ·exact .nam y h'.1
  ·exact Fb (r:=r) h'.2 hc x a
 | .knd k r,h,hc,x,a=>by
  have h':((k.ok&&Bd k)&&r.ok)=true:=h
  walk_at "pa"
  walk_at "pH"
  ·exact .knd k h'.1.1 h'.1.2
  ·exact Fb (r:=r) h'.2 hc x a
 | .trm t r,h,hc,x,a=>by
  have h':(t.ok&&r.ok)=true:=h
  have c:t.cnt+r.cnt<=1000:=hc
  walk_at "pa"
  walk_at "pH"
  ·exact .trm t
  ·exact Fb (r:=r) h'.2 (by omega) x a
 | .fld f r,h,hc,x,a=>by
  have h':((A3 f.names&&f.ok)&&r.ok)=true:=h
  have c:f.cnt+r.cnt<=1000:=hc
  walk_at "pa"
  walk_at "pH"
  ·exact .fld f h'.1.2 h'.1.1 (by omega)
  ·exact Fb (r:=r) h'.2 (by omega) x a
theorem C3:∀ r:As,r.prs.length=r.sorts.length
 | .nil=>rfl
 | .num _ r=>congrArg (·+1) (C3 r)
 | .tru _ r=>congrArg (·+1) (C3 r)
 | .nam _ r=>congrArg (·+1) (C3 r)
 | .knd _ r=>congrArg (·+1) (C3 r)
 | .trm _ r=>congrArg (·+1) (C3 r)
 | .fld _ r=>congrArg (·+1) (C3 r)
theorem RW{G:Hw}{R:List W->Hw->Prop}:∀(l:List (W×Str))(o o':Option W)(ys:List W),(∀ x∈l,Ok1 x.1 x.2)->ys.length+l.length<=1000->R (ys++l.map λ_=>.bl true) G->
  AV yes (AY 0 1) AA (Ag Hk XF (Aa (Ab 0) (Aa (Ab 1) Ac))) R (l.map λx=>.tup [x.1,.str x.2]) [o,o'] G ys
 | [],o,o',ys,_,_,h=>⟨trivial,by rw[YH,Yx]at h;exact h⟩
 | x::l,o,o',ys,a,hl,h=>by
  rw[Yg]at hl
  refine⟨trivial,Bl (by omega),?_⟩
  show Ag Hk XF (Aa (Ab 0) (Aa (Ab 1) Ac)) [some x.1,some (.str x.2)] G λz c=>AV yes (AY 0 1) AA (Ag Hk XF (Aa (Ab 0) (Aa (Ab 1) Ac))) R (l.map λx=>.tup [x.1,.str x.2]) [some x.1,some (.str x.2)] c (ys++[z])
  refine⟨x.1,x.2,rfl,a x Ye,?_⟩
  refine RW l _ _ _ (λz b=>a z (Yd _ b)) (by rw[Yj];simp only[Yg,Yi];omega) ?_
  rw[Yv];exact h
variable {i:Nat}{ge:GE}
theorem AL{Ao:GS}(h:ge ω G λw a=>Ao D (ω.set i (some w)) a):Af (An i ge) Ao D ω G:=h
theorem RX{c:GT}{s Ao:GS}(h:∀ Z:Bool->Hw->Prop,Z false G->c ω G Z)(h2:Ao D ω G):Af (gIf c s Al) Ao D ω G:=by
 simp only[Af,gIf]
 refine h _ ?_
 simp only[Yq,if_false,Al]
 exact h2
abbrev fe:Spw:=spR (λ(t:Te)ws _=>ws=[t.enc]/\t.ok=true/\t.cnt<=1000) λ_=>.bl true
theorem Ej(T:Tx K mg base a):Df P w K mg base "has_term_form" 9 1 fe:=by
 refine mk0 (k:=8) T.dw rfl RH Bu (λg G Q E⟨x,⟨e,_⟩,_⟩=>by rw[e];rfl) (eN T (BM T) (by omega) (IV T) (by omega)) λg G Q E i q=>?_
 obtain⟨t,⟨rfl,h,hc⟩,q⟩:=q
 cases t with
 | nd w r =>
 obtain⟨h1,h2⟩:=Cj h
 have hs:=DG h1
 have hl:=Dh r
 have j:1+r.cnt<=1000:=hc
 unfold RI
 show Af (gIf _ _ Al) _ (Av Q) [some (.tup (.str w::r.enc)),none] G
 refine RX (λZ c=>?_) ?_
 ·simp only[gOr,gNt,AO,A2,Ab,Yb,tyN,BG,Ak,Mr,e4,YE,Yq,if_false,gTB,Ad,Ae,gB,rF,Aa,Ac,AZ,B9,gC,Bm,ixW,Bf]
  have d:((((W.str w::r.enc).length:Nat):Int)==0)=false:=by simp only[Yg];simpa using(show ¬ ((r.enc.length:Int)+1=0) by omega)
  simp only[d,bne_self_eq_false,Yq,if_false]
  exact c
 refine AL ?_
 simp only[Ag,Aa,Ac,Ad,Ae,Ab,gC,Yb,ixW,Bf,Ak]
 refine⟨w,rfl,?_⟩
 dsimp only
 rw[Hg h1]
 walk_at "pd"
 refine RX (λZ c=>?_) ?_
 ·simp only[gOr,gTB,Ad,Ae,Ab,gC,Yb,Yc,isF,HY,Ak,Yq,if_false,gB,rF,Aa,Ac,AZ,B9,Az,L3.Bo]
  rw[if_neg (by decide),Bm,Ak]
  have e:((((W.str w::r.enc).length:Nat):Int)==1+(((r.sorts.map W.str).length:Nat):Int))=true:=by
   rw[Yh,Yg,hl];simpa using(show(r.sorts.length:Int)+1=1+r.sorts.length by omega)
  rw[e]
  exact c
 simp only[Ai,gB,rF,AQ,CH,AN,AG,AF,Aa,Ac,Ab,gC,Yb,Yc,Av,List.replicate]
 refine⟨r.enc,r.sorts.map W.str,?_,?_⟩
 ·rw[CJ];rfl
 rw[Fa]
 refine RW r.prs none none [] (Fb h2 (by omega)) (by rw[C3];simp only[Yi];omega) λp f=>?_
 rw[Yw,show(λ_:W×Str=>W.bl true)=W.bl∘(λ_=>true)from rfl,<- YB]
 simp only[By,EK Aj,Option.bind_some,Hv,Option.map_some,Ak]
 have b:(r.prs.map λ_=>true).all id=true:=by simp
 rw[b]
 exact i _ _ _ (AB f) q
abbrev ff(mg:Str->Option Value):Spw:=spL (λ(l:List Te)ws G=>∃ p,ws=[.ref p,.ref (fAt mg "parts_of")]/\G p=some (.lst (l.map Te.enc))/\AK l<=10000/\∀ t∈l,t.ok=true) λl=>(l.flatMap Te.parts).map Te.enc
theorem RY{D:Ew}{p q j:Addr}{items:List W}:∀(l:List Te)(o:Option W)(k0:W)(G:Hw)(a:List W),a.length+AK l<=20000->(∀ t∈l,t.ok=true)->p≠q->G p=some (.lst a)->G q=some (.lst items)->
  (∀ ω i,(∃ o',ω=[some k0,some (.ref j),some (.ref p),o'])->i p=some (.lst (a++(l.flatMap Te.parts).map Te.enc))->(∀ b,b≠p->∀ u,G b=some u->i b=some u)->D.nx ω i)->
  Bh (holds q items) (gNm 3) (Aw (gMt AH Bz (Ab 2) (Aa (CZ 1 j Mq XF (Aa (Ab 3) Ac)) Ac))) D (l.map Te.enc) [some k0,some (.ref j),some (.ref p),o] G
 | [],o,k0,G,a,_,_,e,f,g,d=>⟨g,d _ G ⟨o,rfl⟩ (by simpa using f) λ_ _ _ h=>h⟩
 | c::l,o,k0,G,a,hl,v,e,f,g,d=>by
  have y:a.length+(c.cnt+AK l)<=20000:=hl
  have z:=IZ c
  refine⟨g,?_⟩
  show Aw _ _ [some k0,some (.ref j),some (.ref p),some c.enc] G
  walk_at "rd"
  refine⟨Bv f,trivial,c,⟨rfl,v c Ye,by omega⟩,λr n=>?_⟩
  have m:=AI f n
  have k:=AI g n
  refine Ek (by rw[Aq m];exact f) Aj (by rw[Yh];exact AT (by omega)) ?_
  refine RY l (some c.enc) k0 _ (a++c.parts.map Te.enc) (by rw[Yj,Yh];omega) (λt x=>v t (Yd _ x)) e Aj ?_ ?_
  ·rw[Aq (YU e),Aq k];exact g
  ·intro ω i hω h1 h2
   refine d ω i hω (by rw[h1,Qa,Yy,Yv]) λb s u w=>h2 b s u ?_
   rw[Aq s,Aq (AI w n)];exact w
theorem fg(T:Tx K mg base a):Df P w K mg base "layer_within" 3 2 (ff mg):=by
 refine mk0 (k:=2) T.P6 rfl IE BE ((by rintro m G Q E ⟨x,⟨p,e,_⟩,_⟩;rw[e];rfl)) (eu T (B6 T) (by omega)) λm G Q E o q=>?_
 obtain⟨l,⟨h,rfl,j,hl,n⟩,q⟩:=q
 unfold Rc
 walk_at "rd"
 refine⟨by decide,λp i=>?_⟩
 have d:p≠h:=YU (AI j i)
 have c:put G p (.lst []) h=some (.lst (l.map Te.enc)):=by rw[Aq (YU d)];exact j
 simp only[c]
 refine RY l none (.ref h) _ [] (by simp only[Yi];omega) n d Aj c ?_
 intro ω r hω h1 h2
 obtain⟨o',rfl⟩:=hω
 simp only[Yb,Yc]
 rw[Yw]at h1
 have hs:Sub (put G p (.lst ((l.flatMap Te.parts).map Te.enc))) r:=λb u g=>by
  by_cases f:b=p
  ·subst f
   rw[Aj]at g;cases g
   exact h1
  ·rw[Aq f]at g
   exact h2 b f u (by rw[Aq f];exact g)
 exact o _ _ _ hs (q p i)
def tg(t:Te):Prop:=t.ok=true/\t.cnt<=40/\t.dp<=10
abbrev fh(mg:Str->Option Value):Spw:=spR (λ(v:Te)ws _=>ws=[v.enc,.ref (fAt mg "has_term_form"),.ref (fAt mg "parts_of"),.int 40,.int 10]/\tg v) λ_=>.bl true
theorem fi(T:Tx K mg base a):Df P w K mg base "is_made_of" 10 5 (fh mg):=by
 refine mk0 (k:=9) T.P7 rfl IG Bu ((by rintro D G Q E ⟨x,⟨e,_⟩,_⟩;rw[e];rfl)) (ey T (Ej T) (by omega) (fg T) (by omega)) λD G Q E I q=>?_
 obtain⟨v,⟨rfl,u,hc,hd⟩,q⟩:=q
 unfold Re
 walk_at "rd"
 refine⟨by decide,λp t=>?_⟩
 refine⟨λm ω s=>∃(l:List Te)(p:Addr)(c d:Nat),ω=[some v.enc,some (.ref (fAt mg "has_term_form")),some (.ref (fAt mg "parts_of")),some (.int 40),some (.int 10),some (.ref p),some (.int c),some (.int d)]/\s p=some (.lst (l.map Te.enc))/\Sub G s/\c+AK l=v.cnt/\d+tdp l=v.dp/\(∀ x∈l,x.ok=true)/\m=11 - d,⟨11,[v],p,0,0,rfl,Aj,AB t,?_,?_,?_,rfl⟩,?_⟩
 ·show 0+(v.cnt+0)=v.cnt;omega
 ·show 0+max v.dp 0=v.dp;omega
 ·intro x B;rw[YA.mp B];exact u
 rintro m ω R ⟨l,p,c,d,rfl,hl,hs,N,S,hok,rfl⟩
 have b:(l.map Te.enc).length=l.length:=Yh _
 walk_at "rd"
 simp only[hl,Ak,b]
 cases l with
 | nil =>
  have r:¬ ((0:Int) <((([]:List Te).length:Nat):Int)):=by simp
  simp only[r,decide_false,Yq,if_false]
  exact I _ _ _ hs q
 | cons x l =>
  have A:=RQ (x::l)
  have J:=RS (x::l) (by simp)
  have r:(0:Int) <(((x::l).length:Nat):Int):=by simp only[Yg];omega
  simp only[r,decide_true,if_true,hl,Ak,b]
  have o:decide ((40:Int) <(c:Int)+(((x::l).length:Nat):Int))=false:=by
   rw[decide_eq_false_iff_not];omega
  have F:decide ((10:Int) <(d:Int)+1)=false:=by
   rw[decide_eq_false_iff_not];omega
  rw[o,F]
  simp only[Yq,if_false]
  refine El (f:=λ_=>.bl true) (cst:=[some (.ref (fAt mg "has_term_form"))]) hl (x::l) none [] (λz i O L=>?_) (by exact AT (by simp only[Yi];omega)) ?_
  ·have H:=Hf i
   exact⟨rfl,z,⟨rfl,hok z i,by omega⟩,L⟩
  ·intro p1 g
   rw[Yw,show(λ_:Te=>W.bl true)=W.bl∘(λ_=>true)from rfl,<- YB]
   walk_at "pw"
   have h:((x::l).map λ_=>true).all id=true:=by simp
   rw[h]
   simp only[YE,Yq,if_false]
   refine⟨x::l,⟨p,rfl,by rw[Aq (AI hl g)];exact hl,by omega,hok⟩,λp2 n=>?_⟩
   refine⟨11 -(d+1),by omega,(x::l).flatMap Te.parts,p2,c+(x::l).length,d+1,?_,Aj,?_,by omega,by omega,?_,rfl⟩
   ·simp only[Int.natCast_add,Int.natCast_one]
   ·exact BD (BD hs g) n
   ·intro y j
    obtain⟨z,i,j⟩:=List.mem_flatMap.mp j
    exact C2 (hok z i) y j
abbrev fj:Spw:=spR (λ(v:Te)ws _=>ws=[v.enc]/\tg v) λ_=>.bl true
theorem IX(T:Tx K mg base a):Df P w K mg base "is_term" 11 1 fj:=by
 refine mk0 (k:=10) T.dy rfl RK Bu ((by rintro b G Q E ⟨x,⟨e,_⟩,_⟩;rw[e];rfl)) (eO T (Ej T) (by omega) (B6 T) (by omega) (fi T) (Yr _)) λb G Q E c q=>?_
 obtain⟨v,⟨rfl,h⟩,q⟩:=q
 unfold RL
 walk_at "rd"
 exact⟨v,⟨rfl,h⟩,q⟩
abbrev RZ:List Str:=["term"]
theorem R1:AE RZ ["term"] (Ar LI):=by walk_at "s"
def R3(Br:Spw):GS:=(Ai (AQ (CH (Aa (Ag Br XF (Aa (Ad (Ae ixW) (Ab 0) (gC (.int 0))) Ac)) (Aa (AN (Ab 0) (AG (gC (.int 1))) AF) Ac))) 2 (AY 0 1) (gTB (Ad (Ae (eqF false)) (Ab 0) (gC (.str "kind")))) (Ab 1)))
theorem fk(T:Tx K mg base a){BM:Nat}(IK:Df P w K mg base "form_of" BM 1 Br)(IL:BM<=k):Dn P w K mg base RZ "told_by" LI k (R3 Br):=λ{f cdv A outer s H E}hr=>
 have hu:=A7 hr
 have hN:=R1.nd
 (A5 (Bq (BL (Nc:=["sort","thing"]) rfl (BF rfl (by decide +kernel) (by decide +kernel)) (λ_=>rfl) (GN T.Ed rfl rfl rfl (by walk_at "v")) (Gp (i:=0) (j:=1) rfl (by decide) rfl rfl rfl rfl) (λC fp s1 H1=>(by walk_at "v")) (λC fp s1 H1=>(by walk_at "v")))))
abbrev R4:List Str:=["term","found","part"]
theorem R5:AE R4 ["term"] (Ar LJ):=by walk_at "s"
def R6(DH:Spw)(BV:Spw)(DI:Spw):GS:=(Af (An 1 (Ag DH XF (Aa (Ab 0) Ac))) (Af (AD (Au (Ag BV XF (Aa (Ab 0) Ac))) (gNm 2) (Aw (gMt AH Bz (Ab 1) (Aa (Ag DI XF (Aa (Ab 2) Ac)) Ac)))) (Ai (Ab 1))))
variable {DH DI:Spw}
theorem fm(T:Tx K mg base a){Eo:Nat}(fq:Df P w K mg base "told_by" Eo 1 DH)(fu:Eo<=k){B6:Nat}(Hb:Df P w K mg base "parts_of" B6 1 BV)(IH:B6<=k){Ep:Nat}(fv:Df P w K mg base "all_told" Ep 1 DI)(fw:Ep<=k):Dn P w K mg base R4 "all_told" LJ k (R6 DH BV DI):=by
 have hN:=R5.nd
 walk_at "z"
abbrev R7:List Str:=["things","number","thing"]
theorem R8:AE R7 ["things","number","thing"] (Ar LK):=by walk_at "s"
def R9:GS:=(Ai (Ad (Az) (Ad (Az) (AN (Ab 0) AF (AG (Ab 1))) (Ap (Aa (Ab 2) Ac))) (AN (Ab 0) (AG (Ad (Az) (Ab 1) (gC (.int 1)))) AF)))
theorem fx(T:Tx K mg base a):Dn P w K mg base R7 "with_one" LK k (R9):=by
 have hN:=R8.nd
 walk_at "z"
abbrev Sa:List Str:=["kind","inner","fields"]
theorem Ms:AE Sa ["kind","inner"] (Ar Il):=by walk_at "s"
def Sb:GS:=(Af (gIf (gTB (Ad (Ae (eqF true)) (Ad (Ae ixW) (Ab 0) (gC (.int 0))) (gC (.str "row")))) (Ai (Ad (Az) (Ah (Aa (Ad (Ae ixW) (Ab 0) (gC (.int 0))) Ac)) (gB (rF BK) (Aa (Ab 1) Ac)))) Al) (Af (An 2 (AW (E5 (Aa (Ad (Ae ixW) (Ab 0) (gC (.int 1))) (Aa (Ab 1) Ac))) 2 [] (AY 0 1) AA (Ah (Aa (Ad (Ae ixW) (Ab 0) (gC (.int 0))) (Aa (Ad (Ae ixW) (Ab 0) (gC (.int 1))) (Aa (Ab 1) Ac)))))) (Ai (Ah (Aa (gC (.str "row")) (Aa (gB (rF BK) (Aa (Ab 2) Ac)) (Aa (Ad (Ae ixW) (Ab 0) (gC (.int 2))) Ac)))))))
theorem fy(T:Tx K mg base a):Dn P w K mg base Sa "with_kinds_within" Il k (Sb):=λ{f cdv A outer s H E}hr=>
 have hu:=A7 hr
 have hN:=Ms.nd
 (Ax (by walk_at "v") (Ax (HU (i:=2) Ms.nd rfl rfl rfl rfl (Ce (own:=["field","part"]) (fr:=[]) (js:=[]) (scX:=Ar Il) (n:=s.heap.objs.size+1) rfl (by decide +kernel) (by decide +kernel) (by decide +kernel) (by decide +kernel) rfl rfl rfl (by decide +kernel) rfl) (λ_=>rfl) (PK T.Ed rfl rfl rfl (by walk_at "v")) (OW (i:=0) (j:=1) rfl (by decide) rfl rfl rfl rfl) (λC fp s1 H1=>Bc) (λC fp s1 H1=>(by walk_at "v"))) (by walk_at "v")))
abbrev Sd:List Str:=["kind","found","inner","number","part"]
theorem Se:AE Sd ["kind"] (Ar Io):=by walk_at "s"
def Sf(BU:Spw)(DJ:Spw)(DK:Spw)(Jc:Spw):GS:=(Af (An 1 (BH (gTB (Ad (Ae (eqF false)) (Ad (Ae ixW) (Ab 0) (gC (.int 0))) (gC (.str "any")))) (Ap Ac) (Ap (Aa (Ah (Aa (gC (.str "any")) Ac)) Ac)))) (Af (gIf (A1 (gTB (Ad (Ae (eqF false)) (Ad (Ae ixW) (Ab 0) (gC (.int 0))) (gC (.str "row")))) (gNt (AO (Ad (Ae ixW) (Ab 0) (gC (.int 2)))))) (Aw (gMt AH AS (Ab 1) (Aa (Ah (Aa (gC (.str "row")) (Aa (Ad (Ae ixW) (Ab 0) (gC (.int 1))) (Aa (gC (.bl true)) Ac)))) Ac))) Al) (Af (An 2 (Ag BU XF (Aa (Ab 0) Ac))) (Af (AD (FO (Aa (Ab 2) Ac)) (AY 3 4) (Aw (gMt AH Bz (Ab 1) (Aa (AW (Au (Ag DJ XF (Aa (Ab 4) Ac))) 1 [0,2,3] (gNm 0) AA (Ag Jc XF (Aa (Ab 1) (Aa (Ag DK XF (Aa (Ab 2) (Aa (Ab 3) (Aa (Ab 0) Ac)))) Ac)))) Ac)))) (Ai (Ab 1))))))
variable {DJ DK:Spw}
theorem fz(T:Tx K mg base a){B5:Nat}(Ha:Df P w K mg base "kinds_within" B5 1 BU)(IF:B5<=k){Er:Nat}(fA:Df P w K mg base "less_kinds" Er 1 DJ)(fB:Er<=k){Es:Nat}(fC:Df P w K mg base "with_one" Es 3 DK)(fD:Es<=k){Jd:Nat}{Jc:Spw}(iS:Df P w K mg base "with_kinds_within" Jd 2 Jc)(iT:Jd<=k):Dn P w K mg base Sd "less_kinds" Io k (Sf BU DJ DK Jc):=λ{f cdv A outer s H E}hr=>
 have hu:=A7 hr
 have hN:=Se.nd
 (Ax (by walk_at "v") (Ax (by walk_at "v") (Ax (by walk_at "v") (Ax (CW PassesOwn.never rfl (λ_=>rfl) (Pv T.Qx rfl rfl (by walk_at "v")) (by walk_at "v") (A5 (ET rfl (Du EY rfl rfl rfl rfl rfl (by walk_at "v") (AU rfl (Dg rfl (Ce (own:=["less"]) (fr:=["kind","inner","number"]) (js:=[0,2,3]) (scX:=Ar Io) (n:=s.heap.objs.size+1) rfl (by decide +kernel) (by decide +kernel) (by decide +kernel) (by decide +kernel) rfl rfl rfl (by decide +kernel) rfl) (λ_=>rfl) (by walk_at "v") (CG (i:=0) (by decide) rfl rfl) (λC fp s1 H1=>Bc) (λC fp s1 H1=>(by walk_at "v"))) Be))))) (by walk_at "v")))))
abbrev Sg:List Str:=["term","kind","sorts"]
theorem Sh:AE Sg ["term","kind"] (Ar Iq):=by walk_at "s"
def Si(Br:Spw):GS:=(Af (An 2 (Ag Br XF (Aa (Ad (Ae ixW) (Ab 0) (gC (.int 0))) Ac))) (Ai (Ad (Az) (Ah (Aa (Ad (Ae ixW) (Ab 0) (gC (.int 0))) Ac)) (gB (rF BK) (Aa (AW (CH (Aa (Ab 2) (Aa (AN (Ab 0) (AG (gC (.int 1))) AF) Ac))) 2 [1] (AY 0 1) AA (BH (gTB (Ad (Ae (eqF false)) (Ab 0) (gC (.str "kind")))) (Ab 2) (Ab 1))) Ac)))))
theorem fE(T:Tx K mg base a){BM:Nat}(IK:Df P w K mg base "form_of" BM 1 Br)(IL:BM<=k):Dn P w K mg base Sg "with_kind" Iq k (Si Br):=λ{f cdv A outer s H E}hr=>
 have hu:=A7 hr
 have hN:=Sh.nd
 (Ax (by walk_at "v") (A5 (Bq (D9 (by walk_at "v") (Dr FK (GF) rfl T.FX (by decide) rfl rfl rfl (AU rfl (Dg rfl (Ce (own:=["sort","thing"]) (fr:=["kind"]) (js:=[1]) (scX:=Ar Iq) (n:=s.heap.objs.size+1) rfl (by decide +kernel) (by decide +kernel) (by decide +kernel) (by decide +kernel) rfl rfl rfl (by decide +kernel) rfl) (λ_=>rfl) (GN T.Ed rfl rfl rfl (by walk_at "v")) (OW (i:=0) (j:=1) rfl (by decide) rfl rfl rfl rfl) (λC fp s1 H1=>Bc) (λC fp s1 H1=>(by walk_at "v"))) Be))))))
abbrev Sj:List Str:=["term","parts","things","number","sort","thing"]
theorem Sk:AE Sj ["term","parts"] (Ar LM):=by walk_at "s"
def Sl(Br:Spw):GS:=(Af (gIf (gTB (Ad (Ae (eqF false)) (Ad (Ae ixW) (Ab 0) (gC (.int 0))) (gC (.str "rec")))) (Ai (Ah (Aa (gC (.str "rec")) (Aa (gB (rF BK) (Aa (AQ (E5 (Aa (Ad (Ae ixW) (Ab 0) (gC (.int 1))) (Aa (Ab 1) Ac))) 2 (AY 0 1) AA (Ah (Aa (Ad (Ae ixW) (Ab 0) (gC (.int 0))) (Aa (Ab 1) Ac)))) Ac)) Ac)))) Al) (Af (An 2 (Ap (Aa (Ad (Ae ixW) (Ab 0) (gC (.int 0))) Ac))) (Af (An 3 (gC (.int 0))) (Af (AD (CH (Aa (Ag Br XF (Aa (Ad (Ae ixW) (Ab 0) (gC (.int 0))) Ac)) (Aa (AN (Ab 0) (AG (gC (.int 1))) AF) Ac))) (AY 4 5) (Af (Aw (gMt AH AS (Ab 2) (Aa (BH (gTB (Ad (Ae (eqF false)) (Ab 4) (gC (.str "term")))) (Ad (Ae ixW) (Ab 1) (Ab 3)) (Ab 5)) Ac))) (B3 3 BY (BH (gTB (Ad (Ae (eqF false)) (Ab 4) (gC (.str "term")))) (gC (.int 1)) (gC (.int 0)))))) (Ai (gB (rF BK) (Aa (Ab 2) Ac)))))))
theorem fF(T:Tx K mg base a){BM:Nat}(IK:Df P w K mg base "form_of" BM 1 Br)(IL:BM<=k):Dn P w K mg base Sj "with_parts" LM k (Sl Br):=λ{f cdv A outer s H E}hr=>
 have hu:=A7 hr
 have hN:=Sk.nd
 (Ax (Cc (by walk_at "v") (A5 (Bq (KN (AU rfl KM (AU rfl (Dr FK (GF) rfl T.FX (by decide) rfl rfl rfl (AU rfl (BL (Nc:=["field","part"]) rfl (BF rfl (by decide +kernel) (by decide +kernel)) (λ_=>rfl) (PK T.Ed rfl rfl rfl (by walk_at "v")) (Gp (i:=0) (j:=1) rfl (by decide) rfl rfl rfl rfl) (λC fp s1 H1=>Bc) (λC fp s1 H1=>(by walk_at "v"))) Be)) Be))))) Ct) (Ax (by walk_at "v") (Ax (by walk_at "v") (Ax (CW PassesOwn.never rfl (λ_=>rfl) (GN T.Ed rfl rfl rfl (by walk_at "v")) (by walk_at "v") (by walk_at "v")) (by walk_at "v")))))
abbrev Sn:List Str:=["term","found","kind","parts","number","part"]
theorem So:AE Sn ["term"] (Ar GY):=by walk_at "s"
def Sq(DH:Spw)(DJ:Spw)(Je:Spw)(BV:Spw)(DL:Spw)(DK:Spw)(Jf:Spw):GS:=(Af (An 1 (Ap Ac)) (Af (AD (Au (Ag DH XF (Aa (Ab 0) Ac))) (gNm 2) (Aw (gMt AH Bz (Ab 1) (Aa (AW (Au (Ag DJ XF (Aa (Ab 2) Ac))) 1 [0] (gNm 0) AA (Ag Je XF (Aa (Ab 1) (Aa (Ab 0) Ac)))) Ac)))) (Af (An 3 (Ag BV XF (Aa (Ab 0) Ac))) (Af (AD (FO (Aa (Ab 3) Ac)) (AY 4 5) (Aw (gMt AH Bz (Ab 1) (Aa (AW (Au (Ag DL XF (Aa (Ab 5) Ac))) 1 [0,3,4] (gNm 0) AA (Ag Jf XF (Aa (Ab 1) (Aa (Ag DK XF (Aa (Ab 2) (Aa (Ab 3) (Aa (Ab 0) Ac)))) Ac)))) Ac)))) (Ai (Ab 1))))))
variable {DL:Spw}
theorem fG(T:Tx K mg base a){Eo:Nat}(fq:Df P w K mg base "told_by" Eo 1 DH)(fu:Eo<=k){Er:Nat}(fA:Df P w K mg base "less_kinds" Er 1 DJ)(fB:Er<=k){Jg:Nat}{Je:Spw}(iU:Df P w K mg base "with_kind" Jg 2 Je)(iV:Jg<=k){B6:Nat}(Hb:Df P w K mg base "parts_of" B6 1 BV)(IH:B6<=k){Et:Nat}(fH:Df P w K mg base "less_terms" Et 1 DL)(fI:Et<=k){Es:Nat}(fC:Df P w K mg base "with_one" Es 3 DK)(fD:Es<=k){Jh:Nat}{Jf:Spw}(iW:Df P w K mg base "with_parts" Jh 2 Jf)(iX:Jh<=k):Dn P w K mg base Sn "less_terms" GY k (Sq DH DJ Je BV DL DK Jf):=λ{f cdv A outer s H E}hr=>
 have hu:=A7 hr
 have hN:=So.nd
 (Ax (by walk_at "v") (Ax (CW PassesOwn.never rfl (λ_=>rfl) (by walk_at "v") (by walk_at "v") (A5 (ET rfl (Du EY rfl rfl rfl rfl rfl (by walk_at "v") (AU rfl (Dg rfl (Ce (own:=["less"]) (fr:=["term"]) (js:=[0]) (scX:=Ar GY) (n:=s.heap.objs.size+1) rfl (by decide +kernel) (by decide +kernel) (by decide +kernel) (by decide +kernel) rfl rfl rfl (by decide +kernel) rfl) (λ_=>rfl) (by walk_at "v") (CG (i:=0) (by decide) rfl rfl) (λC fp s1 H1=>Bc) (λC fp s1 H1=>(by walk_at "v"))) Be))))) (Ax (by walk_at "v") (Ax (CW PassesOwn.never rfl (λ_=>rfl) (Pv T.Qx rfl rfl (by walk_at "v")) (by walk_at "v") (A5 (ET rfl (Du EY rfl rfl rfl rfl rfl (by walk_at "v") (AU rfl (Dg rfl (Ce (own:=["less"]) (fr:=["term","parts","number"]) (js:=[0,3,4]) (scX:=Ar GY) (n:=s.heap.objs.size+1) rfl (by decide +kernel) (by decide +kernel) (by decide +kernel) (by decide +kernel) rfl rfl rfl (by decide +kernel) rfl) (λ_=>rfl) (by walk_at "v") (CG (i:=0) (by decide) rfl rfl) (λC fp s1 H1=>Bc) (λC fp s1 H1=>(by walk_at "v"))) Be))))) (by walk_at "v")))))
abbrev Sr:List Str:=["term"]
theorem Ss:AE Sr ["term"] (Ar LN):=by walk_at "s"
def Su(DM:Spw)(DL:Spw):GS:=(Af (Aw (Ag DM XF (Aa (Ab 0) Ac))) (Ai (Ag DL XF (Aa (Ab 0) Ac))))
variable {DM:Spw}
theorem fJ(T:Tx K mg base a){Eu:Nat}(fK:Df P w K mg base "check_term" Eu 1 DM)(fL:Eu<=k){Et:Nat}(fH:Df P w K mg base "less_terms" Et 1 DL)(fI:Et<=k):Dn P w K mg base Sr "forgettings" LN k (Su DM DL):=by
 have hN:=Ss.nd
 walk_at "z"
abbrev Sv:List Str:=["term"]
theorem Sx:AE Sv ["term"] (Ar LO):=by walk_at "s"
def Sy(DM:Spw)(DI:Spw)(DE:Spw):GS:=(Af (Aw (Ag DM XF (Aa (Ab 0) Ac))) (Ai (gB (Cu) (Aa (AQ (Au (Ag DI XF (Aa (Ab 0) Ac))) 1 (gNm 0) AA (gB (rF AZ) (Aa (Ag DE XF (Aa (Ab 0) Ac)) Ac))) Ac))))
theorem fM(T:Tx K mg base a){Eu:Nat}(fK:Df P w K mg base "check_term" Eu 1 DM)(fL:Eu<=k){Ep:Nat}(fv:Df P w K mg base "all_told" Ep 1 DI)(fw:Ep<=k){Eh:Nat}(er:Df P w K mg base "kinds_in" Eh 1 DE)(et:Eh<=k):Dn P w K mg base Sv "kinds_told" LO k (Sy DM DI DE):=λ{f cdv A outer s H E}hr=>
 have hu:=A7 hr
 have hN:=Sx.nd
 (Ax (by walk_at "v") (A5 (Bq (BJ FJ (FG rfl) rfl T.FW (by decide) rfl rfl rfl (AU rfl (BL (Nc:=["kind"]) rfl (BF rfl (by decide +kernel) (by decide +kernel)) (λ_=>rfl) (by walk_at "v") (B8 (i:=0) (by decide) rfl rfl) (λC fp s1 H1=>Bc) (λC fp s1 H1=>(by walk_at "v"))) Be)))))
theorem CM{x:Str}(Fx:Fn K mg st x ps)(m:sp.M)(no:∀ a G Q E,¬ sp a G Q E):Df P w K mg base x k ps.length sp:=by
 obtain⟨f,fd,h1,F,d⟩:=Fx
 exact⟨⟨f,fd,_,h1,F.kp,d,rfl,⟨(by rintro c H Q E ⟨a,G,t,r,q⟩;exact absurd q (no _ _ _ _)),(by rintro A outer s H b e c Q E _ _ _ _ ⟨a,G,t,r,q⟩;exact absurd q (no _ _ _ _))⟩⟩,m⟩
abbrev gWd(t:Str):GT:=gTB (Ad (Ae (eqF false)) (Ab 0) (gC (.str t)))
theorem Mt{G:Hw}{R:List W->Hw->Prop}{t:Str}:∀(l:List (W×Str))(o o':Option W)(ys:List W),ys.length+l.length<=1000->R (ys++(l.filter λx=>x.2==t).map (·.1)) G->
  AV yes (AY 0 1) (gWd t) (Ab 1) R (l.map λx=>.tup [.str x.2,x.1]) [o,o'] G ys
 | [],o,o',ys,_,h=>⟨trivial,by rw[List.filter_nil,YH,Yx]at h;exact h⟩
 | x::l,o,o',ys,hl,h=>by
  rw[Yg]at hl
  refine⟨trivial,Bl (by omega),?_⟩
  show gWd t [some (.str x.2),some x.1] G _
  simp only[gWd,gTB,Ad,Ae,Ab,gC,Yb,Bn,Ak]
  rw[List.filter_cons]at h
  cases e:(x.2==t)with
  | true =>
   rw[e,if_pos rfl]at h
   rw[show(true != false)=true from rfl,if_pos rfl]
   refine Mt l _ _ (ys++[x.1]) (by rw[Yj];simp only[Yg,Yi];omega) ?_
   rw[Yv];exact h
  | false =>
   rw[e,if_neg (by decide)]at h
   rw[show(false != false)=false from rfl,if_neg (by decide)]
   exact Mt l _ _ ys (by omega) h
theorem DN:∀ r:As,BA (r.sorts.map W.str) r.enc=r.prs.map λx=>.tup [.str x.2,x.1]
 | .nil=>rfl
 | .num _ r=>congrArg (_::·) (DN r)
 | .tru _ r=>congrArg (_::·) (DN r)
 | .nam _ r=>congrArg (_::·) (DN r)
 | .knd _ r=>congrArg (_::·) (DN r)
 | .trm _ r=>congrArg (_::·) (DN r)
 | .fld _ r=>congrArg (_::·) (DN r)
variable {x:W}
theorem Hl{s t:Str}{l:List (W×Str)}(h:(s==t)=false):((x,s)::l).filter (λx=>x.2==t)=l.filter λx=>x.2==t:=by
 rw[List.filter_cons]
 show(if(s==t)=true then _ else _)=_
 rw[h,if_neg (by decide)]
theorem Fc:∀ r:As,(r.prs.filter λx=>x.2==("kind":Str)).map (·.1)=r.told.map Kd.enc
 | .nil=>rfl
 | .num _ r=>by show((_::r.prs).filter _).map _=_;rw[Hl (by decide +kernel)];exact Fc r
 | .tru _ r=>by show((_::r.prs).filter _).map _=_;rw[Hl (by decide +kernel)];exact Fc r
 | .nam _ r=>by show((_::r.prs).filter _).map _=_;rw[Hl (by decide +kernel)];exact Fc r
 | .knd k r=>by
  show(((k.enc,("kind":Str))::r.prs).filter λx=>x.2==("kind":Str)).map (·.1)=k.enc::r.told.map Kd.enc
  rw[List.filter_cons,if_pos (show(("kind":Str)=="kind")=true by decide +kernel),Ym,Fc r]
 | .trm _ r=>by show((_::r.prs).filter _).map _=_;rw[Hl (by decide +kernel)];exact Fc r
 | .fld _ r=>by show((_::r.prs).filter _).map _=_;rw[Hl (by decide +kernel)];exact Fc r
abbrev fN:Spw:=spL (λ(t:Te)ws _=>ws=[t.enc]/\t.ok=true) λt=>t.told.map Kd.enc
theorem Eo(T:Tx K mg base a):Df P w K mg base "told_by" 2 1 fN:=by
 refine mk0 (k:=1) T.dA rfl R1 BE (λb G Q E⟨x,⟨e,_⟩,_⟩=>by rw[e];rfl) (fk T (BM T) (Yr _)) λb G Q E d q=>?_
 obtain⟨t,⟨rfl,c⟩,q⟩:=q
 cases t with
 | nd w r =>
 obtain⟨h1,h2⟩:=Cj c
 have hs:=DG h1
 unfold R3
 show Ai _ (Av Q) [some (.tup (.str w::r.enc))] G
 simp only[Ai,AQ,CH,Ag,AN,AG,AF,Aa,Ac,Ad,Ae,Ab,gC,Yb,ixW,Bf,Ak,Av,List.replicate]
 refine⟨w,rfl,?_⟩
 show ∃ xs ys,_
 refine⟨r.sorts.map W.str,r.enc,?_,?_⟩
 ·rw[CJ];dsimp only;rw[Hg h1];rfl
 ·rw[DN]
  refine Mt r.prs none none [] (by rw[C3];simp only[Yi];omega) ?_
  rw[Yw,Fc]
  exact q
def B1:Nat->Te->List Kd
 | 0,_=>[]
 | n+1,t=>t.told++t.parts.flatMap (B1 n)
theorem Fe:∀ r:As,r.told.length<=r.sorts.length
 | .nil=>Yr _
 | .num _ r=>Nat.le_succ_of_le (Fe r)
 | .tru _ r=>Nat.le_succ_of_le (Fe r)
 | .nam _ r=>Nat.le_succ_of_le (Fe r)
 | .knd _ r=>Nat.succ_le_succ (Fe r)
 | .trm _ r=>Nat.le_succ_of_le (Fe r)
 | .fld _ r=>Nat.le_succ_of_le (Fe r)
theorem Hm(h:t.ok=true):t.told.length<=3:=by
 cases t with
 | nd w r=>exact Yt (Fe r) (DG (Cj h).1)
theorem Ji:∀(n:Nat)(t:Te),t.ok=true->(B1 n t).length<=3*t.cnt
 | 0,t,_=>YT _
 | n+1,t,h=>by
  have g:=Hm h
  have b:=C2 h
  have e:=Ci t
  have go:∀ l:List Te,(∀ c∈l,c.ok=true)->(l.flatMap (B1 n)).length<=3*AK l:=by
   intro l
   induction l with
   | nil=>intro _;exact Yr _
   | cons c l a =>
    intro hl
    have i:=Ji n c (hl c Ye)
    have f:=a λd hd=>hl d (Yd _ hd)
    rw[Qa,Yj]
    show _<=3*(c.cnt+AK l)
    omega
  have:=go t.parts b
  show(t.told++t.parts.flatMap (B1 n)).length<=_
  rw[Yj];omega
abbrev Sz(n:Nat):Spw:=spL (λ(t:Te)ws _=>ws=[t.enc]/\t.ok=true/\t.dp<=n/\t.cnt<=1000) λt=>(B1 n t).map Kd.enc
theorem SA{n:Nat}{D:Ew}{p t:Addr}{items:List W}:∀(l:List Te)(o:Option W)(k0:W)(G:Hw)(a:List W),(∀ c∈l,c.ok=true/\c.dp<=n)->a.length+3*AK l<=20000->AK l<=1000->p≠t->G p=some (.lst a)->G t=some (.lst items)->
  (∀ ω k,(∃ o',ω=[some k0,some (.ref p),o'])->k p=some (.lst (a++(l.flatMap (B1 n)).map Kd.enc))->(∀ b,b≠p->∀ u,G b=some u->k b=some u)->D.nx ω k)->
  Bh (holds t items) (gNm 2) (Aw (gMt AH Bz (Ab 1) (Aa (Ag (Sz n) XF (Aa (Ab 2) Ac)) Ac))) D (l.map Te.enc) [some k0,some (.ref p),o] G
 | [],o,k0,G,a,_,_,_,g,i,j,e=>⟨j,e _ G ⟨o,rfl⟩ (by simpa using i) λ_ _ _ h=>h⟩
 | c::l,o,k0,G,a,hd,hl,hc,g,i,j,e=>by
  have y:c.cnt+AK l<=1000:=hc
  have z:a.length+3*(c.cnt+AK l)<=20000:=hl
  have f:=hd c Ye
  have A:=Ji n c f.1
  refine⟨j,?_⟩
  show Aw _ _ [some k0,some (.ref p),some c.enc] G
  walk_at "rd"
  refine⟨Bv i,c,⟨rfl,f.1,f.2,by omega⟩,λr s=>?_⟩
  have q:=AI i s
  have m:=AI j s
  refine Ek (by rw[Aq q];exact i) Aj (by rw[Yh];exact AT (by omega)) ?_
  refine SA l (some c.enc) k0 _ (a++(B1 n c).map Kd.enc) (λd v=>hd d (Yd _ v)) (by rw[Yj,Yh];omega) (by omega) g Aj ?_ ?_
  ·rw[Aq (YU g),Aq m];exact j
  ·intro ω k hω h1 h2
   refine e ω k hω (by rw[h1,Qa,Yy,Yv]) λb w u x=>h2 b w u ?_
   rw[Aq w,Aq (AI x s)];exact x
theorem Ep(T:Tx K mg base a):∀ n:Nat,Df P w K mg base "all_told" (n+3) 1 (Sz n)
 | 0=>CM T.P9 BE λl G Q E⟨t,⟨_,_,hd,_⟩,_⟩=>by have:=He t;omega
 | n+1=>by
  refine mk0 (k:=n+3) T.P9 rfl R5 BE (λl G Q E⟨x,⟨e,_⟩,_⟩=>by rw[e];rfl) (fm T (Eo T) (by omega) (B6 T) (by omega) (Ep T n) (Yr _)) λl G Q E r q=>?_
  obtain⟨t,⟨rfl,j,hd,hc⟩,q⟩:=q
  have v:=Ci t
  have A:=CL t
  have y:=Hm j
  unfold R6
  walk_at "rd"
  refine⟨t,⟨rfl,j⟩,λp m=>?_⟩
  refine⟨t,⟨rfl,j,by omega⟩,λs d=>?_⟩
  have h:p≠s:=AI Aj d
  simp only[Aj]
  refine SA t.parts none t.enc _ (t.told.map Kd.enc) (λc i=>⟨C2 j c i,by have:=F7 i;omega⟩) (by rw[Yh];omega) (by omega) h (by rw[Aq h];exact Aj) Aj ?_
  intro ω o hω h1 h2
  obtain⟨o',rfl⟩:=hω
  simp only[Yb,Yc]
  have hs:Sub (put G p (.lst ((B1 (n+1) t).map Kd.enc))) o:=λb u f=>by
   by_cases g:b=p
   ·subst g
    rw[Aj]at f;cases f
    rw[h1,<- Yy];rfl
   ·rw[Aq g]at f
    refine h2 b g u ?_
    rw[Aq (λz=>by subst z;rw[Aq g]at d;rw[d]at f;cases f),Aq g];exact f
  exact r _ _ _ hs (q p m)
def SC:Spw:=λws G Q _=>∃ t:Te,ws=[t.enc]/\tg t/\Q .non G
theorem fO:Spw.M SC:=(by rintro b G Q c E a h _ ⟨t,h1,h2,q⟩;exact⟨t,h1,h2,h _ _ q⟩)
theorem Eu(T:Tx K mg base a):Df P w K mg base "check_term" 12 1 SC:=by
 refine mkX (k:=11) T.dz rfl RN fO (λb G Q E⟨x,e,_⟩=>by rw[e];rfl) (g:=λE=>Ml K a _ E) (eP T (IX T) (by omega)) λb G Q E d c q=>?_
 obtain⟨t,rfl,h,q⟩:=q
 unfold Ml
 walk_at "rd"
 refine⟨t,⟨rfl,h⟩,?_⟩
 simp only[YE,Yq,if_false]
 exact q
theorem Jj{α:Type}(xs:List α)(i:Nat):BI xs none (some (i:Int))=xs.take i:=by
 unfold BI
 rw[HT.sIx_none,HT.sIx_nat]
 show(xs.drop 0).take (min i xs.length - 0)=xs.take i
 rw[List.drop_zero,Nat.sub_zero,List.take_eq_take_iff]
 omega
theorem Jk{α:Type}(xs:List α)(i:Nat):BI xs (some (i:Int)) none=xs.drop i:=by
 unfold BI
 rw[HT.sIx_none,HT.sIx_nat]
 rcases Nat.le_total i xs.length with h | h
 ·rw[Nat.min_eq_left h]
  exact List.take_of_length_le (by rw[List.length_drop];exact Yr _)
 ·rw[Nat.min_eq_right h,List.drop_of_length_le (Yr _),List.drop_of_length_le h];simp
def Jl:Spw:=λws G Q _=>∃(p:Addr)(xs:List W)(i:Nat)(v:W),ws=[.ref p,.int i,v]/\G p=some (.lst xs)/\i < xs.length/\xs.length<=1000/\∀ r,G r=none->Q (.ref r) (put G r (.lst (xs.set i v)))
theorem fP:Spw.M Jl:=(by rintro d G Q f E e h _ ⟨p,xs,i,v,h1,h2,c,a,q⟩;exact⟨p,xs,i,v,h1,h2,c,a,λr b=>h _ _ (q r b)⟩)
theorem Hn{α:Type}:∀(xs:List α)(i:Nat)(v:α),i < xs.length->xs.take i++[v]++xs.drop (i+1)=xs.set i v
 | [],i,v,h=>by cases h
 | x::xs,0,v,_=>rfl
 | x::xs,i+1,v,h=>by
  have a:=Hn xs i v (by simpa using h)
  rw[List.take_succ_cons,List.drop_succ_cons,Yl,<- a];rfl
theorem SD{r:Addr}(h1:G p=some (.lst xs))(h2:G r=some (.lst ys))(hl:xs.length+ys.length<=2000)(q:∀ s,G s=none->Q (.ref s) (put G s (.lst (xs++ys)))):Az (.ref p) (.ref r) G Q:=by
 rw[HS (λz=>by obtain⟨⟨u,a⟩,_⟩:=z;cases a)]
 unfold L3.Bo
 simp only[h1,h2]
 exact⟨AT (by omega),q⟩
variable {lo hi:Option Int}
theorem SE(h:slW (.ref p) lo hi G Q):slA (.ref p) lo hi G Q:=h
theorem Es(T:Tx K mg base a):Df P w K mg base "with_one" 1 3 Jl:=by
 refine mk0 T.dB rfl R8 fP (λn G Q E⟨_,_,_,_,e,_⟩=>by rw[e];rfl) (fx T) λn G Q E r q=>?_
 obtain⟨p,xs,i,v,rfl,k,hi,y,q⟩:=q
 unfold R9
 show Ai _ (Av Q) [some (.ref p),some (.int i),some v] G
 simp only[Ai,Ad,AN,AG,AF,Ap,Aa,Ac,Ab,gC,Yb,Yc,Av]
 refine SE (Ll k λp1 j=>?_)
 rw[Jj]
 refine⟨(show 1<=sizeLine by decide),λp2 c=>?_⟩
 have m:(xs.take i).length=i:=by rw[List.length_take];omega
 have g1:put (put G p1 (.lst (xs.take i))) p2 (.lst [v]) p1=some (.lst (xs.take i)):=by rw[Aq (AI Aj c)];exact Aj
 have t:Sub G (put (put G p1 (.lst (xs.take i))) p2 (.lst [v])):=BD (AB j) c
 refine SD g1 Aj (by simp only[Yg,Yi];omega) λp3 g=>?_
 have f:=BD (o:=.lst (xs.take i++[v])) t g
 have g3:put (put (put G p1 (.lst (xs.take i))) p2 (.lst [v])) p3 (.lst (xs.take i++[v])) p3=some (.lst (xs.take i++[v])):=Aj
 generalize put (put (put G p1 (.lst (xs.take i))) p2 (.lst [v])) p3 (.lst (xs.take i++[v]))=G3 at f g3 ⊢
 rw[show Az (.int (i:Int)) (.int 1) G3=λQ=>Q (.int ((i:Int)+1)) G3 from rfl]
 refine SE (Ll (f _ _ k) λx b=>?_)
 rw[show((i:Int)+1)=((i+1:Nat):Int) by omega,Jk]
 have l:(xs.drop (i+1)).length=xs.length -(i+1):=List.length_drop
 refine SD (by rw[Aq (AI g3 b)];exact g3) Aj (by rw[Yj,m,l];simp only[Yg,Yi];omega) λh d=>?_
 rw[Hn xs i v hi]
 have s:G h=none:=by
  cases z:G h with
  | none=>rfl
  | some u=>rw[BD f b _ _ z]at d;cases d
 exact r _ _ _ (Sub.put2 (BD f b)) (q h s)
def Fs.withK:Fs->List Kd->Fs
 | .cons n m _ r,c::cs=>.cons n m c (r.withK cs)
 | fs,_=>fs
def Kd.withK:Kd->List Kd->Kd
 | .to _ _,[x,y]=>.to x y
 | .box _,[x]=>.box x
 | .row fs o,cs=>.row (fs.withK cs) o
 | k,_=>k
def Mu:Spw:=λws G Q _=>∃(k:Kd)(p:Addr)(cs:List Kd),ws=[k.enc,.ref p]/\G p=some (.lst (cs.map Kd.enc))/\cs.length=k.kids.length/\k.cnt<=1000/\Q (k.withK cs).enc G
theorem fQ:Spw.M Mu:=(by rintro d G Q f E e h _ ⟨k,p,a,h1,h2,c,b,q⟩;exact⟨k,p,a,h1,h2,c,b,h _ _ q⟩)
theorem Ho(h:G p=some (.lst ys)):BK [.ref p] G=some (.tup ys):=by unfold BK;dsimp only;rw[Ig h];rfl
theorem SF{G:Hw}{R:List W->Hw->Prop}{d:Hw->Prop}(b:d G):∀(fs:Fs)(a:List Kd)(o o':Option W)(ys:List W),a.length=fs.kinds.length->ys.length+a.length<=1000->R (ys++(fs.withK a).enc) G->
  AV d (AY 0 1) AA (Ah (Aa (Ad (Ae ixW) (Ab 0) (gC (.int 0))) (Aa (Ad (Ae ixW) (Ab 0) (gC (.int 1))) (Aa (Ab 1) Ac)))) R (BA fs.enc (a.map Kd.enc)) [o,o'] G ys
 | .nil,[],o,o',ys,_,_,h=>⟨b,by have h':R (ys++[]) G:=h;rw[Yx]at h';exact h'⟩
 | .cons n m k r,c::a,o,o',ys,hl,f,h=>by
  have e:a.length+1=r.kinds.length+1:=hl
  rw[Yg]at f
  refine⟨b,Bl (by omega),?_⟩
  simp only[AY,AA,if_true,Yk,Yl,Ah,Aa,Ac,Ad,Ae,Ab,gC,Yb,Yc,ixW,Bf,A0,Ak]
  walk_at "pI"
  refine SF b r a _ _ _ (by omega) (by rw[Yj];simp only[Yg,Yi];omega) ?_
  rw[Yv];exact h
theorem Jd(T:Tx K mg base a):Df P w K mg base "with_kinds_within" 1 2 Mu:=by
 refine mk0 T.dD rfl Ms fQ (λl G Q E⟨_,_,_,e,_⟩=>by rw[e];rfl) (fy T) λl G Q E s q=>?_
 obtain⟨k,p,b,rfl,f,hl,hc,q⟩:=q
 unfold Sb
 show Af (gIf _ _ Al) _ (Av Q) [some k.enc,some (.ref p),none] G
 have ne:∀{h:Str}{xs:List W},h≠"row"->k.enc=.tup (.str h::xs)->(k.withK b).enc=.tup (.str h::b.map Kd.enc)->Af (gIf (gTB (Ad (Ae (eqF true)) (Ad (Ae ixW) (Ab 0) (gC (.int 0))) (gC (.str "row")))) (Ai (Ad (Az) (Ah (Aa (Ad (Ae ixW) (Ab 0) (gC (.int 0))) Ac)) (gB (rF BK) (Aa (Ab 1) Ac)))) Al) (Af (An 2 (AW (E5 (Aa (Ad (Ae ixW) (Ab 0) (gC (.int 1))) (Aa (Ab 1) Ac))) 2 [] (AY 0 1) AA (Ah (Aa (Ad (Ae ixW) (Ab 0) (gC (.int 0))) (Aa (Ad (Ae ixW) (Ab 0) (gC (.int 1))) (Aa (Ab 1) Ac)))))) (Ai (Ah (Aa (gC (.str "row")) (Aa (gB (rF BK) (Aa (Ab 2) Ac)) (Aa (Ad (Ae ixW) (Ab 0) (gC (.int 2))) Ac)))))) (Av Q) [some k.enc,some (.ref p),none] G:=by
  intro h xs i n u
  rw[u]at q
  rw[n]
  walk_at "ps"
  rw[show(h==("row":Str))=false by simpa using i]
  simp only[show(false != true)=true from rfl,if_true,Ai,Ad,Ah,Aa,Ac,Ae,Ab,gC,Yb,Yc,ixW,Bf,Ak,gB,rF,Ho f,CY,Av]
  have v:=Cf k
  have g:=Ec k.kids
  refine⟨(show 1<=sizeLine by decide),?_,q⟩
  rw[Yh]
  exact AT (by simp only[Yg,Yi];omega)
 cases k with
 | any=>exact ne (h:="any") (by decide +kernel) rfl (by cases b with | nil=>rfl | cons c b=>cases hl)
 | num=>exact ne (h:="num") (by decide +kernel) rfl (by cases b with | nil=>rfl | cons c b=>cases hl)
 | truth=>exact ne (h:="truth") (by decide +kernel) rfl (by cases b with | nil=>rfl | cons c b=>cases hl)
 | to x y =>
  refine ne (h:="to") (by decide +kernel) rfl ?_
  match b,hl with
  | [c,d],_=>rfl
 | box x =>
  refine ne (h:="box") (by decide +kernel) rfl ?_
  match b,hl with
  | [c],_=>rfl
 | row fs o =>
  have t:1+fs.cnt<=1000:=hc
  have g:b.length=fs.kinds.length:=hl
  have j:fs.kinds.length<=fs.cnt:=by rw[Ii];exact Ec _
  simp only[Kd.enc,Af,gIf,gTB,Ad,Ae,Ab,gC,Yb,ixW,Bf,Ak,Bn]
  rw[show(("row":Str)=="row")=true by decide +kernel]
  simp only[show(true != true)=false from rfl,Yq,if_false,Al,An,AW,E5,Bi,Aa,Ac,Ad,Ae,Ab,gC,Yb,Yc,ixW,A0,Ak,YH,List.replicate,Yx]
  refine⟨fs.enc,.ref p,b.map Kd.enc,rfl,CI f,?_⟩
  refine SF (CI f) fs b none none [] g (by simp only[Yi];omega) λr m=>?_
  rw[Yw]
  simp only[Yk,Yl,Ai,Ah,Aa,Ac,gC,gB,rF,Ab,Yb,Yc,Ho Aj,Ak,Ad,Ae,ixW,B0,Av]
  exact⟨(show 3<=sizeLine by decide),s _ _ _ (AB m) q⟩
def opn:Kd->List Kd
 | .row fs false=>[.row fs true]
 | _=>[]
def lkS(f:Kd->List Kd)(k:Kd):Nat->List Kd->List Kd
 | _,[]=>[]
 | i,c::cs=>(f c).map (λd=>k.withK (k.kids.set i d))++lkS f k (i+1) cs
def lk:Nat->Kd->List Kd
 | 0,_=>[]
 | n+1,k=>((if k.hd="any" then[]else[.any])++opn k)++lkS (lk n) k 0 k.kids
theorem SG{f:Kd->List Kd}{k:Kd}(h:∀ c,(f c).length<=2*c.cnt):∀(l:List Kd)(i:Nat),(lkS f k i l).length<=2*AM l
 | [],_=>YT _
 | c::l,i=>by
  have h1:=h c
  have h2:=SG (k:=k) h l (i+1)
  show((f c).map _++lkS f k (i+1) l).length<=2*(c.cnt+AM l)
  rw[Yj,Yh];omega
theorem Ff:∀(n:Nat)(k:Kd),(lk n k).length<=2*k.cnt
 | 0,k=>YT _
 | n+1,k=>by
  have h1:=SG (k:=k) (Ff n) k.kids 0
  have h2:=Cf k
  have a:(if k.hd="any" then([]:List Kd)else[.any]).length<=1:=by split <;> decide
  have b:(opn k).length<=1:=by
   cases k with
   | row fs o =>
    cases o with
    | false=>exact Yr 1
    | true=>exact YT _
   | _=>exact YT _
  show(((if k.hd="any" then([]:List Kd)else[.any])++opn k)++lkS (lk n) k 0 k.kids).length<=_
  rw[Yj,Yj];omega
theorem Jm{α:Type}{enc f:α->W}{ge:GE}{R:List W->Hw->Prop}{cst:Sw}{g:Hw->Prop}:∀(l:List α)(o:Option W)(ys:List W)(G:Hw),(∀ a,Sub G a->g a)->(∀ x∈l,∀(a:Hw)(Q:Kw),Sub G a->(∀ b,Sub a b->Q (f x) b)->ge (some (enc x)::cst) a Q)->
  ys.length+l.length<=sizeLine->(∀ d,Sub G d->R (ys++l.map f) d)->AV g (gNm 0) AA ge R (l.map enc) (o::cst) G ys
 | [],o,ys,G,c,_,_,r=>⟨c G Sub.refl,by simpa using r G Sub.refl⟩
 | x::l,o,ys,G,c,h,hl,r=>by
  refine⟨c G Sub.refl,by simp only[Yg]at hl;omega,?_⟩
  show ge (some (enc x)::cst) G λy k=>AV g (gNm 0) AA ge R (l.map enc) (some (enc x)::cst) k (ys++[y])
  refine h x Ye _ _ Sub.refl λb e=>Jm l (some (enc x)) (ys++[f x]) b (λa i=>c a (e.trans i)) (λy j a Q i=>h y (Yd _ j) a Q (e.trans i)) ?_ λd s'=>?_
  ·simp only[Yj,Yg,Yi]at hl ⊢;omega
  ·simpa[Yv]using r d (e.trans s')
abbrev Mv(n:Nat):Spw:=spL (λ(k:Kd)ws _=>ws=[k.enc]/\k.dp<=n/\k.cnt<=1000) λk=>(lk n k).map Kd.enc
abbrev Jn(n:Nat):GS:=Aw (gMt AH Bz (Ab 1) (Aa (AW (Au (Ag (Mv n) XF (Aa (Ab 4) Ac))) 1 [0,2,3] (gNm 0) AA (Ag Mu XF (Aa (Ab 1) (Aa (Ag Jl XF (Aa (Ab 2) (Aa (Ab 3) (Aa (Ab 0) Ac)))) Ac)))) Ac))
theorem SH{n:Nat}{D:Ew}{k:Kd}{p q:Addr}(y:p≠q)(H:k.cnt<=1000):∀(l:List Kd)(i:Nat)(o3 o4:Option W)(G:Hw)(a:List Kd),(∀ c∈l,c.dp<=n)->i+l.length=k.kids.length->a.length+2*AM l<=5000->AM l<=1000->G p=some (.lst (a.map Kd.enc))->G q=some (.lst (k.kids.map Kd.enc))->
  (∀ o3 o4 m,m p=some (.lst ((a++lkS (lk n) k i l).map Kd.enc))->(∀ b,b≠p->∀ u,G b=some u->m b=some u)->D.nx [some k.enc,some (.ref p),some (.ref q),o3,o4] m)->
  Bh (λG=>rdL G (.ref q)=some (k.kids.map Kd.enc)) (AY 3 4) (Jn n) D (Ea i (l.map Kd.enc)) [some k.enc,some (.ref p),some (.ref q),o3,o4] G
 | [],i,o3,o4,G,a,_,_,_,_,z,w,j=>⟨CI w,j o3 o4 G (by show G p=some (.lst ((a++[]).map Kd.enc));rw[Yx];exact z) λ_ _ _ h=>h⟩
 | c::l,i,o3,o4,G,a,hd,hi,L,hc,z,w,j=>by
  have P:a.length+2*(c.cnt+AM l)<=5000:=L
  have T:c.cnt+AM l<=1000:=hc
  rw[Yg]at hi
  have J:=Ff n c
  refine⟨CI w,?_⟩
  show Jn n _ [some k.enc,some (.ref p),some (.ref q),some (.int i),some c.enc] G
  simp only[Jn,Aw,gMt,AW,Au,Ag,Bi,Aa,Ac,Ab,Ym,YH,List.replicate,List.cons_append,Yw,Yb,Yc,Option.getD_some]
  refine⟨Bv z,c,⟨rfl,hd c Ye,by omega⟩,λr A=>?_⟩
  simp only[Aj]
  have U:(k.kids.map Kd.enc).length=k.kids.length:=Yh _
  have K:k.kids.length<=1000:=by have:=Cf k;have:=Ec k.kids;omega
  refine Jm (enc:=Kd.enc) (f:=λd=>(k.withK (k.kids.set i d)).enc) (cst:=[some k.enc,some (.ref q),some (.int i)]) (lk n c) none [] _ (λO E=>E _ _ Aj) (λd x O Y E X=>?_) (by exact AT (by simp only[Yi];omega)) λm s' p1 g=>?_
  ·simp only[Ag,Aa,Ac,Ab,Yb,Yc]
   refine⟨q,k.kids.map Kd.enc,i,d.enc,rfl,E _ _ (AB A _ _ w),by omega,by omega,λS B=>?_⟩
   exact⟨k,S,k.kids.set i d,rfl,by rw[Aj,List.map_set],by rw[List.length_set],H,X _ (AB B)⟩
  ·rw[Yw]
   have v:m p=some (.lst (a.map Kd.enc)):=s' _ _ (AB A _ _ z)
   have t:m q=some (.lst (k.kids.map Kd.enc)):=s' _ _ (AB A _ _ w)
   have R:=AI v g
   have Q:=AI t g
   refine Ek (xs:=a.map Kd.enc) (zs:=(lk n c).map λd=>(k.withK (k.kids.set i d)).enc) (by rw[Aq R];exact v) Aj (by rw[Yh,Yh];exact AT (by omega)) ?_
   have e:a.map Kd.enc++((lk n c).map λd=>(k.withK (k.kids.set i d)).enc)=(a++(lk n c).map λd=>k.withK (k.kids.set i d)).map Kd.enc:=by rw[Yy,YB];rfl
   rw[e]
   refine SH y H l (i+1) _ _ _ (a++(lk n c).map λd=>k.withK (k.kids.set i d)) (λd x=>hd d (Yd _ x)) (by omega) (by rw[Yj,Yh];omega) (by omega) Aj ?_ ?_
   ·rw[Aq (YU y),Aq Q];exact t
   ·intro o3 o4 N g1 g2
    refine j o3 o4 N (by rw[g1,Yv];rfl) λb F u I=>g2 b F u ?_
    have s:=s' _ _ (AB (o:=.lst ((lk n c).map Kd.enc)) A _ _ I)
    rw[Aq F,Aq (AI s g)];exact s
variable {y:W}
theorem Ck(a:G p=some (.lst xs))(hl:xs.length < sizeLine)(q:Q .non (put G p (.lst (xs++[y])))):AS (.ref p) [y] G Q:=by
 unfold AS
 refine K3 a ?_ q
 rw[if_pos hl]
theorem Cm(k:Kd)(G:Hw):ixW k.enc (.int 0) G=some (.str k.hd):=by
 obtain⟨xs,e⟩:=Hd k
 rw[e];exact Bf
theorem Mw{k:Kd}(h:k.hd="row"):∃ fs o,k=.row fs o:=by
 cases k <;> first | exact⟨_,_,rfl⟩| exact absurd h (by simp only[Kd.hd];decide)
theorem Er(T:Tx K mg base a):∀ n:Nat,Df P w K mg base "less_kinds" (n+2) 1 (Mv n)
 | 0=>CM T.Qm BE λv G Q E⟨k,⟨_,hd,_⟩,_⟩=>by have:=C1 k;omega
 | n+1=>by
  refine mk0 (k:=n+2) T.Qm rfl Se BE (λv G Q E⟨x,⟨e,_⟩,_⟩=>by rw[e];rfl) (fz T (B5 T) (by omega) (Er T n) (Yr _) (Es T) (by omega) (Jd T) (by omega)) λv G Q E H q=>?_
  obtain⟨k,⟨rfl,hd,hc⟩,q⟩:=q
  unfold Sf
  show Af (An 1 _) _ (Av Q) [some k.enc,none,none,none,none] G
  refine AL ?_
  have l:∀ Z:Kw,(∀ p,G p=none->Z (.ref p) (put G p (.lst ((if k.hd="any" then([]:List Kd)else[.any]).map Kd.enc))))->BH (gTB (Ad (Ae (eqF false)) (Ad (Ae ixW) (Ab 0) (gC (.int 0))) (gC (.str "any")))) (Ap Ac) (Ap (Aa (Ah (Aa (gC (.str "any")) Ac)) Ac)) [some k.enc,none,none,none,none] G Z:=by
   intro Z j
   simp only[BH,gTB,Ad,Ae,Ab,gC,Yb,Cm,Ak,Bn]
   by_cases e:k.hd="any"
   ·rw[if_pos e]at j
    rw[show(k.hd==("any":Str))=true by simp[e],show(true != false)=true from rfl,if_pos rfl]
    simp only[Ap,Ac]
    exact⟨by decide,j⟩
   ·rw[if_neg e]at j
    rw[show(k.hd==("any":Str))=false by simpa using e,show(false != false)=false from rfl,if_neg (by decide)]
    simp only[Ap,Ah,Aa,Ac,gC]
    exact⟨by decide,by decide,j⟩
  refine l _ λp B=>?_
  walk_at "pd"
  generalize s:(if k.hd="any" then([]:List Kd)else[.any])=A
  have F:A.length<=1:=by rw[<- s];split <;> decide
  have m:∀{Ao:GS}{D:Ew},Ao D [some k.enc,some (.ref p),none,none,none] (put G p (.lst ((A++opn k).map Kd.enc)))->Af (gIf (A1 (gTB (Ad (Ae (eqF false)) (Ad (Ae ixW) (Ab 0) (gC (.int 0))) (gC (.str "row")))) (gNt (AO (Ad (Ae ixW) (Ab 0) (gC (.int 2)))))) (Aw (gMt AH AS (Ab 1) (Aa (Ah (Aa (gC (.str "row")) (Aa (Ad (Ae ixW) (Ab 0) (gC (.int 1))) (Aa (gC (.bl true)) Ac)))) Ac))) Al) Ao D [some k.enc,some (.ref p),none,none,none] (put G p (.lst (A.map Kd.enc))):=by
   intro Ao D h
   simp only[Af,gIf,A1,gTB,Ad,Ae,Ab,gC,Yb,Cm,Ak,Bn]
   by_cases e:k.hd="row"
   ·rw[show(k.hd==("row":Str))=true by simp[e],show(true != false)=true from rfl,if_pos rfl]
    obtain⟨fs,o,rfl⟩:=Mw e
    simp only[gNt,AO,Ad,Ae,Ab,gC,Yb,Kd.enc,ixW,B0,Ak,BG]
    cases o with
    | true =>
     simp only[YE,Yq,if_false,Al]
     have h':Ao D [some (Kd.row fs true).enc,some (.ref p),none,none,none] (put G p (.lst ((A++[]).map Kd.enc))):=h
     rw[Yx]at h'
     exact h'
    | false =>
     simp only[YL,if_true,Aw,gMt,Ah,Aa,Ac,Ad,Ae,Ab,gC,Yb,Yc,ixW,A0,Ak]
     refine⟨Bv Aj,(show 3<=sizeLine by decide),Ck Aj (by rw[Yh];exact Bl (by omega)) ?_⟩
     rw[GQ]
     have h':Ao D [some (Kd.row fs false).enc,some (.ref p),none,none,none] (put G p (.lst ((A++[Kd.row fs true]).map Kd.enc))):=h
     rw[Yy]at h'
     exact h'
   ·rw[show(k.hd==("row":Str))=false by simpa using e,show(false != false)=false from rfl,if_neg (by decide)]
    simp only[Yq,if_false,Al]
    have I:opn k=[]:=by
     cases k with
     | row fs o=>exact absurd rfl e
     | _=>rfl
    rw[I,Yx]at h
    exact h
  refine m ?_
  have y:(opn k).length<=1:=by
   cases k with
   | row fs o =>
    cases o with
    | false=>exact Yr 1
    | true=>exact YT _
   | _=>exact YT _
  refine AL ?_
  simp only[Ag,Aa,Ac,Ab,Yb]
  refine⟨k,⟨rfl,by omega⟩,λt d=>?_⟩
  walk_at "pd"
  have i:p≠t:=AI Aj d
  have O:=Cf k
  show Af (AD _ _ (Jn n)) _ (Av Q) _ _
  simp only[Af,AD,FO,Aa,Ac,Ab,Yb,Yc]
  refine⟨.ref t,k.kids.map Kd.enc,rfl,CI Aj,?_⟩
  refine SH i hc k.kids 0 none none _ (A++opn k) (λc r=>by have:=E6 r;omega) (by omega) (by rw[Yj];omega) (by omega) (by rw[Aq i];exact Aj) Aj λN L J h1 h2=>?_
  simp only[Ai,Ab,Yb,Yc,Av]
  have hs:Sub (put G p (.lst ((lk (n+1) k).map Kd.enc))) J:=λb u f=>by
   by_cases g:b=p
   ·subst g
    rw[Aj]at f;cases f
    rw[h1,<- s];rfl
   ·rw[Aq g]at f
    refine h2 b g u ?_
    rw[Aq (λz=>by subst z;rw[Aq g]at d;rw[d]at f;cases f),Aq g];exact f
  exact H _ _ _ hs (q p B)
def As.withKd(k:Kd):As->As
 | .nil=>.nil
 | .num i r=>.num i (r.withKd k)
 | .tru b r=>.tru b (r.withKd k)
 | .nam x r=>.nam x (r.withKd k)
 | .knd _ r=>.knd k (r.withKd k)
 | .trm t r=>.trm t (r.withKd k)
 | .fld f r=>.fld f (r.withKd k)
def Te.withKd(k:Kd):Te->Te
 | .nd w r=>.nd w (r.withKd k)
theorem Mx{G:Hw}{R:List W->Hw->Prop}{v:W}:∀(l:List (W×Str))(o o':Option W)(ys:List W),ys.length+l.length<=1000->R (ys++l.map λx=>if(x.2==("kind":Str))=true then v else x.1) G->
  AV yes (AY 0 1) AA (BH (gTB (Ad (Ae (eqF false)) (Ab 0) (gC (.str "kind")))) (Ab 2) (Ab 1)) R (l.map λx=>.tup [.str x.2,x.1]) [o,o',some v] G ys
 | [],o,o',ys,_,h=>⟨trivial,by rw[YH,Yx]at h;exact h⟩
 | x::l,o,o',ys,hl,h=>by
  rw[Yg]at hl
  refine⟨trivial,Bl (by omega),?_⟩
  simp only[AY,AA,if_true,Yk,Yl,BH,gTB,Ad,Ae,Ab,gC,Yb,Yc,Bn,Ak]
  rw[Ym]at h
  cases e:(x.2==("kind":Str))with
  | true =>
   rw[e,if_pos rfl]at h
   rw[show(true != false)=true from rfl,if_pos rfl]
   refine Mx l _ _ (ys++[v]) (by rw[Yj];simp only[Yg,Yi];omega) ?_
   rw[Yv];exact h
  | false =>
   rw[e,if_neg (by decide)]at h
   rw[show(false != false)=false from rfl,if_neg (by decide)]
   refine Mx l _ _ (ys++[x.1]) (by rw[Yj];simp only[Yg,Yi];omega) ?_
   rw[Yv];exact h
theorem Ex(k:Kd):∀ r:As,(r.prs.map λx=>if(x.2==("kind":Str))=true then k.enc else x.1)=(r.withKd k).enc
 | .nil=>rfl
 | .num i r=>by show(if((("number":Str))=="kind")=true then k.enc else W.int i)::_=W.int i::(r.withKd k).enc;rw[if_neg (by decide +kernel)];exact congrArg (_::·) (Ex k r)
 | .tru b r=>by show(if((("truth":Str))=="kind")=true then k.enc else W.bl b)::_=W.bl b::(r.withKd k).enc;rw[if_neg (by decide +kernel)];exact congrArg (_::·) (Ex k r)
 | .nam x r=>by show(if((("name":Str))=="kind")=true then k.enc else W.str x)::_=W.str x::(r.withKd k).enc;rw[if_neg (by decide +kernel)];exact congrArg (_::·) (Ex k r)
 | .knd j r=>by show(if((("kind":Str))=="kind")=true then k.enc else j.enc)::_=k.enc::(r.withKd k).enc;rw[if_pos (by decide +kernel)];exact congrArg (_::·) (Ex k r)
 | .trm t r=>by show(if((("term":Str))=="kind")=true then k.enc else t.enc)::_=t.enc::(r.withKd k).enc;rw[if_neg (by decide +kernel)];exact congrArg (_::·) (Ex k r)
 | .fld f r=>by show(if((("fields":Str))=="kind")=true then k.enc else W.tup f.enc)::_=W.tup f.enc::(r.withKd k).enc;rw[if_neg (by decide +kernel)];exact congrArg (_::·) (Ex k r)
abbrev SI:Spw:=spR (λ(x:Te×Kd)ws _=>ws=[x.1.enc,x.2.enc]/\x.1.ok=true) λx=>(x.1.withKd x.2).enc
theorem Jg(T:Tx K mg base a):Df P w K mg base "with_kind" 2 2 SI:=by
 refine mk0 (k:=1) T.dE rfl Sh Bu (λf G Q E⟨x,⟨e,_⟩,_⟩=>by rw[e];rfl) (fE T (BM T) (Yr _)) λf G Q E d q=>?_
 obtain⟨⟨t,k⟩,⟨rfl,b⟩,q⟩:=q
 dsimp only at b q
 cases t with
 | nd w r =>
 obtain⟨h1,h2⟩:=Cj b
 have hs:=DG h1
 unfold Si
 show Af (An 2 _) _ (Av Q) [some (.tup (.str w::r.enc)),some k.enc,none] G
 refine AL ?_
 simp only[Ag,Aa,Ac,Ad,Ae,Ab,gC,Yb,ixW,Bf,Ak]
 refine⟨w,rfl,?_⟩
 dsimp only
 rw[Hg h1]
 simp only[Yk,Yl,Ai,Ad,Ah,Aa,Ac,Ae,Ab,gC,Yb,Yc,ixW,Bf,Ak,gB,AW,CH,AN,AG,AF,Bi,Ym,YH,List.replicate,List.cons_append,Yw,Option.getD_some,Av]
 refine⟨(show 1<=sizeLine by decide),?_⟩
 show ∃ xs ys,_
 refine⟨r.sorts.map W.str,r.enc,by rw[CJ];rfl,?_⟩
 rw[DN]
 refine Mx r.prs none none [] (by rw[C3];simp only[Yi];omega) λp c=>?_
 rw[Yw,Ex]
 simp only[rF,Ho Aj,Ak,CY]
 have el:(r.withKd k).enc.length<=3:=by rw[<- Ex,Yh,C3];exact hs
 exact⟨AT (by simp only[Yg,Yi];omega),d _ _ _ (AB c) q⟩
def Fl.withT:Fl->List Te->Fl
 | .cons x _ r,u::us=>.cons x u (r.withT us)
 | f,_=>f
def As.withPs:As->List Te->As
 | .nil,_=>.nil
 | .num i r,us=>.num i (r.withPs us)
 | .tru b r,us=>.tru b (r.withPs us)
 | .nam x r,us=>.nam x (r.withPs us)
 | .knd k r,us=>.knd k (r.withPs us)
 | .trm t r,u::us=>.trm u (r.withPs us)
 | .trm t r,[]=>.trm t r
 | .fld f r,us=>.fld (f.withT us) r
def Te.withPs:Te->List Te->Te
 | .nd w r,us=>.nd w (r.withPs us)
theorem SJ{G:Hw}{R:List W->Hw->Prop}{b:Hw->Prop}(a:b G):∀(f:Fl)(us:List Te)(o o':Option W)(ys:List W),us.length=f.terms.length->ys.length+us.length<=1000->R (ys++(f.withT us).enc) G->
  AV b (AY 0 1) AA (Ah (Aa (Ad (Ae ixW) (Ab 0) (gC (.int 0))) (Aa (Ab 1) Ac))) R (BA f.enc (us.map Te.enc)) [o,o'] G ys
 | .nil,[],o,o',ys,_,_,h=>⟨a,by have h':R (ys++[]) G:=h;rw[Yx]at h';exact h'⟩
 | .cons x t r,u::us,o,o',ys,hl,d,h=>by
  have c:us.length+1=r.terms.length+1:=hl
  rw[Yg]at d
  refine⟨a,Bl (by omega),?_⟩
  simp only[AY,AA,if_true,Yk,Yl,Ah,Aa,Ac,Ad,Ae,Ab,gC,Yb,Yc,ixW,Bf,Ak]
  refine⟨(show 2<=sizeLine by decide),?_⟩
  refine SJ a r us _ _ _ (by omega) (by rw[Yj];simp only[Yg,Yi];omega) ?_
  rw[Yv];exact h
def mix:List (W×Str)->List W->List W
 | [],_=>[]
 | x::l,us=>if(x.2==("term":Str))=true then us.headD x.1::mix l us.tail else x.1::mix l us
def DO:List (W×Str)->Nat
 | []=>0
 | x::l=>(if(x.2==("term":Str))=true then 1 else 0)+DO l
abbrev My:GS:=Af (Aw (gMt AH AS (Ab 2) (Aa (BH (gTB (Ad (Ae (eqF false)) (Ab 4) (gC (.str "term")))) (Ad (Ae ixW) (Ab 1) (Ab 3)) (Ab 5)) Ac))) (B3 3 BY (BH (gTB (Ad (Ae (eqF false)) (Ab 4) (gC (.str "term")))) (gC (.int 1)) (gC (.int 0))))
theorem Mz{D:Ew}{t:Option W}{p q:Addr}{vs:List W}(f:p≠q):∀(l:List (W×Str))(j:Nat)(o4 c:Option W)(G:Hw)(a:List W),j+DO l=vs.length->a.length+l.length<=1000->G p=some (.lst vs)->G q=some (.lst a)->
  (∀ i o4 c g,g q=some (.lst (a++mix l (vs.drop j)))->(∀ b,b≠q->∀ u,G b=some u->g b=some u)->D.nx [t,some (.ref p),some (.ref q),some (.int i),o4,c] g)->
  Bh yes (AY 4 5) My D (l.map λx=>.tup [.str x.2,x.1]) [t,some (.ref p),some (.ref q),some (.int (j:Int)),o4,c] G
 | [],j,o4,c,G,a,_,_,r,k,d=>⟨trivial,d _ o4 c G (by show G q=some (.lst (a++[]));rw[Yx];exact k) λ_ _ _ h=>h⟩
 | x::l,j,o4,c,G,a,w,hl,r,k,d=>by
  rw[Yg]at hl
  have o:j+((if(x.2==("term":Str))=true then 1 else 0)+DO l)=vs.length:=w
  refine⟨trivial,?_⟩
  show My _ [t,some (.ref p),some (.ref q),some (.int (j:Int)),some (.str x.2),some x.1] G
  simp only[My,Af,Aw,gMt,B3,BH,gTB,Ad,Ae,Aa,Ac,Ab,gC,Yb,Yc,Bn,Ak]
  cases e:(x.2==("term":Str))with
  | true =>
   rw[e,if_pos rfl]at o
   have m:j < vs.length:=by omega
   have s:ixW (.ref p) (.int (j:Int)) G=some vs[j]:=by rw[Eb r];exact C7 (Yp m)
   simp only[show(true != false)=true from rfl,if_true,s,Ak]
   refine⟨Bv k,Ck k (Bl (by omega)) ?_⟩
   simp only[BY,Yk,Yl]
   refine Mz (vs:=vs) f l (j+1) _ _ _ (a++[vs[j]]) (by omega) (by rw[Yj];simp only[Yg,Yi];omega) (by rw[Aq f];exact r) Aj λi o4 c g h1 h2=>?_
   refine d i o4 c g ?_ λb n u v=>h2 b n u (by rw[Aq n];exact v)
   rw[h1,Yv]
   have y:vs.drop j=vs[j]::vs.drop (j+1):=List.drop_eq_getElem_cons m
   rw[y]
   show _=some (HW.lst (a++(if(x.2==("term":Str))=true then vs[j]::mix l (vs.drop (j+1))else _)))
   rw[e,if_pos rfl];rfl
  | false =>
   rw[e,if_neg (by decide)]at o
   simp only[show(false != false)=false from rfl,Yq,if_false]
   refine⟨Bv k,Ck k (Bl (by omega)) ?_⟩
   simp only[BY,Yk,Yl,Int.add_zero]
   refine Mz (vs:=vs) f l j _ _ _ (a++[x.1]) (by omega) (by rw[Yj];simp only[Yg,Yi];omega) (by rw[Aq f];exact r) Aj λi o4 c g h1 h2=>?_
   refine d i o4 c g ?_ λb n u v=>h2 b n u (by rw[Aq n];exact v)
   rw[h1,Yv]
   show _=some (HW.lst (a++(if(x.2==("term":Str))=true then _ else x.1::mix l (vs.drop j))))
   rw[e,if_neg (by decide)];rfl
theorem U1{s:Str}{l:List (W×Str)}{us:List W}(h:(s==("term":Str))=false):mix ((x,s)::l) us=x::mix l us:=by
 show(if(s==("term":Str))=true then _ else _)=_
 rw[h,if_neg (by decide)]
theorem U2{s:Str}{l:List (W×Str)}(h:(s==("term":Str))=false):DO ((x,s)::l)=DO l:=by
 show(if(s==("term":Str))=true then 1 else 0)+DO l=DO l
 rw[h,if_neg (by decide),Nat.zero_add]
theorem J7:∀(r:As)(us:List Te),("fields":Str)∉r.sorts->us.length=r.parts.length->mix r.prs (us.map Te.enc)=(r.withPs us).enc/\DO r.prs=r.parts.length
 | .nil,us,_,_=>⟨rfl,rfl⟩
 | .num i r,us,c,hl=>by
  walk_at "pL"
  walk_at "pq"
 | .tru i r,us,c,hl=>by
  walk_at "pL"
  walk_at "pq"
 | .nam i r,us,c,hl=>by
  walk_at "pL"
  walk_at "pq"
 | .knd i r,us,c,hl=>by
  walk_at "pL"
  walk_at "pq"
 | .trm t r,u::us,c,hl=>by
  have d:us.length+1=r.parts.length+1:=hl
  obtain⟨a,b⟩:=J7 r us (λz=>c (Yd _ z)) (by omega)
  constructor
  ·show(if(("term":Str)=="term")=true then u.enc::mix r.prs (us.map Te.enc)else _)=u.enc::(r.withPs us).enc
   rw[if_pos (by decide +kernel),a]
  ·show(if(("term":Str)=="term")=true then 1 else 0)+DO r.prs=r.parts.length+1
   rw[if_pos (by decide +kernel),b];omega
 | .trm t r,[],_,hl=>by cases hl
 | .fld f r,us,c,_=>absurd Ye c
def MA:Spw:=λws G Q _=>∃(t:Te)(p:Addr)(us:List Te),ws=[t.enc,.ref p]/\G p=some (.lst (us.map Te.enc))/\us.length=t.parts.length/\t.ok=true/\t.cnt<=900/\Q (t.withPs us).enc G
theorem fR:Spw.M MA:=(by rintro e G Q g E f h _ ⟨k,p,a,h1,h2,d,b,c,q⟩;exact⟨k,p,a,h1,h2,d,b,c,h _ _ q⟩)
theorem Jh(T:Tx K mg base a):Df P w K mg base "with_parts" 2 2 MA:=by
 refine mk0 (k:=1) T.dF rfl Sk fR (λB G Q E⟨_,_,_,e,_⟩=>by rw[e];rfl) (fF T (BM T) (Yr _)) λB G Q E y q=>?_
 obtain⟨t,p,j,rfl,l,hl,z,hc,q⟩:=q
 have o:=IZ t
 cases t with
 | nd w r =>
 obtain⟨h1,h2⟩:=Cj z
 have hs:=DG h1
 unfold Sl
 show Af (gIf _ _ Al) _ (Av Q) [some (.tup (.str w::r.enc)),some (.ref p),none,none,none,none] G
 walk_at "ps"
 by_cases e:w="rec"
 ·rw[show(w==("rec":Str))=true by simp[e]]
  obtain⟨f,rfl⟩:=(DF h1).1 e
  have g:j.length=(f.terms++[]).length:=hl
  rw[Yx]at g
  have c:(f.terms++[]).length+1<=(Te.nd w (.fld f .nil)).cnt:=o
  rw[Yx]at c
  simp only[show(true != false)=true from rfl,if_true,Ai,Ah,Aa,Ac,gB,AQ,E5,Ad,Ae,Ab,gC,Yb,Yc,As.enc,ixW,A0,Ak,Av,List.replicate]
  refine⟨f.enc,.ref p,j.map Te.enc,rfl,CI l,?_⟩
  refine SJ (CI l) f j none none [] g (by simp only[Yi];omega) λp1 n=>?_
  rw[Yw]
  simp only[rF,Ho Aj,Ak]
  refine⟨(show 2<=sizeLine by decide),y _ _ _ (AB n) ?_⟩
  rw[e]at q
  exact q
 ·rw[show(w==("rec":Str))=false by simpa using e]
  obtain⟨D,A⟩:=J7 r j ((DF h1).2 e) hl
  walk_at "px"
  refine AL ?_
  simp only[Ap,Aa,Ac,Ad,Ae,Ab,gC,Yb,ixW,Bf,Ak]
  refine⟨(show 1<=sizeLine by decide),λx d=>?_⟩
  have h:p≠x:=AI l d
  walk_at "pd"
  refine AL ?_
  simp only[gC,Yk,Yl]
  simp only[Af,AD,CH,Ag,AN,AG,AF,Aa,Ac,Ad,Ae,Ab,gC,Yb,ixW,Bf,Ak]
  refine⟨w,rfl,?_⟩
  show ∃ xs ys,_
  refine⟨r.sorts.map W.str,r.enc,?_,?_⟩
  ·rw[CJ];dsimp only;rw[Hg h1];rfl
  rw[DN]
  refine Mz (vs:=j.map Te.enc) h r.prs 0 none none _ [.str w] (by rw[A,Yh,Nat.zero_add];exact hl.symm) (by rw[C3];simp only[Yg,Yi];omega) (by rw[Aq h];exact l) Aj λi I H F g1 g2=>?_
  simp only[Ai,gB,rF,Aa,Ac,Ab,Yb,Yc,Ho g1,Ak,Av]
  rw[List.drop_zero,D]
  have m:Sub G F:=λb u v=>by
   have s:b≠x:=AI v d
   exact g2 b s u (by rw[Aq s];exact v)
  exact y _ _ _ m q
def ltS(f:Te->List Te)(t:Te):Nat->List Te->List Te
 | _,[]=>[]
 | i,c::cs=>(f c).map (λd=>t.withPs (t.parts.set i d))++ltS f t (i+1) cs
def ltK(t:Te)(l:List Kd):List Te:=l.flatMap λk=>(lk 8 k).map λj=>t.withKd j
def lt:Nat->Te->List Te
 | 0,_=>[]
 | n+1,t=>ltK t t.told++ltS (lt n) t 0 t.parts
theorem DP:∀{r:As},r.ok=true->∀ k∈r.told,k.cnt<=40/\k.dp<=8
 | .nil,_,c,hc=>by cases hc
 | .num i r,h,c,hc=>by
  walk_at "pB"
  walk_at "pa"
  exact DP h'.2 c hc
 | .tru _ r,h,c,hc=>DP (r:=r) h c hc
 | .nam x r,h,c,hc=>by
  have h':(AC x&&r.ok)=true:=h
  walk_at "pa"
  exact DP h'.2 c hc
 | .knd k r,h,c,hc=>by
  have h':((k.ok&&Bd k)&&r.ok)=true:=h
  walk_at "pa"
  rcases Yo.mp hc with rfl | hc
  ·exact of_decide_eq_true h'.1.2
  ·exact DP h'.2 c hc
 | .trm t r,h,c,hc=>by
  have h':(t.ok&&r.ok)=true:=h
  walk_at "pa"
  exact DP h'.2 c hc
 | .fld f r,h,c,hc=>by
  have h':((A3 f.names&&f.ok)&&r.ok)=true:=h
  walk_at "pa"
  exact DP h'.2 c hc
theorem F8(h:t.ok=true):∀ k∈t.told,k.cnt<=40/\k.dp<=8:=by
 cases t with
 | nd w r=>exact DP (Cj h).2
theorem Jo{t:Te}:∀ l:List Kd,(∀ k∈l,k.cnt<=40/\k.dp<=8)->(ltK t l).length<=80*l.length
 | [],_=>YT _
 | k::l,h=>by
  have h1:=Ff 8 k
  have h2:=(h k Ye).1
  have b:=Jo (t:=t) l λj a=>h j (Yd _ a)
  show((lk 8 k).map _++ltK t l).length<=80*(l.length+1)
  rw[Yj,Yh];omega
theorem DQ:∀(n:Nat)(t:Te),t.ok=true->(lt n t).length<=240*t.cnt
 | 0,t,_=>YT _
 | n+1,t,h=>by
  have h1:=Jo (t:=t) t.told (F8 h)
  have g:=Hm h
  have a:=C2 h
  have e:=Ci t
  have go:∀(l:List Te)(i:Nat),(∀ c∈l,c.ok=true)->(ltS (lt n) t i l).length<=240*AK l:=by
   intro l
   induction l with
   | nil=>intro i _;exact YT _
   | cons c l b =>
    intro i hl
    have j:=DQ n c (hl c Ye)
    have f:=b (i+1) λd hd=>hl d (Yd _ hd)
    show((lt n c).map _++ltS (lt n) t (i+1) l).length<=240*(c.cnt+AK l)
    rw[Yj,Yh];omega
  have:=go t.parts 0 a
  show(ltK t t.told++ltS (lt n) t 0 t.parts).length<=_
  rw[Yj];omega
abbrev Jp:GS:=Aw (gMt AH Bz (Ab 1) (Aa (AW (Au (Ag (Mv 8) XF (Aa (Ab 2) Ac))) 1 [0] (gNm 0) AA (Ag SI XF (Aa (Ab 1) (Aa (Ab 0) Ac)))) Ac))
theorem SK{D:Ew}{t:Te}{p q:Addr}{items:List W}(s:p≠q)(z:t.ok=true):∀(l:List Kd)(c:Option W)(G:Hw)(a:List Te),(∀ k∈l,k.cnt<=40/\k.dp<=8)->a.length+80*l.length<=20000->G p=some (.lst (a.map Te.enc))->G q=some (.lst items)->
  (∀ c y,y p=some (.lst ((a++ltK t l).map Te.enc))->(∀ b,b≠p->∀ u,G b=some u->y b=some u)->D.nx [some t.enc,some (.ref p),c,none,none,none] y)->
  Bh (holds q items) (gNm 2) Jp D (l.map Kd.enc) [some t.enc,some (.ref p),c,none,none,none] G
 | [],c,G,a,_,_,v,w,g=>⟨w,g c G (by show G p=some (.lst ((a++[]).map Te.enc));rw[Yx];exact v) λ_ _ _ h=>h⟩
 | k::l,c,G,a,E,hl,v,w,g=>by
  rw[Yg]at hl
  have h1:=Ff 8 k
  have h2:=E k Ye
  refine⟨w,?_⟩
  show Jp _ [some t.enc,some (.ref p),some k.enc,none,none,none] G
  simp only[Jp,Aw,gMt,AW,Au,Ag,Bi,Aa,Ac,Ab,Ym,YH,List.replicate,List.cons_append,Yw,Yb,Yc,Option.getD_some]
  refine⟨Bv v,k,⟨rfl,h2.2,by omega⟩,λr x=>?_⟩
  simp only[Aj]
  have n:put G r (.lst ((lk 8 k).map Kd.enc)) p=some (.lst (a.map Te.enc)):=AB x _ _ v
  have m:put G r (.lst ((lk 8 k).map Kd.enc)) q=some (.lst items):=AB x _ _ w
  refine El (enc:=Kd.enc) (f:=λj=>(t.withKd j).enc) (cst:=[some t.enc]) Aj (lk 8 k) none [] (λj B L K=>?_) (by exact AT (by simp only[Yi];omega)) λp1 d=>?_
  ·simp only[Ag,Aa,Ac,Ab,Yb,Yc]
   exact⟨(t,j),⟨rfl,z⟩,K⟩
  ·rw[Yw]
   have J:=AI n d
   have I:=AI m d
   refine Ek (xs:=a.map Te.enc) (zs:=(lk 8 k).map λj=>(t.withKd j).enc) (by rw[Aq J];exact n) Aj (by rw[Yh,Yh];exact AT (by omega)) ?_
   have e:a.map Te.enc++((lk 8 k).map λj=>(t.withKd j).enc)=(a++(lk 8 k).map λj=>t.withKd j).map Te.enc:=by rw[Yy,YB];rfl
   rw[e]
   refine SK s z l _ _ (a++(lk 8 k).map λj=>t.withKd j) (λj B=>E j (Yd _ B)) (by rw[Yj,Yh];omega) Aj ?_ ?_
   ·rw[Aq (YU s),Aq I];exact m
   ·intro c H g1 g2
    refine g c H (by rw[g1,Yv];rfl) λb A u F=>g2 b A u ?_
    have i:=AB (o:=.lst ((lk 8 k).map Kd.enc)) x _ _ F
    rw[Aq A,Aq (AI i d)];exact i
abbrev F9(n:Nat):Spw:=spL (λ(t:Te)ws _=>ws=[t.enc]/\t.ok=true/\t.dp<=n/\t.cnt<=40) λt=>(lt n t).map Te.enc
abbrev Jq(n:Nat):GS:=Aw (gMt AH Bz (Ab 1) (Aa (AW (Au (Ag (F9 n) XF (Aa (Ab 5) Ac))) 1 [0,3,4] (gNm 0) AA (Ag MA XF (Aa (Ab 1) (Aa (Ag Jl XF (Aa (Ab 2) (Aa (Ab 3) (Aa (Ab 0) Ac)))) Ac)))) Ac))
theorem SL{n:Nat}{D:Ew}{t:Te}{E:Option W}{p q:Addr}(z:p≠q)(I:t.ok=true)(L:t.cnt<=40):∀(l:List Te)(i:Nat)(o4 g:Option W)(G:Hw)(a:List Te),(∀ c∈l,c.ok=true/\c.dp<=n)->i+l.length=t.parts.length->a.length+240*AK l<=20000->AK l<=40->G p=some (.lst (a.map Te.enc))->G q=some (.lst (t.parts.map Te.enc))->
  (∀ o4 g m,m p=some (.lst ((a++ltS (lt n) t i l).map Te.enc))->(∀ b,b≠p->∀ u,G b=some u->m b=some u)->D.nx [some t.enc,some (.ref p),E,some (.ref q),o4,g] m)->
  Bh (λG=>rdL G (.ref q)=some (t.parts.map Te.enc)) (AY 4 5) (Jq n) D (Ea i (l.map Te.enc)) [some t.enc,some (.ref p),E,some (.ref q),o4,g] G
 | [],i,o4,g,G,a,_,_,_,_,A,x,k=>⟨CI x,k o4 g G (by show G p=some (.lst ((a++[]).map Te.enc));rw[Yx];exact A) λ_ _ _ h=>h⟩
 | c::l,i,o4,g,G,a,hd,hi,P,hc,A,x,k=>by
  have T:a.length+240*(c.cnt+AK l)<=20000:=P
  have hc':c.cnt+AK l<=40:=hc
  rw[Yg]at hi
  obtain⟨K,Y⟩:=hd c Ye
  have S:=DQ n c K
  refine⟨CI x,?_⟩
  show Jq n _ [some t.enc,some (.ref p),E,some (.ref q),some (.int i),some c.enc] G
  simp only[Jq,Aw,gMt,AW,Au,Ag,Bi,Aa,Ac,Ab,Ym,YH,List.replicate,List.cons_append,Yw,Yb,Yc,Option.getD_some]
  refine⟨Bv A,c,⟨rfl,K,Y,by omega⟩,λr B=>?_⟩
  simp only[Aj]
  have hkl:(t.parts.map Te.enc).length=t.parts.length:=Yh _
  have O:=IZ t
  refine Jm (enc:=Te.enc) (f:=λd=>(t.withPs (t.parts.set i d)).enc) (cst:=[some t.enc,some (.ref q),some (.int i)]) (lt n c) none [] _ (λR H=>H _ _ Aj) (λd y R Q' H q'=>?_) (by exact AT (by simp only[Yi];omega)) λm s' p1 j=>?_
  ·simp only[Ag,Aa,Ac,Ab,Yb,Yc]
   refine⟨q,t.parts.map Te.enc,i,d.enc,rfl,H _ _ (AB B _ _ x),by omega,by omega,λZ F=>?_⟩
   exact⟨t,Z,t.parts.set i d,rfl,by rw[Aj,List.map_set],by rw[List.length_set],I,by omega,q' _ (AB F)⟩
  ·rw[Yw]
   have w:m p=some (.lst (a.map Te.enc)):=s' _ _ (AB B _ _ A)
   have v:m q=some (.lst (t.parts.map Te.enc)):=s' _ _ (AB B _ _ x)
   have X:=AI w j
   have U:=AI v j
   refine Ek (xs:=a.map Te.enc) (zs:=(lt n c).map λd=>(t.withPs (t.parts.set i d)).enc) (by rw[Aq X];exact w) Aj (by rw[Yh,Yh];exact AT (by omega)) ?_
   have e:a.map Te.enc++((lt n c).map λd=>(t.withPs (t.parts.set i d)).enc)=(a++(lt n c).map λd=>t.withPs (t.parts.set i d)).map Te.enc:=by rw[Yy,YB];rfl
   rw[e]
   refine SL z I L l (i+1) _ _ _ (a++(lt n c).map λd=>t.withPs (t.parts.set i d)) (λd y=>hd d (Yd _ y)) (by omega) (by rw[Yj,Yh];omega) (by omega) Aj ?_ ?_
   ·rw[Aq (YU z),Aq U];exact v
   ·intro o4 g Q g1 g2
    refine k o4 g Q (by rw[g1,Yv];rfl) λb J u N=>g2 b J u ?_
    have s:=s' _ _ (AB (o:=.lst ((lt n c).map Te.enc)) B _ _ N)
    rw[Aq J,Aq (AI s j)];exact s
theorem Et(T:Tx K mg base a):∀ n:Nat,Df P w K mg base "less_terms" (n+11) 1 (F9 n)
 | 0=>CM T.Qn BE λo G Q E⟨k,⟨_,_,hd,_⟩,_⟩=>by have:=He k;omega
 | n+1=>by
  refine mk0 (k:=n+11) T.Qn rfl So BE (λo G Q E⟨x,⟨e,_⟩,_⟩=>by rw[e];rfl) (fG T (Eo T) (by omega) (Er T 8) (by omega) (Jg T) (by omega) (B6 T) (by omega) (Et T n) (Yr _) (Es T) (by omega) (Jh T) (by omega)) λo G Q E A q=>?_
  obtain⟨t,⟨rfl,f,hd,hc⟩,q⟩:=q
  have H:=Ci t
  have N:=CL t
  have O:=Hm f
  have J:=Jo (t:=t) t.told (F8 f)
  unfold Sq
  show Af (An 1 _) _ (Av Q) [some t.enc,none,none,none,none,none] G
  refine AL ?_
  simp only[Ap,Ac]
  refine⟨by decide,λp r=>?_⟩
  walk_at "pd"
  show Af (AD _ _ Jp) _ (Av Q) _ _
  simp only[Af,AD,Au,Ag,Aa,Ac,Ab,Yb]
  refine⟨t,⟨rfl,f⟩,λs i=>?_⟩
  have l:p≠s:=AI Aj i
  simp only[Aj]
  refine SK l f t.told none _ [] (F8 f) (by simp only[Yi];omega) (by rw[Aq l];exact Aj) Aj λI z g1 g2=>?_
  rw[Yw]at g1
  have D:∀ b u,b≠p->G b=some u->z b=some u:=λb u g h=>g2 b g u (AB i _ _ (by rw[Aq g];exact h))
  dsimp only
  refine AL ?_
  simp only[Ag,Aa,Ac,Ab,Yb]
  refine⟨t,⟨rfl,f,by omega⟩,λq1 j=>?_⟩
  have d:p≠q1:=AI g1 j
  walk_at "pd"
  show Af (AD _ _ (Jq n)) _ (Av Q) _ _
  simp only[Af,AD,FO,Aa,Ac,Ab,Yb,Yc]
  refine⟨.ref q1,t.parts.map Te.enc,rfl,CI Aj,?_⟩
  refine SL d f hc t.parts 0 none none _ (ltK t t.told) (λc m=>⟨C2 f c m,by have:=F7 m;omega⟩) (by omega) (by omega) (by omega) (by rw[Aq d];exact g1) Aj λL F y v B=>?_
  simp only[Ai,Ab,Yb,Yc,Av]
  have hs:Sub (put G p (.lst ((lt (n+1) t).map Te.enc))) y:=λb u h=>by
   by_cases g:b=p
   ·subst g
    rw[Aj]at h;cases h
    exact v
   ·rw[Aq g]at h
    refine B b g u ?_
    have h1:=D b u g h
    rw[Aq (AI h1 j)];exact h1
  exact A _ _ _ hs (q p r)
abbrev SM:Spw:=spL (λ(t:Te)ws _=>ws=[t.enc]/\tg t) λt=>(lt 10 t).map Te.enc
theorem Jr(T:Tx K mg base a):Df P w K mg base "forgettings" 22 1 SM:=by
 refine mk0 (k:=21) T.dG rfl Ss BE (λb G Q E⟨x,⟨e,_⟩,_⟩=>by rw[e];rfl) (fJ T (Eu T) (by omega) (Et T 10) (by omega)) λb G Q E c q=>?_
 obtain⟨t,⟨rfl,h⟩,q⟩:=q
 unfold Su
 walk_at "rd"
 exact⟨t,rfl,h,t,⟨rfl,h.1,h.2.2,h.2.1⟩,q⟩
theorem MB:∀ a:List Nat,(a.map λc:Nat=>(c:Int)).sum=((a.sum:Nat):Int)
 | []=>rfl
 | c::a=>by rw[Ym,List.sum_cons,List.sum_cons,MB a];omega
theorem SN:∀(a:List Nat)(j:Nat),(a.take j).sum<=a.sum
 | [],j=>by simp
 | c::a,0=>by simp
 | c::a,j+1=>by have:=SN a j;rw[List.take_succ_cons,List.sum_cons,List.sum_cons];omega
theorem SO:∀{a:List Nat}{c:Nat},c∈a->c<=a.sum
 | d::a,c,h=>by
  rw[List.sum_cons]
  walk_at "pC"
  ·omega
  ·have:=SO h;omega
theorem SQ{i:Int}(a:0<=i)(h1:i<=1000000):InLong i:=by unfold InLong;omega
theorem fS(a:List Nat)(h:a.sum<=1000000):PyProof.Rows.SumFits (a.map λc:Nat=>(c:Int)):=by
 intro j b
 rw[Yh]at b
 refine⟨?_,?_⟩
 ·have e:(a.map λc:Nat=>(c:Int)).getD j 0=(a[j]:Int):=by rw[YZ,YM,Yp b];rfl
  have:=SO (Qe b)
  rw[e];exact SQ (by omega) (by omega)
 ·rw[<- List.map_take,MB]
  have:=SN a (j+1)
  exact SQ (by omega) (by omega)
theorem Js{a:List Nat}(h:a.sum<=1000000)(b:G p=some (.lst (a.map λc:Nat=>W.int (c:Int))))(q:Q (.int (a.sum:Nat)) G):Cu [.ref p] G Q:=by
 unfold Cu
 simp only[EK b,Option.bind_some]
 rw[show(a.map λc:Nat=>W.int (c:Int))=(a.map λc:Nat=>(c:Int)).map W.int by rw[YB];rfl,L3.Lj]
 dsimp only
 refine⟨fS a h,?_⟩
 rw[MB]
 exact q
def Jt(t:Te):Nat:=((B1 10 t).map Kd.cnt).sum
theorem SR{n:Nat}{D:Ew}{p s:Addr}{items:List W}:∀(l:List Kd)(o:Option W)(k0:W)(G:Hw)(a:List W),(∀ c∈l,c.dp<=n)->a.length+AM l<=20000->AM l<=10000->p≠s->G p=some (.lst a)->G s=some (.lst items)->
  (∀ ω j,(∃ o',ω=[some k0,some (.ref p),o'])->j p=some (.lst (a++(l.flatMap Kd.all).map Kd.enc))->(∀ b,b≠p->∀ u,G b=some u->j b=some u)->D.nx ω j)->
  Bh (holds s items) (gNm 2) (Aw (gMt AH Bz (Ab 1) (Aa (Ag (Rl n) XF (Aa (Ab 2) Ac)) Ac))) D (l.map Kd.enc) [some k0,some (.ref p),o] G
 | [],o,k0,G,a,_,_,_,f,g,i,e=>⟨i,e _ G ⟨o,rfl⟩ (by simpa using g) λ_ _ _ h=>h⟩
 | c::l,o,k0,G,a,hd,hl,hc,f,g,i,e=>by
  have x:c.cnt+AM l<=10000:=hc
  have y:a.length+(c.cnt+AM l)<=20000:=hl
  refine⟨i,?_⟩
  show Aw _ _ [some k0,some (.ref p),some c.enc] G
  walk_at "rd"
  refine⟨Bv g,c,⟨rfl,hd c Ye,by omega⟩,λr q=>?_⟩
  have m:=AI g q
  have k:=AI i q
  refine Ek (by rw[Aq m];exact g) Aj (by rw[Yh,Ln];exact AT (by omega)) ?_
  refine SR l (some c.enc) k0 _ (a++c.all.map Kd.enc) (λd t=>hd d (Yd _ t)) (by rw[Yj,Yh,Ln];omega) (by omega) f Aj ?_ ?_
  ·rw[Aq (YU f),Aq k];exact i
  ·intro ω j hω h1 h2
   refine e ω j hω (by rw[h1,Qa,Yy,Yv]) λb v u w=>h2 b v u ?_
   rw[Aq v,Aq (AI w q)];exact w
theorem Eh(T:Tx K mg base a):∀ n:Nat,Df P w K mg base "kinds_in" (n+1) 1 (Rl n)
 | 0=>by
  obtain⟨f,fd,h1,F,B⟩:=T.P8
  refine⟨⟨f,fd,_,h1,F.kp,B,rfl,⟨λm H Q E⟨j,G,t,r,k,⟨_,hd,_⟩,_⟩=>absurd hd (by have:=C1 k;omega),λA outer s H l I m Q E _ _ _ _⟨j,G,t,r,k,⟨_,hd,_⟩,_⟩=>absurd hd (by have:=C1 k;omega)⟩⟩,BE⟩
 | n+1=>by
  refine mk0 T.P8 rfl Ra BE (λj G Q E⟨x,⟨e,_⟩,_⟩=>by rw[e];rfl) (eo T (B5 T) (by omega) (Eh T n) (Yr _)) λj G Q E v q=>?_
  obtain⟨k,⟨rfl,hd,hc⟩,q⟩:=q
  have J:=Cf k
  unfold Rb
  walk_at "rd"
  refine⟨by decide,λp o=>?_⟩
  refine⟨k,⟨rfl,by omega⟩,λy d=>?_⟩
  have i:p≠y:=AI Aj d
  simp only[Aj]
  refine SR k.kids none k.enc _ [k.enc] (λc hc=>by have:=E6 hc;omega) (by simp only[Yg,Yi];omega) (by omega) i (by rw[Aq i];exact Aj) Aj ?_
  intro ω D hω h1 h2
  obtain⟨o',rfl⟩:=hω
  simp only[Yb,Yc]
  have hs:Sub (put G p (.lst (k.all.map Kd.enc))) D:=λb u g=>by
   by_cases h:b=p
   ·subst h
    rw[Aj]at g;cases g
    rw[h1,PX,Ym];rfl
   ·rw[Aq h]at g
    refine h2 b h u ?_
    rw[Aq (λz=>by subst z;rw[Aq h]at d;rw[d]at g;cases g),Aq h];exact g
  exact v _ _ _ hs (q p o)
theorem MC:∀(n:Nat){t:Te},t.ok=true->∀ k∈B1 n t,k.cnt<=40/\k.dp<=8
 | 0,t,_,k,a=>by cases a
 | n+1,t,h,k,a=>by
  have b:k∈t.told++t.parts.flatMap (B1 n):=a
  rcases Yz.mp b with a | a
  ·exact F8 h k a
  ·obtain⟨c,hc,a⟩:=List.mem_flatMap.mp a
   exact MC n (C2 h c hc) k a
theorem SU{l:List Kd}(h:∀ k∈l,k.cnt<=40):(l.map Kd.cnt).sum<=40*l.length:=by
 induction l with
 | nil=>exact YT _
 | cons k l a =>
  have h1:=h k Ye
  have h2:=a λj b=>h j (Yd _ b)
  rw[Ym,List.sum_cons,Yg];omega
abbrev fT:Spw:=spR (λ(t:Te)ws _=>ws=[t.enc]/\tg t) λt=>.int (Jt t)
theorem Ju(T:Tx K mg base a):Df P w K mg base "kinds_told" 14 1 fT:=by
 refine mk0 (k:=13) T.dH rfl Sx Bu (λm G Q E⟨x,⟨e,_⟩,_⟩=>by rw[e];rfl) (fM T (Eu T) (by omega) (Ep T 10) (by omega) (Eh T 8) (by omega)) λm G Q E o q=>?_
 obtain⟨t,⟨rfl,h⟩,q⟩:=q
 have g:=MC 10 h.1
 have hl:=Ji 10 t h.1
 have hc:=h.2.1
 have hs:=SU λk b=>(g k b).1
 unfold Sy
 simp only[Af,Aw,Ai,gB,AQ,Au,Ag,Aa,Ac,Ab,BX,Yb,Av,List.replicate,Ym,YH,List.cons_append,Yw]
 refine⟨t,rfl,h,?_⟩
 refine⟨t,⟨rfl,h.1,h.2.2,by omega⟩,λp l=>?_⟩
 simp only[Aj]
 refine Jm (enc:=Kd.enc) (f:=λk=>.int (k.cnt:Nat)) (cst:=[]) (B1 10 t) none [] _ (λj i=>i _ _ Aj) (λk b j u i s=>?_) (by exact AT (by simp only[Yi];omega)) λv s' p1 d=>?_
 ·simp only[gB,Ag,rF,Aa,Ac,Ab,Yb]
  refine⟨k,⟨rfl,(g k b).2,by have:=(g k b).1;omega⟩,λr n=>?_⟩
  simp only[AZ,PM Aj,Ak]
  rw[Yh,Ln]
  exact s _ (AB n)
 ·rw[Yw]
  have e:((B1 10 t).map λk=>W.int (k.cnt:Nat))=((B1 10 t).map Kd.cnt).map λc:Nat=>W.int (c:Int):=by rw[YB];rfl
  rw[e]
  refine Js (by omega) Aj ?_
  exact o _ _ _ (BD ((AB l).trans s') d) q
abbrev SV:List Str:=["term","places","more"]
theorem Jv:AE SV ["term"] (Ar Iu):=by walk_at "s"
def SW:GS:=(Af (gIf (gTB (Ad (Ae (eqF false)) (Ad (Ae ixW) (Ab 0) (gC (.int 0))) (gC (.str "rec")))) (Ai (AQ (Au (Ad (Ae ixW) (Ab 0) (gC (.int 1)))) 1 (gNm 0) AA (Ad (Ae ixW) (Ab 0) (gC (.int 1))))) Al) (Af (An 1 (Ic ["fun","call","get","or","if","plus","less"] (Aa (Ap (Aa (gC (.int 3)) Ac)) (Aa (Ap (Aa (gC (.int 1)) (Aa (gC (.int 2)) Ac))) (Aa (Ap (Aa (gC (.int 1)) Ac)) (Aa (Ap (Aa (gC (.int 1)) (Aa (gC (.int 3)) Ac))) (Aa (Ap (Aa (gC (.int 1)) (Aa (gC (.int 2)) (Aa (gC (.int 3)) Ac)))) (Aa (Ap (Aa (gC (.int 1)) (Aa (gC (.int 2)) Ac))) (Aa (Ap (Aa (gC (.int 1)) (Aa (gC (.int 2)) Ac))) Ac))))))))) (Af (An 2 (Ic ["new","read","write","as"] (Aa (Ap (Aa (gC (.int 1)) Ac)) (Aa (Ap (Aa (gC (.int 1)) Ac)) (Aa (Ap (Aa (gC (.int 1)) (Aa (gC (.int 2)) Ac))) (Aa (Ap (Aa (gC (.int 1)) Ac)) Ac)))))) (Ai (AW (Au (gMt GL GK (Ab 1) (Aa (Ad (Ae ixW) (Ab 0) (gC (.int 0))) (Aa (gMt GL GK (Ab 2) (Aa (Ad (Ae ixW) (Ab 0) (gC (.int 0))) (Aa (Ap Ac) Ac))) Ac)))) 1 [0] (gNm 0) AA (Ad (Ae ixW) (Ab 1) (Ab 0)))))))
theorem fU(T:Tx K mg base a):Dn P w K mg base SV "_law_parts" Iu k (SW):=λ{f cdv A outer s H E}hr=>
 have hu:=A7 hr
 have hN:=Jv.nd
 (Ax (Cc (by walk_at "v") (A5 (Bq (BL (Nc:=["pair"]) rfl (BF rfl (by decide +kernel) (by decide +kernel)) (λ_=>rfl) (by walk_at "v") (B8 (i:=0) (by decide) rfl rfl) (λC fp s1 H1=>Bc) (λC fp s1 H1=>(by walk_at "v"))))) Ct) (Ax (HR (i:=1) Jv.nd rfl rfl rfl (PC (ks:=["fun","call","get","or","if","plus","less"]) (by rfl) (by intro h;cases h) (by exact(by decide:7<=15)) (by decide) (C0 (by walk_at "v") (C0 (by walk_at "v") (C0 (by walk_at "v") (C0 (by walk_at "v") (C0 (by walk_at "v") (C0 (by walk_at "v") (C0 (by walk_at "v") Pz))))))))) (Ax (HR (i:=2) Jv.nd rfl rfl rfl (PC (ks:=["new","read","write","as"]) (by rfl) (by intro h;cases h) (by exact(by decide:4<=15)) (by decide) (C0 (by walk_at "v") (C0 (by walk_at "v") (C0 (by walk_at "v") (C0 (by walk_at "v") Pz)))))) (A5 (Bq (Dg rfl (Ce (own:=["k"]) (fr:=["term"]) (js:=[0]) (scX:=Ar Iu) (n:=s.heap.objs.size+1) rfl (by decide +kernel) (by decide +kernel) (by decide +kernel) (by decide +kernel) rfl rfl rfl (by decide +kernel) rfl) (λ_=>rfl) (by walk_at "v") (CG (i:=0) (by decide) rfl rfl) (λC fp s1 H1=>Bc) (λC fp s1 H1=>(by walk_at "v"))))))))
abbrev SX:List Str:=["term","inner"]
theorem MD:AE SX ["term"] (Ar Iv):=by walk_at "s"
def SY(DR:Spw)(DS:Spw):GS:=(Af (An 1 (AW (Au (Ag DR XF (Aa (Ab 0) Ac))) 1 [] (gNm 0) AA (Ag DS XF (Aa (Ab 0) Ac)))) (Ai (Ap (Aa (Ad (Az) (gC (.int 1)) (gB (Cu) (Aa (AQ (Au (Ab 1)) 1 (gNm 0) AA (Ad (Ae ixW) (Ab 0) (gC (.int 0)))) Ac))) (Aa (Ad (Az) (gC (.int 1)) (gB (rF GH) (Aa (Ad (Az) (Ap (Aa (gC (.int 0)) Ac)) (AQ (Au (Ab 1)) 1 (gNm 0) AA (Ad (Ae ixW) (Ab 0) (gC (.int 1))))) Ac))) Ac)))))
variable {DR DS:Spw}
theorem fV(T:Tx K mg base a){Ey:Nat}(fW:Df P w K mg base "_law_parts" Ey 1 DR)(fX:Ey<=k){Ez:Nat}(fY:Df P w K mg base "_law_size" Ez 1 DS)(fZ:Ez<=k):Dn P w K mg base SX "_law_size" Iv k (SY DR DS):=λ{f cdv A outer s H E}hr=>
 have hu:=A7 hr
 have hN:=MD.nd
 (Ax (HU (i:=1) MD.nd rfl rfl rfl rfl (Ce (own:=["part"]) (fr:=[]) (js:=[]) (scX:=Ar Iv) (n:=s.heap.objs.size+1) rfl (by decide +kernel) (by decide +kernel) (by decide +kernel) (by decide +kernel) rfl rfl rfl (by decide +kernel) rfl) (λ_=>rfl) (by walk_at "v") (CG (i:=0) (by decide) rfl rfl) (λC fp s1 H1=>Bc) (λC fp s1 H1=>(by walk_at "v"))) (A5 (Bq (Od (AU rfl (D9 Gu (BJ FJ (FG rfl) rfl T.FW (by decide) rfl rfl rfl (AU rfl (BL (Nc:=["one"]) rfl (BF rfl (by decide +kernel) (by decide +kernel)) (λ_=>rfl) (by walk_at "v") (B8 (i:=0) (by decide) rfl rfl) (λC fp s1 H1=>Bc) (λC fp s1 H1=>(by walk_at "v"))) Be))) (AU rfl (D9 Gu (BJ OJ (OC rfl) rfl T.QA (by decide) rfl rfl rfl (AU rfl (D9 (by walk_at "v") (BL (Nc:=["one"]) rfl (BF rfl (by decide +kernel) (by decide +kernel)) (λ_=>rfl) (by walk_at "v") (B8 (i:=0) (by decide) rfl rfl) (λC fp s1 H1=>Bc) (λC fp s1 H1=>(by walk_at "v")))) Be))) Be))))))
abbrev S0:List Str:=["state","want","found","deep","more","size"]
theorem S1:AE S0 ["state","want"] (Ar LY):=by walk_at "s"
def S2(AR:Spw)(DS:Spw)(AJ:Spw):GS:=(Af (An 2 (Ah (Aa (gC (.str "num")) (Aa (gC (.int 0)) Ac)))) (Af (AD (Au (Ap (Aa (gC (.int 1)) (Aa (gC (.int 2)) (Aa (gC (.int 2)) (Aa (gC (.int 3)) (Aa (gC (.int 3)) Ac))))))) (gNm 3) (Af (An 4 (Ag AR XF (Aa (Ab 0) (Aa (Ab 1) (Aa HZ (Aa (Ab 3) Ac)))))) (Af (An 5 (Ag DS XF (Aa (Ab 4) Ac))) (gIf (A1 (gTB (Ad (A9 (λi j=>decide (i<=j)) (λa b=>!A6 b a)) (Ad (Ae ixW) (Ab 5) (gC (.int 0))) (gC (.int 40)))) (A1 (gTB (Ad (A9 (λi j=>decide (i<=j)) (λa b=>!A6 b a)) (Ad (Ae ixW) (Ab 5) (gC (.int 1))) (gC (.int 10)))) (gOr (gTB (Ad (Ae (eqF false)) (Ab 2) (Ah (Aa (gC (.str "num")) (Aa (gC (.int 0)) Ac))))) (gTB (Ad (Bb λi j=>decide (j < i)) (Ag AJ XF (Aa (Ab 0) (Aa (gC (.int 3)) Ac))) (gC (.int 0))))))) (An 2 (Ab 4)) Al)))) (Ai (Ab 2))))
variable {AR AJ:Spw}
theorem f3(T:Tx K mg base a){BR:Nat}(Jw:Df P w K mg base "_law_term" BR 4 AR)(Jx:BR<=k){Ez:Nat}(fY:Df P w K mg base "_law_size" Ez 1 DS)(fZ:Ez<=k){Ba:Nat}(Fg:Df P w K mg base "_law_take" Ba 2 AJ)(Fh:Ba<=k):Dn P w K mg base S0 "_law_drawn" LY k (S2 AR DS AJ):=by
 have hN:=S1.nd
 walk_at "z"
abbrev S3:List Str:=["kind","found","k","name","mark","inner","less"]
theorem S4:AE S3 ["kind"] (Ar LZ):=by walk_at "s"
def S5(Di:Spw):GS:=(Af (An 1 (Ap Ac)) (Af (gIf (gTB (Ad (Ae (eqF true)) (Ab 0) (Ah (Aa (gC (.str "any")) Ac)))) (Aw (gMt AH AS (Ab 1) (Aa (Ah (Aa (gC (.str "any")) Ac)) Ac))) Al) (Af (gIf (gTB (Ad (Ae (eqF false)) (Ad (Ae ixW) (Ab 0) (gC (.int 0))) (gC (.str "row")))) (Af (gIf (gNt (AO (Ad (Ae ixW) (Ab 0) (gC (.int 2))))) (Aw (gMt AH AS (Ab 1) (Aa (Ah (Aa (gC (.str "row")) (Aa (Ad (Ae ixW) (Ab 0) (gC (.int 1))) (Aa (gC (.bl true)) Ac)))) Ac))) Al) (AD (CF (Aa (gB (rF AZ) (Aa (Ad (Ae ixW) (Ab 0) (gC (.int 1))) Ac)) Ac)) (gNm 2) (Af (Ia (D8 3 4 5) (Ad (Ae ixW) (Ad (Ae ixW) (Ab 0) (gC (.int 1))) (Ab 2))) (AD (Au (Ag Di XF (Aa (Ab 5) Ac))) (gNm 6) (Aw (gMt AH AS (Ab 1) (Aa (Ah (Aa (gC (.str "row")) (Aa (Ad (Az) (Ad (Az) (AN (Ad (Ae ixW) (Ab 0) (gC (.int 1))) AF (AG (Ab 2))) (Ah (Aa (Ah (Aa (Ab 3) (Aa (Ab 4) (Aa (Ab 6) Ac)))) Ac))) (AN (Ad (Ae ixW) (Ab 0) (gC (.int 1))) (AG (Ad (Az) (Ab 2) (gC (.int 1)))) AF)) (Aa (Ad (Ae ixW) (Ab 0) (gC (.int 2))) Ac)))) Ac))))))) (AD (FP (Aa (gC (.int 1)) (Aa (gB (rF AZ) (Aa (Ab 0) Ac)) Ac))) (gNm 2) (AD (Au (Ag Di XF (Aa (Ad (Ae ixW) (Ab 0) (Ab 2)) Ac))) (gNm 6) (Aw (gMt AH AS (Ab 1) (Aa (Ad (Az) (Ad (Az) (AN (Ab 0) AF (AG (Ab 2))) (Ah (Aa (Ab 6) Ac))) (AN (Ab 0) (AG (Ad (Az) (Ab 2) (gC (.int 1)))) AF)) Ac)))))) (Ai (Ab 1)))))
variable {Di:Spw}
theorem f5(T:Tx K mg base a){EA:Nat}(f6:Df P w K mg base "_law_less_kinds" EA 1 Di)(f9:EA<=k):Dn P w K mg base S3 "_law_less_kinds" LZ k (S5 Di):=λ{f cdv A outer s H E}hr=>
 have hu:=A7 hr
 have hN:=S4.nd
 (Ax (by walk_at "v") (Ax (by walk_at "v") (Ax (Cc (by walk_at "v") (by walk_at "v") (A5 (CW PassesOwn.never rfl (λ_=>rfl) (PL T.L8 rfl rfl rfl (by walk_at "v")) (by walk_at "v") (by walk_at "v")))) (by walk_at "v"))))
abbrev S6:List Str:=["term","found","k","less","part"]
theorem S7:AE S6 ["term"] (Ar L0):=by walk_at "s"
def S8(Di:Spw)(Dj:Spw):GS:=(Af (An 1 (Ap Ac)) (Af (gIf (gTB (Ad (Ae (inF false)) (Ad (Ae ixW) (Ab 0) (gC (.int 0))) (Ap (Aa (gC (.str "fun")) (Aa (gC (.str "as")) Ac))))) (AD (Au (Ag Di XF (Aa (Ad (Ae ixW) (Ab 0) (gC (.int 2))) Ac))) (gNm 3) (Aw (gMt AH AS (Ab 1) (Aa (Ad (Az) (Ad (Az) (AN (Ab 0) AF (AG (gC (.int 2)))) (Ah (Aa (Ab 3) Ac))) (AN (Ab 0) (AG (gC (.int 3))) AF)) Ac)))) Al) (Af (gIf (gTB (Ad (Ae (eqF false)) (Ad (Ae ixW) (Ab 0) (gC (.int 0))) (gC (.str "rec")))) (Af (AD (CF (Aa (gB (rF AZ) (Aa (Ad (Ae ixW) (Ab 0) (gC (.int 1))) Ac)) Ac)) (gNm 2) (AD (Au (Ag Dj XF (Aa (Ad (Ae ixW) (Ad (Ae ixW) (Ad (Ae ixW) (Ab 0) (gC (.int 1))) (Ab 2)) (gC (.int 1))) Ac))) (gNm 4) (Aw (gMt AH AS (Ab 1) (Aa (Ah (Aa (gC (.str "rec")) (Aa (Ad (Az) (Ad (Az) (AN (Ad (Ae ixW) (Ab 0) (gC (.int 1))) AF (AG (Ab 2))) (Ah (Aa (Ah (Aa (Ad (Ae ixW) (Ad (Ae ixW) (Ad (Ae ixW) (Ab 0) (gC (.int 1))) (Ab 2)) (gC (.int 0))) (Aa (Ab 4) Ac))) Ac))) (AN (Ad (Ae ixW) (Ab 0) (gC (.int 1))) (AG (Ad (Az) (Ab 2) (gC (.int 1)))) AF)) Ac))) Ac))))) (Ai (Ab 1))) Al) (Af (AD (FP (Aa (gC (.int 1)) (Aa (gB (rF AZ) (Aa (Ab 0) Ac)) Ac))) (gNm 2) (gIf (A1 (AO (A2 "tuple" (Ad (Ae ixW) (Ab 0) (Ab 2)))) (gNt (A1 (gTB (Ad (Ae (eqF false)) (Ab 2) (gC (.int 2)))) (gTB (Ad (Ae (inF false)) (Ad (Ae ixW) (Ab 0) (gC (.int 0))) (Ap (Aa (gC (.str "fun")) (Aa (gC (.str "as")) Ac)))))))) (AD (Au (Ag Dj XF (Aa (Ad (Ae ixW) (Ab 0) (Ab 2)) Ac))) (gNm 4) (Aw (gMt AH AS (Ab 1) (Aa (Ad (Az) (Ad (Az) (AN (Ab 0) AF (AG (Ab 2))) (Ah (Aa (Ab 4) Ac))) (AN (Ab 0) (AG (Ad (Az) (Ab 2) (gC (.int 1)))) AF)) Ac)))) Al)) (Ai (Ab 1))))))
variable {Dj:Spw}
theorem gf(T:Tx K mg base a){EA:Nat}(f6:Df P w K mg base "_law_less_kinds" EA 1 Di)(f9:EA<=k){EB:Nat}(gj:Df P w K mg base "_law_less_terms" EB 1 Dj)(gm:EB<=k):Dn P w K mg base S6 "_law_less_terms" L0 k (S8 Di Dj):=λ{f cdv A outer s H E}hr=>
 have hu:=A7 hr
 have hN:=S7.nd
 (Ax (by walk_at "v") (Ax (by walk_at "v") (Ax (by walk_at "v") (Ax (CW PassesOwn.never rfl (λ_=>rfl) (PL T.L8 rfl rfl rfl (by walk_at "v")) (by walk_at "v") (by walk_at "v")) (by walk_at "v")))))
abbrev S9:List Str:=["kind"]
theorem Ta:AE S9 ["kind"] (Ar L1):=by walk_at "s"
def Tc(Dk:Spw):GS:=(Af (gIf (gTB (Ad (Ae (eqF false)) (Ad (Ae ixW) (Ab 0) (gC (.int 0))) (gC (.str "row")))) (Ai (Ad (Az) (gC (.int 1)) (gB (Cu) (Aa (AQ (Au (Ad (Ae ixW) (Ab 0) (gC (.int 1)))) 1 (gNm 0) AA (Ag Dk XF (Aa (Ad (Ae ixW) (Ab 0) (gC (.int 2))) Ac))) Ac)))) Al) (Ai (Ad (Az) (gC (.int 1)) (gB (Cu) (Aa (AQ (Au (AN (Ab 0) (AG (gC (.int 1))) AF)) 1 (gNm 0) AA (Ag Dk XF (Aa (Ab 0) Ac))) Ac)))))
variable {Dk:Spw}
theorem gn(T:Tx K mg base a){EC:Nat}(gp:Df P w K mg base "_law_count" EC 1 Dk)(gq:EC<=k):Dn P w K mg base S9 "_law_count" L1 k (Tc Dk):=λ{f cdv A outer s H E}hr=>
 have hu:=A7 hr
 have hN:=Ta.nd
 (Ax (Cc (by walk_at "v") (A5 (Bq (D9 Gu (BJ FJ (FG rfl) rfl T.FW (by decide) rfl rfl rfl (AU rfl (BL (Nc:=["field"]) rfl (BF rfl (by decide +kernel) (by decide +kernel)) (λ_=>rfl) (by walk_at "v") (B8 (i:=0) (by decide) rfl rfl) (λC fp s1 H1=>Bc) (λC fp s1 H1=>(by walk_at "v"))) Be))))) Ct) (A5 (Bq (D9 Gu (BJ FJ (FG rfl) rfl T.FW (by decide) rfl rfl rfl (AU rfl (BL (Nc:=["inner"]) rfl (BF rfl (by decide +kernel) (by decide +kernel)) (λ_=>rfl) (by walk_at "v") (B8 (i:=0) (by decide) rfl rfl) (λC fp s1 H1=>Bc) (λC fp s1 H1=>(by walk_at "v"))) Be))))))
abbrev Td:List Str:=["term","found"]
theorem ME:AE Td ["term"] (Ar L5):=by walk_at "s"
def Tf(DR:Spw)(DT:Spw)(Dk:Spw):GS:=(Af (An 1 (gB (Cu) (Aa (AQ (Au (Ag DR XF (Aa (Ab 0) Ac))) 1 (gNm 0) AA (Ag DT XF (Aa (Ab 0) Ac))) Ac))) (Af (gIf (gTB (Ad (Ae (inF false)) (Ad (Ae ixW) (Ab 0) (gC (.int 0))) (Ap (Aa (gC (.str "fun")) (Aa (gC (.str "as")) Ac))))) (An 1 (Ad (Az) (Ab 1) (Ag Dk XF (Aa (Ad (Ae ixW) (Ab 0) (gC (.int 2))) Ac)))) Al) (Ai (Ab 1))))
variable {DT:Spw}
theorem gr(T:Tx K mg base a){Ey:Nat}(fW:Df P w K mg base "_law_parts" Ey 1 DR)(fX:Ey<=k){ED:Nat}(gw:Df P w K mg base "_law_told" ED 1 DT)(gz:ED<=k){EC:Nat}(gp:Df P w K mg base "_law_count" EC 1 Dk)(gq:EC<=k):Dn P w K mg base Td "_law_told" L5 k (Tf DR DT Dk):=λ{f cdv A outer s H E}hr=>
 have hu:=A7 hr
 have hN:=ME.nd
 (Ax (HR (i:=1) ME.nd rfl rfl rfl (BJ FJ (FG rfl) rfl T.FW (by decide) rfl rfl rfl (AU rfl (BL (Nc:=["part"]) rfl (BF rfl (by decide +kernel) (by decide +kernel)) (λ_=>rfl) (by walk_at "v") (B8 (i:=0) (by decide) rfl rfl) (λC fp s1 H1=>Bc) (λC fp s1 H1=>(by walk_at "v"))) Be))) (by walk_at "v"))
abbrev Tg:List Str:=["script","state","term","due","many","turn","found"]
theorem Th:AE Tg ["script"] (Ar FU):=by walk_at "s"
def Ti(Jy:Spw)(Bk:Spw)(Jz:Spw)(Dj:Spw)(JA:Spw)(JB:Spw)(DT:Spw)(JC:Spw):GS:=(Af (An 1 (Ag Jy XF (Aa (Ab 0) (Aa (gC (.int 0)) Ac)))) (Af (An 2 (Ag Jz XF (Aa (Ab 1) (Aa (Ag Bk XF (Aa (Ab 1) (Aa (gC (.int 1)) Ac))) Ac)))) (Af (An 3 (Ag Dj XF (Aa (Ab 2) Ac))) (Af (An 4 (Ag JA XF (Aa (Ab 2) Ac))) (Af (gIf (gOr (gNt (AO (Ag JB XF (Aa (Ab 4) Ac)))) (gTB (Ad (Ae (eqF true)) (Ab 4) (Ag DT XF (Aa (Ab 2) Ac))))) (Ai (gC (.bl false))) Al) (Af (AD (CF (Aa (gC (.int 2)) Ac)) (gNm 5) (Af (An 6 (Ag JC XF (Aa (Ab 2) Ac))) (Af (gIf (gOr (gNt (AO (A2 "list" (Ab 6)))) (gOr (gTB (Ad (Ae (eqF true)) (Ab 6) (Ab 3))) (gNt (AO (gB (rF By) (Aa (AQ (Au (Ab 6)) 1 (gNm 0) AA (A2 "tuple" (Ab 0))) Ac)))))) (Ai (gC (.bl false))) Al) (Aw (gMt AH AS (Ab 6) (Aa (Ah Ac) Ac)))))) (Ai (gC (.bl true)))))))))
variable {Bk:Spw}
theorem gA(T:Tx K mg base a){JD:Nat}{Jy:Spw}(iY:Df P w K mg base "_law_state" JD 2 Jy)(iZ:JD<=k){B7:Nat}(MF:Df P w K mg base "_law_kind" B7 2 Bk)(MG:B7<=k){JE:Nat}{Jz:Spw}(i0:Df P w K mg base "_law_drawn" JE 2 Jz)(i1:JE<=k){EB:Nat}(gj:Df P w K mg base "_law_less_terms" EB 1 Dj)(gm:EB<=k){Ju:Nat}{JA:Spw}(i2:Df P w K mg base "kinds_told" Ju 1 JA)(i3:Ju<=k){JF:Nat}{JB:Spw}(i4:Df P w K mg base "_law_whole" JF 1 JB)(i5:JF<=k){ED:Nat}(gw:Df P w K mg base "_law_told" ED 1 DT)(gz:ED<=k){Jr:Nat}{JC:Spw}(i6:Df P w K mg base "forgettings" Jr 1 JC)(i7:Jr<=k){s:Shared}{E:XK}(hr:Room k (A.deeper (envOfC "law" (Ar FU) s.heap.objs.size f cdv))):Ssm (cxW P w K mg base Tg "law" (Ar FU) f cdv A outer s H E).nox (λB=>B=H) (Cb FU) (Ti Jy Bk Jz Dj JA JB DT JC):=
 have hu:=A7 hr
 have hN:=Th.nd
 (Ax (by walk_at "v") (Ax (by walk_at "v") (Ax (by walk_at "v") (Ax (by walk_at "v") (Ax (by walk_at "v") (Ax (CW PassesOwn.never rfl (λ_=>rfl) (by walk_at "v") (by walk_at "v") (Ax (by walk_at "v") (Ax (Cc (Oe (KQ (by walk_at "v") (KQ (by walk_at "v") (Of (Gx (Gv (λ_=>rfl) (BJ Dw (Ds rfl) rfl T.DA (by decide) rfl rfl rfl (AU rfl (BL (Nc:=["one"]) rfl (BF rfl (by decide +kernel) (by decide +kernel)) (λ_=>rfl) (by walk_at "v") (B8 (i:=0) (by decide) rfl rfl) (λC fp s1 H1=>Bc) (λC fp s1 H1=>(by walk_at "v"))) Be)))))))) (by walk_at "v") Ct) (by walk_at "v")))) (by walk_at "v")))))))
theorem Tj:∀ l:List Kd,AM l=(l.map Kd.cnt).sum
 | []=>rfl
 | k::l=>by rw[Ym,List.sum_cons,<- Tj l];rfl
abbrev Tl(n:Nat):Spw:=spR (λ(k:Kd)ws _=>ws=[k.enc]/\k.dp<=n/\k.cnt<=1000) λk=>.int (k.cnt:Nat)
theorem Tn{n:Nat}{G:Hw}{R:List W->Hw->Prop}:∀(fs:Fs)(o:Option W)(ys:List W),(∀ k∈fs.kinds,k.dp<=n/\k.cnt<=1000)->ys.length+fs.kinds.length<=1000->R (ys++fs.kinds.map λk=>.int (k.cnt:Nat)) G->
  AV yes (gNm 0) AA (Ag (Tl n) XF (Aa (Ad (Ae ixW) (Ab 0) (gC (.int 2))) Ac)) R fs.enc [o] G ys
 | .nil,o,ys,_,_,h=>⟨trivial,by have h':R (ys++[]) G:=h;rw[Yx]at h';exact h'⟩
 | .cons x m k r,o,ys,a,hl,h=>by
  have c:ys.length+(r.kinds.length+1)<=1000:=hl
  obtain⟨b,e⟩:=a k Ye
  refine⟨trivial,Bl (by omega),?_⟩
  simp only[gNm,AA,if_true,Yk,Ag,Aa,Ac,Ad,Ae,Ab,gC,Yb,ixW,B0,Ak]
  refine⟨k,⟨rfl,b,e⟩,?_⟩
  refine Tn r _ _ (λj d=>a j (Yd _ d)) (by rw[Yj];simp only[Yg,Yi];omega) ?_
  rw[Yv];exact h
theorem gD{k:Kd}{t:Str}{Ao:GS}(h1:ω[0]?=some (some k.enc))(h:if k.hd=t then e ω G D.rt else Ao D ω G):Af (gIf (gTB (Ad (Ae (eqF false)) (Ad (Ae ixW) (Ab 0) (gC (.int 0))) (gC (.str t)))) (Ai e) Al) Ao D ω G:=by
 simp only[Af,gIf,gTB,Ad,Ae,Ab,h1,gC,Cm,Ak,Bn,Ai,Al]
 by_cases z:k.hd=t
 ·rw[if_pos z]at h
  rw[show(k.hd==t)=true by simp[z]];exact h
 ·rw[if_neg z]at h
  rw[show(k.hd==t)=false by simpa using z];exact h
theorem MH{k:Kd}(h:k.hd≠"row"):k.enc=.tup (.str k.hd::k.kids.map Kd.enc):=by
 cases k with
 | row fs o=>exact absurd rfl h
 | _=>rfl
theorem EC(T:Tx K mg base a):∀ n:Nat,Df P w K mg base "_law_count" (n+1) 1 (Tl n)
 | 0=>CM T.Qv Bu λj G Q E⟨k,⟨_,hd,_⟩,_⟩=>by have:=C1 k;omega
 | n+1=>by
  refine mk0 (k:=n+1) T.Qv rfl Ta Bu (λj G Q E⟨x,⟨e,_⟩,_⟩=>by rw[e];rfl) (gn T (EC T n) (Yr _)) λj G Q E r q=>?_
  obtain⟨k,⟨rfl,hd,hc⟩,q⟩:=q
  have m:=Cf k
  have hl:=Ec k.kids
  have d:=Tj k.kids
  have i:∀ c∈k.kids,c.dp<=n/\c.cnt<=1000:=λc b=>⟨by have:=E6 b;omega,by have:=GU b;omega⟩
  have h:∀ p,G p=none->Cu [.ref p] (put G p (.lst (k.kids.map λc=>.int (c.cnt:Nat)))) λy l=>Az (.int 1) y l Q:=λp g=>by
   rw[show(k.kids.map λc=>W.int (c.cnt:Nat))=(k.kids.map Kd.cnt).map λc:Nat=>W.int (c:Int) by rw[YB];rfl]
   refine Js (by omega) Aj ?_
   show Q (.int (1+((k.kids.map Kd.cnt).sum:Nat))) _
   rw[<- d,show(1:Int)+((AM k.kids:Nat):Int)=((k.cnt:Nat):Int) by omega]
   exact r _ _ _ (AB g) q
  unfold Tc
  show Af (gIf _ _ Al) _ (Av Q) [some k.enc] G
  refine gD rfl ?_
  by_cases e:k.hd="row"
  ·rw[if_pos e]
   obtain⟨fs,o,rfl⟩:=Mw e
   simp only[Ad,gC,gB,AQ,Au,Aa,Ac,Ae,Ab,Yb,Kd.enc,ixW,A0,Ak,List.replicate]
   refine Tn fs none [] i (by simp only[Yi];have:fs.kinds.length<=AM fs.kinds:=hl;have:(Kd.row fs o).cnt=1+AM fs.kinds:=m;omega) λp g=>?_
   rw[Yw]
   exact h p g
  ·rw[if_neg e,MH e]
   simp only[Ai,Ad,gC,gB,AQ,Au,AN,AG,AF,Aa,Ac,Ab,Yb,List.replicate,Av]
   show AV yes _ _ _ _ (BI (.str k.hd::k.kids.map Kd.enc) (some 1) none) _ _ _
   rw[CJ]
   refine El (enc:=Kd.enc) (f:=λc=>.int (c.cnt:Nat)) (cst:=[]) trivial k.kids none [] (λc b t s=>?_) (by exact AT (by simp only[Yi];omega)) λp g=>?_
   ·exact⟨c,⟨rfl,i c b⟩,s⟩
   ·rw[Yw]
    exact h p g
theorem Fi(h:r.sorts=[]):r=.nil:=by cases r <;> first | rfl | cases h
theorem gE{a:List Str}(h:r.sorts=("number":Str)::a):∃ t r',r=.num t r'/\r'.sorts=a:=by cases r <;> first | exact⟨_,_,rfl,(List.cons.inj h).2⟩| exact absurd (List.cons.inj h).1 (by decide +kernel)| cases h
theorem gF{a:List Str}(h:r.sorts=("truth":Str)::a):∃ t r',r=.tru t r'/\r'.sorts=a:=by cases r <;> first | exact⟨_,_,rfl,(List.cons.inj h).2⟩| exact absurd (List.cons.inj h).1 (by decide +kernel)| cases h
theorem JG{a:List Str}(h:r.sorts=("name":Str)::a):∃ t r',r=.nam t r'/\r'.sorts=a:=by cases r <;> first | exact⟨_,_,rfl,(List.cons.inj h).2⟩| exact absurd (List.cons.inj h).1 (by decide +kernel)| cases h
theorem To{a:List Str}(h:r.sorts=("kind":Str)::a):∃ t r',r=.knd t r'/\r'.sorts=a:=by cases r <;> first | exact⟨_,_,rfl,(List.cons.inj h).2⟩| exact absurd (List.cons.inj h).1 (by decide +kernel)| cases h
theorem Fj{a:List Str}(h:r.sorts=("term":Str)::a):∃ t r',r=.trm t r'/\r'.sorts=a:=by cases r <;> first | exact⟨_,_,rfl,(List.cons.inj h).2⟩| exact absurd (List.cons.inj h).1 (by decide +kernel)| cases h
theorem Hq{w:Str}(h:KTD.datumAt w AX=some r.sorts)(g:w≠"rec"):(w="num"/\∃ i,r=.num i .nil)\/(w="truth"/\∃ b,r=.tru b .nil)\/(w="name"/\∃ x,r=.nam x .nil)\/(w="fun"/\∃ x k t,r=.nam x (.knd k (.trm t .nil)))\/(w="get"/\∃ t x,r=.trm t (.nam x .nil))\/(w="or"/\∃ t x u,r=.trm t (.nam x (.trm u .nil)))\/(w="if"/\∃ t u v,r=.trm t (.trm u (.trm v .nil)))\/(w="as"/\∃ t k,r=.trm t (.knd k .nil))\/((w="new"\/w="read")/\∃ t,r=.trm t .nil)\/((w="call"\/w="plus"\/w="less"\/w="write")/\∃ t u,r=.trm t (.trm u .nil)):=by
 have f:=Jb h
 have two:∀{r:As},r.sorts=[("term":Str),"term"]->∃ t u,r=.trm t (.trm u .nil):=λe=>by
  obtain⟨t,r1,rfl,a⟩:=Fj e
  obtain⟨u,d,rfl,c⟩:=Fj a
  rw[Fi c];exact⟨t,u,rfl⟩
 have one:∀{r:As},r.sorts=[("term":Str)]->∃ t,r=.trm t .nil:=λe=>by
  obtain⟨t,r1,rfl,a⟩:=Fj e
  rw[Fi a];exact⟨t,rfl⟩
 simp only[AX,Yo,Prod.mk.injEq,YY,or_false]at f
 rcases f with⟨rfl,e⟩|⟨rfl,e⟩|⟨rfl,e⟩|⟨rfl,e⟩|⟨rfl,e⟩|⟨rfl,e⟩|⟨rfl,e⟩|⟨rfl,e⟩|⟨rfl,e⟩|⟨rfl,e⟩|⟨rfl,e⟩|⟨rfl,e⟩|⟨rfl,e⟩|⟨rfl,e⟩|⟨rfl,e⟩
 ·obtain⟨i,r1,rfl,a⟩:=gE e
  rw[Fi a];exact .inl ⟨rfl,i,rfl⟩
 ·obtain⟨i,r1,rfl,a⟩:=gF e
  rw[Fi a];exact .inr (.inl ⟨rfl,i,rfl⟩)
 ·obtain⟨i,r1,rfl,a⟩:=JG e
  rw[Fi a];exact .inr (.inr (.inl ⟨rfl,i,rfl⟩))
 ·obtain⟨x,r1,rfl,a⟩:=JG e
  obtain⟨k,d,rfl,c⟩:=To a
  obtain⟨t,rfl⟩:=one c
  exact .inr (.inr (.inr (.inl ⟨rfl,x,k,t,rfl⟩)))
 ·exact .inr (.inr (.inr (.inr (.inr (.inr (.inr (.inr (.inr ⟨.inl rfl,two e⟩))))))))
 ·exact absurd rfl g
 ·obtain⟨t,r1,rfl,a⟩:=Fj e
  obtain⟨x,d,rfl,c⟩:=JG a
  rw[Fi c];exact .inr (.inr (.inr (.inr (.inl ⟨rfl,t,x,rfl⟩))))
 ·obtain⟨t,r1,rfl,a⟩:=Fj e
  obtain⟨x,d,rfl,c⟩:=JG a
  obtain⟨u,rfl⟩:=one c
  exact .inr (.inr (.inr (.inr (.inr (.inl ⟨rfl,t,x,u,rfl⟩)))))
 ·obtain⟨t,r1,rfl,a⟩:=Fj e
  obtain⟨u,v,rfl⟩:=two a
  exact .inr (.inr (.inr (.inr (.inr (.inr (.inl ⟨rfl,t,u,v,rfl⟩))))))
 ·exact .inr (.inr (.inr (.inr (.inr (.inr (.inr (.inr (.inr ⟨.inr (.inl rfl),two e⟩))))))))
 ·exact .inr (.inr (.inr (.inr (.inr (.inr (.inr (.inr (.inr ⟨.inr (.inr (.inl rfl)),two e⟩))))))))
 ·exact .inr (.inr (.inr (.inr (.inr (.inr (.inr (.inr (.inl ⟨.inl rfl,one e⟩))))))))
 ·exact .inr (.inr (.inr (.inr (.inr (.inr (.inr (.inr (.inl ⟨.inr rfl,one e⟩))))))))
 ·exact .inr (.inr (.inr (.inr (.inr (.inr (.inr (.inr (.inr ⟨.inr (.inr (.inr rfl)),two e⟩))))))))
 ·obtain⟨t,r1,rfl,a⟩:=Fj e
  obtain⟨k,d,rfl,c⟩:=To a
  rw[Fi c];exact .inr (.inr (.inr (.inr (.inr (.inr (.inr (.inl ⟨rfl,t,k,rfl⟩)))))))
def JH:List Int->GA
 | []=>Ac
 | i::r=>Aa (gC (.int i)) (JH r)
def JI:List (List Int)->GA
 | []=>Ac
 | l::r=>Aa (Ap (JH l)) (JI r)
theorem Tp{ω:Sw}{G:Hw}:∀(l:List Int)(R:List W->Hw->Prop),R (l.map W.int) G->JH l ω G R
 | [],R,h=>h
 | i::l,R,h=>Tp l (λxs a=>R (W.int i::xs) a) h
def LL(G:Hw):List W->List (List Int)->Prop
 | [],[]=>True
 | p::ps,l::ls=>(∃ a,p=.ref a/\G a=some (.lst (l.map W.int)))/\LL G ps ls
 | _,_=>False
theorem LL.mono{G c:Hw}(s:Sub G c):∀{ps:List W}{b:List (List Int)},LL G ps b->LL c ps b
 | [],[],_=>trivial
 | p::ps,l::b,h=>by
  obtain⟨⟨a,e,g⟩,h⟩:=h
  exact⟨⟨a,e,s _ _ g⟩,LL.mono s h⟩
theorem MI{ω:Sw}:∀(a:List (List Int))(G:Hw)(R:List W->Hw->Prop),(∀ l∈a,l.length<=10)->(∀ ps b,Sub G b->LL b ps a->R ps b)->JI a ω G R
 | [],G,R,_,h=>h [] G Sub.refl trivial
 | l::a,G,R,hl,h=>by
  have h1:=hl l Ye
  show JH l ω G _
  refine Tp l _ ⟨by rw[Yh];exact AT (by omega),λp c=>?_⟩
  refine MI a _ _ (λm d=>hl m (Yd _ d)) λps b s h2=>?_
  exact h (.ref p::ps) b ((AB c).trans s) ⟨⟨p,rfl,s _ _ Aj⟩,h2⟩
def plc:List Str->List (List Int)->Str->Option (List Int)
 | k::ks,l::ls,x=>if k=x then some l else plc ks ls x
 | _,_,_=>none
theorem MJ{G:Hw}{x:Str}{d:W}:∀{ks:List Str}{b:List (List Int)}{ps:List W},LL G ps b->ks.length=b.length->(∀ l,plc ks b x=some l->∃ a,BP (kvW ks ps) x d=.ref a/\G a=some (.lst (l.map W.int)))/\(plc ks b x=none->BP (kvW ks ps) x d=d)
 | [],[],[],_,_=>⟨(λl h=>by cases h),λ_=>rfl⟩
 | k::ks,l::b,p::ps,h,hl=>by
  obtain⟨⟨a,rfl,g⟩,h⟩:=h
  have i:=MJ (x:=x) (d:=d) (ks:=ks) h (by simpa using hl)
  have f:BP (kvW (k::ks) (W.ref a::ps)) x d=if k=x then .ref a else BP (kvW ks ps) x d:=by
   show BP ((Sum.inr k,W.ref a)::kvW ks ps) x d=_
   rw[GJ]
   by_cases e:k=x
   ·rw[if_pos e,if_pos (by rw[e])]
   ·rw[if_neg e,if_neg λz=>e (Sum.inr.inj z)]
  have j:plc (k::ks) (l::b) x=if k=x then some l else plc ks b x:=rfl
  rw[f,j]
  by_cases e:k=x
  ·rw[if_pos e,if_pos e]
   exact⟨(λm c=>by cases c;exact⟨a,rfl,g⟩),λz=>by cases z⟩
  ·rw[if_neg e,if_neg e]
   exact i
abbrev K7:List Str:=["fun","call","get","or","if","plus","less"]
abbrev L7:List (List Int):=[[3],[1,2],[1],[1,3],[1,2,3],[1,2],[1,2]]
abbrev K4:List Str:=["new","read","write","as"]
abbrev L4:List (List Int):=[[1],[1],[1,2],[1]]
def BB(w:Str):List Int:=(plc K7 L7 w).getD ((plc K4 L4 w).getD [])
theorem map_some{α β:Type}{g:α->Option β}{d:β}:∀{l:List α}{ys:List β},l.map g=ys.map some->(∀ i∈l,g i=some ((g i).getD d))/\l.map (λi=>(g i).getD d)=ys
 | [],[],_=>⟨(λi hi=>by cases hi),rfl⟩
 | x::l,y::ys,h=>by
  rw[Ym,Ym]at h
  obtain⟨h1,h2⟩:=List.cons.inj h
  obtain⟨a,b⟩:=map_some (d:=d) h2
  constructor
  ·intro i hi
   rcases Yo.mp hi with rfl | hi
   ·rw[h1];rfl
   ·exact a i hi
  ·rw[Ym,b,h1];rfl
 | [],y::ys,h=>by cases h
 | x::l,[],h=>by cases h
theorem gG{w:Str}(h:KTD.datumAt w AX=some r.sorts)(a:w≠"rec"):(BB w).map (atI (.str w::r.enc))=(r.parts.map Te.enc).map some:=by
 rcases Hq h a with⟨rfl,i,rfl⟩|⟨rfl,i,rfl⟩|⟨rfl,i,rfl⟩|⟨rfl,x,k,t,rfl⟩|⟨rfl,t,x,rfl⟩|⟨rfl,t,x,u,rfl⟩|⟨rfl,t,u,v,rfl⟩|⟨rfl,t,k,rfl⟩|⟨rfl | rfl,t,rfl⟩|⟨rfl | rfl | rfl | rfl,t,u,rfl⟩
 ·rw[show BB "num"=[] by decide +kernel];rfl
 ·rw[show BB "truth"=[] by decide +kernel];rfl
 ·rw[show BB "name"=[] by decide +kernel];rfl
 ·rw[show BB "fun"=[3] by decide +kernel];rfl
 ·rw[show BB "get"=[1] by decide +kernel];rfl
 ·rw[show BB "or"=[1,3] by decide +kernel];rfl
 ·rw[show BB "if"=[1,2,3] by decide +kernel];rfl
 ·rw[show BB "as"=[1] by decide +kernel];rfl
 ·rw[show BB "new"=[1] by decide +kernel];rfl
 ·rw[show BB "read"=[1] by decide +kernel];rfl
 ·rw[show BB "call"=[1,2] by decide +kernel];rfl
 ·rw[show BB "plus"=[1,2] by decide +kernel];rfl
 ·rw[show BB "less"=[1,2] by decide +kernel];rfl
 ·rw[show BB "write"=[1,2] by decide +kernel];rfl
theorem Ey(T:Tx K mg base a):Df P w K mg base "_law_parts" 1 1 Mq:=by
 refine mk0 T.dQ rfl Jv BE (λws G Q E⟨x,⟨e,_⟩,_⟩=>by rw[e];rfl) (fU T) λws G Q E hC q=>?_
 obtain⟨t,⟨rfl,ho,hc⟩,q⟩:=q
 cases t with
 | nd w r =>
 obtain⟨h1,h2⟩:=Cj ho
 unfold SW
 show Af (gIf _ _ Al) _ (Av Q) [some (.tup (.str w::r.enc)),none,none] G
 walk_at "ps"
 by_cases e:w="rec"
 ·rw[show(w==("rec":Str))=true by simp[e]]
  obtain⟨f,rfl⟩:=(DF h1).1 e
  have hc':1+(f.cnt+0)<=20000:=hc
  have hf:=Hj f
  have j:((A3 f.names&&f.ok)&&true)=true:=h2
  simp only[Bool.and_true,YF]at j
  simp only[show(true != false)=true from rfl,if_true,Ai,AQ,Au,Ad,Ae,Ab,gC,Yb,As.enc,ixW,A0,Ak,Av,List.replicate]
  refine Dz (f:=Ja) trivial f.enc none [] (λx hx S h=>?_) (by simp only[Yi];exact AT (by omega)) ?_
  ·obtain⟨n,u,rfl,_⟩:=Hh j.2 hx
   show Ad (Ae ixW) (Ab 0) (gC (.int 1)) [some (W.tup [.str n,u])] _ S
   simp only[Ad,Ae,Ab,gC,Yb,ixW,A0,Ak]
   exact h
  ·rw[Yw,Mp]
   have h:∀ p,G p=none->Q (.ref p) (put G p (.lst ((f.terms++[]).map Te.enc))):=q
   rw[Yx]at h
   exact h
 ·rw[show(w==("rec":Str))=false by simpa using e]
  walk_at "px"
  obtain⟨m1,R⟩:=map_some (d:=W.non) (gG h1 e)
  have hpl:(BB w).length<=10:=by
   have z:=congrArg List.length R
   rw[Yh,Yh]at z
   have:=IZ (.nd w r)
   have s3:r.parts.length<=3:=by
    have:=DG h1
    rcases Hq h1 e with⟨_,i,rfl⟩|⟨_,i,rfl⟩|⟨_,i,rfl⟩|⟨_,x,k,t,rfl⟩|⟨_,t,x,rfl⟩|⟨_,t,x,u,rfl⟩|⟨_,t,u,v,rfl⟩|⟨_,t,k,rfl⟩|⟨_,t,rfl⟩|⟨_,t,u,rfl⟩ <;> first | exact(show(0:Nat)<=3 by decide)| exact(show(1:Nat)<=3 by decide)| exact(show(2:Nat)<=3 by decide)| exact(show(3:Nat)<=3 by decide)
   omega
  refine AL ?_
  show JI L7 _ G _
  refine MI L7 G _ (by decide) λg Z s1 l7=>⟨by decide +kernel,λH y=>?_⟩
  walk_at "pd"
  have U:=BD (o:=.dct (kvW K7 g)) s1 y
  have D:=l7.mono (AB (o:=.dct (kvW K7 g)) y)
  have O:put Z H (.dct (kvW K7 g)) H=some (.dct (kvW K7 g)):=Aj
  generalize put Z H (.dct (kvW K7 g))=G2 at U D O ⊢
  refine AL ?_
  show JI L4 _ G2 _
  refine MI L4 G2 _ (by decide) λc X s3 l4=>⟨by decide +kernel,λL I=>?_⟩
  walk_at "pd"
  have m:=BD (o:=.dct (kvW K4 c)) s3 I
  have J:=l4.mono (AB (o:=.dct (kvW K4 c)) I)
  have g4:put X L (.dct (kvW K4 c)) L=some (.dct (kvW K4 c)):=Aj
  generalize put X L (.dct (kvW K4 c))=N at m J g4 ⊢
  simp only[Ai,AW,Au,gMt,Bi,Ap,Ad,Ae,Aa,Ac,Ab,gC,Ym,YH,List.replicate,List.cons_append,Yw,Yb,Yc,Option.getD_some,ixW,Bf,Ak,Av]
  refine⟨⟨H,_,rfl,m _ _ O⟩,⟨L,_,rfl,g4⟩,by decide,λp hp=>?_⟩
  have F:Sub N (put N p (.lst [])):=AB hp
  have A:=J.mono F
  have s:=(D.mono m).mono F
  refine⟨L,kvW K4 c,w,.ref p,rfl,rfl,F _ _ g4,H,kvW K7 g,w,_,rfl,rfl,F _ _ (m _ _ O),?_⟩
  obtain⟨b,eb,gb⟩:∃ b,BP (kvW K7 g) w (BP (kvW K4 c) w (.ref p))=.ref b/\put N p (.lst []) b=some (.lst ((BB w).map W.int)):=by
   unfold BB
   obtain⟨a1,a2⟩:=MJ (x:=w) (d:=BP (kvW K4 c) w (.ref p)) (ks:=K7) s rfl
   cases Y:plc K7 L7 w with
   | some l=>exact a1 l Y
   | none =>
    rw[a2 Y]
    obtain⟨b1,b2⟩:=MJ (x:=w) (d:=W.ref p) (ks:=K4) A rfl
    cases h4:plc K4 L4 w with
    | some l=>exact b1 l h4
    | none=>rw[b2 h4];exact⟨p,rfl,Aj⟩
  rw[eb]
  simp only[gb]
  refine El (enc:=W.int) (f:=λi=>(atI (.str w::r.enc) i).getD .non) (cst:=[some (.tup (.str w::r.enc))]) gb (BB w) none [] (λi hi S h=>?_) (by exact AT (by simp only[Yi];omega)) λp1 B=>?_
  ·simp only[Ad,Ae,Ab,Yb,Yc]
   show opt (atI (.str w::r.enc) i) _
   rw[m1 i hi,Ak]
   exact h
  ·rw[Yw,R]
   have sb:Sub G (put N p (.lst [])):=U.trans (m.trans F)
   have hn:G p1=none:=by
    cases z:G p1 with
    | none=>rfl
    | some u=>rw[sb _ _ z]at B;cases B
   exact hC _ _ _ (Sub.put2 sb) (q p1 hn)
def tN(n:Nat)(t:Te):Nat:=((B1 n t).map Kd.cnt).sum
theorem Tq(n:Nat)(t:Te):tN (n+1) t=(t.told.map Kd.cnt).sum+(t.parts.map (tN n)).sum:=by
 show((t.told++t.parts.flatMap (B1 n)).map Kd.cnt).sum=_
 rw[Yy,List.sum_append]
 congr 1
 have go:∀ l:List Te,((l.flatMap (B1 n)).map Kd.cnt).sum=(l.map (tN n)).sum:=by
  intro l
  induction l with
  | nil=>rfl
  | cons c l a=>rw[Qa,Yy,List.sum_append,a,Ym,List.sum_cons];rfl
 exact go t.parts
theorem gH(h:t.ok=true):tN n t<=120*t.cnt:=by
 have h1:=SU λk a=>(MC n h k a).1
 have h2:=Ji n t h
 unfold tN;omega
def two(s:Str):Bool:=[("fun":Str),"as"].any (·==s)
theorem JJ(s:Str)(h:G p=some (.lst [.str "fun",.str "as"])):inF false (.str s) (.ref p) G=some (.bl (two s)):=by
 unfold inF
 show(Dd G (.ref p)).bind _=_
 rw[Ig h]
 show some (W.bl (inV (.str s) ([("fun":Str),"as"].map V.str)))=_
 rw[Lk];rfl
theorem Ts{w:Str}(h:KTD.datumAt w AX=some r.sorts):(two w=true/\∃ k,r.told=[k]/\atI (.str w::r.enc) 2=some k.enc)\/(two w=false/\r.told=[]):=by
 by_cases e:w="rec"
 ·obtain⟨f,rfl⟩:=(DF h).1 e
  subst e
  exact .inr ⟨by decide +kernel,rfl⟩
 rcases Hq h e with⟨rfl,i,rfl⟩|⟨rfl,i,rfl⟩|⟨rfl,i,rfl⟩|⟨rfl,x,k,t,rfl⟩|⟨rfl,t,x,rfl⟩|⟨rfl,t,x,u,rfl⟩|⟨rfl,t,u,v,rfl⟩|⟨rfl,t,k,rfl⟩|⟨rfl | rfl,t,rfl⟩|⟨rfl | rfl | rfl | rfl,t,u,rfl⟩ <;> first | exact .inr ⟨by decide +kernel,rfl⟩| exact .inl ⟨by decide +kernel,_,rfl,rfl⟩
abbrev gI(n:Nat):Spw:=spR (λ(t:Te)ws _=>ws=[t.enc]/\t.ok=true/\t.dp<=n/\t.cnt<=1000) λt=>.int (tN n t:Nat)
theorem ED(T:Tx K mg base a):∀ n:Nat,Df P w K mg base "_law_told" (n+11) 1 (gI n)
 | 0=>CM T.Qw Bu λu G Q E⟨k,⟨_,_,hd,_⟩,_⟩=>by have:=He k;omega
 | n+1=>by
  refine mk0 (k:=n+11) T.Qw rfl ME Bu (λu G Q E⟨x,⟨e,_⟩,_⟩=>by rw[e];rfl) (gr T (Ey T) (by omega) (ED T n) (Yr _) (EC T 8) (by omega)) λu G Q E v q=>?_
  obtain⟨t,⟨rfl,g,hd,hc⟩,q⟩:=q
  have I:=Ci t
  have L:=CL t
  have A:=IY t.parts
  have D:=gH (n:=n+1) g
  rw[Tq]at D
  dsimp only at q
  rw[Tq]at q
  unfold Tf
  show Af (An 1 _) _ (Av Q) [some t.enc,none] G
  refine AL ?_
  simp only[gB,AQ,Au,Ag,Aa,Ac,Ab,Yb,List.replicate]
  refine⟨t,⟨rfl,g,by omega⟩,λp z=>?_⟩
  simp only[Aj]
  refine El (enc:=Te.enc) (f:=λc=>.int (tN n c:Nat)) (cst:=[]) Aj t.parts none [] (λc d J b=>?_) (by exact AT (by simp only[Yi];omega)) λp1 i=>?_
  ·exact⟨c,⟨rfl,C2 g c d,by have:=F7 d;omega,by have:=Hf d;omega⟩,b⟩
  rw[Yw,show(t.parts.map λc=>W.int (tN n c:Nat))=(t.parts.map (tN n)).map λc:Nat=>W.int (c:Int) by rw[YB];rfl]
  refine Js (by omega) Aj ?_
  walk_at "pd"
  have y:Sub G (put (put G p (.lst (t.parts.map Te.enc))) p1 (.lst ((t.parts.map (tN n)).map λc:Nat=>W.int (c:Int)))):=BD (AB z) i
  generalize put (put G p (.lst (t.parts.map Te.enc))) p1 (.lst ((t.parts.map (tN n)).map λc:Nat=>W.int (c:Int)))=G1 at y ⊢
  cases t with
  | nd w r =>
  obtain⟨h1,h2⟩:=Cj g
  simp only[Te.enc,Af,gIf,gTB,Ad,Ae,Ab,gC,Ap,Aa,Ac,Yb,ixW,Bf,Ak]
  refine⟨by decide,λp2 j=>?_⟩
  have s:=BD (o:=.lst [.str "fun",.str "as"]) y j
  rw[JJ w Aj,Ak]
  rcases Ts h1 with⟨m,k,h,H⟩|⟨m,h⟩
  ·have F:=DP h2 k (by rw[h];exact Ye)
   rw[m]
   simp only[if_true,An,Ad,Ab,Ag,Aa,Ac,Ae,gC,Yb,Yc,ixW,H,Ak]
   refine⟨k,⟨rfl,F.2,by omega⟩,?_⟩
   simp only[Az,L3.Bo,Yk,Yl,Ai,Ab,Yb,Yc,Av]
   have b:Q (.int ((((Te.nd w r).told.map Kd.cnt).sum+((Te.nd w r).parts.map (tN n)).sum:Nat):Int)) G:=q
   have l:(Te.nd w r).told=[k]:=h
   rw[l]at b
   have B:((([k].map Kd.cnt).sum+((Te.nd w r).parts.map (tN n)).sum:Nat):Int)=(((Te.nd w r).parts.map (tN n)).sum:Int)+(k.cnt:Int):=by
    simp only[Ym,YH,List.sum_cons,List.sum_nil];omega
   rw[B]at b
   exact v _ _ _ s b
  ·rw[m]
   simp only[Yq,if_false,Al,Ai,Ab,Yb,Yc,Av]
   have b:Q (.int ((((Te.nd w r).told.map Kd.cnt).sum+((Te.nd w r).parts.map (tN n)).sum:Nat):Int)) G:=q
   have l:(Te.nd w r).told=[]:=h
   rw[l,YH,List.sum_nil,Nat.zero_add]at b
   exact v _ _ _ s b
def SZ(G:Hw):List W->List Te->Prop
 | [],[]=>True
 | p::ps,t::ts=>(∃ b,p=.ref b/\G b=some (.lst [.int (t.cnt:Nat),.int (t.dp:Nat)]))/\SZ G ps ts
 | _,_=>False
theorem SZ.mono{G a:Hw}(s:Sub G a):∀{ps:List W}{ts:List Te},SZ G ps ts->SZ a ps ts
 | [],[],_=>trivial
 | p::ps,t::ts,h=>by
  obtain⟨⟨b,e,g⟩,h⟩:=h
  exact⟨⟨b,e,s _ _ g⟩,SZ.mono s h⟩
theorem SZ.len{G:Hw}:∀{ps:List W}{ts:List Te},SZ G ps ts->ps.length=ts.length
 | [],[],_=>rfl
 | p::ps,t::ts,h=>congrArg (·+1) (SZ.len h.2)
abbrev MK(n:Nat):Spw:=spL (λ(t:Te)ws _=>ws=[t.enc]/\t.ok=true/\t.dp<=n/\t.cnt<=20000) λt=>[.int (t.cnt:Nat),.int (t.dp:Nat)]
theorem Tt{n:Nat}{q:Addr}{items:List W}{R:List W->Hw->Prop}:∀(l:List Te)(o:Option W)(G:Hw)(ys:List W),(∀ t∈l,t.ok=true/\t.dp<=n/\t.cnt<=20000)->ys.length+l.length<=30000->G q=some (.lst items)->(∀ ps a,Sub G a->SZ a ps l->R (ys++ps) a)->
  AV (holds q items) (gNm 0) AA (Ag (MK n) XF (Aa (Ab 0) Ac)) R (l.map Te.enc) [o] G ys
 | [],o,G,ys,_,_,c,r=>⟨c,by have h:=r [] G Sub.refl trivial;rw[Yx]at h;exact h⟩
 | t::l,o,G,ys,d,hl,c,r=>by
  rw[Yg]at hl
  refine⟨c,Bl (by omega),?_⟩
  simp only[gNm,AA,if_true,Yk,Ag,Aa,Ac,Ab,Yb]
  refine⟨t,⟨rfl,d t Ye⟩,λb e=>?_⟩
  refine Tt l _ _ (ys++[.ref b]) (λu f=>d u (Yd _ f)) (by rw[Yj];simp only[Yg,Yi];omega) (AB e _ _ c) λps a s h=>?_
  rw[Yv]
  exact r (.ref b::ps) a ((AB e).trans s) ⟨⟨b,rfl,s _ _ Aj⟩,h⟩
theorem ML{q:Addr}{items:List W}{R:List W->Hw->Prop}{G:Hw}{i:Int}{f:Te->W}(a:G q=some (.lst items))(c:∀ t:Te,atI [W.int (t.cnt:Nat),.int (t.dp:Nat)] i=some (f t)):∀(ps:List W)(l:List Te)(o:Option W)(ys:List W),SZ G ps l->ys.length+l.length<=30000->R (ys++l.map f) G->
  AV (holds q items) (gNm 0) AA (Ad (Ae ixW) (Ab 0) (gC (.int i))) R ps [o] G ys
 | [],[],o,ys,_,_,r=>⟨a,by rw[YH,Yx]at r;exact r⟩
 | p::ps,t::l,o,ys,h,hl,r=>by
  obtain⟨⟨b,rfl,g⟩,h⟩:=h
  rw[Yg]at hl
  refine⟨a,Bl (by omega),?_⟩
  simp only[gNm,AA,if_true,Yk,Ad,Ae,Ab,gC,Yb]
  rw[Eb g,c t,Ak]
  refine ML a c ps l _ _ h (by rw[Yj];simp only[Yg,Yi];omega) ?_
  rw[Yv];exact r
theorem gJ(x y:Int)(r:List Int):Cd (x::y::r)=max x (Cd (y::r)):=rfl
theorem Tu:∀(l:List Te)(x:Int),0<=x->Cd (x::l.map λc=>(c.dp:Int))=max x (tdp l:Int)
 | [],x,h=>by show x=max x ((0:Nat):Int);omega
 | c::l,x,h=>by
  rw[Ym,gJ,Tu l (c.dp:Int) (by omega)]
  show max x (max (c.dp:Int) (tdp l:Int))=max x ((max c.dp (tdp l):Nat):Int)
  omega
theorem Tv:∀ l:List Te,AK l=(l.map Te.cnt).sum
 | []=>rfl
 | k::l=>by rw[Ym,List.sum_cons,<- Tv l];rfl
theorem Ez(T:Tx K mg base a):∀ n:Nat,Df P w K mg base "_law_size" (n+2) 1 (MK n)
 | 0=>CM T.Qs BE λJ G Q E⟨k,⟨_,_,hd,_⟩,_⟩=>by have:=He k;omega
 | n+1=>by
  refine mk0 (k:=n+2) T.Qs rfl MD BE (λJ G Q E⟨x,⟨e,_⟩,_⟩=>by rw[e];rfl) (fV T (Ey T) (by omega) (Ez T n) (Yr _)) λJ G Q E hC q=>?_
  obtain⟨t,⟨rfl,F,hd,hc⟩,q⟩:=q
  have e1:=Ci t
  have e2:=CL t
  have hpl:=IY t.parts
  unfold SY
  show Af (An 1 _) _ (Av Q) [some t.enc,none] G
  refine AL ?_
  simp only[AW,Au,Ag,Bi,Aa,Ac,Ab,Yb,List.replicate,YH,Yx]
  refine⟨t,⟨rfl,F,by omega⟩,λp U=>?_⟩
  simp only[Aj]
  refine Tt t.parts none _ [] (λc h=>⟨C2 F c h,by have:=F7 h;omega,by have:=Hf h;omega⟩) (by simp only[Yi];omega) Aj λps L s1 hs p1 j=>?_
  rw[Yw]
  walk_at "pd"
  have sA:=(AB (o:=.lst (t.parts.map Te.enc)) U).trans s1
  have O:=BD (o:=.lst ps) sA j
  have g:=hs.mono (AB (o:=.lst ps) j)
  have g1:put L p1 (.lst ps) p1=some (.lst ps):=Aj
  generalize put L p1 (.lst ps)=G2 at O g g1 ⊢
  simp only[Ai,Ap,Ad,gB,AQ,Au,Aa,Ac,Ab,gC,Yb,Yc,List.replicate,Av,g1]
  refine ML (f:=λt=>.int (t.cnt:Nat)) g1 (λt=>rfl) ps t.parts none [] g (by simp only[Yi];omega) λp2 d=>?_
  rw[Yw,show(t.parts.map λt=>W.int (t.cnt:Nat))=(t.parts.map Te.cnt).map λc:Nat=>W.int (c:Int) by rw[YB];rfl]
  have i:=Tv t.parts
  refine Js (by omega) Aj ?_
  rw[<- i]
  have I:=BD (o:=.lst ((t.parts.map Te.cnt).map λc:Nat=>W.int (c:Int))) O d
  have l:=g.mono (AB (o:=.lst ((t.parts.map Te.cnt).map λc:Nat=>W.int (c:Int))) d)
  have g2:=AB (o:=.lst ((t.parts.map Te.cnt).map λc:Nat=>W.int (c:Int))) d _ _ g1
  generalize put G2 p2 (.lst ((t.parts.map Te.cnt).map λc:Nat=>W.int (c:Int)))=G3 at I l g2 ⊢
  rw[show Az (.int 1) (.int ((AK t.parts:Nat):Int)) G3=λZ=>Z (.int (1+((AK t.parts:Nat):Int))) G3 from rfl]
  refine⟨(show 1<=sizeLine by decide),λp3 b=>?_⟩
  have g3:=AB (o:=.lst [.int 0]) b _ _ g2
  have m:=l.mono (AB (o:=.lst [.int 0]) b)
  have R:=BD (o:=.lst [.int 0]) I b
  have H:put G3 p3 (.lst [.int 0]) p3=some (.lst [.int 0]):=Aj
  generalize put G3 p3 (.lst [.int 0])=G4 at g3 m R H ⊢
  simp only[g3]
  refine ML (f:=λt=>.int (t.dp:Nat)) g3 (λt=>rfl) ps t.parts none [] m (by simp only[Yi];omega) λy r=>?_
  rw[Yw]
  have N:=BD (o:=.lst (t.parts.map λt=>W.int (t.dp:Nat))) R r
  have s:=AB (o:=.lst (t.parts.map λt=>W.int (t.dp:Nat))) r _ _ H
  have S:put G4 y (.lst (t.parts.map λt=>W.int (t.dp:Nat))) y=some (.lst (t.parts.map λt=>W.int (t.dp:Nat))):=Aj
  generalize put G4 y (.lst (t.parts.map λt=>W.int (t.dp:Nat)))=G5 at N s S ⊢
  rw[HS (λz=>by obtain⟨⟨u,X⟩,_⟩:=z;cases X)]
  unfold L3.Bo
  simp only[s,S]
  refine⟨by rw[Yh];exact AT (by simp only[Yg,Yi];omega),λY A=>?_⟩
  have e5:[W.int 0]++(t.parts.map λt=>W.int (t.dp:Nat))=(0::t.parts.map λc=>(c.dp:Int)).map W.int:=by rw[Ym,YB];rfl
  rw[e5]
  simp only[rF,GH,EK Aj,Option.bind_some,L3.Lj]
  rw[if_pos (by simp only[Yg];omega),Ak,Tu _ 0 (Int.le_refl 0)]
  have D:=BD (o:=.lst ((0::t.parts.map λc=>(c.dp:Int)).map W.int)) N A
  generalize put G5 Y (.lst ((0::t.parts.map λc=>(c.dp:Int)).map W.int))=G6 at D ⊢
  rw[show Az (.int 1) (.int (max 0 ((tdp t.parts:Nat):Int))) G6=λZ=>Z (.int (1+max 0 ((tdp t.parts:Nat):Int))) G6 from rfl]
  refine⟨(show 2<=sizeLine by decide),λB v=>?_⟩
  have hn:G B=none:=by
   cases z:G B with
   | none=>rfl
   | some u=>rw[D _ _ z]at v;cases v
  rw[show(1:Int)+((AK t.parts:Nat):Int)=((t.cnt:Nat):Int) by omega,show(1:Int)+max 0 ((tdp t.parts:Nat):Int)=((t.dp:Nat):Int) by omega]
  exact hC _ _ _ (Sub.put2 D) (q B hn)
theorem MM{D:Ew}{p q:Addr}{s m r k n:Option W}{items:List W}{ge:GE}{g:Kd->Kd}(i:p≠q):∀(l:List Kd)(c:Option W)(G:Hw)(a:List Kd),(∀ d∈l,∀(v:Hw)(Z:Kw),Z (g d).enc v->ge [s,some (.ref p),m,r,k,n,some d.enc] v Z)->a.length+l.length<=20000->G p=some (.lst (a.map Kd.enc))->G q=some (.lst items)->
  (∀ c j,j p=some (.lst ((a++l.map g).map Kd.enc))->(∀ b,b≠p->∀ u,G b=some u->j b=some u)->D.nx [s,some (.ref p),m,r,k,n,c] j)->
  Bh (holds q items) (gNm 6) (Aw (gMt AH AS (Ab 1) (Aa ge Ac))) D (l.map Kd.enc) [s,some (.ref p),m,r,k,n,c] G
 | [],c,G,a,_,_,o,t,f=>⟨t,f c G (by rw[YH,Yx];exact o) λ_ _ _ h=>h⟩
 | d::l,c,G,a,x,hl,o,t,f=>by
  rw[Yg]at hl
  refine⟨t,?_⟩
  show Aw (gMt AH AS (Ab 1) (Aa ge Ac)) _ [s,some (.ref p),m,r,k,n,some d.enc] G
  simp only[Aw,gMt,Aa,Ac,Ab,Yb,Yc]
  refine⟨Bv o,x d Ye _ _ ?_⟩
  refine Ck o (by rw[Yh];exact Bl (by omega)) ?_
  rw[show a.map Kd.enc++[(g d).enc]=(a++[g d]).map Kd.enc by rw[Yy];rfl]
  refine MM i l _ _ (a++[g d]) (λe y=>x e (Yd _ y)) (by rw[Yj];simp only[Yg,Yi];omega) Aj (by rw[Aq (YU i)];exact t) λc j h1 h2=>?_
  refine f c j (by rw[h1,Yv];rfl) λb w u z=>h2 b w u (by rw[Aq w];exact z)
theorem Tw:∀{fs:Fs}{i:Nat}{c:Kd},fs.kinds[i]?=some c->∃ n m,fs.enc[i]?=some (.tup [.str n,.str (BQ m),c.enc])/\∀ d:Kd,fs.enc.set i (.tup [.str n,.str (BQ m),d.enc])=(fs.withK (fs.kinds.set i d)).enc
 | .nil,i,c,h=>by cases h
 | .cons n m k r,0,c,h=>by
  cases h
  refine⟨n,m,rfl,λd=>?_⟩
  show _::r.enc=_::(r.withK r.kinds).enc
  rw[show(r.withK r.kinds)=r from ?_]
  have go:∀ r:Fs,r.withK r.kinds=r:=by
   intro r
   induction r using Fs.rec (motive_1:=λ_=>True)with
   | any=>trivial
   | num=>trivial
   | truth=>trivial
   | to=>trivial
   | box=>trivial
   | row=>trivial
   | nil=>rfl
   | cons x m k r _ b=>show Fs.cons x m k (r.withK r.kinds)=_;rw[b]
  exact go r
 | .cons n m k r,i+1,c,h=>by
  obtain⟨e,a,h1,h2⟩:=Tw (fs:=r) (i:=i) h
  refine⟨e,a,h1,λd=>?_⟩
  show _::r.enc.set i _=_::(r.withK (r.kinds.set i d)).enc
  rw[h2]
mutual
theorem EE:∀ k:Kd,dpW k.enc<=3*k.dp
 | .any=>by show 1<=3*1;omega
 | .num=>by show 1<=3*1;omega
 | .truth=>by show 1<=3*1;omega
 | .to x y=>by have:=EE x;have:=EE y;show max 0 (max (dpW x.enc) (max (dpW y.enc) 0))+1<=3*(1+max x.dp y.dp);omega
 | .box x=>by have:=EE x;show max 0 (max (dpW x.enc) 0)+1<=3*(1+x.dp);omega
 | .row fs o=>by have:=MN fs;show max 0 (max (L3.dpL fs.enc+1) (max 0 0))+1<=3*(1+fs.dp);omega
theorem MN:∀ fs:Fs,L3.dpL fs.enc<=3*fs.dp+1
 | .nil=>YT _
 | .cons n m k r=>by
  have:=EE k
  have:=MN r
  show max (max 0 (max 0 (max (dpW k.enc) 0))+1) (L3.dpL r.enc)<=3*max k.dp r.dp+1;omega
end
theorem Tz:∀ xs:List W,Bj xs []=some xs.isEmpty
 | []=>rfl
 | _::_=>rfl
theorem gK{k:Kd}(hd:k.dp<=20)(G:Hw):eqF true k.enc (.tup [.str "any"]) G=some (.bl (!decide (k.hd="any"))):=by
 have h:=EE k
 obtain⟨xs,e⟩:=Hd k
 have d:k.hd="any"->xs.isEmpty=true:=λz=>by
  cases k with
  | any=>injection e with e;injection e with _ e;rw[<- e];rfl
  | num=>exact absurd z (by show("num":Str)≠"any";decide +kernel)
  | truth=>exact absurd z (by show("truth":Str)≠"any";decide +kernel)
  | to _ _=>exact absurd z (by show("to":Str)≠"any";decide +kernel)
  | box _=>exact absurd z (by show("box":Str)≠"any";decide +kernel)
  | row _ _=>exact absurd z (by show("row":Str)≠"any";decide +kernel)
 rw[e]at h ⊢
 have h':max 0 (L3.dpL xs)+1<=3*k.dp:=h
 have c:eqW (.tup (.str k.hd::xs)) (.tup [.str "any"]) G=some (decide (k.hd="any")):=by
  show(if max 0 (L3.dpL xs) < 90 then Bj (.str k.hd::xs) [.str "any"]else none)=_
  rw[if_pos (by omega)]
  show(match some (k.hd==("any":Str)),Bj xs []with | some a,some b=>some (a&&b)| _,_=>none)=_
  rw[Tz]
  show some ((k.hd==("any":Str))&&xs.isEmpty)=_
  by_cases z:k.hd="any"
  ·rw[d z,show(k.hd==("any":Str))=true by simp[z],YG z];rfl
  ·rw[show(k.hd==("any":Str))=false by simpa using z,decide_eq_false z];rfl
 unfold eqF
 rw[c]
 cases decide (k.hd="any") <;> rfl
abbrev MO(n:Nat):Spw:=spL (λ(k:Kd)ws _=>ws=[k.enc]/\k.dp<=n/\k.cnt<=1000/\k.dp<=20) λk=>(lk n k).map Kd.enc
abbrev gX1:GE:=Ah (Aa (gC (.str "row")) (Aa (Ad Az (Ad Az (AN (Ad (Ae ixW) (Ab 0) (gC (.int 1))) AF (AG (Ab 2))) (Ah (Aa (Ah (Aa (Ab 3) (Aa (Ab 4) (Aa (Ab 6) Ac)))) Ac))) (AN (Ad (Ae ixW) (Ab 0) (gC (.int 1))) (AG (Ad Az (Ab 2) (gC (.int 1)))) AF)) (Aa (Ad (Ae ixW) (Ab 0) (gC (.int 2))) Ac)))
theorem DU(h:Q (.tup (BI xs lo hi)) G):slA (.tup xs) lo hi G Q:=h
variable {b:Option W}{Z:Kw}
theorem gL{fs:Fs}{o:Bool}{n:Str}{m:Bool}{d:Kd}{e:Option W}(hi:i < fs.enc.length)(hl:fs.enc.length<=1000)(hs:fs.enc.set i (.tup [.str n,.str (BQ m),d.enc])=(fs.withK (fs.kinds.set i d)).enc)(z:Z ((Kd.row fs o).withK ((Kd.row fs o).kids.set i d)).enc G):gX1 [some (Kd.row fs o).enc,b,some (.int i),some (.str n),some (.str (BQ m)),e,some d.enc] G Z:=by
 simp only[gX1,Ah,Aa,Ac,Ad,Ae,Ab,gC,AN,AG,AF,Yb,Yc,Kd.enc,ixW,A0,B0,Ak]
 refine DU ?_
 rw[Jj]
 refine⟨(show 3<=sizeLine by decide),(show 1<=sizeLine by decide),?_⟩
 have a:(fs.enc.take i).length=i:=by rw[List.length_take];omega
 have c:(fs.enc.drop (i+1)).length=fs.enc.length -(i+1):=List.length_drop
 rw[CY]
 refine⟨by rw[a];exact AT (by simp only[Yg,Yi];omega),?_⟩
 rw[show Az (.int (i:Int)) (.int 1) G=λQ=>Q (.int ((i:Int)+1)) G from rfl]
 refine DU ?_
 rw[show((i:Int)+1)=((i+1:Nat):Int) by omega,Jk,CY]
 refine⟨by rw[Yj,a,c];exact AT (by simp only[Yg,Yi];omega),(show 3<=sizeLine by decide),?_⟩
 rw[Hn _ _ _ hi,hs]
 exact z
abbrev JK(n:Nat):GS:=Af (Ia (D8 3 4 5) (Ad (Ae ixW) (Ad (Ae ixW) (Ab 0) (gC (.int 1))) (Ab 2))) (AD (Au (Ag (MO n) XF (Aa (Ab 5) Ac))) (gNm 6) (Aw (gMt AH AS (Ab 1) (Aa gX1 Ac))))
theorem TB{n:Nat}{D:Ew}{fs:Fs}{o:Bool}{p:Addr}(L:n<=20)(r:fs.enc.length<=1000):∀(l:List Kd)(i:Nat)(k o3 o4 f e:Option W)(G:Hw)(a:List Kd),fs.kinds.drop i=l->(∀ c∈l,c.dp<=n/\c.cnt<=1000)->a.length+2*AM l<=5000->G p=some (.lst (a.map Kd.enc))->
  (∀ k o3 o4 f e y,y p=some (.lst ((a++lkS (lk n) (.row fs o) i l).map Kd.enc))->(∀ b,b≠p->∀ u,G b=some u->y b=some u)->D.nx [some (Kd.row fs o).enc,some (.ref p),k,o3,o4,f,e] y)->
  Bh yes (gNm 2) (JK n) D ((List.range' i l.length).map λj:Nat=>W.int j) [some (Kd.row fs o).enc,some (.ref p),k,o3,o4,f,e] G
 | [],i,k,o3,o4,f,e,G,a,_,_,_,w,s=>⟨trivial,s k o3 o4 f e G (by show G p=some (.lst ((a++[]).map Kd.enc));rw[Yx];exact w) λ_ _ _ h=>h⟩
 | c::l,i,k,o3,o4,f,e,G,a,hl,hc,J,w,s=>by
  have O:a.length+2*(c.cnt+AM l)<=5000:=J
  have R:=Ff n c
  have t:fs.kinds[i]?=some c:=by
   have z:=congrArg (·[0]?) hl
   simpa using z
  obtain⟨nm,m,h1,h2⟩:=Tw t
  have hi:i < fs.enc.length:=by
   rcases Nat.lt_or_ge i fs.enc.length with z | z
   ·exact z
   ·rw[Qd z]at h1;cases h1
  have x:fs.kinds.drop (i+1)=l:=by rw[<- List.drop_drop,hl];rfl
  refine⟨trivial,?_⟩
  show JK n _ [some (Kd.row fs o).enc,some (.ref p),some (.int i),o3,o4,f,e] G
  simp only[JK,Af,Ia,D8,Ad,Ae,Ab,gC,Yb,Yc,Kd.enc,ixW,A0,Ak]
  rw[show atI fs.enc (i:Int)=some (.tup [.str nm,.str (BQ m),c.enc])from C7 h1,Ak]
  simp only[Yk,Yl,AD,Au,Ag,Aa,Ac,Ab,Yb,Yc]
  obtain⟨P,Q⟩:=hc c Ye
  refine⟨c,⟨rfl,P,Q,by omega⟩,λq E=>?_⟩
  have v:p≠q:=AI w E
  simp only[Aj]
  refine MM (g:=λd=>(Kd.row fs o).withK ((Kd.row fs o).kids.set i d)) v (lk n c) e _ a (λd hd B Z z=>gL hi r (h2 d) z) (by omega) (by rw[Aq v];exact w) Aj λH B g1 g2=>?_
  refine TB L r l (i+1) _ _ _ _ _ B _ x (λd hd=>hc d (Yd _ hd)) (by rw[Yj,Yh];omega) g1 λk o3 o4 f e K I N=>?_
  refine s k o3 o4 f e K (by rw[I,Yv];rfl) λb A u F=>N b A u (g2 b A u (AB E _ _ F))
abbrev gX2:GE:=Ad Az (Ad Az (AN (Ab 0) AF (AG (Ab 2))) (Ah (Aa (Ab 6) Ac))) (AN (Ab 0) (AG (Ad Az (Ab 2) (gC (.int 1)))) AF)
theorem gM{k:Kd}{d:Kd}(h:k.hd≠"row")(hi:i < k.kids.length):(k.withK (k.kids.set i d)).enc=.tup (.str k.hd::(k.kids.map Kd.enc).set i d.enc):=by
 cases k with
 | row fs o=>exact absurd rfl h
 | any=>cases hi
 | num=>cases hi
 | truth=>cases hi
 | to x y =>
  match i,hi with
  | 0,_=>rfl
  | 1,_=>rfl
 | box x =>
  match i,hi with
  | 0,_=>rfl
theorem gN{d:W}{f g e:Option W}(hi:i < xs.length)(hl:xs.length<=1000)(z:Z (.tup (xs.set i d)) G):gX2 [some (.tup xs),f,some (.int i),g,b,e,some d] G Z:=by
 simp only[gX2,Ah,Aa,Ac,Ad,Ab,gC,AN,AG,AF,Yb,Yc]
 refine DU ?_
 rw[Jj]
 refine⟨(show 1<=sizeLine by decide),?_⟩
 have a:(xs.take i).length=i:=by rw[List.length_take];omega
 have c:(xs.drop (i+1)).length=xs.length -(i+1):=List.length_drop
 rw[CY]
 refine⟨by rw[a];exact AT (by simp only[Yg,Yi];omega),?_⟩
 rw[show Az (.int (i:Int)) (.int 1) G=λQ=>Q (.int ((i:Int)+1)) G from rfl]
 refine DU ?_
 rw[show((i:Int)+1)=((i+1:Nat):Int) by omega,Jk,CY]
 refine⟨by rw[Yj,a,c];exact AT (by simp only[Yg,Yi];omega),?_⟩
 rw[Hn _ _ _ hi]
 exact z
abbrev JL(n:Nat):GS:=AD (Au (Ag (MO n) XF (Aa (Ad (Ae ixW) (Ab 0) (Ab 2)) Ac))) (gNm 6) (Aw (gMt AH AS (Ab 1) (Aa gX2 Ac)))
theorem TC{n:Nat}{D:Ew}{k:Kd}{p:Addr}(N:n<=20)(w:k.hd≠"row")(r:k.kids.length<=999):∀(l:List Kd)(i:Nat)(m f:Option W)(G:Hw)(a:List Kd),k.kids.drop i=l->(∀ c∈l,c.dp<=n/\c.cnt<=1000)->a.length+2*AM l<=5000->G p=some (.lst (a.map Kd.enc))->
  (∀ m f x,x p=some (.lst ((a++lkS (lk n) k i l).map Kd.enc))->(∀ b,b≠p->∀ u,G b=some u->x b=some u)->D.nx [some k.enc,some (.ref p),m,none,none,none,f] x)->
  Bh yes (gNm 2) (JL n) D ((List.range' i l.length).map λj:Nat=>W.int (1+j)) [some k.enc,some (.ref p),m,none,none,none,f] G
 | [],i,m,f,G,a,_,_,_,t,o=>⟨trivial,o m f G (by show G p=some (.lst ((a++[]).map Kd.enc));rw[Yx];exact t) λ_ _ _ h=>h⟩
 | c::l,i,m,f,G,a,hl,hc,K,t,o=>by
  have P:a.length+2*(c.cnt+AM l)<=5000:=K
  have S:=Ff n c
  have e:k.kids[i]?=some c:=by
   have z:=congrArg (·[0]?) hl
   simpa using z
  have hi:i < k.kids.length:=by
   rcases Nat.lt_or_ge i k.kids.length with z | z
   ·exact z
   ·rw[Qd z]at e;cases e
  have v:k.kids.drop (i+1)=l:=by rw[<- List.drop_drop,hl];rfl
  have E:=MH w
  have H:(1:Int)+(i:Int)=((i+1:Nat):Int):=by omega
  refine⟨trivial,?_⟩
  show JL n _ [some k.enc,some (.ref p),some (.int (1+(i:Int))),none,none,none,f] G
  rw[H,E]
  simp only[JL,AD,Au,Ag,Ad,Ae,Aa,Ac,Ab,Yb,Yc,ixW]
  rw[show atI (W.str k.hd::k.kids.map Kd.enc) ((i+1:Nat):Int)=some c.enc from C7 (by rw[Yc,YM,e];rfl),Ak]
  obtain⟨Q,R⟩:=hc c Ye
  refine⟨c,⟨rfl,Q,R,by omega⟩,λq B=>?_⟩
  have s:p≠q:=AI t B
  simp only[Aj]
  refine MM (g:=λd=>k.withK (k.kids.set i d)) s (lk n c) f _ a (λd hd A Z z=>gN (by simp only[Yg,Yh];omega) (by simp only[Yg,Yh];omega) (by rw[Yl,<- gM w hi];exact z)) (by omega) (by rw[Aq s];exact t) Aj λI A g1 g2=>?_
  rw[<- E]
  refine TC N w r l (i+1) _ _ A _ v (λd hd=>hc d (Yd _ hd)) (by rw[Yj,Yh];omega) g1 λm f L J O=>?_
  refine o m f L (by rw[J,Yv];rfl) λb y u F=>O b y u (g2 b y u (AB B _ _ F))
theorem EA(T:Tx K mg base a):∀ n:Nat,n<=20->Df P w K mg base "_law_less_kinds" (n+1) 1 (MO n)
 | 0,_=>CM T.Qt BE λH G Q E⟨k,⟨_,hd,_⟩,_⟩=>by have:=C1 k;omega
 | n+1,Z=>by
  refine mk0 (k:=n+1) T.Qt rfl S4 BE (λH G Q E⟨x,⟨e,_⟩,_⟩=>by rw[e];rfl) (f5 T (EA T n (by omega)) (Yr _)) λH G Q E S q=>?_
  obtain⟨k,⟨rfl,hd,hc,F⟩,q⟩:=q
  have R:=Cf k
  have hl:=Ec k.kids
  have m:∀ c∈k.kids,c.dp<=n/\c.cnt<=1000:=λc r=>⟨by have:=E6 r;omega,by have:=GU r;omega⟩
  unfold S5
  show Af (An 1 _) _ (Av Q) [some k.enc,none,none,none,none,none,none] G
  refine AL ?_
  simp only[Ap,Ac]
  refine⟨by decide,λp J=>?_⟩
  walk_at "pd"
  have l:∀(j v t s i:Option W)(g:Hw),g p=some (.lst ((lk (n+1) k).map Kd.enc))->(∀ b,b≠p->∀ u,G b=some u->g b=some u)->Ai (Ab 1) (Av Q) [some k.enc,some (.ref p),j,v,t,s,i] g:=by
   intro j v t s i g h1 h2
   simp only[Ai,Ab,Yb,Yc,Av]
   refine S _ _ _ (λb u f=>?_) (q p J)
   by_cases d:b=p
   ·subst d;rw[Aj]at f;cases f;exact h1
   ·rw[Aq d]at f;exact h2 b d u f
  have z:∀{Ao:GS}{D:Ew},Ao D [some k.enc,some (.ref p),none,none,none,none,none] (put G p (.lst ((if k.hd="any" then([]:List Kd)else[.any]).map Kd.enc)))->Af (gIf (gTB (Ad (Ae (eqF true)) (Ab 0) (Ah (Aa (gC (.str "any")) Ac)))) (Aw (gMt AH AS (Ab 1) (Aa (Ah (Aa (gC (.str "any")) Ac)) Ac))) Al) Ao D [some k.enc,some (.ref p),none,none,none,none,none] (put G p (.lst [])):=by
   intro Ao D h
   simp only[Af,gIf,gTB,Ad,Ae,Ab,gC,Ah,Aa,Ac,Yb]
   refine⟨(show 1<=sizeLine by decide),?_⟩
   rw[gK F,Ak]
   by_cases e:k.hd="any"
   ·rw[if_pos e]at h
    rw[YG e]
    simp only[YE,Yq,if_false,Al]
    exact h
   ·rw[if_neg e]at h
    rw[decide_eq_false e]
    simp only[YL,if_true,Aw,gMt,Ah,Aa,Ac,Ab,gC,Yb,Yc]
    refine⟨Bv Aj,(show 1<=sizeLine by decide),Ck Aj (by decide) ?_⟩
    rw[GQ]
    exact h
  refine z ?_
  generalize y:(if k.hd="any" then([]:List Kd)else[.any])=A
  have L:A.length<=1:=by rw[<- y];split <;> decide
  simp only[Af,gIf,gTB,Ad,Ae,Ab,gC,Yb,Cm,Ak,Bn]
  by_cases e:k.hd="row"
  ·rw[show(k.hd==("row":Str))=true by simp[e],show(true != false)=true from rfl,if_pos rfl]
   obtain⟨fs,o,rfl⟩:=Mw e
   have N:fs.enc.length=fs.kinds.length:=Lm fs
   have O:fs.kinds.length<=AM fs.kinds:=hl
   have U:(Kd.row fs o).cnt=1+AM fs.kinds:=R
   have B:∀{Ao:GS}{D:Ew},Ao D [some (Kd.row fs o).enc,some (.ref p),none,none,none,none,none] (put G p (.lst ((A++opn (.row fs o)).map Kd.enc)))->Af (gIf (gNt (AO (Ad (Ae ixW) (Ab 0) (gC (.int 2))))) (Aw (gMt AH AS (Ab 1) (Aa (Ah (Aa (gC (.str "row")) (Aa (Ad (Ae ixW) (Ab 0) (gC (.int 1))) (Aa (gC (.bl true)) Ac)))) Ac))) Al) Ao D [some (Kd.row fs o).enc,some (.ref p),none,none,none,none,none] (put G p (.lst (A.map Kd.enc))):=by
    intro Ao D h
    simp only[Af,gIf,gNt,AO,Ad,Ae,Ab,gC,Yb,Kd.enc,ixW,B0,Ak,BG]
    cases o with
    | true =>
     simp only[YE,Yq,if_false,Al]
     have h':Ao D [some (Kd.row fs true).enc,some (.ref p),none,none,none,none,none] (put G p (.lst ((A++[]).map Kd.enc))):=h
     rw[Yx]at h'
     exact h'
    | false =>
     simp only[YL,if_true,Aw,gMt,Ah,Aa,Ac,Ad,Ae,Ab,gC,Yb,Yc,ixW,A0,Ak]
     refine⟨Bv Aj,(show 3<=sizeLine by decide),Ck Aj (by rw[Yh];exact Bl (by omega)) ?_⟩
     rw[GQ]
     have h':Ao D [some (Kd.row fs false).enc,some (.ref p),none,none,none,none,none] (put G p (.lst ((A++[Kd.row fs true]).map Kd.enc))):=h
     rw[Yy]at h'
     exact h'
   have I:(opn (.row fs o)).length<=1:=by
    cases o with
    | false=>exact Yr 1
    | true=>exact YT _
   refine B ?_
   show AD _ _ (JK n) _ _ _
   simp only[AD,CF,gB,rF,Ad,Ae,Aa,Ac,Ab,gC,Yb,Kd.enc,ixW,A0,Ak,AZ,B9]
   refine⟨by omega,by omega,?_⟩
   rw[Int.toNat_natCast,N,List.range_eq_range']
   refine TB (by omega) (by omega) fs.kinds 0 none none none none none _ (A++opn (.row fs o)) rfl m (by rw[Yj];omega) Aj λj v t s i g h1 h2=>?_
   exact l j v t s i g (by rw[h1,<- y];rfl) λb d u f=>h2 b d u (by rw[Aq d];exact f)
  ·rw[show(k.hd==("row":Str))=false by simpa using e,show(false != false)=false from rfl,if_neg (by decide)]
   have X:opn k=[]:=by
    cases k with
    | row fs o=>exact absurd rfl e
    | _=>rfl
   show AD _ _ (JL n) _ _ _
   have Y:=MH e
   have el:AZ [k.enc] (put G p (.lst (A.map Kd.enc)))=some (.int ((k.kids.length+1:Nat):Int)):=by
    rw[Y]
    show some (W.int (((W.str k.hd::k.kids.map Kd.enc).length:Nat):Int))=_
    rw[Yg,Yh]
   simp only[AD,FP,gB,rF,Aa,Ac,Ab,gC,Yb,el,Ak]
   refine⟨1,((k.kids.length+1:Nat):Int),rfl,⟨by omega,by omega,by omega,by omega⟩,?_⟩
   rw[show(((k.kids.length+1:Nat):Int) - 1).toNat=k.kids.length by omega,List.range_eq_range']
   refine TC (by omega) e (by omega) k.kids 0 none none _ A rfl m (by omega) Aj λj i g h1 h2=>?_
   exact l j none none none i g (by rw[h1,<- y];show _=some (HW.lst ((((if k.hd="any" then([]:List Kd)else[.any])++opn k)++lkS (lk n) k 0 k.kids).map Kd.enc));rw[X,Yx]) λb d u f=>h2 b d u (by rw[Aq d];exact f)
abbrev TD:List Str:=["script","k","cell"]
theorem TF:AE TD ["script","k"] (Ar LP):=by walk_at "s"
def TH:GS:=(Af (An 2 (gC (.int 0))) (Af (gIf (gTB (Ad (A9 (λi j=>decide (i < j)) A6) (Ab 1) (gB (rF AZ) (Aa (Ab 0) Ac)))) (An 2 (Ad (Ae ixW) (Ab 0) (Ab 1))) Al) (Af (gIf (gTB (Ad (Bb λi j=>decide (j<=i)) (Ab 2) (Ad (Ay EO λi j=>i ^ j.toNat) (gC (.int 10)) (gC (.int 18))))) (Ai (Ap (Aa (Ad (Ay (λ_ _=>True) λi j=>i - j) (Ab 2) (Ad (Ay EO λi j=>i ^ j.toNat) (gC (.int 10)) (gC (.int 18)))) (Aa (gC (.int 1)) Ac)))) Al) (Ai (Ap (Aa (Ad (Ay (λ_ j=>0 < j) λi j=>i % j) (Ad (Bo) (Ab 2) (Ad (Ay CMul λi j=>i*j) (gC (.int 7919)) (Ab 1))) (gC (.int 2147483647))) (Aa (gC (.int 0)) Ac)))))))
theorem gO(T:Tx K mg base a):Dn P w K mg base TD "_law_state" LP k (TH):=by
 have hN:=TF.nd
 walk_at "z"
abbrev TJ:List Str:=["state","many","mixed","found"]
theorem TK:AE TJ ["state","many"] (Ar LQ):=by walk_at "s"
def TN:GS:=(Af (gIf (A1 (gTB (Ad (Ae (eqF false)) (Ad (Ae ixW) (Ab 0) (gC (.int 1))) (gC (.int 1)))) (gTB (Ad (Bb λi j=>decide (j < i)) (Ad (Ae ixW) (Ab 0) (gC (.int 0))) (gC (.int 0))))) (Af (An 3 (Ad (Ay (λ_ j=>0 < j) λi j=>i % j) (Ad (Ae ixW) (Ab 0) (gC (.int 0))) (Ab 1))) (Af (Cw (Ad (Ay EN λi j=>i / j) (Ad (Ae ixW) (Ab 0) (gC (.int 0))) (Ab 1)) (Ab 0) (gC (.int 0))) (Ai (Ab 3)))) Al) (Af (Cw (gC (.int 0)) (Ab 0) (gC (.int 1))) (Af (Cw (Ad (Ay (λ_ j=>0 < j) λi j=>i % j) (Ad (Az) (Ad (BZ) (Ad (Ae ixW) (Ab 0) (gC (.int 0))) (gC (.int 48271))) (gC (.int 69621))) (gC (.int 2147483647))) (Ab 0) (gC (.int 0))) (Af (An 2 (Ad (Ay (λ_ j=>0 < j) λi j=>i % j) (Ad (Az) (Ad (BZ) (Ad (Ae ixW) (Ab 0) (gC (.int 0))) (Ad (Ae ixW) (Ab 0) (gC (.int 0)))) (Ad (BZ) (gC (.int 16807)) (Ad (Ae ixW) (Ab 0) (gC (.int 0))))) (gC (.int 2147483629)))) (Af (An 2 (Ad (Ay (λ_ j=>0 < j) λi j=>i % j) (Ad (Az) (Ad (BZ) (Ab 2) (Ab 2)) (Ad (BZ) (gC (.int 39373)) (Ab 2))) (gC (.int 2147483587)))) (Ai (Ad (Ay (λ_ j=>0 < j) λi j=>i % j) (Ad (Ay EN λi j=>i / j) (Ab 2) (gC (.int 8))) (Ab 1))))))))
theorem gP(T:Tx K mg base a):Dn P w K mg base TJ "_law_take" LQ k (TN):=by
 have hN:=TK.nd
 walk_at "z"
abbrev TQ:List Str:=["found"]
theorem TR:AE TQ ["found"] (Ar LR):=by walk_at "s"
def TU:GS:=(Ai (B2 (A2 "int" (Ab 0)) (Da (A2 "bool" (Ab 0)))))
theorem gQ(T:Tx K mg base a):Dn P w K mg base TQ "_law_whole" LR k (TU):=by
 have hN:=TR.nd
 walk_at "z"
abbrev TV:List Str:=["state","deep","way","fields","name","pick"]
theorem TX:AE TV ["state","deep"] (Ar LS):=by walk_at "s"
def MP(AJ:Spw)(Bk:Spw):GS:=(Af (An 2 (Ag AJ XF (Aa (Ab 0) (Aa (Ad (Bo) (gC (.int 6)) (Ad (Ay CMul λi j=>i*j) (gC (.int 4)) (gB (rF Dt) (Aa (Ad (Bb λi j=>decide (j < i)) (Ab 1) (gC (.int 0))) Ac)))) Ac)))) (Af (gIf (gTB (Ad (A9 (λi j=>decide (i < j)) A6) (Ab 2) (gC (.int 6)))) (Ai (Ad (Ae ixW) (Ap (Aa (Ah (Aa (gC (.str "any")) Ac)) (Aa (Ah (Aa (gC (.str "num")) Ac)) (Aa (Ah (Aa (gC (.str "truth")) Ac)) Ac)))) (Ad (Ay EN λi j=>i / j) (Ab 2) (gC (.int 2))))) Al) (Af (gIf (gTB (Ad (Ae (eqF false)) (Ab 2) (gC (.int 6)))) (Ai (Ah (Aa (gC (.str "to")) (Aa (Ag Bk XF (Aa (Ab 0) (Aa (Ad (Ay (λ_ _=>True) λi j=>i - j) (Ab 1) (gC (.int 1))) Ac))) (Aa (Ag Bk XF (Aa (Ab 0) (Aa (Ad (Ay (λ_ _=>True) λi j=>i - j) (Ab 1) (gC (.int 1))) Ac))) Ac))))) Al) (Af (gIf (gTB (Ad (Ae (eqF false)) (Ab 2) (gC (.int 7)))) (Ai (Ah (Aa (gC (.str "box")) (Aa (Ag Bk XF (Aa (Ab 0) (Aa (Ad (Ay (λ_ _=>True) λi j=>i - j) (Ab 1) (gC (.int 1))) Ac))) Ac)))) Al) (Af (An 3 (Ap Ac)) (Af (AD (Au (Ap (Aa (gC (.str "a")) (Aa (gC (.str "b")) (Aa (gC (.str "cc")) Ac))))) (gNm 4) (Af (An 5 (Ag AJ XF (Aa (Ab 0) (Aa (gC (.int 4)) Ac)))) (gIf (gTB (Ad (Bb λi j=>decide (j < i)) (Ab 5) (gC (.int 1)))) (Aw (gMt AH AS (Ab 3) (Aa (Ah (Aa (Ab 4) (Aa (Ad (Ae ixW) (Ap (Aa (gC (.str "must")) (Aa (gC (.str "may")) Ac))) (Ad (Ay (λ_ _=>True) λi j=>i - j) (Ab 5) (gC (.int 2)))) (Aa (Ag Bk XF (Aa (Ab 0) (Aa (Ad (Ay (λ_ _=>True) λi j=>i - j) (Ab 1) (gC (.int 1))) Ac))) Ac)))) Ac))) Al))) (Ai (Ah (Aa (gC (.str "row")) (Aa (gB (rF BK) (Aa (Ab 3) Ac)) (Aa (Ad (Ae (eqF false)) (Ag AJ XF (Aa (Ab 0) (Aa (gC (.int 3)) Ac))) (gC (.int 0))) Ac)))))))))))
theorem gR(T:Tx K mg base a){Ba:Nat}(Fg:Df P w K mg base "_law_take" Ba 2 AJ)(Fh:Ba<=k){B7:Nat}(MF:Df P w K mg base "_law_kind" B7 2 Bk)(MG:B7<=k):Dn P w K mg base TV "_law_kind" LS k (MP AJ Bk):=by
 have hN:=TX.nd
 walk_at "z"
abbrev TY:List Str:=["state","want","told"]
theorem MQ:AE TY ["state","want"] (Ar GZ):=by walk_at "s"
def TZ(AJ:Spw)(C4:Spw):GS:=(Af (gIf (gTB (Ad (Ae (eqF false)) (Ad (Ae ixW) (Ab 1) (gC (.int 0))) (gC (.str "truth")))) (Ai (Ah (Aa (gC (.str "truth")) (Aa (Ad (Ae (eqF false)) (Ag AJ XF (Aa (Ab 0) (Aa (gC (.int 2)) Ac))) (gC (.int 0))) Ac)))) Al) (Af (gIf (gTB (Ad (Ae (eqF false)) (Ad (Ae ixW) (Ab 1) (gC (.int 0))) (gC (.str "to")))) (Ai (Ah (Aa (gC (.str "fun")) (Aa (Ad (Ae ixW) (Ap (Aa (gC (.str "x")) (Aa (gC (.str "y")) Ac))) (Ag AJ XF (Aa (Ab 0) (Aa (gC (.int 2)) Ac)))) (Aa (Ad (Ae ixW) (Ab 1) (gC (.int 1))) (Aa (Ag C4 XF (Aa (Ab 0) (Aa (Ad (Ae ixW) (Ab 1) (gC (.int 2))) Ac))) Ac)))))) Al) (Af (gIf (gTB (Ad (Ae (eqF false)) (Ad (Ae ixW) (Ab 1) (gC (.int 0))) (gC (.str "box")))) (Ai (Ah (Aa (gC (.str "new")) (Aa (Ah (Aa (gC (.str "as")) (Aa (Ag C4 XF (Aa (Ab 0) (Aa (Ad (Ae ixW) (Ab 1) (gC (.int 1))) Ac))) (Aa (Ad (Ae ixW) (Ab 1) (gC (.int 1))) Ac)))) Ac)))) Al) (Af (gIf (gTB (Ad (Ae (eqF false)) (Ad (Ae ixW) (Ab 1) (gC (.int 0))) (gC (.str "row")))) (Af (An 2 (AW (Au (Ad (Ae ixW) (Ab 1) (gC (.int 1)))) 1 [0] (gNm 0) (gOr (gTB (Ad (Ae (eqF false)) (Ad (Ae ixW) (Ab 0) (gC (.int 1))) (gC (.str "must")))) (gTB (Ad (Ae (eqF false)) (Ag AJ XF (Aa (Ab 1) (Aa (gC (.int 2)) Ac))) (gC (.int 0))))) (Ab 0))) (Ai (Ah (Aa (gC (.str "rec")) (Aa (gB (rF BK) (Aa (AW (Au (Ab 2)) 1 [0] (gNm 0) AA (Ah (Aa (Ad (Ae ixW) (Ab 0) (gC (.int 0))) (Aa (Ag C4 XF (Aa (Ab 1) (Aa (Ad (Ae ixW) (Ab 0) (gC (.int 2))) Ac))) Ac)))) Ac)) Ac))))) Al) (Ai (Ah (Aa (gC (.str "num")) (Aa (Ad (Ay (λ_ _=>True) λi j=>i - j) (Ag AJ XF (Aa (Ab 0) (Aa (gC (.int 9)) Ac))) (gC (.int 4))) Ac))))))))
variable {C4:Spw}
theorem gS(T:Tx K mg base a){Ba:Nat}(Fg:Df P w K mg base "_law_take" Ba 2 AJ)(Fh:Ba<=k){EF:Nat}(gT:Df P w K mg base "_law_least" EF 2 C4)(gU:EF<=k):Dn P w K mg base TY "_law_least" GZ k (TZ AJ C4):=λ{f cdv A outer s H E}hr=>
 have hu:=A7 hr
 have hN:=MQ.nd
 (Ax (by walk_at "v") (Ax (by walk_at "v") (Ax (by walk_at "v") (Ax (Cc (by walk_at "v") (Ax (HU (i:=2) MQ.nd rfl rfl rfl rfl (Ce (own:=["field"]) (fr:=["state"]) (js:=[0]) (scX:=Ar GZ) (n:=s.heap.objs.size+1) rfl (by decide +kernel) (by decide +kernel) (by decide +kernel) (by decide +kernel) rfl rfl rfl (by decide +kernel) rfl) (λ_=>rfl) (by walk_at "v") (CG (i:=0) (by decide) rfl rfl) (λC fp s1 H1=>(by walk_at "v")) (λC fp s1 H1=>(by walk_at "v"))) (A5 (Bq (KN (AU rfl KM (AU rfl (Dr FK (GF) rfl T.FX (by decide) rfl rfl rfl (AU rfl (Dg rfl (Ce (own:=["field"]) (fr:=["state"]) (js:=[0]) (scX:=Ar GZ) (n:=s.heap.objs.size+1) rfl (by decide +kernel) (by decide +kernel) (by decide +kernel) (by decide +kernel) rfl rfl rfl (by decide +kernel) rfl) (λ_=>rfl) (by walk_at "v") (CG (i:=0) (by decide) rfl rfl) (λC fp s1 H1=>Bc) (λC fp s1 H1=>(by walk_at "v"))) Be)) Be)))))) Ct) (by walk_at "v")))))
abbrev T1:List Str:=["state","kind"]
theorem T2:AE T1 ["state","kind"] (Ar Ir):=by walk_at "s"
def T3(AJ:Spw)(Dl:Spw):GS:=(Af (gIf (gTB (Ad (Ae (eqF false)) (Ag AJ XF (Aa (Ab 0) (Aa (gC (.int 4)) Ac))) (gC (.int 0)))) (Ai (Ah (Aa (gC (.str "any")) Ac))) Al) (Af (gIf (gTB (Ad (Ae (inF false)) (Ad (Ae ixW) (Ab 1) (gC (.int 0))) (Ap (Aa (gC (.str "to")) (Aa (gC (.str "box")) Ac))))) (Ai (Ad (Az) (Ah (Aa (Ad (Ae ixW) (Ab 1) (gC (.int 0))) Ac)) (gB (rF BK) (Aa (AW (Au (AN (Ab 1) (AG (gC (.int 1))) AF)) 1 [0] (gNm 0) AA (Ag Dl XF (Aa (Ab 1) (Aa (Ab 0) Ac)))) Ac)))) Al) (Ai (Ab 1))))
variable {Dl:Spw}
theorem gW(T:Tx K mg base a){Ba:Nat}(Fg:Df P w K mg base "_law_take" Ba 2 AJ)(Fh:Ba<=k){EG:Nat}(gX:Df P w K mg base "_law_dim" EG 2 Dl)(gY:EG<=k):Dn P w K mg base T1 "_law_dim" Ir k (T3 AJ Dl):=λ{f cdv A outer s H E}hr=>
 have hu:=A7 hr
 have hN:=T2.nd
 (Ax (by walk_at "v") (Ax (Cc (by walk_at "v") (A5 (Bq (D9 (by walk_at "v") (Dr FK (GF) rfl T.FX (by decide) rfl rfl rfl (AU rfl (Dg rfl (Ce (own:=["inner"]) (fr:=["state"]) (js:=[0]) (scX:=Ar Ir) (n:=s.heap.objs.size+1) rfl (by decide +kernel) (by decide +kernel) (by decide +kernel) (by decide +kernel) rfl rfl rfl (by decide +kernel) rfl) (λ_=>rfl) (by walk_at "v") (CG (i:=0) (by decide) rfl rfl) (λC fp s1 H1=>Bc) (λC fp s1 H1=>(by walk_at "v"))) Be))))) Ct) (by walk_at "v")))
abbrev T4:List Str:=["state","part"]
theorem T5:AE T4 ["state","part"] (Ar LU):=by walk_at "s"
def T6(AJ:Spw):GS:=(Ai (Ad (Ae ixW) (Ap (Aa (Ab 1) (Aa (Ab 1) (Aa (Ab 1) (Aa (Ah (Aa (gC (.str "as")) (Aa (Ab 1) (Aa (Ah (Aa (gC (.str "any")) Ac)) Ac)))) Ac))))) (Ag AJ XF (Aa (Ab 0) (Aa (gC (.int 4)) Ac)))))
theorem gZ(T:Tx K mg base a){Ba:Nat}(Fg:Df P w K mg base "_law_take" Ba 2 AJ)(Fh:Ba<=k):Dn P w K mg base T4 "_law_blur" LU k (T6 AJ):=by
 have hN:=T5.nd
 walk_at "z"
theorem g5{ns:List Int}{k:Int}(c:0<=k)(h:k <(ns.length:Int)):∃ v:Int,atI (ns.map W.int) k=some (.int v):=by
 have b:k.toNat < ns.length:=by omega
 have a:k=((k.toNat:Nat):Int):=by omega
 refine⟨ns[k.toNat],?_⟩
 have q:atI (ns.map W.int) ((k.toNat:Nat):Int)=some (.int ns[k.toNat]):=C7 (by rw[YM,Yp b] <;> rfl)
 rw[<- a]at q
 exact q
theorem T7:EO 10 18:=⟨by decide,by decide,by decide⟩
theorem g6(n:Nat):ixN (n+1) 0=some 0:=by unfold ixN;rw[if_pos (Int.le_refl 0),if_pos (by omega)];rfl
theorem g7(n:Nat):ixN (n+2) 1=some 1:=by unfold ixN;rw[if_pos (by decide),if_pos (by omega)];rfl
variable {s:Addr}{l:List W}
theorem T8{Q:Hw->Prop}(h:G s=some (.lst (x::l)))(q:Q (put G s (.lst (v::l)))):De (.ref s) (.int 0) v G Q:=KZ h (g6 l.length) q
theorem ix0(h:G s=some (.lst (x::l))):ixW (.ref s) (.int 0) G=some x:=by rw[Eb h];exact Bf
theorem ix1(h:G s=some (.lst (x::y::l))):ixW (.ref s) (.int 1) G=some y:=by rw[Eb h];exact A0
theorem T9{x m:Int}(a:0<=x)(h1:x < m)(b:m<=2147483647):-(2 ^ 64) < x/\x < 2 ^ 64:=by
 have:(2:Int) ^ 64=18446744073709551616:=by decide
 rw[this];omega
theorem g8{Q:Hw->Prop}(h:G s=some (.lst (x::y::l)))(q:Q (put G s (.lst (x::v::l)))):De (.ref s) (.int 1) v G Q:=KZ h (g7 l.length) q
abbrev ST(x f:Int):HW:=.lst [.int x,.int f]
def Cz:Spw:=λws G Q _=>∃(s:Addr)(m x f:Int),ws=[.ref s,.int m]/\0 < m/\m < 1267650600228229401496703205376/\G s=some (ST x f)/\∀ r x' f':Int,0<=r->r < m->Q (.int r) (put G s (ST x' f'))
theorem g9:Spw.M Cz:=(by rintro i G Q k E j h _ ⟨s,m,x,f,h1,h2,g,b,q⟩;exact⟨s,m,x,f,h1,h2,g,b,λr d c a e=>h _ _ (q r d c a e)⟩)
theorem Ba(T:Tx K mg base a):Df P w K mg base "_law_take" 1 2 Cz:=by
 refine mk0 T.dJ rfl TK g9 ((by rintro r G Q E ⟨s,m,x,f,e,_⟩;rw[e];rfl)) (gP T) λr G Q E t q=>?_
 obtain⟨s,m,x,f,rfl,b,h,hs,q⟩:=q
 unfold TN
 show Af (gIf _ _ Al) _ (Av Q) [some (.ref s),some (.int m),none,none] G
 have c:Af (Cw (gC (.int 0)) (Ab 0) (gC (.int 1))) (Af (Cw (Ad (Ay (λ_ j=>0 < j) λi j=>i % j) (Ad (Az) (Ad (BZ) (Ad (Ae ixW) (Ab 0) (gC (.int 0))) (gC (.int 48271))) (gC (.int 69621))) (gC (.int 2147483647))) (Ab 0) (gC (.int 0))) (Af (An 2 (Ad (Ay (λ_ j=>0 < j) λi j=>i % j) (Ad (Az) (Ad (BZ) (Ad (Ae ixW) (Ab 0) (gC (.int 0))) (Ad (Ae ixW) (Ab 0) (gC (.int 0)))) (Ad (BZ) (gC (.int 16807)) (Ad (Ae ixW) (Ab 0) (gC (.int 0))))) (gC (.int 2147483629)))) (Af (An 2 (Ad (Ay (λ_ j=>0 < j) λi j=>i % j) (Ad (Az) (Ad (BZ) (Ab 2) (Ab 2)) (Ad (BZ) (gC (.int 39373)) (Ab 2))) (gC (.int 2147483587)))) (Ai (Ad (Ay (λ_ j=>0 < j) λi j=>i % j) (Ad (Ay EN λi j=>i / j) (Ab 2) (gC (.int 8))) (Ab 1)))))) (Av Q) [some (.ref s),some (.int m),none,none] G:=by
  simp only[Af,Cw,gC,Ab,Yb]
  refine g8 hs ?_
  have h1:put G s (ST x 0) s=some (ST x 0):=Aj
  simp only[Ad,Ay,Ae,gC,Ab,Yb,Yc,ix0 h1,Ak,BZ,Az,L3.Bo]
  refine⟨.inr ⟨by decide,by decide⟩,by decide,?_⟩
  refine T8 h1 ?_
  rw[GQ]
  generalize g:(x*48271+69621) % 2147483647=x2
  have l:0<=x2:=by rw[<- g];exact Int.emod_nonneg _ (by decide)
  have o:x2 < 2147483647:=by rw[<- g];exact Int.emod_lt_of_pos _ (by decide)
  have h2:put G s (ST x2 0) s=some (ST x2 0):=Aj
  simp only[An,Ad,Ay,Ae,gC,Ab,Yb,Yc,Yk,Yl,ix0 h2,Ak,Ai,Av,BZ,Az,L3.Bo]
  refine⟨.inl (T9 l o (by decide)),.inl ⟨by decide,by decide⟩,by decide,?_⟩
  generalize d:(x2*x2+16807*x2) % 2147483629=x3
  have n:0<=x3:=by rw[<- d];exact Int.emod_nonneg _ (by decide)
  have p:x3 < 2147483629:=by rw[<- d];exact Int.emod_lt_of_pos _ (by decide)
  refine⟨.inl (T9 n p (by decide)),.inl ⟨by decide,by decide⟩,(show(0:Int) < 2147483587 by decide),?_⟩
  refine⟨⟨by decide,by decide⟩,b,?_⟩
  exact q _ _ _ (Int.emod_nonneg _ (by omega)) (Int.emod_lt_of_pos _ b)
 simp only[Af,gIf,A1,gTB,Ad,Ae,Bb,Ab,gC,Yb,Yc,ix0 hs,ix1 hs,Ak,Bm]
 by_cases e:(f==1)=true
 ·rw[e]
  simp only[show(true != false)=true from rfl,if_true]
  by_cases k:(0:Int) < x
  ·simp only[k,decide_true,if_true,Af,An,Cw,Ad,Ay,Ae,Ab,gC,Ai,Av,Yb,Yc,Yk,Yl,ix0 hs,Ak]
   refine⟨b,?_⟩
   refine⟨⟨b,h⟩,?_⟩
   refine T8 hs ?_
   exact q _ _ _ (Int.emod_nonneg _ (by omega)) (Int.emod_lt_of_pos _ b)
  ·simp only[k,decide_false,Yq,if_false,Al]
   exact c
 ·rw[Bool.eq_false_iff.mpr e]
  walk_at "px"
  exact c
def St(s:Addr)(G:Hw):Prop:=∃ x f,G s=some (ST x f)
def Hs(s:Addr)(G G':Hw):Prop:=St s G'/\∀ b,b≠s->∀ u,G b=some u->G' b=some u
theorem Hs.trans{c d:Hw}(h:Hs s G c)(h':Hs s c d):Hs s G d:=⟨h'.1,λb a u e=>h'.2 b a u (h.2 b a u e)⟩
theorem Hs.refl(h:St s G):Hs s G G:=⟨h,λ_ _ _ h=>h⟩
variable {o:HW}
theorem St.put(h:St s G)(a:G p=none):St s (put G p o):=by
 obtain⟨x,f,e⟩:=h
 exact⟨x,f,by rw[Aq (AI e a)];exact e⟩
theorem Hs.put{a:Hw}(h:Hs s G a)(c:a p=none):Hs s G (put a p o):=⟨h.1.put c,λb e u d=>AB c _ _ (h.2 b e u d)⟩
theorem Hs.ne(h:St s G)(a:G p=none):p≠s:=by
 obtain⟨x,f,e⟩:=h
 exact YU (AI e a)
theorem Hs.new(h:St s G)(a:G p=none):Hs s G (L3.put G p o):=(Hs.refl h).put a
variable {E:Addr->Hw->Prop}
theorem BW{m:Int}(e:0 < m)(g:m<=100000)(hs:St s G)(k:∀(r:Int)(a:Hw),0<=r->r < m->Hs s G a->Z (.int r) a):Cz [.ref s,.int m] G Z E:=by
 obtain⟨x,f,hs⟩:=hs
 exact⟨s,m,x,f,rfl,e,by omega,hs,λr i c h1 h2=>k r _ h1 h2 ⟨⟨i,c,Aj⟩,λb d u h=>by rw[Aq d];exact h⟩⟩
theorem Fk{r:Int}(h:G p=some (.lst xs))(b:0<=r)(h1:r <(xs.length:Int)):∃ x∈xs,ixW (.ref p) (.int r) G=some x:=by
 obtain⟨k,rfl⟩:∃ k:Nat,r=(k:Int):=⟨r.toNat,by omega⟩
 have a:k < xs.length:=by omega
 refine⟨xs[k],Qe a,?_⟩
 rw[Eb h]
 exact C7 (Yp a)
theorem Ga{m:Int}(i:m=(xs.length:Int))(g:0 < m)(h1:m<=1000)(hs:St s G)(k:∀ x∈xs,∀ a,Hs s G a->Z x a):xs.length<=sizeLine/\∀ p,G p=none->Cz [.ref s,.int m] (put G p (.lst xs)) (λw a=>Ae ixW (.ref p) w a Z) E:=by
 refine⟨AT (by omega),λp b=>?_⟩
 have c:=Hs.ne hs b
 refine BW g (by omega) (hs.put b) λr a f r1 d=>?_
 obtain⟨x,h,e⟩:=Fk (d.2 p c _ Aj) f (by omega)
 show opt (ixW (.ref p) (.int r) a) _
 rw[e,Ak]
 exact k x h a ((Hs.new hs b).trans d)
def DV{α:Type}(A:α->Addr->List W->Hw->Prop)(R:α->Addr->W->Hw->Prop):Spw:=λws G Q _=>∃ a s,A a s ws G/\St s G/\∀ r G',R a s r G'->Hs s G G'->Q r G'
theorem CA{α:Type}{A:α->Addr->List W->Hw->Prop}{R:α->Addr->W->Hw->Prop}:Spw.M (DV A R):=(by rintro e G Q g E f h _ ⟨a,s,h1,h2,q⟩;exact⟨a,s,h1,h2,λr d b c=>h _ _ (q r d b c)⟩)
def Ua:Spw:=λws G Q _=>∃ ns:List Int,ws=[.rol (ns.map W.int),.int 0]/\∀ s x f,G s=none->Q (.ref s) (put G s (ST x f))
theorem hj:Spw.M Ua:=(by rintro b G Q c E a h _ ⟨ns,h1,q⟩;exact⟨ns,h1,λs x f z=>h _ _ (q s x f z)⟩)
theorem JD(T:Tx K mg base a):Df P w K mg base "_law_state" 1 2 Ua:=by
 refine mk0 T.dI rfl TF hj ((by rintro c G Q E ⟨ns,e,_⟩;rw[e];rfl)) (gO T) λc G Q E d q=>?_
 obtain⟨ns,rfl,q⟩:=q
 unfold TH
 show Af (An 2 _) _ (Av Q) [some (.rol (ns.map W.int)),some (.int 0),none] G
 have Ao:∀ v:Int,Af (gIf (gTB (Ad (Bb λi j=>decide (j<=i)) (Ab 2) (Ad (Ay EO λi j=>i ^ j.toNat) (gC (.int 10)) (gC (.int 18))))) (Ai (Ap (Aa (Ad (Ay (λ_ _=>True) λi j=>i - j) (Ab 2) (Ad (Ay EO λi j=>i ^ j.toNat) (gC (.int 10)) (gC (.int 18)))) (Aa (gC (.int 1)) Ac)))) Al) (Ai (Ap (Aa (Ad (Ay (λ_ j=>0 < j) λi j=>i % j) (Ad (L3.Bo) (Ab 2) (Ad (Ay CMul λi j=>i*j) (gC (.int 7919)) (Ab 1))) (gC (.int 2147483647))) (Aa (gC (.int 0)) Ac)))) (Av Q) [some (.rol (ns.map W.int)),some (.int 0),some (.int v)] G:=by
  intro v
  walk_at "rd"
  refine⟨T7,?_⟩
  walk_at "pb"
  ·exact⟨T7,trivial,by decide,λp b=>q p _ _ b⟩
  ·exact⟨.inl ⟨by decide,by decide⟩,by decide,by decide,λp b=>q p _ _ b⟩
 refine AL ?_
 simp only[gC,Yk,Yl,Af,gIf,gTB,Ad,A9,Ab,gB,rF,Aa,Ac,Yb,Yc]
 rw[show AZ [W.rol (ns.map W.int)] G=some (.int (((ns.map W.int).length:Nat):Int))from rfl,Ak,Yh]
 dsimp only
 walk_at "pb"
 ·have h:(0:Int) <(ns.length:Int):=of_decide_eq_true h
  simp only[An,Ad,Ae,Ab,Yb,Yc,ixW]
  obtain⟨v,e⟩:=g5 (ns:=ns) (Int.le_refl 0) h
  rw[e,Ak]
  exact Ao v
 ·exact Ao 0
abbrev hA:Spw:=spR (λ(i:Int)ws _=>ws=[.int i]) λ_=>.bl true
theorem JF(T:Tx K mg base a):Df P w K mg base "_law_whole" 1 1 hA:=by
 refine mk0 T.dL rfl TR Bu ((by rintro d G Q E ⟨x,e,_⟩;rw[e];rfl)) (gQ T) λd G Q E f q=>?_
 obtain⟨i,rfl,q⟩:=q
 unfold TU
 walk_at "rd"
 have b:Bt "int" "int"=true:=by decide
 have c:Bt "int" "bool"=false:=by decide
 simp only[b,c,if_true,YL]
 exact q
def kc:Nat->Nat | 0=>1 | n+1=>1+3*kc n
def KdOk(c d:Nat)(k:Kd):Prop:=k.ok=true/\k.cnt<=c/\k.dp<=d
abbrev Fd:=Str×Bool×Kd
def Bw(x:Fd):W:=.tup [.str x.1,.str (BQ x.2.1),x.2.2.enc]
def ofL:List Fd->Fs
 | []=>.nil
 | x::l=>.cons x.1 x.2.1 x.2.2 (ofL l)
theorem Ub:∀ l:List Fd,(ofL l).enc=l.map Bw
 | []=>rfl
 | x::l=>by show _::(ofL l).enc=_::l.map Bw;rw[Ub l];rfl
theorem Uc:∀ l:List Fd,(ofL l).names=l.map (·.1)
 | []=>rfl
 | x::l=>by show _::(ofL l).names=_::l.map (·.1);rw[Uc l]
theorem Ud{c d:Nat}:∀ l:List Fd,(∀ x∈l,AC x.1=true/\KdOk c d x.2.2)->(ofL l).ok=true/\(ofL l).cnt<=l.length*c/\(ofL l).dp<=d
 | [],_=>⟨rfl,YT _,YT _⟩
 | x::l,h=>by
  obtain⟨h1,h2,b⟩:=Ud l λy a=>h y (Yd _ a)
  obtain⟨g1,g2,g3,g4⟩:=h x Ye
  refine⟨?_,?_,?_⟩
  ·show(AC x.1&&x.2.2.ok&&(ofL l).ok)=true
   rw[g1,g2,h1];rfl
  ·show x.2.2.cnt+(ofL l).cnt<=(l.length+1)*c
   rw[Nat.add_mul,Nat.one_mul];omega
  ·show max x.2.2.dp (ofL l).dp<=d
   omega
theorem hF{a b c:Str}(h1:A6 a b=true)(h2:A6 b c=true):A6 a c=true:=by
 unfold A6 at h1 h2 ⊢
 exact YG (List.lt_trans (of_decide_eq_true h1) (of_decide_eq_true h2))
theorem Ue:∀{ns:List Str},A3 ns=true->ns.Pairwise (λx y=>A6 x y=true)
 | [],_=>.nil
 | [_],_=>.cons (λ_ h=>by cases h) .nil
 | x::y::r,h=>by
  have h':(A6 x y&&A3 (y::r))=true:=h
  walk_at "pa"
  have b:=Ue h'.2
  refine .cons (λz a=>?_) b
  walk_at "pH"
  ·exact h'.1
  ·exact hF h'.1 ((List.pairwise_cons.mp b).1 z a)
theorem Ug:∀{ns:List Str},ns.Pairwise (λx y=>A6 x y=true)->A3 ns=true
 | [],_=>rfl
 | [_],_=>rfl
 | x::y::r,h=>by
  show(A6 x y&&A3 (y::r))=true
  cases h with
  | cons h1 h2=>rw[h1 y Ye,Ug h2];rfl
theorem Uh{xs ys:List Str}(h:xs.Sublist ys)(r:A3 ys=true):A3 xs=true:=Ug ((Ue r).sublist h)
abbrev Gb(n:Nat):Spw:=DV (λ(m:Nat)s ws _=>ws=[.ref s,.int m]/\m < n) λm _ r _=>∃ k:Kd,r=k.enc/\KdOk (kc m) (m+1) k
abbrev gKB(n:Nat):GS:=Af (An 5 (Ag Cz XF (Aa (Ab 0) (Aa (gC (.int 4)) Ac)))) (gIf (gTB (Ad (Bb λi j=>decide (j < i)) (Ab 5) (gC (.int 1)))) (Aw (gMt AH AS (Ab 3) (Aa (Ah (Aa (Ab 4) (Aa (Ad (Ae ixW) (Ap (Aa (gC (.str "must")) (Aa (gC (.str "may")) Ac))) (Ad (Ay (λ_ _=>True) λi j=>i - j) (Ab 5) (gC (.int 2)))) (Aa (Ag (Gb n) XF (Aa (Ab 0) (Aa (Ad (Ay (λ_ _=>True) λi j=>i - j) (Ab 1) (gC (.int 1))) Ac))) Ac)))) Ac))) Al)
def Hs2(s p:Addr)(G G':Hw):Prop:=St s G'/\∀ b,b≠s->b≠p->∀ u,G b=some u->G' b=some u
theorem Hs2.trans{a e:Hw}(h:Hs2 s p G a)(h':Hs2 s p a e):Hs2 s p G e:=⟨h'.1,λb d c u f=>h'.2 b d c u (h.2 b d c u f)⟩
theorem Hs.two{a:Hw}(h:Hs s G a):Hs2 s p G a:=⟨h.1,λb d _ u c=>h.2 b d u c⟩
theorem Hs2.set(h:St s G)(a:p≠s):Hs2 s p G (put G p o):=by
 obtain⟨x,f,e⟩:=h
 exact⟨⟨x,f,by rw[Aq (YU a)];exact e⟩,λb _ d u c=>by rw[Aq d];exact c⟩
theorem Hs2.one{c:Hw}(h:Hs2 s p G c)(d:G p=none):Hs s G c:=⟨h.1,λb e u a=>h.2 b e (AI a d) u a⟩
theorem MR{n m:Nat}{D:Ew}{B:Option W}{s p q:Addr}{items:List W}(O:m < n)(c:p≠s)(i:q≠s)(o:p≠q):∀(ns:List Str)(a:List Fd)(o4 d:Option W)(G:Hw),G p=some (.lst (a.map Bw))->G q=some (.lst items)->St s G->a.length+ns.length<=100->
  (∀(l:List Fd)o4 d t,(l.map (·.1)).Sublist ns->(∀ x∈l,KdOk (kc m) (m+1) x.2.2)->t p=some (.lst ((a++l).map Bw))->Hs2 s p G t->D.nx [some (.ref s),some (.int ((m+1:Nat):Int)),B,some (.ref p),o4,d] t)->
  Bh (holds q items) (gNm 4) (gKB n) D (ns.map W.str) [some (.ref s),some (.int ((m+1:Nat):Int)),B,some (.ref p),o4,d] G
 | [],a,o4,d,G,A,w,hs,_,g=>⟨w,g [] o4 d G (List.nil_sublist _) (λx T=>by cases T) (by rw[Yx];exact A) (Hs.refl hs).two⟩
 | x::ns,a,o4,d,G,A,w,hs,hl,g=>by
  rw[Yg]at hl
  refine⟨w,?_⟩
  show gKB n _ [some (.ref s),some (.int ((m+1:Nat):Int)),B,some (.ref p),some (.str x),d] G
  refine AL ?_
  simp only[Ag,Ab,gC,Aa,Ac,Yb]
  refine BW (by decide) (by decide) hs λr S Z Y j=>?_
  have v:=j.2 p c _ A
  have N:=j.2 q i _ w
  simp only[Yk,Yl,gIf,gTB,Ad,Bb,Ab,gC,Yb,Yc]
  walk_at "pb"
  ·have h1:(1:Int) < r:=of_decide_eq_true h
   simp only[Aw,gMt,Ah,Aa,Ac,Ab,Ad,Ap,gC,Ay,Ag,Yb,Yc]
   refine⟨Bv v,by decide,λz F=>?_⟩
   have X:=Hs.ne j.1 F
   refine⟨trivial,?_⟩
   obtain⟨y,u,e⟩:=Fk (r:=r - 2) (G:=put S z (.lst [.str "must",.str "may"])) Aj (by omega) (by show r - 2 < 2;omega)
   show opt (ixW (.ref z) (.int (r - 2)) _) _
   rw[e,Ak]
   have R:∃ b,y=.str (BQ b):=by
    simp only[Yo,YY,or_false]at u
    rcases u with rfl | rfl
    ·exact⟨true,rfl⟩
    ·exact⟨false,rfl⟩
   obtain⟨b,rfl⟩:=R
   refine⟨trivial,m,s,⟨by rw[show(((m+1:Nat):Int) - 1)=(m:Int) by omega],O⟩,j.1.put F,λk' U P H=>?_⟩
   obtain⟨k,rfl,P⟩:=P
   have f:Hs s G U:=(j.put F).trans H
   have E:=f.2 p c _ A
   have I:=f.2 q i _ w
   refine⟨(show 3<=sizeLine by decide),Ck E (by rw[Yh];exact Bl (by omega)) ?_⟩
   refine MR O c i o ns (a++[(x,b,k)]) _ _ _ (by rw[Yy];exact Aj) (by rw[Aq (YU o)];exact I) (Hs2.set f.1 c).1 (by rw[Yj];simp only[Yg,Yi];omega) λl o4 d t K L Q J=>?_
   refine g ((x,b,k)::l) o4 d t (.cons₂ _ K) (λy u=>?_) (by rw[Q,Yv];rfl) ((f.two).trans ((Hs2.set f.1 c).trans J))
   rcases Yo.mp u with rfl | u
   ·exact P
   ·exact L y u
  ·simp only[Al]
   exact MR O c i o ns a _ _ S v N j.1 (by omega) λl o4 d t K L Q J=>g l o4 d t (.cons _ K) L Q (j.two.trans J)
theorem JM(h:G p=some (.lst xs)):BK [.ref p] G=some (.tup xs):=by
 show(Dd G (.ref p)).map W.tup=_
 rw[Ig h];rfl
variable {m:Nat}
theorem hG(hm:m < n+1)(hs:St s G)(q:∀ r F,(∃ k:Kd,r=k.enc/\KdOk (kc m) (m+1) k)->Hs s G F->Q r F):MP Cz (Gb n) (Av Q) [some (.ref s),some (.int m),none,none,none,none] G:=by
 unfold MP
 refine AL ?_
 simp only[Ag,Ab,gC,Ad,gB,rF,Bb,Ay,L3.Bo,Dt,Ak,Aa,Ac,Yb,Yc]
 refine⟨.inl ⟨by decide,by decide⟩,?_⟩
 have hw:(6:Int)+4*(if decide (0 <(m:Int))=true then 1 else 0)=if m=0 then 6 else 10:=by
  cases m with
  | zero=>rfl
  | succ m=>rw[if_pos (by simp only[YN];omega),if_neg (by omega)];rfl
 rw[hw]
 refine BW (by split <;> decide) (by split <;> decide) hs λr G1 r0 r1 j=>?_
 simp only[Yk,Yl,Af,gIf,gTB,Ad,A9,Ab,gC,Yb,Yc]
 walk_at "pb"
 ·have U:r < 6:=of_decide_eq_true h
  simp only[Ai,Ad,Ap,Ah,Aa,Ac,Ab,gC,Ay,Yb,Yc]
  refine⟨by decide,by decide,by decide,by decide,λp o=>⟨⟨by decide,by decide⟩,?_⟩⟩
  obtain⟨y,X,e⟩:=Fk (r:=r / 2) (G:=put G1 p (.lst [.tup [.str "any"],.tup [.str "num"],.tup [.str "truth"]])) Aj (by omega) (by show r / 2 < 3;omega)
  show opt (ixW (.ref p) (.int (r / 2)) _) _
  rw[e,Ak]
  have P:1<=kc m:=by
   cases m with
   | zero=>exact Yr 1
   | succ m=>show 1<=1+3*kc m;omega
  refine q _ _ ?_ (j.put o)
  simp only[Yo,YY,or_false]at X
  rcases X with rfl | rfl | rfl
  ·exact⟨.any,rfl,rfl,P,by show 1<=m+1;omega⟩
  ·exact⟨.num,rfl,rfl,P,by show 1<=m+1;omega⟩
  ·exact⟨.truth,rfl,rfl,P,by show 1<=m+1;omega⟩
 ·have U:¬ r < 6:=λz=>h (YG z)
  cases m with
  | zero=>rw[if_pos rfl]at r1;exact absurd r1 U
  | succ m =>
  have i:m < n:=by omega
  have ek:kc (m+1)=1+3*kc m:=rfl
  have H:(((m+1:Nat):Int) - 1)=(m:Int):=by omega
  simp only[Al,Ae,Bm,Ak]
  walk_at "pb"
  ·simp only[Ai,Ah,Aa,Ac,Ag,Ad,Ay,Ab,gC,Yb,Yc]
   refine⟨trivial,m,s,⟨by rw[H],i⟩,j.1,λg Z t a=>?_⟩
   obtain⟨g,rfl,K,a2,a3⟩:=t
   refine⟨trivial,m,s,⟨by rw[H],i⟩,a.1,λA G3 L S=>?_⟩
   obtain⟨A,rfl,b1,b2,b3⟩:=L
   refine⟨(show 3<=sizeLine by decide),q _ _ ⟨.to g A,rfl,?_,?_,?_⟩ ((j.trans a).trans S)⟩
   ·show(g.ok&&A.ok)=true;rw[K,b1];rfl
   ·show 1+(g.cnt+A.cnt)<=_;omega
   ·show 1+max g.dp A.dp<=_;omega
  ·walk_at "pb"
   ·simp only[Ai,Ah,Aa,Ac,Ag,Ad,Ay,Ab,gC,Yb,Yc]
    refine⟨trivial,m,s,⟨by rw[H],i⟩,j.1,λg Z t a=>?_⟩
    obtain⟨g,rfl,K,a2,a3⟩:=t
    refine⟨(show 2<=sizeLine by decide),q _ _ ⟨.box g,rfl,K,?_,?_⟩ (j.trans a)⟩
    ·show 1+g.cnt<=_;omega
    ·show 1+g.dp<=_;omega
   ·simp only[Al]
    show Af (An 3 _) _ _ _ _
    refine AL ?_
    simp only[Ap,Ac]
    refine⟨by decide,λp o=>?_⟩
    have N:=Hs.ne j.1 o
    show Af (AD _ (gNm 4) (gKB n)) _ _ _ _
    simp only[Af,AD,Au,Ap,Aa,Ac,gC]
    refine⟨by decide,λz E=>?_⟩
    have R:=Hs.ne (j.1.put o) E
    have B:p≠z:=AI Aj E
    simp only[Aj,Yk,Yl]
    refine MR (n:=n) (m:=m) i N R B ["a","b","cc"] [] none none _ (by rw[Aq B];exact Aj) Aj ((j.1.put o).put E) (by decide) λl o4 o5 F T l2 l3 O=>?_
    simp only[Ai,Ah,Aa,Ac,gB,rF,Ad,Ag,Ab,gC,Yb,Yc]
    rw[Yw]at l3
    rw[JM l3,Ak]
    have J:Hs s G F:=j.trans ⟨O.1,λb hb u Y=>O.2 b hb (AI Y o) u (AB E _ _ (AB o _ _ Y))⟩
    refine BW (by decide) (by decide) O.1 λv Z v0 v1 a=>?_
    simp only[Ae,Bm,Ak]
    walk_at "pI"
    have hl:=T.length_le
    rw[Yh]at hl
    have I:l.length<=3:=hl
    have hn:∀ x∈l,AC x.1=true:=λx D=>by
     have w:=T.subset (List.mem_map_of_mem (f:=(·.1)) D)
     simp only[Yo,YY,or_false]at w
     rcases w with z | z | z <;> rw[z] <;> decide +kernel
    obtain⟨g1,g2,g3⟩:=Ud (c:=kc m) (d:=m+1) l λx D=>⟨hn x D,l2 x D⟩
    refine q _ _ ⟨.row (ofL l) ((v==0) != false),?_,?_,?_,?_⟩ (J.trans a)
    ·show _=W.tup [.str "row",.tup (ofL l).enc,_];rw[Ub]
    ·show(A3 (ofL l).names&&(ofL l).ok)=true
     rw[g1,Uc,Uh T (by decide +kernel)];rfl
    ·show 1+(ofL l).cnt<=_
     have:=Nat.mul_le_mul_right (kc m) I
     omega
    ·show 1+(ofL l).dp<=_;omega
theorem B7(T:Tx K mg base a):∀ n:Nat,Df P w K mg base "_law_kind" (n+1) 2 (Gb n)
 | 0=>CM T.Qo CA λb G Q E⟨k,s,⟨_,hd⟩,_⟩=>by omega
 | n+1=>by
  refine mk0 (k:=n+1) T.Qo rfl TX CA (λb G Q E⟨k,s,⟨e,hd⟩,_⟩=>by rw[e];rfl) (gR T (Ba T) (by omega) (B7 T n) (Yr _)) λb G Q E d q=>?_
  obtain⟨m,s,⟨rfl,c⟩,hs,q⟩:=q
  exact hG c hs q
def TmB(c d:Nat)(t:Te):Prop:=t.ok=true/\t.cnt<=c/\t.dp<=d
def KOk(k:Kd):Prop:=k.ok=true/\Bd k=true
variable {c d d':Nat}
theorem TmB.mono{a:Nat}(h:TmB c d t)(hc:c<=a)(hd:d<=d'):TmB a d' t:=⟨h.1,Yt h.2.1 hc,Yt h.2.2 hd⟩
theorem Co{w:Str}(h:KTD.datumAt w AX=some r.sorts)(h2:r.ok=true):(Te.nd w r).ok=true:=by
 show(decide (KTD.datumAt w AX=some r.sorts)&&r.ok)=true
 rw[YG h,h2];rfl
theorem CB{k:Kd}(h:TmB c d t)(a:KOk k):TmB (c+1) (d+1) (.nd "as" (.trm t (.knd k .nil))):=by
 obtain⟨h1,h2,b⟩:=h
 refine⟨Co (show KTD.datumAt ("as":Str) AX=some [("term":Str),"kind"] by decide +kernel) ?_,?_,?_⟩
 ·show(t.ok&&((k.ok&&Bd k)&&true))=true;rw[h1,a.1,a.2];rfl
 ·show 1+(t.cnt+0)<=_;omega
 ·show 1+max t.dp 0<=_;omega
variable {u:Te}
theorem DW{w:Str}{b a:Nat}(hw:KTD.datumAt w AX=some [("term":Str),"term"])(h:TmB b d t)(h':TmB a d u):TmB (b+a+1) (d+1) (.nd w (.trm t (.trm u .nil))):=by
 obtain⟨h1,h2,c⟩:=h
 obtain⟨g1,g2,g3⟩:=h'
 refine⟨Co hw ?_,?_,?_⟩
 ·show(t.ok&&(u.ok&&true))=true;rw[h1,g1];rfl
 ·show 1+(t.cnt+(u.cnt+0))<=_;omega
 ·show 1+max t.dp (max u.dp 0)<=_;omega
theorem JN{w:Str}(hw:KTD.datumAt w AX=some [("term":Str)])(h:TmB c d t):TmB (c+1) (d+1) (.nd w (.trm t .nil)):=by
 obtain⟨h1,h2,a⟩:=h
 refine⟨Co hw ?_,?_,?_⟩
 ·show(t.ok&&true)=true;rw[h1];rfl
 ·show 1+(t.cnt+0)<=_;omega
 ·show 1+max t.dp 0<=_;omega
theorem MS{x:Str}(h:TmB c d t)(a:AC x=true):TmB (c+1) (d+1) (.nd "get" (.trm t (.nam x .nil))):=by
 obtain⟨h1,h2,b⟩:=h
 refine⟨Co (show KTD.datumAt ("get":Str) AX=some [("term":Str),"name"] by decide +kernel) ?_,?_,?_⟩
 ·show(t.ok&&(AC x&&true))=true;rw[h1,a];rfl
 ·show 1+(t.cnt+0)<=_;omega
 ·show 1+max t.dp 0<=_;omega
theorem Ui{b a:Nat}{x:Str}(h:TmB b d t)(c:AC x=true)(h':TmB a d u):TmB (b+a+1) (d+1) (.nd "or" (.trm t (.nam x (.trm u .nil)))):=by
 obtain⟨h1,h2,e⟩:=h
 obtain⟨g1,g2,g3⟩:=h'
 refine⟨Co (show KTD.datumAt ("or":Str) AX=some [("term":Str),"name","term"] by decide +kernel) ?_,?_,?_⟩
 ·show(t.ok&&(AC x&&(u.ok&&true)))=true;rw[h1,c,g1];rfl
 ·show 1+(t.cnt+(u.cnt+0))<=_;omega
 ·show 1+max t.dp (max u.dp 0)<=_;omega
theorem hI{v:Te}(h:TmB c d t)(h':TmB c d u)(a:TmB c d v):TmB (3*c+1) (d+1) (.nd "if" (.trm t (.trm u (.trm v .nil)))):=by
 obtain⟨h1,h2,g⟩:=h
 obtain⟨g1,g2,g3⟩:=h'
 obtain⟨b,e,f⟩:=a
 refine⟨Co (show KTD.datumAt ("if":Str) AX=some [("term":Str),"term","term"] by decide +kernel) ?_,?_,?_⟩
 ·show(t.ok&&(u.ok&&(v.ok&&true)))=true;rw[h1,g1,b];rfl
 ·show 1+(t.cnt+(u.cnt+(v.cnt+0)))<=_;omega
 ·show 1+max t.dp (max u.dp (max v.dp 0))<=_;omega
theorem MT{k:Kd}{x:Str}(b:AC x=true)(a:KOk k)(h:TmB c d t):TmB (c+1) (d+1) (.nd "fun" (.nam x (.knd k (.trm t .nil)))):=by
 obtain⟨h1,h2,e⟩:=h
 refine⟨Co (show KTD.datumAt ("fun":Str) AX=some [("name":Str),"kind","term"] by decide +kernel) ?_,?_,?_⟩
 ·show(AC x&&((k.ok&&Bd k)&&(t.ok&&true)))=true;rw[h1,b,a.1,a.2];rfl
 ·show 1+(t.cnt+0)<=_;omega
 ·show 1+max t.dp 0<=_;omega
theorem MU{x:Str}(a:AC x=true):TmB 1 1 (.nd "name" (.nam x .nil)):=by
 refine⟨Co (show KTD.datumAt ("name":Str) AX=some [("name":Str)] by decide +kernel) ?_,Yr 1,Yr 1⟩
 show(AC x&&true)=true;rw[a];rfl
theorem hJ(b:Bool):TmB 1 1 (.nd "truth" (.tru b .nil)):=⟨Co (show KTD.datumAt ("truth":Str) AX=some [("truth":Str)] by decide +kernel) rfl,Yr 1,Yr 1⟩
theorem hL{i:Int}(h:-100<=i)(h':i<=100):TmB 1 1 (.nd "num" (.num i .nil)):=by
 refine⟨Co (show KTD.datumAt ("num":Str) AX=some [("number":Str)] by decide +kernel) ?_,Yr 1,Yr 1⟩
 show(decide (-NB<=i/\i<=NB)&&true)=true
 rw[YG ⟨by show(-99999999999999999999:Int)<=i;omega,by show i<=(99999999999999999999:Int);omega⟩];rfl
abbrev DX:Spw:=DV (λ(t:Te)s ws _=>ws=[.ref s,t.enc]) λt _ r _=>r=t.enc\/r=(Te.nd "as" (.trm t (.knd .any .nil))).enc
theorem CN(T:Tx K mg base a):Df P w K mg base "_law_blur" 2 2 DX:=by
 refine mk0 T.dM rfl T5 CA (λc G Q E⟨k,s,e,_⟩=>by rw[e];rfl) (gZ T (Ba T) (Yr _)) λc G Q E g q=>?_
 obtain⟨t,s,rfl,hs,q⟩:=q
 unfold T6
 show Ai _ (Av Q) [some (.ref s),some t.enc] G
 simp only[Ai,Ad,Ap,Ah,Ag,Aa,Ac,Ab,gC,Yb,Yc]
 refine⟨by decide,(show 3<=sizeLine by decide),Ga rfl (by decide) (by decide) hs λx b f d=>q x f ?_ d⟩
 simp only[Yo,YY,or_false]at b
 rcases b with rfl | rfl | rfl | rfl
 ·exact .inl rfl
 ·exact .inl rfl
 ·exact .inl rfl
 ·exact .inr rfl
theorem Hr:KOk .any:=⟨rfl,rfl⟩
theorem hR{r:W}(h:TmB c d t)(a:r=t.enc\/r=(Te.nd "as" (.trm t (.knd .any .nil))).enc):∃ u:Te,r=u.enc/\TmB (c+1) (d+1) u:=by
 rcases a with rfl | rfl
 ·exact⟨t,rfl,h.mono (by omega) (by omega)⟩
 ·exact⟨_,rfl,CB h Hr⟩
theorem Uj(l:List Str)(s:Str)(h:G p=some (.lst xs))(e:xs=l.map W.str):inF false (.str s) (.ref p) G=some (.bl (l.any (·==s))):=by
 unfold inF
 show(Dd G (.ref p)).bind _=_
 rw[Ig h,e]
 show((EW (l.map W.str)).map _)=_
 rw[PN]
 show some (W.bl (inV (.str s) (l.map V.str)))=_
 rw[Lk]
abbrev MV(n:Nat):Spw:=DV (λ(k:Kd)s ws _=>ws=[.ref s,k.enc]/\k.ok=true/\k.dp<=n) λk _ r _=>∃ k':Kd,r=k'.enc/\KdOk k.cnt k.dp k'
theorem EG(T:Tx K mg base a):∀ n:Nat,Df P w K mg base "_law_dim" (n+1) 2 (MV n)
 | 0=>CM T.Qq CA λA G Q E⟨k,s,⟨_,_,hd⟩,_⟩=>by have:=C1 k;omega
 | n+1=>by
  refine mk0 (k:=n+1) T.Qq rfl T2 CA (λA G Q E⟨k,s,⟨e,_⟩,_⟩=>by rw[e];rfl) (gW T (Ba T) (by omega) (EG T n) (Yr _)) λA G Q E U q=>?_
  obtain⟨k,s,⟨rfl,m,hd⟩,hs,q⟩:=q
  unfold T3
  show Af (gIf _ _ Al) _ (Av Q) [some (.ref s),some k.enc] G
  simp only[Af,gIf,gTB,Ad,Ag,Aa,Ac,Ab,gC,Yb,Yc]
  refine BW (by decide) (by decide) hs λr B S N D=>?_
  simp only[Ae,Bm,Ak]
  walk_at "pb"
  ·simp only[Ai,Ah,Aa,Ac,gC]
   exact⟨by decide,q _ _ ⟨.any,rfl,rfl,Ij k,C1 k⟩ D⟩
  ·simp only[Al,Af,gIf,gTB,Ad,Ab,Ap,Ae,gC,Aa,Ac,Yb,Yc,Cm,Ak]
   refine⟨by decide,λp F=>?_⟩
   rw[Uj ["to","box"] k.hd (xs:=[.str "to",.str "box"]) Aj rfl,Ak]
   have b:=D.put (o:=.lst [.str "to",.str "box"]) F
   have c:Ai (Ab 1) (Av Q) [some (.ref s),some k.enc] (put B p (.lst [.str "to",.str "box"])):=by
    simp only[Ai,Ab,Yb,Yc]
    exact q _ _ ⟨k,rfl,m,Yr _,Yr _⟩ b
   generalize put B p (.lst [.str "to",.str "box"])=G2 at b c ⊢
   cases k with
   | any=>exact c
   | num=>exact c
   | truth=>exact c
   | row fs o=>exact c
   | to x y =>
    have d:(x.ok&&y.ok)=true:=m
    simp only[YF]at d
    have v:1+max x.dp y.dp<=n+1:=hd
    rw[show([("to":Str),"box"].any (·==(Kd.to x y).hd))=true from rfl]
    simp only[if_true,Ai,Ah,Aa,Ac,gB,rF,AW,Au,AN,AG,AF,Ag,Ad,Ae,Ab,gC,Yb,Yc,Cm,Ak,Bi,Kd.enc]
    refine⟨by decide,DU ?_⟩
    rw[CJ]
    walk_at "pf"
    refine⟨trivial,by decide,x,s,⟨rfl,d.1,by omega⟩,b.1,λf H i g=>?_⟩
    obtain⟨f,rfl,t,L,J⟩:=i
    refine⟨trivial,(show 1 < sizeLine by decide),y,s,⟨rfl,d.2,by omega⟩,g.1,λl R u z=>?_⟩
    obtain⟨l,rfl,I,O,X⟩:=u
    refine⟨trivial,λp2 j=>?_⟩
    rw[JM Aj,Ak,CY]
    refine⟨(show 3<=sizeLine by decide),q _ _ ⟨.to f l,rfl,?_,?_,?_⟩ (((b.trans g).trans z).put j)⟩
    ·show(f.ok&&l.ok)=true;rw[t,I];rfl
    ·show 1+(f.cnt+l.cnt)<=1+(x.cnt+y.cnt);omega
    ·show 1+max f.dp l.dp<=1+max x.dp y.dp;omega
   | box x =>
    have d:x.ok=true:=m
    have v:1+x.dp<=n+1:=hd
    rw[show([("to":Str),"box"].any (·==(Kd.box x).hd))=true from rfl]
    simp only[if_true,Ai,Ah,Aa,Ac,gB,rF,AW,Au,AN,AG,AF,Ag,Ad,Ae,Ab,gC,Yb,Yc,Cm,Ak,Bi,Kd.enc]
    refine⟨by decide,DU ?_⟩
    rw[CJ]
    walk_at "pf"
    refine⟨trivial,by decide,x,s,⟨rfl,d,by omega⟩,b.1,λf H i g=>?_⟩
    obtain⟨f,rfl,t,L,J⟩:=i
    refine⟨trivial,λp2 j=>?_⟩
    rw[JM Aj,Ak,CY]
    refine⟨(show 2<=sizeLine by decide),q _ _ ⟨.box f,rfl,t,?_,?_⟩ ((b.trans g).put j)⟩
    ·show 1+f.cnt<=1+x.cnt;omega
    ·show 1+f.dp<=1+x.dp;omega
variable {B:GS}
theorem Cp{k:Kd}{t:Str}{Ao:GS}(h1:ω[i]?=some (some k.enc))(h:(k.hd==t)=false)(h':Ao D ω G):Af (gIf (gTB (Ad (Ae (eqF false)) (Ad (Ae ixW) (Ab i) (gC (.int 0))) (gC (.str t)))) B Al) Ao D ω G:=by
 simp only[Af,gIf,gTB,Ad,Ae,Ab,h1,gC,Cm,Ak,Bn,h]
 exact h'
theorem JO{k:Kd}{t:Str}{Ao:GS}(h1:ω[i]?=some (some k.enc))(h:(k.hd==t)=true)(h':B {nx:=Ao D,rt:=D.rt,bk:=D.bk,ct:=D.ct} ω G):Af (gIf (gTB (Ad (Ae (eqF false)) (Ad (Ae ixW) (Ab i) (gC (.int 0))) (gC (.str t)))) B Al) Ao D ω G:=by
 simp only[Af,gIf,gTB,Ad,Ae,Ab,h1,gC,Cm,Ak,Bn,h]
 exact h'
def toL:Fs->List Fd
 | .nil=>[]
 | .cons n m k r=>(n,m,k)::toL r
theorem Hu:∀ fs:Fs,fs.enc=(toL fs).map Bw
 | .nil=>rfl
 | .cons n m k r=>by show _::r.enc=_::(toL r).map Bw;rw[Hu r];rfl
theorem Uk:∀ fs:Fs,fs.names=(toL fs).map (·.1)
 | .nil=>rfl
 | .cons n m k r=>by show _::r.names=_::(toL r).map (·.1);rw[Uk r]
def cF:List Fd->Nat
 | []=>0
 | x::l=>x.2.2.cnt+cF l
theorem hU{l a:List Fd}(h:l.Sublist a):cF l<=cF a:=by
 induction h with
 | slnil=>exact Yr _
 | cons x _ b=>show _<=x.2.2.cnt+_;omega
 | cons_cons x _ b=>show x.2.2.cnt+_<=x.2.2.cnt+_;omega
theorem Ul:∀ fs:Fs,fs.cnt=cF (toL fs)
 | .nil=>rfl
 | .cons n m k r=>by show k.cnt+r.cnt=k.cnt+cF (toL r);rw[Ul r]
theorem JP:∀{fs:Fs},fs.ok=true->∀ x∈toL fs,AC x.1=true/\x.2.2.ok=true/\x.2.2.cnt<=fs.cnt/\x.2.2.dp<=fs.dp
 | .nil,_,x,a=>by cases a
 | .cons n m k r,h,x,a=>by
  have h':(AC n&&k.ok&&r.ok)=true:=h
  walk_at "pa"
  show _/\_/\x.2.2.cnt<=k.cnt+r.cnt/\x.2.2.dp<=max k.dp r.dp
  walk_at "pH"
  ·exact⟨h'.1.1,h'.1.2,by show k.cnt<=_;omega,by show k.dp<=_;omega⟩
  ·obtain⟨c,b,e,d⟩:=JP h'.2 x a
   exact⟨c,b,by omega,by omega⟩
abbrev JQ:GT:=gOr (gTB (Ad (Ae (eqF false)) (Ad (Ae ixW) (Ab 0) (gC (.int 1))) (gC (.str "must")))) (gTB (Ad (Ae (eqF false)) (Ag Cz XF (Aa (Ab 1) (Aa (gC (.int 2)) Ac))) (gC (.int 0))))
theorem MW{s:Addr}{R:List W->Hw->Prop}:∀(l:List Fd)(o:Option W)(G:Hw)(a:List Fd),St s G->a.length+l.length<=1000->(∀ d f,d.Sublist l->Hs s G f->R ((a++d).map Bw) f)->AV yes (gNm 0) JQ (Ab 0) R (l.map Bw) [o,some (.ref s)] G (a.map Bw)
 | [],o,G,a,hs,_,b=>⟨trivial,by have:=b [] G (.slnil) (Hs.refl hs);rw[Yx]at this;exact this⟩
 | x::l,o,G,a,hs,hl,b=>by
  rw[Yg]at hl
  have go:∀ c,Hs s G c->AV yes (gNm 0) JQ (Ab 0) R (l.map Bw) [some (Bw x),some (.ref s)] c (a.map Bw++[Bw x]):=λc e=>by
   have z:=MW (R:=R) l (some (Bw x)) c (a++[x]) e.1 (by rw[Yj];simp only[Yg,Yi];omega) λd f h1 h2=>by
    rw[Yv]
    exact b (x::d) f (.cons₂ _ h1) (e.trans h2)
   rw[Yy]at z
   exact z
  refine⟨trivial,by rw[Yh];exact Bl (by omega),?_⟩
  show JQ [some (Bw x),some (.ref s)] G _
  simp only[JQ,gOr,gTB,Ad,Ae,Ab,gC,Yb,Yc,Bw,ixW,A0,Ak,Bn]
  walk_at "pb"
  ·exact go G (Hs.refl hs)
  ·simp only[Ag,Ab,gC,Aa,Ac,Yb,Yc]
   refine BW (by decide) (by decide) hs λr c g r1 e=>?_
   simp only[Bm,Ak]
   walk_at "pb"
   ·exact go c e
   ·exact MW l _ c a e.1 (by omega) λd f h1 h2=>b d f (.cons _ h1) (e.trans h2)
def flO:List (Str×Te)->Fl
 | []=>.nil
 | x::l=>.cons x.1 x.2 (flO l)
def JR(x:Str×Te):W:=.tup [.str x.1,x.2.enc]
theorem Um:∀ l,(flO l).enc=l.map JR
 | []=>rfl
 | x::l=>by show _::(flO l).enc=_::l.map JR;rw[Um l];rfl
theorem Uo:∀ l,(flO l).names=l.map (·.1)
 | []=>rfl
 | x::l=>by show _::(flO l).names=_::l.map (·.1);rw[Uo l]
def TL(d:Nat):List (Str×Te)->List Fd->Prop
 | [],[]=>True
 | y::ys,x::xs=>(y.1=x.1/\TmB (2*x.2.2.cnt) d y.2)/\TL d ys xs
 | _,_=>False
theorem TL.ok{d:Nat}:∀{ys:List (Str×Te)}{xs:List Fd},TL d ys xs->(∀ x∈xs,AC x.1=true)->(flO ys).ok=true/\(flO ys).cnt<=2*cF xs/\(flO ys).dp<=d/\ys.map (·.1)=xs.map (·.1)
 | [],[],_,_=>⟨rfl,YT _,YT _,rfl⟩
 | y::ys,x::xs,⟨⟨h1,h2,j,f⟩,h⟩,a=>by
  obtain⟨e,i,g,b⟩:=TL.ok h λz c=>a z (Yd _ c)
  refine⟨?_,?_,?_,?_⟩
  ·show((AC y.1&&y.2.ok)&&(flO ys).ok)=true
   rw[h1,a x Ye,h2,e];rfl
  ·show y.2.cnt+(flO ys).cnt<=2*(x.2.2.cnt+cF xs);omega
  ·show max y.2.dp (flO ys).dp<=d;omega
  ·rw[Ym,Ym,b,h1]
theorem TL.snoc{d:Nat}{y:Str×Te}{x:Fd}(h:y.1=x.1/\TmB (2*x.2.2.cnt) d y.2):∀{ys:List (Str×Te)}{xs:List Fd},TL d ys xs->TL d (ys++[y]) (xs++[x])
 | [],[],_=>⟨h,trivial⟩
 | y::ys,x::xs,⟨h1,h2⟩=>⟨h1,TL.snoc h h2⟩
abbrev JS(n:Nat):Spw:=DV (λ(k:Kd)s ws _=>ws=[.ref s,k.enc]/\KOk k/\k.dp<=n) λk _ r _=>∃ t:Te,r=t.enc/\TmB (2*k.cnt) (2*k.dp) t
abbrev gLe(n:Nat):GE:=Ah (Aa (Ad (Ae ixW) (Ab 0) (gC (.int 0))) (Aa (Ag (JS n) XF (Aa (Ab 1) (Aa (Ad (Ae ixW) (Ab 0) (gC (.int 2))) Ac))) Ac))
theorem Up{n d:Nat}{s q:Addr}{items:List W}{R:List W->Hw->Prop}(c:q≠s):∀(l done:List Fd)(ys:List (Str×Te))(o:Option W)(G:Hw),St s G->G q=some (.lst items)->TL d ys done->ys.length+l.length<=1000->(∀ x∈l,KOk x.2.2/\x.2.2.dp<=n/\2*x.2.2.dp<=d)->(∀ a f,TL d a (done++l)->Hs s G f->R (a.map JR) f)->AV (holds q items) (gNm 0) AA (gLe n) R (l.map Bw) [o,some (.ref s)] G (ys.map JR)
 | [],done,ys,o,G,hs,e,h,_,_,b=>⟨e,b ys G (by rw[Yx];exact h) (Hs.refl hs)⟩
 | x::l,done,ys,o,G,hs,e,h,hl,i,b=>by
  rw[Yg]at hl
  refine⟨e,by rw[Yh];exact Bl (by omega),?_⟩
  obtain⟨u,p,v⟩:=i x Ye
  simp only[gNm,AA,if_true,Yk,gLe,Ah,Ag,Ad,Ae,Aa,Ac,Ab,gC,Yb,Yc,Bw,ixW,Bf,B0,Ak]
  refine⟨x.2.2,s,⟨rfl,u,p⟩,hs,λr j m g=>?_⟩
  obtain⟨t,rfl,h1,h2,w⟩:=m
  refine⟨(show 2<=sizeLine by decide),?_⟩
  have z:=Up (R:=R) c l (done++[x]) (ys++[(x.1,t)]) (some (Bw x)) j g.1 (g.2 q c _ e) (TL.snoc ⟨rfl,h1,h2,by show t.dp<=d;omega⟩ h) (by rw[Yj];simp only[Yg,Yi];omega) (λy k=>i y (Yd _ k)) λa f g1 g2=>b a f (by rw[Yv]at g1;exact g1) (g.trans g2)
  rw[Yy]at z
  exact z
theorem hV{f:Fl}(h1:A3 f.names=true)(h2:f.ok=true)(a:f.cnt<=c)(b:f.dp<=d):TmB (c+1) (d+1) (.nd "rec" (.fld f .nil)):=by
 refine⟨Co (show KTD.datumAt ("rec":Str) AX=some [("fields":Str)] by decide +kernel) ?_,?_,?_⟩
 ·show((A3 f.names&&f.ok)&&true)=true;rw[h1,h2];rfl
 ·show 1+(f.cnt+0)<=_;omega
 ·show 1+max f.dp 0<=_;omega
theorem MX{k c:Kd}(h:KOk k)(hc:c∈k.kids):KOk c:=by
 have h2:=h.2
 unfold Bd at h2
 simp only[YN]at h2
 refine⟨GW h.1 c hc,?_⟩
 unfold Bd
 have:=P3 hc
 have:=E6 hc
 simp only[YN]
 omega
theorem EF(T:Tx K mg base a):∀ n:Nat,Df P w K mg base "_law_least" (n+1) 2 (JS n)
 | 0=>CM T.Qp CA λU G Q E⟨k,s,⟨_,_,hd⟩,_⟩=>by have:=C1 k;omega
 | n+1=>by
  refine mk0 (k:=n+1) T.Qp rfl MQ CA (λU G Q E⟨k,s,⟨e,_⟩,_⟩=>by rw[e];rfl) (gS T (Ba T) (by omega) (EF T n) (Yr _)) λU G Q E hC q=>?_
  obtain⟨k,s,⟨rfl,A,hd⟩,hs,q⟩:=q
  unfold TZ
  show Af (gIf _ _ Al) _ (Av Q) [some (.ref s),some k.enc,none] G
  have H:∀ D:Kd,D=k->Ai (Ah (Aa (gC (.str "num")) (Aa (Ad (Ay (λ_ _=>True) λi j=>i - j) (Ag Cz XF (Aa (Ab 0) (Aa (gC (.int 9)) Ac))) (gC (.int 4))) Ac))) (Av Q) [some (.ref s),some D.enc,none] G:=by
   rintro D rfl
   simp only[Ai,Ah,Aa,Ac,Ad,Ag,Ab,gC,Ay,Yb,Yc]
   refine BW (by decide) (by decide) hs λr R r0 r9 b=>⟨trivial,(show 2<=sizeLine by decide),?_⟩
   exact q _ _ ⟨.nd "num" (.num (r - 4) .nil),rfl,(hL (by omega) (by omega)).mono (by have:=Ij D;omega) (by have:=C1 D;omega)⟩ b
  cases k with
  | any=>exact Cp rfl rfl (Cp rfl rfl (Cp rfl rfl (Cp rfl rfl (H _ rfl))))
  | num=>exact Cp rfl rfl (Cp rfl rfl (Cp rfl rfl (Cp rfl rfl (H _ rfl))))
  | truth =>
   refine JO rfl rfl ?_
   simp only[Ai,Ah,Aa,Ac,Ad,Ag,Ab,gC,Yb,Yc]
   refine BW (by decide) (by decide) hs λr R r0 r9 b=>?_
   simp only[Ae,Bm,Ak]
   exact⟨(show 2<=sizeLine by decide),q _ _ ⟨.nd "truth" (.tru _ .nil),rfl,(hJ _).mono (by decide) (by decide)⟩ b⟩
  | to x y =>
   have hy:=MX (c:=y) A (.tail _ (.head _))
   have h:=MX (c:=x) A (.head _)
   have F:1+max x.dp y.dp<=n+1:=hd
   refine Cp rfl rfl (JO rfl rfl ?_)
   simp only[Ai,Ah,Aa,Ac,Ad,Ap,Ag,Ab,gC,Yb,Yc]
   refine Ga rfl (by decide) (by decide) hs λz S R b=>?_
   simp only[Ae,Kd.enc,ixW,A0,B0,Ak]
   refine⟨y,s,⟨rfl,hy,by omega⟩,b.1,λr X m u=>?_⟩
   obtain⟨t,rfl,J⟩:=m
   refine⟨(show 4<=sizeLine by decide),?_⟩
   have hn:∃ v:Str,z=.str v/\AC v=true:=by
    walk_at "pM"
    rcases S with rfl | rfl
    ·exact⟨_,rfl,by decide +kernel⟩
    ·exact⟨_,rfl,by decide +kernel⟩
   obtain⟨v,rfl,hv⟩:=hn
   exact q _ _ ⟨.nd "fun" (.nam v (.knd x (.trm t .nil))),rfl,(MT hv h J).mono (by show _<=2*(1+(x.cnt+y.cnt));omega) (by show _<=2*(1+max x.dp y.dp);omega)⟩ (b.trans u)
  | box x =>
   have h:=MX (c:=x) A (.head _)
   have F:1+x.dp<=n+1:=hd
   refine Cp rfl rfl (Cp rfl rfl (JO rfl rfl ?_))
   simp only[Ai,Ah,Aa,Ac,Ad,Ap,Ag,Ab,gC,Yb,Yc,Ae,Kd.enc,ixW,A0,Ak]
   refine⟨x,s,⟨rfl,h,by omega⟩,hs,λr X m u=>?_⟩
   obtain⟨t,rfl,J⟩:=m
   refine⟨(show 3<=sizeLine by decide),(show 2<=sizeLine by decide),?_⟩
   exact q _ _ ⟨.nd "new" (.trm (.nd "as" (.trm t (.knd x .nil))) .nil),rfl,(JN (by decide +kernel) (CB J h)).mono (by show _<=2*(1+x.cnt);omega) (by show _<=2*(1+x.dp);omega)⟩ u
  | row fs o =>
   have m:(A3 fs.names&&fs.ok)=true:=A.1
   simp only[YF]at m
   have F:1+fs.dp<=n+1:=hd
   have g:=A.2
   unfold Bd at g
   simp only[YN]at g
   have hgc:1+fs.cnt<=40:=g.1
   have hgp:1+fs.dp<=8:=g.2
   have L:=II fs
   rw[Hu,Yh]at L
   refine Cp rfl rfl (Cp rfl rfl (Cp rfl rfl (JO rfl rfl ?_)))
   show Af (An 2 _) _ _ _ _
   refine AL ?_
   walk_at "pm"
   refine MW (toL fs) none G [] hs (by simp only[Yi];omega) λl R B b p I=>?_
   have O:=Hs.ne b.1 I
   have hll:=B.length_le
   rw[Yw]
   simp only[Ai,Ah,Aa,Ac,gB,rF,AW,Au,Ab,gC,Yb,Yc,Yk,Yl,Aj,Bi,List.replicate,Ym,YH,Option.getD_some,List.cons_append,Yw]
   refine Up (n:=n) (d:=2*fs.dp) O l [] [] none _ (b.1.put I) Aj trivial (by simp only[Yi];omega) (λx h=>?_) λys X g1 g2 p2 N=>?_
   ·obtain⟨a1,a2,a3,a4⟩:=JP m.2 x (B.subset h)
    refine⟨⟨a2,?_⟩,by omega,by omega⟩
    unfold Bd
    simp only[YN]
    omega
   ·rw[JM Aj,Ak]
    refine⟨(show 2<=sizeLine by decide),?_⟩
    rw[Yw]at g1
    obtain⟨b1,Z,b3,Y⟩:=g1.ok λx h=>(JP m.2 x (B.subset h)).1
    have hcl:=hU B
    have hfc:=Ul fs
    refine q _ _ ⟨.nd "rec" (.fld (flO ys) .nil),?_,(hV (f:=flO ys) (c:=2*cF l) (d:=2*fs.dp) ?_ b1 Z b3).mono ?_ ?_⟩ ((b.put I).trans g2 |>.put N)
    ·show _=W.tup [.str "rec",.tup (flO ys).enc];rw[Um]
    ·rw[Uo,Y];exact Uh (B.map _) (by rw[<- Uk];exact m.1)
    ·show _<=2*(1+fs.cnt);omega
    ·show _<=2*(1+fs.dp);omega
abbrev Uq:List Str:=["state","want","names","deep","some","name","kind","told"]
theorem MY:AE Uq ["state","want","names","deep"] (Ar G0):=by walk_at "s"
def MZ(BS:Spw)(AR:Spw):GS:=(Af (An 4 (Ap Ac)) (Af (AD (Au (gB (Ib) (Aa (Ab 2) Ac))) (gNm 5) (Af (An 6 (Ad (Ae ixK) (Ab 2) (Ab 5))) (Af (gIf (gTB (Ad (Ae (eqF false)) (Ab 6) (Ab 1))) (Aw (gMt AH AS (Ab 4) (Aa (Ah (Aa (gC (.str "name")) (Aa (Ab 5) Ac))) Ac))) Al) (Af (gIf (A1 (gTB (Ad (Ae (eqF false)) (Ad (Ae ixW) (Ab 6) (gC (.int 0))) (gC (.str "to")))) (gTB (Ad (Ae (eqF false)) (Ad (Ae ixW) (Ab 6) (gC (.int 2))) (Ab 1)))) (Aw (gMt AH AS (Ab 4) (Aa (Ah (Aa (gC (.str "call")) (Aa (Ag BS XF (Aa (Ab 0) (Aa (Ah (Aa (gC (.str "name")) (Aa (Ab 5) Ac))) Ac))) (Aa (Ag AR XF (Aa (Ab 0) (Aa (Ad (Ae ixW) (Ab 6) (gC (.int 1))) (Aa (Ab 2) (Aa (Ab 3) Ac))))) Ac)))) Ac))) Al) (Af (gIf (gTB (Ad (Ae (eqF false)) (Ab 6) (Ah (Aa (gC (.str "box")) (Aa (Ab 1) Ac))))) (Af (Aw (gMt AH AS (Ab 4) (Aa (Ah (Aa (gC (.str "read")) (Aa (Ag BS XF (Aa (Ab 0) (Aa (Ah (Aa (gC (.str "name")) (Aa (Ab 5) Ac))) Ac))) Ac))) Ac))) (Aw (gMt AH AS (Ab 4) (Aa (Ah (Aa (gC (.str "write")) (Aa (Ah (Aa (gC (.str "name")) (Aa (Ab 5) Ac))) (Aa (Ag AR XF (Aa (Ab 0) (Aa (Ab 1) (Aa (Ab 2) (Aa (Ab 3) Ac))))) Ac)))) Ac)))) Al) (gIf (gTB (Ad (Ae (eqF false)) (Ad (Ae ixW) (Ab 6) (gC (.int 0))) (gC (.str "row")))) (Af (An 7 (AW (Au (Ad (Ae ixW) (Ab 6) (gC (.int 1)))) 1 [1] (gNm 0) (gTB (Ad (Ae (eqF false)) (AN (Ab 0) (AG (gC (.int 1))) AF) (Ah (Aa (gC (.str "must")) (Aa (Ab 1) Ac))))) (Ad (Ae ixW) (Ab 0) (gC (.int 0))))) (Aw (gMt AH Bz (Ab 4) (Aa (AW (Au (Ab 7)) 1 [0,5] (gNm 0) AA (Ah (Aa (gC (.str "get")) (Aa (Ag BS XF (Aa (Ab 1) (Aa (Ah (Aa (gC (.str "name")) (Aa (Ab 2) Ac))) Ac))) (Aa (Ab 0) Ac))))) Ac)))) Al)))))) (Ai (Ab 4))))
variable {BS:Spw}
theorem hW(T:Tx K mg base a){CN:Nat}(Ur:Df P w K mg base "_law_blur" CN 2 BS)(Us:CN<=k){BR:Nat}(Jw:Df P w K mg base "_law_term" BR 4 AR)(Jx:BR<=k):Dn P w K mg base Uq "_law_by_name" G0 k (MZ BS AR):=λ{f cdv A outer s H E}hr=>
 have hu:=A7 hr
 have hN:=MY.nd
 (Ax (by walk_at "v") (Ax (CW PassesOwn.never rfl (λ_=>rfl) (by walk_at "v") (by walk_at "v") (Ax (by walk_at "v") (Ax (by walk_at "v") (Ax (by walk_at "v") (Ax (by walk_at "v") (A5 (Cc (by walk_at "v") (Ax (HU (i:=7) MY.nd rfl rfl rfl rfl (Ce (own:=["field"]) (fr:=["want"]) (js:=[1]) (scX:=Ar G0) (n:=s.heap.objs.size+1) rfl (by decide +kernel) (by decide +kernel) (by decide +kernel) (by decide +kernel) rfl rfl rfl (by decide +kernel) rfl) (λ_=>rfl) (by walk_at "v") (CG (i:=0) (by decide) rfl rfl) (λC fp s1 H1=>(by walk_at "v")) (λC fp s1 H1=>(by walk_at "v"))) (A5 (ET rfl (Du EY rfl rfl rfl rfl rfl (by walk_at "v") (AU rfl (Dg rfl (Ce (own:=["one"]) (fr:=["state","name"]) (js:=[0,5]) (scX:=Ar G0) (n:=s.heap.objs.size+1) rfl (by decide +kernel) (by decide +kernel) (by decide +kernel) (by decide +kernel) rfl rfl rfl (by decide +kernel) rfl) (λ_=>rfl) (by walk_at "v") (CG (i:=0) (by decide) rfl rfl) (λC fp s1 H1=>Bc) (λC fp s1 H1=>(by walk_at "v"))) Be))))) Ct))))))) (by walk_at "v")))
abbrev Ut:List Str:=["state","want","names","deep","way","some","one","other","mark","kind","row","inner","number"]
theorem Uu:AE Ut ["state","want","names","deep"] (Ar LV):=by walk_at "s"
def M0(AJ:Spw)(C4:Spw)(JT:Spw)(JU:Spw)(AR:Spw)(BS:Spw):GS:=(Af (An 4 (Ag AJ XF (Aa (Ab 0) (Aa (gC (.int 12)) Ac)))) (Af (gIf (gOr (gTB (Ad (Ae (eqF false)) (Ab 3) (gC (.int 0)))) (gTB (Ad (Ae (eqF false)) (Ab 4) (gC (.int 11))))) (Af (gIf (gTB (Ad (Ae (eqF false)) (gMt GL GK (Ab 2) (Aa (gC (.str "x")) (Aa (Ah Ac) Ac))) (Ab 1))) (Ai (Ah (Aa (gC (.str "name")) (Aa (gC (.str "x")) Ac)))) Al) (Ai (Ag C4 XF (Aa (Ab 0) (Aa (Ab 1) Ac))))) Al) (Af (An 5 (Ap Ac)) (Af (gIf (gTB (Ad (A9 (λi j=>decide (i < j)) A6) (Ab 4) (gC (.int 6)))) (An 5 (Ag JT XF (Aa (Ab 0) (Aa (Ab 1) (Aa (Ab 2) (Aa (Ad (Ay (λ_ _=>True) λi j=>i - j) (Ab 3) (gC (.int 1))) Ac)))))) Al) (Af (gIf (gTB (Ad (Ae (eqF true)) (Ab 5) (Ap Ac))) (Ai (Ad (Ae ixW) (Ab 5) (Ag AJ XF (Aa (Ab 0) (Aa (gB (rF AZ) (Aa (Ab 5) Ac)) Ac))))) Al) (Af (gIf (gTB (Ad (A9 (λi j=>decide (i < j)) A6) (Ab 4) (gC (.int 8)))) (Ai (Ag JU XF (Aa (Ab 0) (Aa (Ab 1) (Aa (Ab 2) (Aa (Ad (Ay (λ_ _=>True) λi j=>i - j) (Ab 3) (gC (.int 1))) Ac)))))) Al) (Af (An 6 (Ag AR XF (Aa (Ab 0) (Aa (Ab 1) (Aa (Ab 2) (Aa (Ad (Ay (λ_ _=>True) λi j=>i - j) (Ab 3) (gC (.int 1))) Ac)))))) (Af (An 7 (Ag AR XF (Aa (Ab 0) (Aa (Ab 1) (Aa (Ab 2) (Aa (Ad (Ay (λ_ _=>True) λi j=>i - j) (Ab 3) (gC (.int 1))) Ac)))))) (Af (gIf (gTB (Ad (Ae (eqF false)) (Ab 4) (gC (.int 8)))) (Ai (Ah (Aa (gC (.str "if")) (Aa (Ag AR XF (Aa (Ab 0) (Aa (Ah (Aa (gC (.str "truth")) Ac)) (Aa (Ab 2) (Aa (Ad (Ay (λ_ _=>True) λi j=>i - j) (Ab 3) (gC (.int 1))) Ac))))) (Aa (Ab 6) (Aa (Ab 7) Ac)))))) Al) (Af (gIf (A1 (gTB (Ad (Bb λi j=>decide (j < i)) (Ab 4) (gC (.int 8)))) (gTB (Ad (Ae (eqF false)) (Ad (Ae ixW) (Ab 1) (gC (.int 0))) (gC (.str "to"))))) (Af (An 11 (gB (GP) (Aa (Ab 2) Ac))) (Af (FN (Ad (Ae ixW) (Ab 1) (gC (.int 1))) (Ab 11) (Ad (Ae ixW) (Ap (Aa (gC (.str "x")) (Aa (gC (.str "y")) Ac))) (Ad (Ay (λ_ j=>0 < j) λi j=>i % j) (Ab 4) (gC (.int 2))))) (Ai (Ah (Aa (gC (.str "fun")) (Aa (Ad (Ae ixW) (Ap (Aa (gC (.str "x")) (Aa (gC (.str "y")) Ac))) (Ad (Ay (λ_ j=>0 < j) λi j=>i % j) (Ab 4) (gC (.int 2)))) (Aa (Ad (Ae ixW) (Ab 1) (gC (.int 1))) (Aa (Ag AR XF (Aa (Ab 0) (Aa (Ad (Ae ixW) (Ab 1) (gC (.int 2))) (Aa (Ab 11) (Aa (Ad (Ay (λ_ _=>True) λi j=>i - j) (Ab 3) (gC (.int 1))) Ac))))) Ac)))))))) Al) (Af (gIf (A1 (gTB (Ad (Ae (eqF false)) (Ab 4) (gC (.int 9)))) (gTB (Ad (Ae (inF false)) (Ad (Ae ixW) (Ab 1) (gC (.int 0))) (Ap (Aa (gC (.str "num")) (Aa (gC (.str "truth")) Ac)))))) (Af (An 12 (Ag AR XF (Aa (Ab 0) (Aa (Ah (Aa (gC (.str "num")) Ac)) (Aa (Ab 2) (Aa (Ad (Ay (λ_ _=>True) λi j=>i - j) (Ab 3) (gC (.int 1))) Ac)))))) (Af (gIf (gTB (Ad (Ae (eqF false)) (Ad (Ae ixW) (Ab 1) (gC (.int 0))) (gC (.str "num")))) (Ai (Ah (Aa (gC (.str "plus")) (Aa (Ab 12) (Aa (Ab 6) Ac))))) Al) (Ai (Ah (Aa (gC (.str "less")) (Aa (Ab 12) (Aa (Ag AR XF (Aa (Ab 0) (Aa (Ah (Aa (gC (.str "num")) Ac)) (Aa (Ab 2) (Aa (Ad (Ay (λ_ _=>True) λi j=>i - j) (Ab 3) (gC (.int 1))) Ac))))) Ac))))))) Al) (Af (An 8 (Ad (Ae ixW) (Ap (Aa (gC (.str "must")) (Aa (gC (.str "may")) Ac))) (Ag AJ XF (Aa (Ab 0) (Aa (gC (.int 2)) Ac))))) (Af (An 9 (Ah (Aa (gC (.str "row")) (Aa (Ah (Aa (Ah (Aa (gC (.str "a")) (Aa (Ab 8) (Aa (Ab 1) Ac)))) Ac)) (Aa (Ad (Ae (eqF false)) (Ag AJ XF (Aa (Ab 0) (Aa (gC (.int 2)) Ac))) (gC (.int 0))) Ac))))) (Af (An 10 (Ag AR XF (Aa (Ab 0) (Aa (Ah (Aa (gC (.str "row")) (Aa (Ad (Ae ixW) (Ab 9) (gC (.int 1))) (Aa (gC (.bl false)) Ac)))) (Aa (Ab 2) (Aa (Ad (Ay (λ_ _=>True) λi j=>i - j) (Ab 3) (gC (.int 1))) Ac)))))) (Af (gIf (gTB (Ad (Ae (eqF false)) (Ag AJ XF (Aa (Ab 0) (Aa (gC (.int 2)) Ac))) (gC (.int 0)))) (Af (An 9 (Ah (Aa (gC (.str "row")) (Aa (Ad (Ae ixW) (Ap (Aa (Ad (Ae ixW) (Ab 9) (gC (.int 1))) (Aa (Ah Ac) Ac))) (Ad (Ay EN λi j=>i / j) (Ag AJ XF (Aa (Ab 0) (Aa (gC (.int 3)) Ac))) (gC (.int 2)))) (Aa (Ad (Ae ixW) (Ab 9) (gC (.int 2))) Ac))))) (An 10 (Ag BS XF (Aa (Ab 0) (Aa (Ah (Aa (gC (.str "as")) (Aa (Ab 10) (Aa (Ah (Aa (gC (.str "any")) Ac)) Ac)))) Ac))))) Al) (Af (An 10 (Ah (Aa (gC (.str "as")) (Aa (Ab 10) (Aa (Ab 9) Ac))))) (Af (gIf (gOr (gTB (Ad (Ae (eqF false)) (Ab 8) (gC (.str "may")))) (A1 (gTB (Ad (Ae (eqF false)) (Ad (Ae ixW) (Ab 9) (gC (.int 1))) (Ah Ac))) (gNt (AO (Ad (Ae ixW) (Ab 9) (gC (.int 2))))))) (Ai (Ah (Aa (gC (.str "or")) (Aa (Ab 10) (Aa (Ad (Ae ixW) (Ap (Aa (gC (.str "a")) (Aa (gC (.str "b")) Ac))) (Ag AJ XF (Aa (Ab 0) (Aa (gC (.int 2)) Ac)))) (Aa (Ab 7) Ac)))))) Al) (Ai (Ah (Aa (gC (.str "get")) (Aa (Ab 10) (Aa (gC (.str "a")) Ac))))))))))))))))))))))
theorem hX(T:Tx K mg base a){Ba:Nat}(Fg:Df P w K mg base "_law_take" Ba 2 AJ)(Fh:Ba<=k){EF:Nat}(gT:Df P w K mg base "_law_least" EF 2 C4)(gU:EF<=k){JV:Nat}{JT:Spw}(i8:Df P w K mg base "_law_by_name" JV 4 JT)(i9:JV<=k){JW:Nat}{JU:Spw}(ja:Df P w K mg base "_law_around" JW 4 JU)(jb:JW<=k){BR:Nat}(Jw:Df P w K mg base "_law_term" BR 4 AR)(Jx:BR<=k){CN:Nat}(Ur:Df P w K mg base "_law_blur" CN 2 BS)(Us:CN<=k):Dn P w K mg base Ut "_law_term" LV k (M0 AJ C4 JT JU AR BS):=by
 have hN:=Uu.nd
 walk_at "z"
abbrev Uv:List Str:=["state","want","names","deep","made","part","some"]
theorem Uw:AE Uv ["state","want","names","deep"] (Ar LW):=by walk_at "s"
def M1(Bk:Spw)(AR:Spw)(AJ:Spw):GS:=(Af (An 4 (Ah (Aa (gC (.str "as")) (Aa (Ag AR XF (Aa (Ab 0) (Aa (Ag Bk XF (Aa (Ab 0) (Aa (gC (.int 1)) Ac))) (Aa (Ab 2) (Aa (Ab 3) Ac))))) (Aa (Ah (Aa (gC (.str "any")) Ac)) Ac))))) (Af (An 5 (Ag AR XF (Aa (Ab 0) (Aa (Ag Bk XF (Aa (Ab 0) (Aa (gC (.int 0)) Ac))) (Aa (Ab 2) (Aa (Ab 3) Ac)))))) (Af (An 6 (Ap (Aa (Ah (Aa (gC (.str "call")) (Aa (Ab 4) (Aa (Ab 5) Ac)))) (Aa (Ah (Aa (gC (.str "read")) (Aa (Ab 4) Ac))) (Aa (Ah (Aa (gC (.str "write")) (Aa (Ab 4) (Aa (Ab 5) Ac)))) (Aa (Ah (Aa (gC (.str "get")) (Aa (Ab 4) (Aa (gC (.str "a")) Ac)))) Ac)))))) (Af (Aw (gMt AH AS (Ab 6) (Aa (Ah (Aa (gC (.str "or")) (Aa (Ab 4) (Aa (gC (.str "a")) (Aa (Ag AR XF (Aa (Ab 0) (Aa (Ab 1) (Aa (Ab 2) (Aa (Ab 3) Ac))))) Ac))))) Ac))) (Ai (Ad (Ae ixW) (Ab 6) (Ag AJ XF (Aa (Ab 0) (Aa (gC (.int 5)) Ac)))))))))
theorem hY(T:Tx K mg base a){B7:Nat}(MF:Df P w K mg base "_law_kind" B7 2 Bk)(MG:B7<=k){BR:Nat}(Jw:Df P w K mg base "_law_term" BR 4 AR)(Jx:BR<=k){Ba:Nat}(Fg:Df P w K mg base "_law_take" Ba 2 AJ)(Fh:Ba<=k):Dn P w K mg base Uv "_law_any_first" LW k (M1 Bk AR AJ):=by
 have hN:=Uw.nd
 walk_at "z"
abbrev Ux:List Str:=["state","want","names","deep","way","kind","made","other","name","inner"]
theorem Uy:AE Ux ["state","want","names","deep"] (Ar LX):=by walk_at "s"
def M2(AJ:Spw)(JX:Spw)(Bk:Spw)(AR:Spw)(Dl:Spw)(BS:Spw):GS:=(Af (An 4 (Ag AJ XF (Aa (Ab 0) (Aa (gC (.int 10)) Ac)))) (Af (gIf (gTB (Ad (Bb λi j=>decide (j < i)) (Ab 4) (gC (.int 7)))) (Ai (Ag JX XF (Aa (Ab 0) (Aa (Ab 1) (Aa (Ab 2) (Aa (Ab 3) Ac)))))) Al) (Af (gIf (gTB (Ad (Ae (eqF false)) (Ab 4) (gC (.int 0)))) (Af (An 7 (Ad (Ae ixW) (Ap (Aa (Ab 1) (Aa (Ab 1) (Aa (Ag Bk XF (Aa (Ab 0) (Aa (gC (.int 1)) Ac))) Ac)))) (Ag AJ XF (Aa (Ab 0) (Aa (gC (.int 3)) Ac))))) (Ai (Ah (Aa (gC (.str "as")) (Aa (Ag AR XF (Aa (Ab 0) (Aa (Ab 7) (Aa (Ab 2) (Aa (Ab 3) Ac))))) (Aa (Ah (Aa (gC (.str "any")) Ac)) Ac)))))) Al) (Af (gIf (gTB (Ad (Ae (eqF false)) (Ab 4) (gC (.int 1)))) (Ai (Ah (Aa (gC (.str "as")) (Aa (Ah (Aa (gC (.str "as")) (Aa (Ag AR XF (Aa (Ab 0) (Aa (Ab 1) (Aa (Ab 2) (Aa (Ab 3) Ac))))) (Aa (Ag Dl XF (Aa (Ab 0) (Aa (Ab 1) Ac))) Ac)))) (Aa (Ab 1) Ac))))) Al) (Af (gIf (gTB (Ad (Ae (eqF false)) (Ab 4) (gC (.int 2)))) (Ai (Ah (Aa (gC (.str "as")) (Aa (Ah (Aa (gC (.str "as")) (Aa (Ag AR XF (Aa (Ab 0) (Aa (Ag Bk XF (Aa (Ab 0) (Aa (gC (.int 1)) Ac))) (Aa (Ab 2) (Aa (Ab 3) Ac))))) (Aa (Ah (Aa (gC (.str "any")) Ac)) Ac)))) (Aa (Ab 1) Ac))))) Al) (Af (An 5 (Ad (Ae ixW) (Ap (Aa (Ag Bk XF (Aa (Ab 0) (Aa (gC (.int 1)) Ac))) (Aa (Ah (Aa (gC (.str "to")) (Aa (Ag Bk XF (Aa (Ab 0) (Aa (gC (.int 0)) Ac))) (Aa (Ab 1) Ac)))) (Aa (Ah (Aa (gC (.str "box")) (Aa (Ab 1) Ac))) Ac)))) (Ad (Ay (λ_ j=>0 < j) λi j=>i % j) (Ab 4) (gC (.int 3))))) (Af (gIf (gTB (Ad (A9 (λi j=>decide (i < j)) A6) (Ab 4) (gC (.int 6)))) (Af (An 8 (Ad (Ae ixW) (Ap (Aa (gC (.str "x")) (Aa (gC (.str "y")) Ac))) (Ag AJ XF (Aa (Ab 0) (Aa (gC (.int 2)) Ac))))) (Af (An 9 (gB (GP) (Aa (Ab 2) Ac))) (Af (FN (Ab 5) (Ab 9) (Ab 8)) (Af (An 6 (Ah (Aa (gC (.str "fun")) (Aa (Ab 8) (Aa (Ab 5) (Aa (Ag AR XF (Aa (Ab 0) (Aa (Ab 1) (Aa (Ab 9) (Aa (Ab 3) Ac))))) Ac)))))) (Ai (Ah (Aa (gC (.str "call")) (Aa (Ag BS XF (Aa (Ab 0) (Aa (Ab 6) Ac))) (Aa (Ag AR XF (Aa (Ab 0) (Aa (Ab 5) (Aa (Ab 2) (Aa (Ab 3) Ac))))) Ac))))))))) Al) (Af (gIf (gTB (Ad (Ae (eqF false)) (Ab 4) (gC (.int 6)))) (Af (An 6 (Ah (Aa (gC (.str "as")) (Aa (Ag AR XF (Aa (Ab 0) (Aa (Ah (Aa (gC (.str "box")) (Aa (Ab 1) Ac))) (Aa (Ab 2) (Aa (Ab 3) Ac))))) (Aa (Ah (Aa (gC (.str "box")) (Aa (Ab 1) Ac))) Ac))))) (Af (gIf (gTB (Ad (Ae (eqF false)) (Ag AJ XF (Aa (Ab 0) (Aa (gC (.int 2)) Ac))) (gC (.int 0)))) (Ai (Ah (Aa (gC (.str "read")) (Aa (Ag BS XF (Aa (Ab 0) (Aa (Ab 6) Ac))) Ac)))) Al) (Ai (Ah (Aa (gC (.str "write")) (Aa (Ag BS XF (Aa (Ab 0) (Aa (Ab 6) Ac))) (Aa (Ag AR XF (Aa (Ab 0) (Aa (Ab 1) (Aa (Ab 2) (Aa (Ab 3) Ac))))) Ac))))))) Al) (Af (An 5 (Ah (Aa (gC (.str "to")) (Aa (Ag Bk XF (Aa (Ab 0) (Aa (gC (.int 1)) Ac))) (Aa (Ab 1) Ac))))) (Af (An 6 (Ag AR XF (Aa (Ab 0) (Aa (Ab 5) (Aa (Ab 2) (Aa (Ab 3) Ac)))))) (Af (gIf (gTB (Ad (Ae (eqF false)) (Ag AJ XF (Aa (Ab 0) (Aa (gC (.int 2)) Ac))) (gC (.int 0)))) (An 6 (Ah (Aa (gC (.str "as")) (Aa (Ab 6) (Aa (Ag Dl XF (Aa (Ab 0) (Aa (Ab 5) Ac))) Ac))))) Al) (Af (An 6 (Ah (Aa (gC (.str "as")) (Aa (Ab 6) (Aa (Ab 5) Ac))))) (Ai (Ah (Aa (gC (.str "call")) (Aa (Ag BS XF (Aa (Ab 0) (Aa (Ab 6) Ac))) (Aa (Ag AR XF (Aa (Ab 0) (Aa (Ad (Ae ixW) (Ab 5) (gC (.int 1))) (Aa (Ab 2) (Aa (Ab 3) Ac))))) Ac)))))))))))))))))
theorem hZ(T:Tx K mg base a){Ba:Nat}(Fg:Df P w K mg base "_law_take" Ba 2 AJ)(Fh:Ba<=k){JY:Nat}{JX:Spw}(jc:Df P w K mg base "_law_any_first" JY 4 JX)(jd:JY<=k){B7:Nat}(MF:Df P w K mg base "_law_kind" B7 2 Bk)(MG:B7<=k){BR:Nat}(Jw:Df P w K mg base "_law_term" BR 4 AR)(Jx:BR<=k){EG:Nat}(gX:Df P w K mg base "_law_dim" EG 2 Dl)(gY:EG<=k){CN:Nat}(Ur:Df P w K mg base "_law_blur" CN 2 BS)(Us:CN<=k):Dn P w K mg base Ux "_law_around" LX k (M2 AJ JX Bk AR Dl BS):=by
 have hN:=Uy.nd
 walk_at "z"
mutual
def plW:W->Bool
 | .str _=>true
 | .bl _=>true
 | .int _=>true
 | .tup xs=>plL xs
 | _=>false
def plL:List W->Bool
 | []=>true
 | x::xs=>plW x&&plL xs
end
theorem M3(h:plL (x::xs)=true):plW x=true/\plL xs=true:=Bool.and_eq_true_iff.mp h
theorem Uz{a b:Bool}(h1:eqD x y=some a)(h2:Bj xs ys=some b):Bj (x::xs) (y::ys)=some (a&&b):=by
 show(match eqD x y,Bj xs ys with | some a,some b=>some (a&&b)| _,_=>none)=_
 rw[h1,h2]
mutual
theorem plD:∀(x y:W),plW x=true->plW y=true->∃ b,eqD x y=some b
 | .tup s,.tup t,h,h'=>M4 s t h h'
 | .str _,y,_,h=>by cases y <;> first | exact⟨_,rfl⟩| cases h
 | .bl _,y,_,h=>by cases y <;> first | exact⟨_,rfl⟩| cases h
 | .int _,y,_,h=>by cases y <;> first | exact⟨_,rfl⟩| cases h
 | .tup _,.str _,_,_=>⟨false,rfl⟩
 | .tup _,.bl _,_,_=>⟨false,rfl⟩
 | .tup _,.int _,_,_=>⟨false,rfl⟩
 | .tup _,.non,_,h=>by cases h
 | .tup _,.rol _,_,h=>by cases h
 | .tup _,.ref _,_,h=>by cases h
 | .non,_,h,_=>by cases h
 | .rol _,_,h,_=>by cases h
 | .ref _,_,h,_=>by cases h
theorem M4:∀(xs ys:List W),plL xs=true->plL ys=true->∃ b,Bj xs ys=some b
 | [],[],_,_=>⟨true,rfl⟩
 | [],_::_,_,_=>⟨false,rfl⟩
 | _::_,[],_,_=>⟨false,rfl⟩
 | x::xs,y::ys,h,h'=>by
  obtain⟨h1,h2⟩:=M3 h
  obtain⟨d,a⟩:=M3 h'
  obtain⟨b,e⟩:=plD x y h1 d
  obtain⟨c,f⟩:=M4 xs ys h2 a
  exact⟨b&&c,Uz e f⟩
end
mutual
theorem Fo:∀ k:Kd,plW k.enc=true
 | .any=>rfl
 | .num=>rfl
 | .truth=>rfl
 | .to x y=>by
  have h1:=Fo x
  have h2:=Fo y
  show(true&&(plW x.enc&&(plW y.enc&&true)))=true
  rw[h1,h2];rfl
 | .box x=>by
  have h1:=Fo x
  show(true&&(plW x.enc&&true))=true
  rw[h1];rfl
 | .row fs o=>by
  have h1:=M5 fs
  show(true&&(plL fs.enc&&(true&&true)))=true
  rw[h1];rfl
theorem M5:∀ fs:Fs,plL fs.enc=true
 | .nil=>rfl
 | .cons n m k r=>by
  have h1:=Fo k
  have h2:=M5 r
  show((true&&(true&&(plW k.enc&&true)))&&plL r.enc)=true
  rw[h1,h2];rfl
end
def PT(x:W):Prop:=∃ xs,x=.tup xs/\plL xs=true/\L3.dpL xs < 90
variable {neg:Bool}
theorem UA(h:PT x)(h':PT y)(G:Hw):∃ b,eqF neg x y G=some (.bl b):=by
 obtain⟨xs,rfl,h1,h2⟩:=h
 obtain⟨ys,rfl,a,c⟩:=h'
 obtain⟨b,e⟩:=M4 xs ys h1 a
 refine⟨b != neg,?_⟩
 show(if L3.dpL xs < 90 then Bj xs ys else none).map _=_
 rw[if_pos h2,e];rfl
theorem EH{k:Kd}(h:k.dp<=20):PT k.enc:=by
 obtain⟨xs,e⟩:=Hd k
 have h1:=Fo k
 have h2:=EE k
 rw[e]at h1 h2
 have a:L3.dpL (.str k.hd::xs)+1<=3*k.dp:=h2
 exact⟨_,e,h1,by omega⟩
theorem UB:PT (.tup []):=⟨[],rfl,rfl,by decide⟩
theorem Gc{Z:W->Prop}(h:PT x)(h':PT y)(q:∀ b,Z (.bl b)):opt (eqF neg x y G) Z:=by
 obtain⟨b,e⟩:=UA (neg:=neg) h h' G
 rw[e,Ak];exact q b
def kb(m:Nat):Nat:=19 - 5*m
def kp(m:Nat):Nat:=5 - m
def tb:Nat->Nat | 0=>38 | m+1=>3*tb m+6
def td(m:Nat):Nat:=10+4*m
theorem Gd:∀ m,38<=tb m
 | 0=>Yr _
 | m+1=>by have:=Gd m;show 38<=3*tb m+6;omega
theorem KdOk.mono{a:Nat}{k:Kd}(h:KdOk c d k)(hc:c<=a)(hd:d<=d'):KdOk a d' k:=⟨h.1,Yt h.2.1 hc,Yt h.2.2 hd⟩
theorem KdOk.ok{k:Kd}(h:KdOk (kb m) (kp m) k):KOk k:=by
 refine⟨h.1,?_⟩
 have h2:=h.2
 unfold kb kp at h2
 unfold Bd
 rw[YN];omega
theorem KdOk.down{k:Kd}(h:KdOk (kb (m+1)) (kp (m+1)) k):KdOk (kb m) (kp m) k:=h.mono (by unfold kb;omega) (by unfold kp;omega)
theorem KdOk.pt{k:Kd}(h:KdOk (kb m) (kp m) k):PT k.enc:=EH (by have:=h.2.2;unfold kp at this;omega)
def kvK(l:List (Str×Kd)):List (Key×W):=l.map λx=>(Sum.inr x.1,x.2.enc)
def Nm(m:Nat)(p:Addr)(G:Hw):Prop:=∃ l:List (Str×Kd),G p=some (.dct (kvK l))/\(∀ x∈l,AC x.1=true/\KdOk (kb m) (kp m) x.2)/\l.length+m<=3
theorem Nm.down(h:Nm (m+1) p G):Nm m p G:=by
 obtain⟨l,h1,h2,b⟩:=h
 exact⟨l,h1,λx a=>⟨(h2 x a).1,(h2 x a).2.down⟩,by omega⟩
theorem Nm.hs{a:Hw}(h:Nm m p G)(hs:St s G)(b:Hs s G a):Nm m p a:=by
 obtain⟨l,h1,h2,c⟩:=h
 obtain⟨x,f,e⟩:=hs
 refine⟨l,b.2 p ?_ _ h1,h2,c⟩
 rintro rfl
 rw[h1]at e;cases e
variable {q:Addr}
theorem Nm.put(h:Nm m p G)(a:G q=none):Nm m p (put G q o):=by
 obtain⟨l,h1,h2,b⟩:=h
 exact⟨l,AB a _ _ h1,h2,b⟩
variable {z:Str}
theorem h0{k:Kd}(i:AC z=true)(g:KdOk c d k)(l:List (Str×Kd))(h:∀ x∈l,AC x.1=true/\KdOk c d x.2):∃ b,BC (kvK l) (Sum.inr z) k.enc=kvK b/\(∀ x∈b,AC x.1=true/\KdOk c d x.2)/\b.length<=l.length+1:=by
 unfold BC
 split
 ·refine⟨l.map λx=>if x.1=z then(x.1,k)else x,?_,?_,by rw[Yh];omega⟩
  ·unfold kvK
   rw[YB,YB]
   refine List.map_congr_left λx _=>?_
   show(if(Sum.inr x.1:Key)=Sum.inr z then _ else _)=_
   by_cases e:x.1=z
   ·rw[if_pos (by rw[e])];simp only[Function.comp,if_pos e]
   ·rw[if_neg λh=>e (Sum.inr.inj h)];simp only[Function.comp,if_neg e]
  ·intro x a
   obtain⟨y,f,rfl⟩:=YC.mp a
   split
   ·exact⟨(h y f).1,g⟩
   ·exact h y f
 ·refine⟨l++[(z,k)],by unfold kvK;rw[Yy];rfl,λx a=>?_,by rw[Yj];exact Yr _⟩
  rcases Yz.mp a with a | a
  ·exact h x a
  ·rw[YA.mp a];exact⟨i,g⟩
theorem Nm.new(h:Nm (m+1) p G){k:Kd}(f:AC z=true)(j:KdOk (kb m) (kp m) k):∃ kvs,G p=some (.dct kvs)/\kvs.length < sizeLine/\∀ l c,c l=some (.dct (BC kvs (Sum.inr z) k.enc))->Nm m l c:=by
 obtain⟨l,h1,h2,n⟩:=h
 obtain⟨g,e,a,b⟩:=h0 f j l λx d=>⟨(h2 x d).1,(h2 x d).2.down⟩
 exact⟨_,h1,by unfold kvK;rw[Yh];exact Bl (by omega),λq c i=>⟨g,by rw[<- e];exact i,a,by omega⟩⟩
theorem Nm.get(h:Nm m p G)(z:Str):∃ kvs,G p=some (.dct kvs)/\PT (BP kvs z (.tup [])):=by
 obtain⟨l,h1,h2,_⟩:=h
 refine⟨_,h1,?_⟩
 have go:∀ l:List (Str×Kd),(∀ x∈l,AC x.1=true/\KdOk (kb m) (kp m) x.2)->PT (BP (kvK l) z (.tup [])):=by
  intro l
  induction l with
  | nil=>intro _;exact UB
  | cons x l a =>
   intro h
   show PT (BP ((Sum.inr x.1,x.2.enc)::kvK l) z _)
   rw[GJ]
   split
   ·exact(h x Ye).2.pt
   ·exact a λy b=>h y (Yd _ b)
 exact go l h2
abbrev CO(n:Nat):Spw:=DV (λ(x:Kd×Nat×Addr)s ws G=>ws=[.ref s,x.1.enc,.ref x.2.2,.int (x.2.1:Nat)]/\x.2.1 < n/\x.2.1<=3/\KdOk (kb x.2.1) (kp x.2.1) x.1/\Nm x.2.1 x.2.2 G) λx _ r _=>∃ t:Te,r=t.enc/\TmB (tb x.2.1) (td x.2.1) t
abbrev JZ(n:Nat):Spw:=DV (λ(x:Kd×Nat×Addr)s ws G=>ws=[.ref s,x.1.enc,.ref x.2.2,.int (x.2.1:Nat)]/\x.2.1 < n/\x.2.1+1<=3/\KdOk (kb (x.2.1+1)) (kp (x.2.1+1)) x.1/\Nm (x.2.1+1) x.2.2 G) λx _ r _=>∃ t:Te,r=t.enc/\TmB (2*tb x.2.1+5) (td x.2.1+4) t
abbrev UC(n:Nat):Spw:=DV (λ(x:Kd×Nat×Addr)s ws G=>ws=[.ref s,x.1.enc,.ref x.2.2,.int (x.2.1:Nat)]/\x.2.1 < n/\x.2.1+1<=3/\KdOk (kb (x.2.1+1)) (kp (x.2.1+1)) x.1/\Nm (x.2.1+1) x.2.2 G) λx s r G'=>∃ q,∃ ts:List Te,r=.ref q/\q≠s/\G' q=some (.lst (ts.map Te.enc))/\(∀ t∈ts,TmB (tb x.2.1+3) (td x.2.1+2) t)/\ts.length<=1000
theorem Bx{k:Kd}{i:Int}(f:m < n)(b:m<=3)(g:KdOk (kb m) (kp m) k)(c:Nm m p G)(hs:St s G)(hi:i=(m:Int))(q:∀(t:Te)a,TmB (tb m) (td m) t->Hs s G a->Z t.enc a):CO n [.ref s,k.enc,.ref p,.int i] G Z E:=by
 subst hi
 exact⟨(k,m,p),s,⟨rfl,f,b,g,c⟩,hs,λr a⟨t,e,d⟩h=>by rw[e];exact q t a d h⟩
theorem EI(b:m < 2)(hs:St s G)(q:∀(k:Kd)a,KdOk 4 2 k->Hs s G a->Z k.enc a):Gb 2 [.ref s,.int (m:Nat)] G Z E:=by
 have hc:kc m<=4:=by
  have:m=0\/m=1:=by omega
  rcases this with rfl | rfl <;> decide
 exact⟨m,s,⟨rfl,b⟩,hs,λr a⟨k,e,c⟩d=>by rw[e];exact q k a (c.mono hc (by omega)) d⟩
theorem EJ(b:TmB c d t)(hs:St s G)(q:∀(t:Te)a,TmB (c+1) (d+1) t->Hs s G a->Z t.enc a):DX [.ref s,t.enc] G Z E:=by
 refine⟨t,s,rfl,hs,λr a e g=>?_⟩
 obtain⟨u,rfl,f⟩:=hR b e
 exact q u a f g
theorem UD{k:Kd}(a:KdOk c d k)(hd:d<=8)(hs:St s G)(q:∀(k:Kd)b,KdOk c d k->Hs s G b->Z k.enc b):MV 8 [.ref s,k.enc] G Z E:=by
 refine⟨k,s,⟨rfl,a.1,Yt a.2.2 hd⟩,hs,λr b⟨g,e,f⟩h=>by rw[e];exact q g b (f.mono a.2.1 a.2.2) h⟩
theorem h6(h:x∈[W.str "x",.str "y"]):∃ z:Str,x=.str z/\AC z=true:=by
 simp only[Yo,YY,or_false]at h
 rcases h with rfl | rfl
 ·exact⟨_,rfl,by decide +kernel⟩
 ·exact⟨_,rfl,by decide +kernel⟩
theorem Ht:AC "a"=true:=by decide +kernel
theorem ia:AC "b"=true:=by decide +kernel
theorem J0:KTD.datumAt ("call":Str) AX=some [("term":Str),"term"]:=by decide +kernel
theorem M6:KTD.datumAt ("write":Str) AX=some [("term":Str),"term"]:=by decide +kernel
theorem ib:KTD.datumAt ("plus":Str) AX=some [("term":Str),"term"]:=by decide +kernel
theorem ic:KTD.datumAt ("less":Str) AX=some [("term":Str),"term"]:=by decide +kernel
theorem M7:KTD.datumAt ("read":Str) AX=some [("term":Str)]:=by decide +kernel
theorem D0(J:Sw->Hw->Prop){A R:GS}(h1:∀ ω' a,J ω' a->R D ω' a)(h2:(∀ ω' a,J ω' a->R D ω' a)->Af A R D ω G):Af A R D ω G:=h2 h1
theorem ie{k:Kd}(N:m < n)(hm3:m+1<=3)(hk:KdOk (kb (m+1)) (kp (m+1)) k)(O:Nm (m+1) p G)(hs:St s G)(q:∀ r X,(∃ t:Te,r=t.enc/\TmB (2*tb m+5) (td m+4) t)->Hs s G X->Q r X):M1 (Gb 2) (CO n) Cz (Av Q) [some (.ref s),some k.enc,some (.ref p),some (.int (m:Nat)),none,none,none] G:=by
 have w:∀{k:Kd},KdOk 4 2 k->KdOk (kb m) (kp m) k:=λh=>h.mono (by unfold kb;omega) (by unfold kp;omega)
 unfold M1
 refine AL ?_
 walk_at "pF"
 refine EI (m:=1) (by decide) hs λk1 G1 K d=>?_
 refine Bx N (by omega) (w K) (O.hs hs d).down d.1 rfl λa G2 R J=>?_
 have c:=d.trans J
 refine⟨by decide,(show 3<=sizeLine by decide),AL ?_⟩
 simp only[Ag,Ab,gC,Aa,Ac,Yb,Yc,Yk,Yl]
 refine EI (m:=0) (by decide) c.1 λk2 G3 l D=>?_
 have c:=c.trans D
 refine Bx N (by omega) (w l) (O.hs hs c).down D.1 rfl λj G4 A H=>?_
 have c:=c.trans H
 refine AL ?_
 simp only[Ap,Ah,Ab,gC,Aa,Ac,Yb,Yc,Yk,Yl]
 refine⟨(show 3<=sizeLine by decide),(show 2<=sizeLine by decide),(show 3<=sizeLine by decide),(show 3<=sizeLine by decide),(show 4<=sizeLine by decide),λz I=>?_⟩
 have i:=Hs.ne c.1 I
 have f:=c.put (o:=.lst ([Te.nd "call" (.trm (.nd "as" (.trm a (.knd .any .nil))) (.trm j .nil)),.nd "read" (.trm (.nd "as" (.trm a (.knd .any .nil))) .nil),.nd "write" (.trm (.nd "as" (.trm a (.knd .any .nil))) (.trm j .nil)),.nd "get" (.trm (.nd "as" (.trm a (.knd .any .nil))) (.nam "a" .nil))].map Te.enc)) I
 simp only[Af,Aw,gMt,Ah,Ag,Ab,gC,Aa,Ac,Yb,Yc,Yk,Yl]
 refine⟨Bv Aj,?_⟩
 refine Bx N (by omega) hk.down (O.hs hs f).down f.1 rfl λU G6 F g=>?_
 refine⟨(show 4<=sizeLine by decide),?_⟩
 have L:=g.2 z i _ Aj
 refine Ck L (show 4 < sizeLine by decide) ?_
 simp only[Ai,Ad,Ag,Ab,gC,Aa,Ac,Yb,Yc]
 have B:Hs s G (put G6 z (.lst ([Te.nd "call" (.trm (.nd "as" (.trm a (.knd .any .nil))) (.trm j .nil)),.nd "read" (.trm (.nd "as" (.trm a (.knd .any .nil))) .nil),.nd "write" (.trm (.nd "as" (.trm a (.knd .any .nil))) (.trm j .nil)),.nd "get" (.trm (.nd "as" (.trm a (.knd .any .nil))) (.nam "a" .nil)),.nd "or" (.trm (.nd "as" (.trm a (.knd .any .nil))) (.nam "a" (.trm U .nil)))].map Te.enc))):=⟨(Hs2.set g.1 i).1,λb E u T=>by
  have P:b≠z:=AI (c.2 b E u T) I
  rw[Aq P];exact g.2 b E u (f.2 b E u T)⟩
 refine BW (by decide) (by decide) B.1 λr Y r0 r5 v=>?_
 obtain⟨x,Z,e⟩:=Fk (xs:=[Te.nd "call" (.trm (.nd "as" (.trm a (.knd .any .nil))) (.trm j .nil)),.nd "read" (.trm (.nd "as" (.trm a (.knd .any .nil))) .nil),.nd "write" (.trm (.nd "as" (.trm a (.knd .any .nil))) (.trm j .nil)),.nd "get" (.trm (.nd "as" (.trm a (.knd .any .nil))) (.nam "a" .nil)),.nd "or" (.trm (.nd "as" (.trm a (.knd .any .nil))) (.nam "a" (.trm U .nil)))].map Te.enc) (v.2 z i _ Aj) r0 (by exact r5)
 show opt (ixW (.ref z) (.int r) Y) _
 rw[e,Ak]
 obtain⟨t,S,rfl⟩:=YC.mp Z
 have y:=CB R Hr
 have h38:=Gd m
 refine q _ _ ⟨t,rfl,?_⟩ (B.trans v)
 walk_at "pM"
 rcases S with rfl | rfl | rfl | rfl | rfl
 ·exact(DW J0 y (A.mono (Yr _) (by omega))).mono (by omega) (by omega)
 ·exact(JN M7 y).mono (by omega) (by omega)
 ·exact(DW M6 y (A.mono (Yr _) (by omega))).mono (by omega) (by omega)
 ·exact(MS y Ht).mono (by omega) (by omega)
 ·exact(Ui y Ht (F.mono (Yr _) (by omega))).mono (by omega) (by omega)
theorem JY(T:Tx K mg base a)(c:10<=k)(D:Df P w K mg base "_law_term" k 4 (CO n)):Df P w K mg base "_law_any_first" (k+1) 4 (JZ n):=by
 refine mk0 T.dO rfl Uw CA (λf G Q E⟨x,s,⟨e,_⟩,_⟩=>by rw[e];rfl) (hY T (B7 T 2) (by omega) D (Yr _) (Ba T) (by omega)) λf G Q E h q=>?_
 obtain⟨⟨k,m,p⟩,s,⟨rfl,g,b,c,d⟩,hs,q⟩:=q
 exact ie g b c d hs q
theorem ig{k:Kd}(H:m < n)(hm3:m+1<=3)(S:KdOk (kb (m+1)) (kp (m+1)) k)(J:Nm (m+1) p G)(hs:St s G)(q:∀ r G',(∃ t:Te,r=t.enc/\TmB (2*tb m+5) (td m+4) t)->Hs s G G'->Q r G'):M2 Cz (JZ n) (Gb 2) (CO n) (MV 8) DX (Av Q) [some (.ref s),some k.enc,some (.ref p),some (.int (m:Nat)),none,none,none,none,none,none] G:=by
 have I:∀{k:Kd},KdOk 4 2 k->KdOk (kb m) (kp m) k:=λh=>h.mono (by unfold kb;omega) (by unfold kp;omega)
 have h38:=Gd m
 have E:=S.down
 have hp3:kp (m+1)<=8:=by unfold kp;omega
 have ktb:∀{i:Kd},KdOk 4 2 i->KdOk (kb m) (kp m) (.to i k):=λ{i}h=>by
  obtain⟨a1,a2,a3⟩:=h
  obtain⟨b1,b2,b3⟩:=S
  refine⟨?_,?_,?_⟩
  ·show(i.ok&&k.ok)=true;rw[a1,b1];rfl
  ·show 1+(i.cnt+k.cnt)<=_;unfold kb at b2 ⊢;omega
  ·show 1+max i.dp k.dp<=_;unfold kp at b3 ⊢;omega
 have N:KdOk (kb m) (kp m) (.box k):=by
  obtain⟨b1,b2,b3⟩:=S
  refine⟨b1,?_,?_⟩
  ·show 1+k.cnt<=_;unfold kb at b2 ⊢;omega
  ·show 1+k.dp<=_;unfold kp at b3 ⊢;omega
 unfold M2
 refine AL ?_
 simp only[Ag,Ab,gC,Aa,Ac,Yb]
 refine BW (by decide) (by decide) hs λr G1 r0 r1 F=>?_
 have T:=J.hs hs F
 simp only[Yk,Yl,Af,gIf,gTB,Ad,Bb,Ab,gC,Yb,Yc]
 walk_at "pb"
 ·simp only[Ai,Ag,Ab,Aa,Ac,Yb,Yc]
  exact⟨(k,m,p),s,⟨rfl,H,hm3,S,T⟩,F.1,λr' Y y b=>q r' Y y (F.trans b)⟩
 have h7:r<=7:=by
  have:¬ (7:Int) < r:=λz=>h (YG z)
  omega
 simp only[Al,Ae,Bm,Ak]
 walk_at "pb"
 ·show Af (An 7 _) _ _ _ _
  refine AL ?_
  walk_at "pE"
  refine EI (m:=1) (by decide) F.1 λP Y B b=>?_
  refine Ga rfl (by decide) (by decide) b.1 λx O U f=>?_
  have K:∃ i:Kd,x=i.enc/\KdOk (kb m) (kp m) i:=by
   simp only[Yo,YY,or_false]at O
   rcases O with rfl | rfl | rfl
   ·exact⟨k,rfl,E⟩
   ·exact⟨k,rfl,E⟩
   ·exact⟨P,rfl,I B⟩
  obtain⟨i,rfl,w⟩:=K
  have f:=(F.trans b).trans f
  simp only[Ai,Ah,Ag,Ab,gC,Aa,Ac,Yb,Yc,Yk,Yl]
  refine Bx H (by omega) w (J.hs hs f).down f.1 rfl λt G4 y j=>?_
  refine⟨by decide,(show 3<=sizeLine by decide),q _ _ ⟨.nd "as" (.trm t (.knd .any .nil)),rfl,(CB y Hr).mono (by omega) (by omega)⟩ (f.trans j)⟩
 walk_at "pb"
 ·simp only[Ai,Ah,Ag,Ab,gC,Aa,Ac,Yb,Yc,Yk,Yl]
  refine Bx H (by omega) E T.down F.1 rfl λt Y y b=>?_
  refine UD S hp3 b.1 λi U w f=>?_
  refine⟨(show 3<=sizeLine by decide),(show 3<=sizeLine by decide),q _ _ ⟨.nd "as" (.trm (.nd "as" (.trm t (.knd i .nil))) (.knd k .nil)),rfl,(CB (CB y w.ok) S.ok).mono (by omega) (by omega)⟩ ((F.trans b).trans f)⟩
 walk_at "pb"
 ·simp only[Ai,Ah,Ag,Ab,gC,Aa,Ac,Yb,Yc,Yk,Yl]
  refine EI (m:=1) (by decide) F.1 λP Y B b=>?_
  have b:=F.trans b
  refine Bx H (by omega) (I B) (J.hs hs b).down b.1 rfl λt U y f=>?_
  refine⟨by decide,(show 3<=sizeLine by decide),(show 3<=sizeLine by decide),q _ _ ⟨.nd "as" (.trm (.nd "as" (.trm t (.knd .any .nil))) (.knd k .nil)),rfl,(CB (CB y Hr) S.ok).mono (by omega) (by omega)⟩ (b.trans f)⟩
 simp only[Al]
 show Af (An 5 _) _ _ _ _
 refine AL ?_
 simp only[Ad,Ap,Ah,Ag,Ab,gC,Ay,Aa,Ac,Yb,Yc]
 refine EI (m:=1) (by decide) F.1 λP Y B b=>?_
 refine EI (m:=0) (by decide) b.1 λk0 U hk0 f=>?_
 have f:=(F.trans b).trans f
 refine⟨(show 3<=sizeLine by decide),(show 2<=sizeLine by decide),(show 3<=sizeLine by decide),λz hz=>⟨by decide,?_⟩⟩
 obtain⟨x,O,e⟩:=Fk (r:=r % 3) (G:=put U z (.lst [P.enc,.tup [.str "to",k0.enc,k.enc],.tup [.str "box",k.enc]])) Aj (by omega) (by show r % 3 < 3;omega)
 show opt (ixW (.ref z) (.int (r % 3)) _) _
 rw[e,Ak]
 have K:∃ i:Kd,x=i.enc/\KdOk (kb m) (kp m) i:=by
  simp only[Yo,YY,or_false]at O
  rcases O with rfl | rfl | rfl
  ·exact⟨P,rfl,I B⟩
  ·exact⟨.to k0 k,rfl,ktb hk0⟩
  ·exact⟨.box k,rfl,N⟩
 obtain⟨i,rfl,w⟩:=K
 have j:=f.put (o:=.lst [P.enc,.tup [.str "to",k0.enc,k.enc],.tup [.str "box",k.enc]]) hz
 generalize put U z (.lst [P.enc,.tup [.str "to",k0.enc,k.enc],.tup [.str "box",k.enc]])=G4 at j ⊢
 simp only[Yk,Yl,Af,gIf,gTB,Ad,A9,Ab,gC,Yb,Yc]
 walk_at "pb"
 ·show Af (An 8 _) _ _ _ _
  refine AL ?_
  walk_at "pE"
  refine Ga rfl (by decide) (by decide) j.1 λx O G5 c=>?_
  obtain⟨v,rfl,hv⟩:=h6 O
  have c:=j.trans c
  refine AL ?_
  simp only[gB,Ab,Aa,Ac,Yb,Yc,Yk,Yl]
  have hn5:=J.hs hs c
  obtain⟨D,e1,e2,e3⟩:=hn5.new hv w
  refine⟨p,D,rfl,e1,λl hl=>?_⟩
  simp only[Af,FN,Ab,Yb,Yc,Yk,Yl]
  refine⟨l,D,v,rfl,rfl,Aj,e2,?_⟩
  rw[GQ]
  have d:=c.put (o:=.dct (BC D (Sum.inr v) i.enc)) hl
  have Z:=e3 l (put G5 l (.dct (BC D (Sum.inr v) i.enc))) Aj
  generalize put G5 l (.dct (BC D (Sum.inr v) i.enc))=G6 at d Z ⊢
  simp only[An,Ah,Ag,Ab,gC,Aa,Ac,Yb,Yc,Yk,Yl]
  refine Bx H (by omega) E Z d.1 rfl λt G7 y a=>?_
  have a:=d.trans a
  refine⟨(show 4<=sizeLine by decide),?_⟩
  simp only[Ai,Ah,Ag,Ab,gC,Aa,Ac,Yb,Yc,Yk,Yl]
  refine EJ (t:=.nd "fun" (.nam v (.knd i (.trm t .nil)))) (MT hv w.ok y) a.1 λu G8 L g=>?_
  have g:=a.trans g
  refine Bx H (by omega) w (J.hs hs g).down g.1 rfl λt' G9 A hg9=>?_
  exact⟨(show 3<=sizeLine by decide),q _ _ ⟨.nd "call" (.trm u (.trm t' .nil)),rfl,(DW J0 L (A.mono (Yr _) (by omega))).mono (by omega) (by omega)⟩ (g.trans hg9)⟩
 simp only[Al,Ae,Bm,Ak]
 walk_at "pb"
 ·show Af (An 6 _) _ _ _ _
  refine AL ?_
  walk_at "pF"
  refine⟨(show 2<=sizeLine by decide),?_⟩
  refine Bx (k:=.box k) H (by omega) N (J.hs hs j).down j.1 rfl λt G5 y c=>?_
  have c:=j.trans c
  refine⟨(show 2<=sizeLine by decide),(show 3<=sizeLine by decide),?_⟩
  simp only[Af,gIf,gTB,Ad,Ag,Ab,gC,Aa,Ac,Yb,Yc,Yk,Yl]
  refine BW (by decide) (by decide) c.1 λr' G6 r0' r1' d=>?_
  have d:=c.trans d
  have X:TmB (tb m+1) (td m+1) (.nd "as" (.trm t (.knd (.box k) .nil))):=CB y N.ok
  simp only[Ae,Bm,Ak]
  walk_at "pb"
  ·simp only[Ai,Ah,Ag,Ab,gC,Aa,Ac,Yb,Yc]
   refine EJ (t:=.nd "as" (.trm t (.knd (.box k) .nil))) X d.1 λu G7 L a=>?_
   exact⟨(show 2<=sizeLine by decide),q _ _ ⟨.nd "read" (.trm u .nil),rfl,(JN M7 L).mono (by omega) (by omega)⟩ (d.trans a)⟩
  ·simp only[Al,Ai,Ah,Ag,Ab,gC,Aa,Ac,Yb,Yc]
   refine EJ (t:=.nd "as" (.trm t (.knd (.box k) .nil))) X d.1 λu G7 L a=>?_
   have a:=d.trans a
   refine Bx H (by omega) E (J.hs hs a).down a.1 rfl λt' G8 A g=>?_
   exact⟨(show 3<=sizeLine by decide),q _ _ ⟨.nd "write" (.trm u (.trm t' .nil)),rfl,(DW M6 L (A.mono (Yr _) (by omega))).mono (by omega) (by omega)⟩ (a.trans g)⟩
 simp only[Al]
 show Af (An 5 _) _ _ _ _
 refine AL ?_
 walk_at "pF"
 refine EI (m:=1) (by decide) j.1 λk5 G5 hk5 c=>?_
 have c:=j.trans c
 walk_at "pI"
 have R:=ktb hk5
 refine AL ?_
 simp only[Ag,Ab,Aa,Ac,Yb,Yc,Yk,Yl]
 refine Bx (k:=.to k5 k) H (by omega) R (J.hs hs c).down c.1 rfl λt G6 y d=>?_
 have d:=c.trans d
 refine D0 (λω' G'=>∃ u:Te,ω'=[some (.ref s),some k.enc,some (.ref p),some (.int (m:Nat)),some (.int r),some (Kd.to k5 k).enc,some u.enc,none,none,none]/\TmB (tb m+1) (td m+1) u/\Hs s G G') ?_ (λAo=>?_)
 ·rintro ω' G' ⟨u,rfl,L,hgu⟩
  refine AL ?_
  simp only[Ah,Ab,gC,Aa,Ac,Yb,Yc,Yk,Yl]
  walk_at "pI"
  simp only[Ai,Ah,Ag,Ad,Ab,gC,Aa,Ac,Yb,Yc]
  refine EJ (t:=.nd "as" (.trm u (.knd (.to k5 k) .nil))) (CB L R.ok) hgu.1 λv G7 hv a=>?_
  have a:=hgu.trans a
  simp only[Ae,Kd.enc,ixW,A0,Ak]
  refine Bx H (by omega) (I hk5) (J.hs hs a).down a.1 rfl λt' G8 A g=>?_
  exact⟨(show 3<=sizeLine by decide),q _ _ ⟨.nd "call" (.trm v (.trm t' .nil)),rfl,(DW J0 hv (A.mono (Yr _) (by omega))).mono (by omega) (by omega)⟩ (a.trans g)⟩
 simp only[Af,gIf,gTB,Ad,Ag,Ab,gC,Aa,Ac,Yb,Yc,Yk,Yl]
 refine BW (by decide) (by decide) d.1 λr' G7 r0' r1' a=>?_
 have a:=d.trans a
 simp only[Ae,Bm,Ak]
 walk_at "pb"
 ·simp only[An,Ah,Ag,Ab,gC,Aa,Ac,Yb,Yc,Yk,Yl]
  refine UD (k:=.to k5 k) (R.mono (Yr _) (Yr _)) (by unfold kp;omega) a.1 λi G8 w g=>?_
  exact⟨(show 3<=sizeLine by decide),Ao _ _ ⟨.nd "as" (.trm t (.knd i .nil)),rfl,CB y w.ok,a.trans g⟩⟩
 ·simp only[Al]
  exact Ao _ _ ⟨t,rfl,y.mono (by omega) (by omega),a⟩
theorem JW(T:Tx K mg base a)(c:10<=k)(D:Df P w K mg base "_law_term" k 4 (CO n)):Df P w K mg base "_law_around" (k+2) 4 (JZ n):=by
 refine mk0 (k:=k+1) T.dP rfl Uy CA (λf G Q E⟨x,s,⟨e,_⟩,_⟩=>by rw[e];rfl) (hZ T (Ba T) (by omega) (JY T c D) (by omega) (B7 T 2) (by omega) D (by omega) (EG T 8) (by omega) (CN T) (by omega)) λf G Q E h q=>?_
 obtain⟨⟨k,m,p⟩,s,⟨rfl,g,b,c,d⟩,hs,q⟩:=q
 exact ig g b c d hs q
theorem KdOk.kid{k x:Kd}(h:KdOk c d k)(a:x∈k.kids):KdOk c d x:=⟨GW h.1 x a,by have:=P3 a;have:=h.2.1;omega,by have:=E6 a;have:=h.2.2;omega⟩
theorem UE{x:Str}{k:Kd}(h:k.dp<=20):PT (.tup [.str x,k.enc]):=by
 refine⟨_,rfl,?_,?_⟩
 ·show(true&&(plW k.enc&&true))=true;rw[Fo];rfl
 ·have:=EE k
  show max 0 (max (dpW k.enc) 0) < 90;omega
theorem UF{c d:Nat}{y:Str}:∀{l:List (Str×Kd)},(∀ x∈l,AC x.1=true/\KdOk c d x.2)->y∈l.map (·.1)->∃ k:Kd,atT (kvK l) y=some k.enc/\KdOk c d k/\AC y=true
 | x::l,h,f=>by
  by_cases e:x.1=y
  ·refine⟨x.2,?_,(h x Ye).2,by rw[<- e];exact(h x Ye).1⟩
   show(((Sum.inr x.1,x.2.enc)::kvK l).find? λz=>decide (z.1=Sum.inr y)).map (·.2)=_
   rw[List.find?_cons_of_pos (by simp[e])];rfl
  ·have a:y∈l.map (·.1):=by
    rcases Yo.mp f with z | z
    ·exact absurd z.symm e
    ·exact z
   obtain⟨k,h1,h2⟩:=UF (l:=l) (λz b=>h z (Yd _ b)) a
   refine⟨k,?_,h2⟩
   show(((Sum.inr x.1,x.2.enc)::kvK l).find? λz=>decide (z.1=Sum.inr y)).map (·.2)=_
   rw[List.find?_cons_of_neg (by simpa using λz=>e z)];exact h1
theorem ii(l:List (Str×Kd)):(kvK l).map (·.1)=(l.map (·.1)).map Sum.inr:=by
 unfold kvK
 rw[YB,YB];rfl
theorem M8{w:Kd}{R:List W->Hw->Prop}{G:Hw}(hw:w.dp<=20):∀(l:List Fd)(o:Option W)(a:List Str),(∀ x∈l,AC x.1=true/\x.2.2.dp<=20)->a.length+l.length<=1000->(∀ ns:List Str,ns.length<=a.length+l.length->(∀ n∈ns,n∈a\/AC n=true)->R (ns.map W.str) G)->
  AV yes (gNm 0) (gTB (Ad (Ae (eqF false)) (AN (Ab 0) (AG (gC (.int 1))) AF) (Ah (Aa (gC (.str "must")) (Aa (Ab 1) Ac))))) (Ad (Ae ixW) (Ab 0) (gC (.int 0))) R (l.map Bw) [o,some w.enc] G (a.map W.str)
 | [],o,a,_,_,c=>⟨trivial,c a (YX _ _) λn d=>.inl d⟩
 | x::l,o,a,i,hl,c=>by
  rw[Yg]at hl c
  obtain⟨k,j⟩:=i x Ye
  refine⟨trivial,by rw[Yh];exact Bl (by omega),?_⟩
  simp only[gNm,Yk,gTB,Ad,AN,AG,AF,Ah,Aa,Ac,Ab,gC,Yb,Yc,Bw]
  refine DU ?_
  rw[CJ]
  refine⟨(show 2<=sizeLine by decide),Gc (UE j) (UE hw) λb=>?_⟩
  walk_at "pb"
  ·simp only[Ae,ixW,Bf,Ak]
   have z:=M8 (R:=R) (G:=G) hw l (some (Bw x)) (a++[x.1]) (λy g=>i y (Yd _ g)) (by rw[Yj];simp only[Yg,Yi];omega) λns f e=>c ns (by rw[Yj]at f;simp only[Yg,Yi]at f;omega) λn d=>by
    rcases e n d with z | z
    ·rcases Yz.mp z with z | z
     ·exact .inl z
     ·rw[YA.mp z];exact .inr k
    ·exact .inr z
   rw[Yy]at z
   exact z
  ·exact M8 hw l _ a (λy g=>i y (Yd _ g)) (by omega) λns f e=>c ns (by omega) e
theorem UG{s z:Addr}{y:Str}{items:List W}{R:List W->Hw->Prop}(l:AC y=true)(d:z≠s):∀(ns:List Str)(o:Option W)(G:Hw)(a:List Te),(∀ n∈ns,AC n=true)->(∀ t∈a,TmB 3 3 t)->a.length+ns.length<=1000->St s G->G z=some (.lst items)->(∀(ts:List Te)f,ts.length<=a.length+ns.length->(∀ t∈ts,TmB 3 3 t)->Hs s G f->R (ts.map Te.enc) f)->
  AV (holds z items) (gNm 0) AA (Ah (Aa (gC (.str "get")) (Aa (Ag DX XF (Aa (Ab 1) (Aa (Ah (Aa (gC (.str "name")) (Aa (Ab 2) Ac))) Ac))) (Aa (Ab 0) Ac)))) R (ns.map W.str) [o,some (.ref s),some (.str y)] G (a.map Te.enc)
 | [],o,G,a,_,h,_,hs,e,b=>⟨e,b a G (YX _ _) h (Hs.refl hs)⟩
 | n::ns,o,G,a,j,h,hl,hs,e,b=>by
  rw[Yg]at hl b
  refine⟨e,by rw[Yh];exact Bl (by omega),?_⟩
  simp only[gNm,AA,if_true,Yk,Ah,Ag,Aa,Ac,Ab,gC,Yb,Yc]
  refine⟨(show 2<=sizeLine by decide),EJ (t:=.nd "name" (.nam y .nil)) (MU l) hs λu q v i=>⟨(show 3<=sizeLine by decide),?_⟩⟩
  have g:=MS v (j n Ye)
  have z:=UG (R:=R) l d ns (some (.str n)) q (a++[.nd "get" (.trm u (.nam n .nil))]) (λm r=>j m (Yd _ r)) (λt c=>by
   rcases Yz.mp c with c | c
   ·exact h t c
   ·rw[YA.mp c];exact g) (by rw[Yj];simp only[Yg,Yi];omega) i.1 (i.2 z d _ e) λts f k p w=>b ts f (by rw[Yj]at k;simp only[Yg,Yi]at k;omega) p (i.trans w)
  rw[Yy]at z
  exact z
def Gw(s q:Addr)(m c:Nat)(G:Hw)(ts:List Te)(G':Hw):Prop:=Hs2 s q G G'/\G' q=some (.lst (ts.map Te.enc))/\(∀ t∈ts,TmB (tb m+3) (td m+2) t)/\ts.length<=c
theorem Gw.app{d f:Hw}{ts us:List Te}(h:Gw s q m c G ts d)(b:q≠s)(e:Hs s d f)(g:∀ t∈us,TmB (tb m+3) (td m+2) t):Gw s q m (c+us.length) G (ts++us) (put f q (.lst (ts.map Te.enc++us.map Te.enc))):=by
 obtain⟨h1,h2,i,j⟩:=h
 refine⟨(h1.trans e.two).trans (Hs2.set e.1 b),by rw[Yy];exact Aj,λt a=>?_,by rw[Yj];omega⟩
 rcases Yz.mp a with a | a
 ·exact i t a
 ·exact g t a
theorem UH{k:Kd}(h:(k.hd=="to")=true):∃ x y,k=.to x y:=by
 cases k with
 | to x y=>exact⟨x,y,rfl⟩
 | any=>exact absurd h (by show ¬ (("any":Str)=="to")=true;decide +kernel)
 | num=>exact absurd h (by show ¬ (("num":Str)=="to")=true;decide +kernel)
 | truth=>exact absurd h (by show ¬ (("truth":Str)=="to")=true;decide +kernel)
 | box x=>exact absurd h (by show ¬ (("box":Str)=="to")=true;decide +kernel)
 | row x y=>exact absurd h (by show ¬ (("row":Str)=="to")=true;decide +kernel)
theorem ij{k:Kd}(h:(k.hd=="row")=true):∃ x y,k=.row x y:=by
 cases k with
 | row x y=>exact⟨x,y,rfl⟩
 | any=>exact absurd h (by show ¬ (("any":Str)=="row")=true;decide +kernel)
 | num=>exact absurd h (by show ¬ (("num":Str)=="row")=true;decide +kernel)
 | truth=>exact absurd h (by show ¬ (("truth":Str)=="row")=true;decide +kernel)
 | box x=>exact absurd h (by show ¬ (("box":Str)=="row")=true;decide +kernel)
 | to x y=>exact absurd h (by show ¬ (("to":Str)=="row")=true;decide +kernel)
theorem ik{k:Kd}(hm:m < n)(hm3:m+1<=3)(hk:KdOk (kb (m+1)) (kp (m+1)) k)(hn:Nm (m+1) p G)(hs:St s G)(q:∀ r I,(∃ q,∃ ts:List Te,r=.ref q/\q≠s/\I q=some (.lst (ts.map Te.enc))/\(∀ t∈ts,TmB (tb m+3) (td m+2) t)/\ts.length<=1000)->Hs s G I->Q r I):MZ DX (CO n) (Av Q) [some (.ref s),some k.enc,some (.ref p),some (.int (m:Nat)),none,none,none,none] G:=by
 have h38:=Gd m
 have hkm:=hk.down
 have hkd:k.dp<=8:=by have:=hk.2.2;unfold kp at this;omega
 obtain⟨l,l1,l2,l3⟩:=hn
 unfold MZ
 refine AL ?_
 simp only[Ap,Ac]
 refine⟨by decide,λg E=>?_⟩
 have i:=Hs.ne hs E
 have hpq:p≠g:=AI l1 E
 have hps:p≠s:=by
  obtain⟨x,f,e⟩:=hs
  rintro rfl
  rw[l1]at e;cases e
 simp only[Yk,Yl,Af,AD,Au,gB,Ab,Aa,Ac,Yb,Yc]
 refine⟨p,kvK l,l.map (·.1),rfl,AB E _ _ l1,ii l,by rw[Yh];omega,λys z _ hys hz=>?_⟩
 have P:g≠z:=AI Aj hz
 have hzs:=Hs.ne (hs.put E) hz
 simp only[Aj]
 have hyl:=hys.length_eq
 rw[Yh]at hyl
 have hmem:∀ y∈ys,y∈l.map (·.1):=λy hy=>hys.mem_iff.mp hy
 have hstart:Gw s g m 0 (put (put G g (.lst [])) z (.lst (ys.map W.str))) [] (put (put G g (.lst [])) z (.lst (ys.map W.str))):=⟨(Hs.refl ((hs.put E).put hz)).two,by rw[Aq P];exact Aj,(λt J=>by cases J),Yr _⟩
 have S:put (put G g (.lst [])) z (.lst (ys.map W.str)) z=some (.lst (ys.map W.str)):=Aj
 have U:put (put G g (.lst [])) z (.lst (ys.map W.str)) p=some (.dct (kvK l)):=AB hz _ _ (AB E _ _ l1)
 have hG1:Hs s G (put (put G g (.lst [])) z (.lst (ys.map W.str))):=(Hs.new hs E).put hz
 generalize hH:put (put G g (.lst [])) z (.lst (ys.map W.str))=G1 at hstart S U hG1 ⊢
 have loop:∀(zs:List Str)(c:Nat)(ts:List Te)(o5 o6 o7:Option W)(Z:Hw),(∀ y∈zs,y∈l.map (·.1))->Gw s g m c G1 ts Z->c+60*zs.length<=900->Bh (holds z (ys.map W.str)) (gNm 5) (Af (An 6 (Ad (Ae ixK) (Ab 2) (Ab 5))) (Af (gIf (gTB (Ad (Ae (eqF false)) (Ab 6) (Ab 1))) (Aw (gMt AH AS (Ab 4) (Aa (Ah (Aa (gC (.str "name")) (Aa (Ab 5) Ac))) Ac))) Al) (Af (gIf (A1 (gTB (Ad (Ae (eqF false)) (Ad (Ae ixW) (Ab 6) (gC (.int 0))) (gC (.str "to")))) (gTB (Ad (Ae (eqF false)) (Ad (Ae ixW) (Ab 6) (gC (.int 2))) (Ab 1)))) (Aw (gMt AH AS (Ab 4) (Aa (Ah (Aa (gC (.str "call")) (Aa (Ag DX XF (Aa (Ab 0) (Aa (Ah (Aa (gC (.str "name")) (Aa (Ab 5) Ac))) Ac))) (Aa (Ag (CO n) XF (Aa (Ab 0) (Aa (Ad (Ae ixW) (Ab 6) (gC (.int 1))) (Aa (Ab 2) (Aa (Ab 3) Ac))))) Ac)))) Ac))) Al) (Af (gIf (gTB (Ad (Ae (eqF false)) (Ab 6) (Ah (Aa (gC (.str "box")) (Aa (Ab 1) Ac))))) (Af (Aw (gMt AH AS (Ab 4) (Aa (Ah (Aa (gC (.str "read")) (Aa (Ag DX XF (Aa (Ab 0) (Aa (Ah (Aa (gC (.str "name")) (Aa (Ab 5) Ac))) Ac))) Ac))) Ac))) (Aw (gMt AH AS (Ab 4) (Aa (Ah (Aa (gC (.str "write")) (Aa (Ah (Aa (gC (.str "name")) (Aa (Ab 5) Ac))) (Aa (Ag (CO n) XF (Aa (Ab 0) (Aa (Ab 1) (Aa (Ab 2) (Aa (Ab 3) Ac))))) Ac)))) Ac)))) Al) (gIf (gTB (Ad (Ae (eqF false)) (Ad (Ae ixW) (Ab 6) (gC (.int 0))) (gC (.str "row")))) (Af (An 7 (AW (Au (Ad (Ae ixW) (Ab 6) (gC (.int 1)))) 1 [1] (gNm 0) (gTB (Ad (Ae (eqF false)) (AN (Ab 0) (AG (gC (.int 1))) AF) (Ah (Aa (gC (.str "must")) (Aa (Ab 1) Ac))))) (Ad (Ae ixW) (Ab 0) (gC (.int 0))))) (Aw (gMt AH Bz (Ab 4) (Aa (AW (Au (Ab 7)) 1 [0,5] (gNm 0) AA (Ah (Aa (gC (.str "get")) (Aa (Ag DX XF (Aa (Ab 1) (Aa (Ah (Aa (gC (.str "name")) (Aa (Ab 2) Ac))) Ac))) (Aa (Ab 0) Ac))))) Ac)))) Al))))) {nx:=Ai (Ab 4) (Av Q),rt:=(Av Q).rt,bk:=(Av Q).bk,ct:=(Av Q).ct} (zs.map W.str) [some (.ref s),some k.enc,some (.ref p),some (.int (m:Nat)),some (.ref g),o5,o6,o7] Z:=by
  intro zs
  induction zs with
  | nil =>
   intro c ts o5 o6 o7 Z _ hw hc
   refine⟨hw.1.2 z hzs (YU P) _ S,?_⟩
   simp only[Ai,Ab,Yb,Yc]
   obtain⟨w1,w2,w3,w4⟩:=hw
   refine q _ _ ⟨g,ts,rfl,i,w2,w3,by omega⟩ ⟨w1.1,λb hb u Y=>w1.2 b hb (AI Y E) u (hG1.2 b hb u Y)⟩
  | cons y zs ih =>
   intro c ts o5 o6 o7 Z T hw hc
   rw[Yg]at hc
   have hG2z:=hw.1.2 z hzs (YU P) _ S
   have hp2:=hw.1.2 p hps hpq _ U
   obtain⟨X,k1,k2,k3⟩:=UF (c:=kb (m+1)) (d:=kp (m+1)) (y:=y) l2 (T y Ye)
   have k2d:X.dp<=8:=by have:=k2.2.2;unfold kp at this;omega
   have N:TmB 1 1 (.nd "name" (.nam y .nil)):=MU k3
   have nmG:∀{I:Hw},Hs2 s g G1 I->Nm m p I:=λh=>Nm.down ⟨l,h.2 p hps hpq _ U,l2,l3⟩
   refine⟨hG2z,?_⟩
   simp only[gNm,Yk,Yl]
   refine AL ?_
   simp only[Ad,Ae,Ab,Yb,Yc]
   rw[show ixK (.ref p) (.str y) Z=some X.enc by unfold ixK;simp only[hp2];exact k1]
   simp only[Ak,Yk,Yl]
   refine D0 (λω' I=>∃ L D,ω'=[some (.ref s),some k.enc,some (.ref p),some (.int (m:Nat)),some (.ref g),some (.str y),some X.enc,D]/\Gw s g m (c+1) G1 L I) ?_ (λAo=>?_)
   ·rintro ω' G3 ⟨ts3,D,rfl,j⟩
    refine D0 (λω' I=>∃ L D,ω'=[some (.ref s),some k.enc,some (.ref p),some (.int (m:Nat)),some (.ref g),some (.str y),some X.enc,D]/\Gw s g m (c+2) G1 L I) ?_ (λAo=>?_)
    ·rintro ω' G4 ⟨ts4,D,rfl,A⟩
     refine D0 (λω' I=>∃ L D,ω'=[some (.ref s),some k.enc,some (.ref p),some (.int (m:Nat)),some (.ref g),some (.str y),some X.enc,D]/\Gw s g m (c+4) G1 L I) ?_ (λAo=>?_)
     ·rintro ω' G5 ⟨ts5,D,rfl,a⟩
      simp only[gIf,gTB,Ad,Ae,Ab,gC,Yb,Yc,Cm,Ak,Bn]
      walk_at "pb"
      ·rw[show ∀ b:Bool,(b != false)=b by intro b;cases b <;> rfl]at h
       obtain⟨fs,o,rfl⟩:=ij h
       have hko:=k2.ok
       have hr:(A3 fs.names&&fs.ok)=true:=hko.1
       simp only[YF]at hr
       have O:=hko.2
       unfold Bd at O
       simp only[YN]at O
       have hgc:1+fs.cnt<=40:=O.1
       have hgp:1+fs.dp<=8:=O.2
       have hfl:=II fs
       rw[Hu,Yh]at hfl
       refine AL ?_
       walk_at "pm"
       refine M8 (w:=k) (by omega) (toL fs) none [] (λx hx=>?_) (by simp only[Yi];omega) λns n1 n2 v hv=>?_
       ·obtain⟨a1,a2,a3,a4⟩:=JP hr.2 x hx
        exact⟨a1,by omega⟩
       ·have hvs:=Hs.ne a.1.1 hv
        have hvq:g≠v:=AI a.2.1 hv
        rw[Yi]at n1
        have R:=Hs.new (o:=.lst (ns.map W.str)) a.1.1 hv
        simp only[Aw,gMt,AW,Au,Ab,Aa,Ac,Yb,Yc,Yk,Yl,Aj,Bi,List.replicate,Ym,YH,Option.getD_some,List.cons_append,Yw]
        refine⟨Bv (R.2 g i _ a.2.1),?_⟩
        refine UG k3 hvs ns none _ [] (λn hn=>(n2 n hn).resolve_left (by simp)) (λt J=>by cases J) (by simp only[Yi];omega) R.1 Aj λus G6 u1 u2 B v2 hv2=>?_
        rw[Yi]at u1
        have hg7:=(R.trans B).put (o:=.lst (us.map Te.enc)) hv2
        have hq7:=hg7.2 g i _ a.2.1
        refine Ek hq7 Aj (by rw[Yh,Yh];have:=a.2.2.2;exact AT (by omega)) ?_
        have F:=a.app i hg7 (us:=us) λt J=>(u2 t J).mono (by omega) (by unfold td;omega)
        exact ih (c+4+us.length) _ _ _ _ _ (λy hy=>T y (Yd _ hy)) F (by omega)
      ·simp only[Al]
       exact ih (c+4) _ _ _ _ _ (λy hy=>T y (Yd _ hy)) a (by omega)
     ·simp only[Af,gIf,gTB,Ad,Ah,Aa,Ac,Ab,gC,Yb,Yc]
      refine⟨(show 2<=sizeLine by decide),Gc (EH (by omega)) (EH (k:=.box k) (by show 1+k.dp<=20;omega)) λb=>?_⟩
      walk_at "pb"
      ·simp only[Af,Aw,gMt,Ah,Ag,Aa,Ac,Ab,gC,Yb,Yc]
       refine⟨Bv A.2.1,(show 2<=sizeLine by decide),EJ (t:=.nd "name" (.nam y .nil)) N A.1.1 λu G5 Y H=>⟨(show 2<=sizeLine by decide),?_⟩⟩
       have hq5:=H.2 g i _ A.2.1
       have hl5:=A.2.2.2
       refine Ck hq5 (by rw[Yh];exact Bl (by omega)) ?_
       have a:=A.app i H (us:=[.nd "read" (.trm u .nil)]) λt J=>by rw[YA.mp J];exact(JN M7 Y).mono (by omega) (by unfold td;omega)
       rw[Ym,YH]at a
       refine⟨Bv Aj,(show 2<=sizeLine by decide),Bx hm (by omega) hkm (nmG a.1) a.1.1 rfl λt G6 J B=>⟨(show 3<=sizeLine by decide),?_⟩⟩
       have hq6:=B.2 g i _ a.2.1
       have hl6:=a.2.2.2
       refine Ck hq6 (by rw[Yh];exact Bl (by simp only[Yg,Yi]at hl6;omega)) ?_
       have F:=a.app i B (us:=[.nd "write" (.trm (.nd "name" (.nam y .nil)) (.trm t .nil))]) λt' K=>by rw[YA.mp K];exact(DW M6 (N.mono (Yr _) (by unfold td;omega)) J).mono (by omega) (by omega)
       exact Ao _ _ ⟨_,_,rfl,F⟩
      ·simp only[Al]
       exact Ao _ _ ⟨_,_,rfl,A.1,A.2.1,A.2.2.1,by have:=A.2.2.2;omega⟩
    ·simp only[Af,gIf,A1,gTB,Ad,Ae,Ab,gC,Yb,Yc,Cm,Ak,Bn]
     have no:=Ao [some (.ref s),some k.enc,some (.ref p),some (.int (m:Nat)),some (.ref g),some (.str y),some X.enc,D] G3 ⟨_,_,rfl,j.1,j.2.1,j.2.2.1,by have:=j.2.2.2;omega⟩
     walk_at "pb"
     ·rw[show ∀ b:Bool,(b != false)=b by intro b;cases b <;> rfl]at h
      obtain⟨x,y',rfl⟩:=UH h
      have hdx:1+max x.dp y'.dp<=8:=k2d
      simp only[Kd.enc,ixW,B0,Ak]
      refine Gc (EH (k:=y') (by omega)) (EH (k:=k) (by omega)) λb=>?_
      walk_at "pb"
      ·simp only[Aw,gMt,Ah,Ag,Ad,Ae,Aa,Ac,Ab,gC,Yb,Yc,ixW,A0,Ak]
       refine⟨Bv j.2.1,(show 2<=sizeLine by decide),EJ (t:=.nd "name" (.nam y .nil)) N j.1.1 λu G5 Y H=>?_⟩
       refine Bx hm (by omega) (k2.kid (x:=x) (.head _)).down (nmG (j.1.trans H.two)) H.1 rfl λt G6 J B=>⟨(show 3<=sizeLine by decide),?_⟩
       have B:=H.trans B
       have hl3:=j.2.2.2
       refine Ck (B.2 g i _ j.2.1) (by rw[Yh];exact Bl (by omega)) ?_
       have F:=j.app i B (us:=[.nd "call" (.trm u (.trm t .nil))]) λt' K=>by rw[YA.mp K];exact(DW J0 (Y.mono (Yr _) (by unfold td;omega)) J).mono (by omega) (by omega)
       exact Ao _ _ ⟨_,_,rfl,F⟩
      ·exact no
     ·exact no
   ·simp only[Af,gIf,gTB,Ad,Ab,Yb,Yc]
    refine Gc (EH (by omega)) (EH (by omega)) λb=>?_
    walk_at "pb"
    ·simp only[Aw,gMt,Ah,Aa,Ac,Ab,gC,Yb,Yc]
     have hl3:=hw.2.2.2
     refine⟨Bv hw.2.1,(show 2<=sizeLine by decide),Ck hw.2.1 (by rw[Yh];exact Bl (by omega)) ?_⟩
     have F:=hw.app i (Hs.refl hw.1.1) (us:=[.nd "name" (.nam y .nil)]) λt' K=>by rw[YA.mp K];exact N.mono (by omega) (by unfold td;omega)
     exact Ao _ _ ⟨_,_,rfl,F⟩
    ·simp only[Al]
     exact Ao _ _ ⟨_,_,rfl,hw.1,hw.2.1,hw.2.2.1,by have:=hw.2.2.2;omega⟩
 exact loop ys 0 [] none none none G1 hmem hstart (by omega)
theorem JV(T:Tx K mg base a)(c:10<=k)(D:Df P w K mg base "_law_term" k 4 (CO n)):Df P w K mg base "_law_by_name" (k+1) 4 (UC n):=by
 refine mk0 T.dN rfl MY CA (λf G Q E⟨x,s,⟨e,_⟩,_⟩=>by rw[e];rfl) (hW T (CN T) (by omega) D (Yr _)) λf G Q E h q=>?_
 obtain⟨⟨k,m,p⟩,s,⟨rfl,g,b,c,d⟩,hs,q⟩:=q
 exact ik g b c d hs q
mutual
theorem J1:∀ t:Te,t.ok=true->dpW t.enc<=3*t.dp+25
 | .nd w r,h=>by
  have:=Fp r (Cj h).2
  show max 0 (L3.dpL r.enc)+1<=3*(1+r.dp)+25;omega
theorem Fp:∀ r:As,r.ok=true->L3.dpL r.enc<=3*r.dp+27
 | .nil,_=>YT _
 | .num i r,h=>by
  walk_at "pB"
  walk_at "pa"
  have:=Fp r h'.2
  show max 0 (L3.dpL r.enc)<=3*r.dp+27;omega
 | .tru _ r,h=>by
  have:=Fp r h
  show max 0 (L3.dpL r.enc)<=3*r.dp+27;omega
 | .nam x r,h=>by
  have h':(AC x&&r.ok)=true:=h
  walk_at "pa"
  have:=Fp r h'.2
  show max 0 (L3.dpL r.enc)<=3*r.dp+27;omega
 | .knd k r,h=>by
  have h':((k.ok&&Bd k)&&r.ok)=true:=h
  walk_at "pa"
  have h2:=h'.1.2
  unfold Bd at h2
  simp only[YN]at h2
  have:=Fp r h'.2
  have:=EE k
  show max (dpW k.enc) (L3.dpL r.enc)<=3*r.dp+27;omega
 | .trm t r,h=>by
  have h':(t.ok&&r.ok)=true:=h
  walk_at "pa"
  have:=Fp r h'.2
  have:=J1 t h'.1
  show max (dpW t.enc) (L3.dpL r.enc)<=3*max t.dp r.dp+27;omega
 | .fld f r,h=>by
  have h':((A3 f.names&&f.ok)&&r.ok)=true:=h
  walk_at "pa"
  have:=Fp r h'.2
  have:=UI f h'.1.2
  show max (L3.dpL f.enc+1) (L3.dpL r.enc)<=3*max f.dp r.dp+27;omega
theorem UI:∀ f:Fl,f.ok=true->L3.dpL f.enc<=3*f.dp+26
 | .nil,_=>YT _
 | .cons x t r,h=>by
  have h':((AC x&&t.ok)&&r.ok)=true:=h
  walk_at "pa"
  have:=J1 t h'.1.2
  have:=UI r h'.2
  show max (max 0 (max (dpW t.enc) 0)+1) (L3.dpL r.enc)<=3*max t.dp r.dp+26;omega
end
theorem M9{c d:Nat}:∀{ts:List Te},(∀ t∈ts,TmB c d t)->L3.dpL (ts.map Te.enc)<=3*d+25
 | [],_=>YT _
 | t::ts,h=>by
  obtain⟨h1,_,h2⟩:=h t Ye
  have:=J1 t h1
  have:=M9 (λu a=>h u (Yd _ a))
  show max (dpW t.enc) (L3.dpL (ts.map Te.enc))<=_;omega
theorem il(h:G q=some (.lst xs))(h':G p=some (.lst []))(hd:L3.dpL xs < 90):eqF true (.ref q) (.ref p) G=some (.bl (!xs.isEmpty)):=by
 have e:eqW (.ref q) (.ref p) G=some xs.isEmpty:=by
  unfold eqW
  simp only[h,h']
  rw[if_pos hd,Tz]
 unfold eqF
 rw[e]
 show some (W.bl (xs.isEmpty != true))=_
 rw[Oo]
abbrev UJ:GS:=Af (gIf (gTB (Ad (Ae (eqF false)) (gMt GL GK (Ab 2) (Aa (gC (.str "x")) (Aa (Ah Ac) Ac))) (Ab 1))) (Ai (Ah (Aa (gC (.str "name")) (Aa (gC (.str "x")) Ac)))) Al) (Ai (Ag (JS 8) XF (Aa (Ab 0) (Aa (Ab 1) Ac))))
theorem UK{k:Kd}{o3 o4:Option W}{l:List (Option W)}(g:KdOk (kb m) (kp m) k)(i:Nm m p G)(hs:St s G)(q:∀(t:Te)c,TmB (tb m) (td m) t->Hs s G c->D.rt t.enc c):UJ D (some (.ref s)::some k.enc::some (.ref p)::l) G:=by
 have u:=Gd m
 have d:=g.ok
 obtain⟨a,f,w⟩:=i.get "x"
 obtain⟨x,n,o⟩:=g
 simp only[UJ,Af,gIf,gTB,Ad,gMt,Ah,Aa,Ac,Ab,gC,Yb,Yc]
 refine⟨⟨p,a,rfl,f⟩,by decide,p,a,"x",.tup [],rfl,rfl,f,?_⟩
 unfold kb at n
 unfold kp at o
 refine Gc w (EH (by omega)) λb=>?_
 walk_at "pb"
 ·simp only[Ai,Ah,Aa,Ac,gC]
  exact⟨(show 2<=sizeLine by decide),q (.nd "name" (.nam "x" .nil)) _ ((MU (by decide +kernel)).mono (by omega) (by unfold td;omega)) (Hs.refl hs)⟩
 ·simp only[Al,Ai,Ag,Aa,Ac,Ab,Yb,Yc]
  refine⟨k,s,⟨rfl,d,by omega⟩,hs,λr c⟨t,e,j⟩v=>?_⟩
  rw[e]
  exact q t c (j.mono (by omega) (by unfold td;omega)) v
theorem im{k:Kd}(hm:m < n+1)(hm3:m<=3)(hk:KdOk (kb m) (kp m) k)(U:Nm m p G)(hs:St s G)(q:∀ r A,(∃ t:Te,r=t.enc/\TmB (tb m) (td m) t)->Hs s G A->Q r A):M0 Cz (JS 8) (UC n) (JZ n) (CO n) DX (Av Q) [some (.ref s),some k.enc,some (.ref p),some (.int (m:Nat)),none,none,none,none,none,none,none,none,none] G:=by
 unfold M0
 refine AL ?_
 simp only[Ag,Ab,gC,Aa,Ac,Yb]
 refine BW (by decide) (by decide) hs λr G1 r0 r1 hg=>?_
 have hn1:=U.hs hs hg
 simp only[Yk,Yl,Af,gIf,gOr,gTB,Ad,Ae,Ab,gC,Yb,Yc,Bm,Ak]
 walk_at "pb"
 ·rw[if_pos trivial]
  exact UK (o3:=none) (o4:=none) hk hn1 hg.1 λt A N K=>q _ _ ⟨t,rfl,N⟩ (hg.trans K)
 refine DY (λh=>?_) (λh11=>?_)
 ·exact UK (o3:=none) (o4:=none) hk hn1 hg.1 λt A N K=>q _ _ ⟨t,rfl,N⟩ (hg.trans K)
 cases m with
 | zero=>exact absurd rfl h
 | succ m =>
 have Y:(((m+1:Nat):Int) - 1)=(m:Int):=by omega
 have I:m < n:=by omega
 have h38:=Gd m
 have etb:tb (m+1)=3*tb m+6:=rfl
 have etd:td (m+1)=td m+4:=by unfold td;omega
 have hkm:=hk.down
 rw[etb,etd]at q
 simp only[Al]
 refine AL ?_
 simp only[Ap,Ac]
 refine⟨by decide,λq0 hq0=>?_⟩
 have hq0s:=Hs.ne hg.1 hq0
 have T:=hg.put (o:=.lst []) hq0
 have hq2:put G1 q0 (.lst []) q0=some (.lst []):=Aj
 generalize put G1 q0 (.lst [])=G2 at T hq2 ⊢
 walk_at "pd"
 refine D0 (λω' A=>∃ z,∃ ts:List Te,ω'=[some (.ref s),some k.enc,some (.ref p),some (.int ((m+1:Nat):Int)),some (.int r),some (.ref z),none,none,none,none,none,none,none]/\z≠s/\A z=some (.lst (ts.map Te.enc))/\(∀ t∈ts,TmB (tb m+3) (td m+2) t)/\ts.length<=1000/\Hs s G A) ?_ (λAo=>?_)
 rotate_left
 ·simp only[Af,gIf,gTB,Ad,A9,Ab,gC,Yb,Yc]
  walk_at "pb"
  ·simp only[An,Ag,Ad,Ay,Ab,gC,Aa,Ac,Yb,Yc,Yk,Yl]
   refine⟨trivial,(k,m,p),s,⟨by rw[Y],I,by omega,hk,U.hs hs T⟩,T.1,λr' G3 h3 hg3=>?_⟩
   obtain⟨z,ts,rfl,t1,t2,t3,t4⟩:=h3
   exact Ao _ _ ⟨z,ts,rfl,t1,t2,t3,t4,T.trans hg3⟩
  ·simp only[Al]
   exact Ao _ _ ⟨q0,[],rfl,hq0s,hq2,(λt N=>by cases N),by decide,T⟩
 rintro ω' G3 ⟨z,ts,rfl,t1,t2,t3,t4,hg3⟩
 simp only[Af,gIf,gTB,Ad,Ap,Ac,Ab,Yb,Yc]
 refine⟨by decide,λq1 hq1=>?_⟩
 have X:=AB (o:=.lst []) hq1 _ _ t2
 have hdl:=M9 t3
 have H:=hg3.put (o:=.lst []) hq1
 show opt (eqF true (.ref z) (.ref q1) _) _
 rw[il X Aj (by unfold td at hdl;omega),Ak]
 generalize put G3 q1 (.lst [])=G4 at H X ⊢
 walk_at "pb"
 ·simp only[Ai,Ad,Ag,gB,rF,Aa,Ac,Ab,Yb,Yc]
  rw[show AZ [.ref z] G4=some (.int ((ts.map Te.enc).length:Nat))from PM X,Ak,Yh]
  have hpos:0 < ts.length:=by
   cases ts with
   | nil=>exact absurd h (by decide)
   | cons=>exact Nat.succ_pos _
  refine BW (by omega) (by omega) H.1 λv G5 v0 v1 E=>?_
  obtain⟨x,S,e⟩:=Fk (E.2 z t1 _ X) v0 (by rw[Yh];exact v1)
  show opt (ixW (.ref z) (.int v) G5) _
  rw[e,Ak]
  obtain⟨t,N,rfl⟩:=YC.mp S
  exact q _ _ ⟨t,rfl,(t3 t N).mono (by omega) (by omega)⟩ (H.trans E)
 simp only[Al,A9]
 refine DY (λh=>?_) (λh8=>?_)
 ·simp only[Ai,Ag,Ad,Ay,Ab,gC,Aa,Ac,Yb,Yc]
  refine⟨trivial,(k,m,p),s,⟨by rw[Y],I,by omega,hk,U.hs hs H⟩,H.1,λr' G5 h5 E=>?_⟩
  obtain⟨t,rfl,N⟩:=h5
  exact q _ _ ⟨t,rfl,TmB.mono (c:=2*tb m+5) (d:=td m+4) N (by omega) (by omega)⟩ (H.trans E)
 simp only[Al]
 refine AL ?_
 simp only[Ag,Ad,Ay,Ab,gC,Aa,Ac,Yb,Yc]
 refine⟨trivial,Bx I (by omega) hkm (U.hs hs H).down H.1 Y λone G5 hone E=>?_⟩
 have E:=H.trans E
 refine AL ?_
 simp only[Ag,Ad,Ay,Ab,gC,Aa,Ac,Yb,Yc,Yk,Yl]
 refine⟨trivial,Bx I (by omega) hkm (U.hs hs E).down E.1 Y λa G6 hother B=>?_⟩
 have B:=E.trans B
 simp only[Yk,Yl,Af,gIf,gTB,Ad,Ae,Ab,gC,Yb,Yc,Bm,Ak]
 walk_at "pb"
 ·simp only[Ai,Ah,Ag,Ad,Ay,Ab,gC,Aa,Ac,Yb,Yc]
  refine⟨by decide,trivial,Bx (k:=.truth) I (by omega) ⟨rfl,by unfold kb;show 1<=_;omega,by unfold kp;show 1<=_;omega⟩ (U.hs hs B).down B.1 Y λt Z N O=>?_⟩
  exact⟨(show 4<=sizeLine by decide),q _ _ ⟨.nd "if" (.trm t (.trm one (.trm a .nil))),rfl,(hI N hone hother).mono (by omega) (by omega)⟩ (B.trans O)⟩
 simp only[Al]
 walk_at "pl"
 rotate_left
 ·simp only[Af,gIf,A1,gTB,Ad,Bb,Ae,Ab,gC,Yb,Yc,Cm,Ak,Bn]
  have no:=Ao [some (.ref s),some k.enc,some (.ref p),some (.int ((m+1:Nat):Int)),some (.int r),some (.ref z),some one.enc,some a.enc,none,none,none,none,none] G6 ⟨none,none,rfl,B⟩
  walk_at "pb"
  ·refine DY (λh=>?_) (λh=>?_)
   ·rw[show ∀ b:Bool,(b != false)=b by intro b;cases b <;> rfl]at h
    obtain⟨x,y,rfl⟩:=UH h
    have S:=(hk.kid (x:=x) (.head _)).down
    have hy:=(hk.kid (x:=y) (.tail _ (.head _))).down
    refine AL ?_
    simp only[gB,Ab,Aa,Ac,Yb,Yc,Yk,Yl]
    obtain⟨v,hv,ev⟩:∃ v:Str,AC v=true/\∀(G:Hw)(l:Addr),G l=some (.lst [.str "x",.str "y"])->ixW (.ref l) (.int (r % 2)) G=some (.str v):=by
     have h2:r % 2=0\/r % 2=1:=by omega
     rcases h2 with e | e <;> rw[e]
     ·exact⟨"x",by decide +kernel,λG l hl=>by rw[Eb hl];rfl⟩
     ·exact⟨"y",by decide +kernel,λG l hl=>by rw[Eb hl];rfl⟩
    obtain⟨F,a1,a2,a3⟩:=(U.hs hs B).new hv S
    refine⟨p,F,rfl,a1,λl hl=>?_⟩
    simp only[Af,FN,Ad,Ap,Ay,Ae,gC,Aa,Ac,Ab,Yb,Yc,Yk,Yl,Kd.enc,ixW,A0,Ak]
    have hl7:put G6 l (.dct F) l=some (.dct F):=Aj
    have O:=B.put (o:=.dct F) hl
    have hls:=Hs.ne B.1 hl
    generalize hH:put G6 l (.dct F)=Z at hl7 O ⊢
    refine⟨by decide,λb hb=>⟨by decide,?_⟩⟩
    have eb:=ev (put Z b (.lst [.str "x",.str "y"])) b Aj
    show opt (ixW (.ref b) (.int (r % 2)) (put Z b (.lst [.str "x",.str "y"]))) _
    rw[eb,Ak]
    have hlb:put Z b (.lst [.str "x",.str "y"]) l=some (.dct F):=AB hb _ _ hl7
    refine⟨l,F,v,rfl,rfl,hlb,a2,?_⟩
    have j:Hs s G (put (put Z b (.lst [.str "x",.str "y"])) l (.dct (BC F (Sum.inr v) x.enc))):=by
     have h8:=O.put (o:=.lst [.str "x",.str "y"]) hb
     refine⟨(Hs2.set h8.1 hls).1,λc hc u hu=>?_⟩
     have hcl:c≠l:=AI (B.2 c hc u hu) hl
     rw[Aq hcl];exact h8.2 c hc u hu
    have hn8:=a3 l (put (put Z b (.lst [.str "x",.str "y"])) l (.dct (BC F (Sum.inr v) x.enc))) Aj
    generalize put (put Z b (.lst [.str "x",.str "y"])) l (.dct (BC F (Sum.inr v) x.enc))=G8 at j hn8 ⊢
    simp only[Ai,Ah,Ag,Ad,Ap,Ay,Ae,gC,Aa,Ac,Ab,Yb,Yc,ixW,A0,B0,Ak]
    refine⟨by decide,λb2 hb2=>⟨by decide,?_⟩⟩
    have eb2:=ev (put G8 b2 (.lst [.str "x",.str "y"])) b2 Aj
    show opt (ixW (.ref b2) (.int (r % 2)) (put G8 b2 (.lst [.str "x",.str "y"]))) _
    rw[eb2,Ak]
    have g:=j.put (o:=.lst [.str "x",.str "y"]) hb2
    have hn9:=hn8.put (o:=.lst [.str "x",.str "y"]) hb2
    refine⟨trivial,Bx I (by omega) hy hn9 g.1 Y λt G10 N i=>?_⟩
    exact⟨(show 4<=sizeLine by decide),q _ _ ⟨.nd "fun" (.nam v (.knd x (.trm t .nil))),rfl,(MT hv S.ok N).mono (by omega) (by omega)⟩ (g.trans i)⟩
   ·exact no
  ·exact no
 rintro ω' Z ⟨J,L,rfl,O⟩
 walk_at "pl"
 rotate_left
 ·simp only[Af,gIf,A1,gTB,Ad,Ae,Ab,gC,Ap,Aa,Ac,Yb,Yc,Cm,Ak,Bm]
  walk_at "pb"
  ·refine⟨by decide,λb hb=>?_⟩
   rw[Uj ["num","truth"] k.hd (xs:=[.str "num",.str "truth"]) Aj rfl,Ak]
   have j:=O.put (o:=.lst [.str "num",.str "truth"]) hb
   generalize put Z b (.lst [.str "num",.str "truth"])=G8 at j ⊢
   walk_at "pb"
   ·have hnum:KdOk (kb m) (kp m) .num:=⟨rfl,by unfold kb;show 1<=_;omega,by unfold kp;show 1<=_;omega⟩
    refine AL ?_
    simp only[Ah,Ag,Ad,Ay,Ab,gC,Aa,Ac,Yb,Yc]
    refine⟨by decide,trivial,Bx (k:=.num) I (by omega) hnum (U.hs hs j).down j.1 Y λt G9 N g=>?_⟩
    have g:=j.trans g
    simp only[Af,gIf,gTB,Ad,Ae,Ab,gC,Yb,Yc,Yk,Yl,Cm,Ak,Bn]
    walk_at "pb"
    ·simp only[Ai,Ah,Ab,gC,Aa,Ac,Yb,Yc]
     exact⟨(show 3<=sizeLine by decide),q _ _ ⟨.nd "plus" (.trm t (.trm one .nil)),rfl,(DW ib N hone).mono (by omega) (by omega)⟩ g⟩
    ·simp only[Al,Ai,Ah,Ag,Ad,Ay,Ab,gC,Aa,Ac,Yb,Yc]
     refine⟨by decide,trivial,Bx (k:=.num) I (by omega) hnum (U.hs hs g).down g.1 Y λt' G10 ht' i=>?_⟩
     exact⟨(show 3<=sizeLine by decide),q _ _ ⟨.nd "less" (.trm t (.trm t' .nil)),rfl,(DW ic N ht').mono (by omega) (by omega)⟩ (g.trans i)⟩
   ·exact Ao _ _ ⟨_,_,rfl,j⟩
  ·exact Ao _ _ ⟨_,_,rfl,O⟩
 rintro ω' G8 ⟨J,L,rfl,j⟩
 refine AL ?_
 walk_at "pE"
 refine Ga rfl (by decide) (by decide) j.1 λx S G9 g=>?_
 have g:=j.trans g
 obtain⟨b,rfl⟩:∃ b,x=.str (BQ b):=by
  walk_at "pM"
  rcases S with rfl | rfl
  ·exact⟨true,rfl⟩
  ·exact⟨false,rfl⟩
 refine AL ?_
 simp only[Ah,Ad,Ag,Ab,gC,Aa,Ac,Yb,Yc,Yk,Yl]
 refine⟨(show 3<=sizeLine by decide),(show 1<=sizeLine by decide),BW (by decide) (by decide) g.1 λv G10 v0 v1 i=>?_⟩
 have i:=g.trans i
 simp only[Ae,Bm,Ak]
 walk_at "pI"
 have krow:∀(fs:Fs)(o:Bool),fs=.nil\/fs=.cons "a" b k .nil->KdOk (kb m) (kp m) (.row fs o):=λfs o hf=>by
  obtain⟨b1,b2,b3⟩:=hk
  unfold kb at b2
  unfold kp at b3
  rcases hf with rfl | rfl
  ·exact⟨rfl,by show 1+0<=_;unfold kb;omega,by show 1+0<=_;unfold kp;omega⟩
  ·refine⟨?_,?_,?_⟩
   ·show(true&&(AC "a"&&k.ok&&true))=true;rw[Ht,b1];rfl
   ·show 1+(k.cnt+0)<=_;unfold kb;omega
   ·show 1+max k.dp 0<=_;unfold kp;omega
 refine AL ?_
 simp only[Ah,Ad,Ag,Ae,Ay,Ab,gC,Aa,Ac,Yb,Yc,Yk,Yl,ixW,A0,Ak]
 refine⟨(show 3<=sizeLine by decide),trivial,Bx (k:=.row (.cons "a" b k .nil) false) I (by omega) (krow _ _ (.inr rfl)) (U.hs hs i).down i.1 Y λrow G11 hrow P=>?_⟩
 have P:=i.trans P
 refine D0 (λω' A=>∃ fs o,∃ u:Te,ω'=[some (.ref s),some k.enc,some (.ref p),some (.int ((m+1:Nat):Int)),some (.int r),some (.ref z),some one.enc,some a.enc,some (.str (BQ b)),some (Kd.row fs o).enc,some u.enc,J,L]/\(fs=.nil\/fs=.cons "a" b k .nil)/\TmB (tb m+2) (td m+2) u/\Hs s G A) ?_ (λAo=>?_)
 rotate_left
 ·simp only[Af,gIf,gTB,Ad,Ag,Ab,gC,Aa,Ac,Yb,Yc,Yk,Yl]
  refine BW (by decide) (by decide) P.1 λv' G12 _ _ f=>?_
  have f:=P.trans f
  simp only[Ae,Bm,Ak]
  walk_at "pb"
  ·show Af (An 9 _) _ _ _ _
   refine AL ?_
   simp only[Ah,Ap,Ad,Ag,Ae,Ay,Ab,gC,Aa,Ac,Yb,Yc,ixW,A0,Ak]
   refine⟨by decide,(show 2<=sizeLine by decide),λy hy=>?_⟩
   have hys:=Hs.ne f.1 hy
   have R:=f.put (o:=.lst [.tup [.tup [.str "a",.str (BQ b),k.enc]],.tup []]) hy
   refine BW (by decide) (by decide) R.1 λv3 G14 v30 v31 w=>⟨⟨by decide,by decide⟩,?_⟩
   obtain⟨x,S,e⟩:=Fk (r:=v3 / 2) (w.2 y hys _ Aj) (by omega) (by show v3 / 2 < 2;omega)
   rw[Eb (w.2 y hys _ Aj)]at e
   rw[w.2 y hys _ Aj]
   dsimp only
   rw[e,Ak]
   have w:=R.trans w
   obtain⟨fs,rfl,hfs⟩:∃ fs:Fs,x=.tup fs.enc/\(fs=.nil\/fs=.cons "a" b k .nil):=by
    walk_at "pM"
    rcases S with rfl | rfl
    ·exact⟨.cons "a" b k .nil,rfl,.inr rfl⟩
    ·exact⟨.nil,rfl,.inl rfl⟩
   simp only[B0,Ak]
   walk_at "pI"
   simp only[An,Ah,Ag,Ab,gC,Aa,Ac,Yb,Yc,Yk,Yl]
   refine⟨by decide,(show 3<=sizeLine by decide),EJ (t:=.nd "as" (.trm row (.knd .any .nil))) (CB hrow Hr) w.1 λu G15 hu hg15=>?_⟩
   exact Ao _ _ ⟨fs,_,u,rfl,hfs,hu,w.trans hg15⟩
  ·simp only[Al]
   exact Ao _ _ ⟨.cons "a" b k .nil,_,row,rfl,.inr rfl,hrow.mono (by omega) (by omega),f⟩
 rintro ω' G12 ⟨fs,o,u,rfl,hfs,hu,f⟩
 have hrk:=krow fs o hfs
 refine AL ?_
 simp only[Ah,Ab,gC,Aa,Ac,Yb,Yc,Yk,Yl]
 walk_at "pI"
 have hua:TmB (tb m+3) (td m+3) (.nd "as" (.trm u (.knd (.row fs o) .nil))):=CB hu hrk.ok
 have last:∀ A,Hs s G A->Ai (Ah (Aa (gC (.str "get")) (Aa (Ab 10) (Aa (gC (.str "a")) Ac)))) (Av Q) [some (.ref s),some k.enc,some (.ref p),some (.int ((m+1:Nat):Int)),some (.int r),some (.ref z),some one.enc,some a.enc,some (.str (BQ b)),some (Kd.row fs o).enc,some (Te.nd "as" (.trm u (.knd (.row fs o) .nil))).enc,J,L] A:=λA K=>by
  simp only[Ai,Ah,Ab,gC,Aa,Ac,Yb,Yc]
  exact⟨(show 3<=sizeLine by decide),q _ _ ⟨.nd "get" (.trm (.nd "as" (.trm u (.knd (.row fs o) .nil))) (.nam "a" .nil)),rfl,(MS hua Ht).mono (by omega) (by omega)⟩ K⟩
 have orr:∀(D:Ew)A,D.rt=Q->Hs s G A->Ai (Ah (Aa (gC (.str "or")) (Aa (Ab 10) (Aa (Ad (Ae ixW) (Ap (Aa (gC (.str "a")) (Aa (gC (.str "b")) Ac))) (Ag Cz XF (Aa (Ab 0) (Aa (gC (.int 2)) Ac)))) (Aa (Ab 7) Ac))))) D [some (.ref s),some k.enc,some (.ref p),some (.int ((m+1:Nat):Int)),some (.int r),some (.ref z),some one.enc,some a.enc,some (.str (BQ b)),some (Kd.row fs o).enc,some (Te.nd "as" (.trm u (.knd (.row fs o) .nil))).enc,J,L] A:=λD A hD K=>by
  simp only[Ai,Ah,Ad,Ap,Ag,Ab,gC,Aa,Ac,Yb,Yc]
  refine Ga rfl (by decide) (by decide) K.1 λx S G13 R=>?_
  obtain⟨y,rfl,hy⟩:∃ y:Str,x=.str y/\AC y=true:=by
   walk_at "pM"
   rcases S with rfl | rfl
   ·exact⟨_,rfl,Ht⟩
   ·exact⟨_,rfl,ia⟩
  rw[hD]
  exact⟨(show 4<=sizeLine by decide),q _ _ ⟨.nd "or" (.trm (.nd "as" (.trm u (.knd (.row fs o) .nil))) (.nam y (.trm a .nil))),rfl,(Ui hua hy (hother.mono (Yr _) (by omega))).mono (by omega) (by omega)⟩ (K.trans R)⟩
 simp only[Af,gIf,gOr,A1,gNt,AO,gTB,Ad,Ae,Ab,gC,Ah,Ac,Yb,Yc,Bn,Ak,Kd.enc,ixW,A0,B0,BG]
 walk_at "pb"
 ·rw[if_pos trivial]
  exact orr _ _ rfl f
 ·refine⟨by decide,?_⟩
  have hpf:PT (.tup fs.enc):=by
   have hd:=MN fs
   have hd3:1+fs.dp<=kp m:=hrk.2.2
   unfold kp at hd3
   exact⟨_,rfl,M5 fs,by omega⟩
  obtain⟨c,ec⟩:=UA (neg:=false) hpf UB G12
  rw[ec,Ak]
  cases c with
  | false=>exact last _ f
  | true =>
   cases o with
   | true=>exact last _ f
   | false=>exact orr _ _ rfl f
theorem BR(T:Tx K mg base a):∀ n:Nat,Df P w K mg base "_law_term" (3*n+10) 4 (CO n)
 | 0=>CM T.Qr CA λc G Q E⟨x,s,⟨_,hd,_⟩,_⟩=>by omega
 | n+1=>by
  refine mk0 (k:=3*n+12) T.Qr rfl Uu CA (λc G Q E⟨x,s,⟨e,_⟩,_⟩=>by rw[e];rfl) (hX T (Ba T) (by omega) (EF T 8) (by omega) (JV T (by omega) (BR T n)) (by omega) (JW T (by omega) (BR T n)) (by omega) (BR T n) (by omega) (CN T) (by omega)) λc G Q E h q=>?_
  obtain⟨⟨k,m,p⟩,s,⟨rfl,f,b,g,d⟩,hs,q⟩:=q
  exact im f b g d hs q
theorem J2{α:Type}{enc:α->W}{g:α->Te}{D:Ew}{p q:Addr}{items:List W}{ge:GE}{v:Nat}{mk:Option W->Sw}(h1:∀ o,(mk o)[1]?=some (some (.ref p)))(h2:∀ o x,(mk o).set v (some x)=mk (some x))(f:p≠q):∀(l:List α)(o:Option W)(G:Hw)(a:List Te),(∀ d∈l,∀(m:Hw)(Z:Kw),Z (g d).enc m->ge (mk (some (enc d))) m Z)->a.length+l.length<=20000->G p=some (.lst (a.map Te.enc))->G q=some (.lst items)->
  (∀ o i,i p=some (.lst ((a++l.map g).map Te.enc))->(∀ b,b≠p->∀ u,G b=some u->i b=some u)->D.nx (mk o) i)->
  Bh (holds q items) (gNm v) (Aw (gMt AH AS (Ab 1) (Aa ge Ac))) D (l.map enc) (mk o) G
 | [],o,G,a,_,_,j,k,c=>⟨k,c o G (by rw[YH,Yx];exact j) λ_ _ _ h=>h⟩
 | d::l,o,G,a,r,hl,j,k,c=>by
  rw[Yg]at hl
  refine⟨k,?_⟩
  show Aw (gMt AH AS (Ab 1) (Aa ge Ac)) _ ((mk o).set v (some (enc d))) G
  rw[h2]
  simp only[Aw,gMt,Aa,Ac,Ab,h1]
  refine⟨Bv j,r d Ye _ _ ?_⟩
  refine Ck j (by rw[Yh];exact Bl (by omega)) ?_
  rw[show a.map Te.enc++[(g d).enc]=(a++[g d]).map Te.enc by rw[Yy];rfl]
  refine J2 h1 h2 f l _ _ (a++[g d]) (λe s=>r e (Yd _ s)) (by rw[Yj];simp only[Yg,Yi];omega) Aj (by rw[Aq (YU f)];exact k) λo i h1 h2=>?_
  refine c o i (by rw[h1,Yv];rfl) λb n u t=>h2 b n u (by rw[Aq n];exact t)
theorem Na{d:W}{gb gi:GE}(f:∀ Z:Kw,Z (.tup xs) G->gb ω G Z)(a:∀ Z:Kw,Z (.int i) G->gi ω G Z)(h:∀ Z:Kw,Z d G->ge ω G Z)(b:∀ Z:Kw,Z (.int ((i+1:Nat):Int)) G->e ω G Z)(hi:i < xs.length)(hl:xs.length<=1000)(z:Z (.tup (xs.set i d)) G):Ad Az (Ad Az (AN gb AF (AG gi)) (Ah (Aa ge Ac))) (AN gb (AG e) AF) ω G Z:=by
 simp only[Ah,Aa,Ac,Ad,AN,AG,AF]
 refine f _ (a _ ?_)
 refine DU ?_
 rw[Jj]
 have c:(xs.take i).length=i:=by rw[List.length_take];omega
 have g:(xs.drop (i+1)).length=xs.length -(i+1):=List.length_drop
 refine h _ ⟨(show 1<=sizeLine by decide),?_⟩
 rw[CY]
 refine⟨by rw[c];exact AT (by simp only[Yg,Yi];omega),f _ (b _ ?_)⟩
 refine DU ?_
 rw[Jk,CY]
 refine⟨by rw[Yj,c,g];exact AT (by simp only[Yg,Yi];omega),?_⟩
 rw[Hn _ _ _ hi]
 exact z
abbrev gT1(n:Nat):GS:=gIf (A1 (AO (A2 "tuple" (Ad (Ae ixW) (Ab 0) (Ab 2)))) (gNt (A1 (gTB (Ad (Ae (eqF false)) (Ab 2) (gC (.int 2)))) (gTB (Ad (Ae (inF false)) (Ad (Ae ixW) (Ab 0) (gC (.int 0))) (Ap (Aa (gC (.str "fun")) (Aa (gC (.str "as")) Ac)))))))) (AD (Au (Ag (F9 n) XF (Aa (Ad (Ae ixW) (Ab 0) (Ab 2)) Ac))) (gNm 4) (Aw (gMt AH AS (Ab 1) (Aa (Ad Az (Ad Az (AN (Ab 0) AF (AG (Ab 2))) (Ah (Aa (Ab 4) Ac))) (AN (Ab 0) (AG (Ad Az (Ab 2) (gC (.int 1)))) AF)) Ac)))) Al
variable {o3 o4:Option W}
theorem Ge{i:Int}{a:Option W}(c:atI xs i=some v)(d:∀ f:Hw,∃ ty,tyN v f=some ty/\Bt ty "tuple"=false)(q:D.nx [some (.tup xs),a,some (.int i),o3,o4] G):gT1 n D [some (.tup xs),a,some (.int i),o3,o4] G:=by
 simp only[gT1,gIf,A1,AO,A2,Ad,Ae,Ab,Yb,Yc,ixW,c,Ak,BG]
 obtain⟨ty,e,b⟩:=d G
 simp only[e,b,Yq,if_false,Al]
 exact q
theorem UL{w:Str}{a:Option W}(c:atI (.str w::ys) 2=some (.tup zs))(h2:two w=true)(q:∀ b,G b=none->D.nx [some (.tup (.str w::ys)),a,some (.int 2),o3,o4] (put G b (.lst [.str "fun",.str "as"]))):gT1 n D [some (.tup (.str w::ys)),a,some (.int 2),o3,o4] G:=by
 simp only[gT1,gIf,A1,gNt,AO,gTB,A2,Ad,Ap,Aa,Ac,Ae,Ab,gC,Yb,Yc,ixW,c,Bf,Ak,BG,tyN,Bm]
 rw[show Bt "tuple" "tuple"=true by decide]
 simp only[if_true,show((2:Int)==2)=true from rfl,show(true != false)=true from rfl]
 refine⟨by decide,λb d=>?_⟩
 rw[JJ w Aj,Ak,h2]
 simp only[YE,Yq,if_false,Al]
 exact q b d
theorem C5{c:Te}{w:Str}{j:Nat}{a:List Te}(N:t.enc=.tup (.str w::ys))(hl:ys.length<=3)(y:(W.str w::ys)[i]?=some c.enc)(h2:i≠2\/two w=false)(r:∀ d:Te,(t.withPs (t.parts.set j d)).enc=.tup ((.str w::ys).set i d.enc))(hc:c.ok=true/\c.dp<=n/\c.cnt<=40)(L:a.length+240*c.cnt<=20000)(F:G p=some (.lst (a.map Te.enc)))
  (A:∀ o4 E,E p=some (.lst ((a++(lt n c).map λd=>t.withPs (t.parts.set j d)).map Te.enc))->(∀ b,b≠p->∀ u,G b=some u->E b=some u)->D.nx [some (.tup (.str w::ys)),some (.ref p),some (.int i),o3,o4] E):gT1 n D [some (.tup (.str w::ys)),some (.ref p),some (.int i),o3,o4] G:=by
 have l:atI (.str w::ys) (i:Int)=some c.enc:=C7 y
 have J:=DQ n c hc.1
 have hi:i <(W.str w::ys).length:=by
  rcases Nat.lt_or_ge i (W.str w::ys).length with z | z
  ·exact z
  ·rw[Qd z]at y;cases y
 obtain⟨zs,I⟩:∃ zs,c.enc=.tup zs:=by cases c;exact⟨_,rfl⟩
 have go:∀ s:Hw,(∀ b,b≠p->∀ u,G b=some u->s b=some u)->s p=some (.lst (a.map Te.enc))->AD (Au (Ag (F9 n) XF (Aa (Ad (Ae ixW) (Ab 0) (Ab 2)) Ac))) (gNm 4) (Aw (gMt AH AS (Ab 1) (Aa (Ad Az (Ad Az (AN (Ab 0) AF (AG (Ab 2))) (Ah (Aa (Ab 4) Ac))) (AN (Ab 0) (AG (Ad Az (Ab 2) (gC (.int 1)))) AF)) Ac))) D [some (.tup (.str w::ys)),some (.ref p),some (.int i),o3,o4] s:=by
  intro s K k
  simp only[AD,Au,Ag,Ad,Ae,Aa,Ac,Ab,Yb,Yc,ixW,l,Ak]
  refine⟨c,⟨rfl,hc⟩,λq H=>?_⟩
  have m:p≠q:=AI k H
  simp only[Aj]
  refine J2 (g:=λd=>t.withPs (t.parts.set j d)) (mk:=λo=>[some (.tup (.str w::ys)),some (.ref p),some (.int i),o3,o]) (λ_=>rfl) (λ_ _=>rfl) m (lt n c) o4 _ a (λd _ B Z z=>?_) (by omega) (by rw[Aq m];exact k) Aj λo B g1 g2=>?_
  ·refine Na (i:=i) (d:=d.enc) (λZ z=>z) (λZ z=>z) (λZ z=>z) (λZ z=>?_) hi (by rw[Yg];omega) (by rw[<- r];exact z)
   show Z (.int ((i:Int)+1)) B
   rw[show((i:Int)+1)=((i+1:Nat):Int) by omega];exact z
  ·exact A o B g1 λb f u x=>g2 b f u (AB H _ _ (K b f u x))
 simp only[gT1,gIf,A1,gNt,AO,gTB,A2,Ad,Ap,Aa,Ac,Ae,Ab,gC,Yb,Yc,ixW,l,Bf,Ak,Bm]
 rw[I]
 simp only[tyN,BG]
 rw[show Bt "tuple" "tuple"=true by decide]
 simp only[if_true]
 by_cases e:i=2
 ·have v:=h2.resolve_left λz=>z e
  rw[show(((i:Int)==2) != false)=true by rw[e];rfl,if_pos rfl]
  refine⟨by decide,λb f=>?_⟩
  rw[JJ w Aj,Ak,v]
  simp only[YL,if_true]
  exact go _ (λc _ u x=>AB f _ _ x) (AB f _ _ F)
 ·rw[show(((i:Int)==2) != false)=false by rw[show((i:Int)==2)=false from beq_eq_false_iff_ne.mpr (by omega)];rfl,if_neg (by decide)]
  simp only[YL,if_true]
  exact go G (λ_ _ _ h=>h) F
theorem UM{w:Str}(h:w∈[("call":Str),"plus","less","write","if","get","or","new","read"]):two w=false:=by
 simp only[Yo,YY,or_false]at h
 rcases h with rfl | rfl | rfl | rfl | rfl | rfl | rfl | rfl | rfl <;> decide +kernel
theorem io{w:Str}(h:KTD.datumAt w AX=some r.sorts)(S:w≠"rec"){a:List Te}(e:∀ c∈r.parts,c.ok=true/\c.dp<=n/\c.cnt<=40)(y:a.length+240*AK r.parts<=20000)(o:G p=some (.lst (a.map Te.enc)))
  (g:∀ P o4 l,l p=some (.lst ((a++ltS (lt n) (.nd w r) 0 r.parts).map Te.enc))->(∀ b,b≠p->∀ u,G b=some u->l b=some u)->D.nx [some (.tup (.str w::r.enc)),some (.ref p),P,o3,o4] l):
  Bh yes (gNm 2) (gT1 n) D ((List.range' 0 r.enc.length).map λj:Nat=>W.int (1+j)) [some (.tup (.str w::r.enc)),some (.ref p),none,o3,none] G:=by
 have id:∀{G:Hw}b,b≠p->∀ u,G b=some u->G b=some u:=λ_ _ _ h=>h
 have str:∀ x:Str,∀ G:Hw,∃ ty,tyN (.str x) G=some ty/\Bt ty "tuple"=false:=λx G=>⟨_,rfl,by decide⟩
 have f:r.enc.length<=3:=by rw[Dh];exact DG h
 have z:∀{K J F:Hw},(∀ b,b≠p->∀ u,K b=some u->J b=some u)->(∀ b,b≠p->∀ u,J b=some u->F b=some u)->∀ b,b≠p->∀ u,K b=some u->F b=some u:=λT O b s u A=>O b s u (T b s u A)
 rcases Hq h S with⟨rfl,i,rfl⟩|⟨rfl,i,rfl⟩|⟨rfl,x,rfl⟩|⟨rfl,x,k,t,rfl⟩|⟨rfl,t,x,rfl⟩|⟨rfl,t,x,u,rfl⟩|⟨rfl,t,u,v,rfl⟩|⟨rfl,t,k,rfl⟩|⟨hw,t,rfl⟩|⟨hw,t,u,rfl⟩
 ·exact⟨trivial,Ge (v:=.int i) rfl (λ_=>⟨_,rfl,by decide⟩) ⟨trivial,g _ _ G (by show G p=some (.lst ((a++[]).map Te.enc));rw[Yx];exact o) id⟩⟩
 ·exact⟨trivial,Ge (v:=.bl i) rfl (λ_=>⟨_,rfl,by decide⟩) ⟨trivial,g _ _ G (by show G p=some (.lst ((a++[]).map Te.enc));rw[Yx];exact o) id⟩⟩
 ·exact⟨trivial,Ge (v:=.str x) rfl (str x) ⟨trivial,g _ _ G (by show G p=some (.lst ((a++[]).map Te.enc));rw[Yx];exact o) id⟩⟩
 ·obtain⟨zs,H⟩:∃ zs,k.enc=.tup zs:=⟨_,(Hd k).choose_spec⟩
  have m:a.length+240*(t.cnt+0)<=20000:=y
  refine⟨trivial,Ge (v:=.str x) rfl (str x) ⟨trivial,UL (zs:=zs) (by rw[<- H];rfl) (by decide +kernel) λb s=>⟨trivial,?_⟩⟩⟩
  refine C5 (t:=.nd "fun" (.nam x (.knd k (.trm t .nil)))) (c:=t) (i:=3) (j:=0) rfl f rfl (.inl (by decide)) (λd=>rfl) (e t (.head _)) (by omega) (AB s _ _ o) λo4 l g1 g2=>⟨trivial,g _ _ l ?_ (z (λQ _ u A=>AB s _ _ A) g2)⟩
  rw[g1]
  show _=some (HW.lst ((a++((lt n t).map _++[])).map Te.enc))
  rw[Yx]
 ·have m:a.length+240*(t.cnt+0)<=20000:=y
  refine⟨trivial,C5 (t:=.nd "get" (.trm t (.nam x .nil))) (c:=t) (i:=1) (j:=0) rfl f rfl (.inl (by decide)) (λd=>rfl) (e t (.head _)) (by omega) o λo4 l g1 g2=>⟨trivial,Ge (v:=.str x) rfl (str x) ⟨trivial,g _ _ l ?_ g2⟩⟩⟩
  rw[g1]
  show _=some (HW.lst ((a++((lt n t).map _++[])).map Te.enc))
  rw[Yx]
 ·have m:a.length+240*(t.cnt+(u.cnt+0))<=20000:=y
  have L:=DQ n t (e t (.head _)).1
  refine⟨trivial,C5 (t:=.nd "or" (.trm t (.nam x (.trm u .nil)))) (c:=t) (i:=1) (j:=0) rfl f rfl (.inl (by decide)) (λd=>rfl) (e t (.head _)) (by omega) o λo4 l g1 g2=>⟨trivial,Ge (v:=.str x) rfl (str x) ⟨trivial,?_⟩⟩⟩
  refine C5 (t:=.nd "or" (.trm t (.nam x (.trm u .nil)))) (c:=u) (i:=3) (j:=1) rfl f rfl (.inl (by decide)) (λd=>rfl) (e u (.tail _ (.head _))) (by rw[Yj,Yh];omega) g1 λo4 q B E=>⟨trivial,g _ _ q ?_ (z g2 E)⟩
  rw[B,Yv]
  show _=some (HW.lst ((a++((lt n t).map _++((lt n u).map _++[]))).map Te.enc))
  rw[Yx]
 ·have m:a.length+240*(t.cnt+(u.cnt+(v.cnt+0)))<=20000:=y
  have L:=DQ n t (e t (.head _)).1
  have U:=DQ n u (e u (.tail _ (.head _))).1
  refine⟨trivial,C5 (t:=.nd "if" (.trm t (.trm u (.trm v .nil)))) (c:=t) (i:=1) (j:=0) rfl f rfl (.inl (by decide)) (λd=>rfl) (e t (.head _)) (by omega) o λo4 l g1 g2=>⟨trivial,?_⟩⟩
  refine C5 (t:=.nd "if" (.trm t (.trm u (.trm v .nil)))) (c:=u) (i:=2) (j:=1) rfl f rfl (.inr (UM (by decide +kernel))) (λd=>rfl) (e u (.tail _ (.head _))) (by rw[Yj,Yh];omega) g1 λo4 q B E=>⟨trivial,?_⟩
  refine C5 (t:=.nd "if" (.trm t (.trm u (.trm v .nil)))) (c:=v) (i:=3) (j:=2) rfl f rfl (.inl (by decide)) (λd=>rfl) (e v (.tail _ (.tail _ (.head _)))) (by rw[Yj,Yj,Yh,Yh];omega) B λo4 F N R=>⟨trivial,g _ _ F ?_ (z (z g2 E) R)⟩
  rw[N,Yv,Yv]
  show _=some (HW.lst ((a++((lt n t).map _++((lt n u).map _++((lt n v).map _++[])))).map Te.enc))
  rw[Yx]
 ·obtain⟨zs,H⟩:∃ zs,k.enc=.tup zs:=⟨_,(Hd k).choose_spec⟩
  have m:a.length+240*(t.cnt+0)<=20000:=y
  refine⟨trivial,C5 (t:=.nd "as" (.trm t (.knd k .nil))) (c:=t) (i:=1) (j:=0) rfl f rfl (.inl (by decide)) (λd=>rfl) (e t (.head _)) (by omega) o λo4 l g1 g2=>⟨trivial,UL (zs:=zs) (by rw[<- H];rfl) (by decide +kernel) λb s=>⟨trivial,g _ _ _ ?_ (z g2 λQ _ u A=>AB s _ _ A)⟩⟩⟩
  rw[AB s _ _ g1]
  show _=some (HW.lst ((a++((lt n t).map _++[])).map Te.enc))
  rw[Yx]
 ·have m:a.length+240*(t.cnt+0)<=20000:=y
  refine⟨trivial,C5 (t:=.nd w (.trm t .nil)) (c:=t) (i:=1) (j:=0) rfl f rfl (.inl (by decide)) (λd=>rfl) (e t (.head _)) (by omega) o λo4 l g1 g2=>⟨trivial,g _ _ l ?_ g2⟩⟩
  rw[g1]
  show _=some (HW.lst ((a++((lt n t).map _++[])).map Te.enc))
  rw[Yx]
 ·have m:a.length+240*(t.cnt+(u.cnt+0))<=20000:=y
  have L:=DQ n t (e t (.head _)).1
  have I:two w=false:=UM (by rcases hw with rfl | rfl | rfl | rfl <;> decide +kernel)
  refine⟨trivial,C5 (t:=.nd w (.trm t (.trm u .nil))) (c:=t) (i:=1) (j:=0) rfl f rfl (.inl (by decide)) (λd=>rfl) (e t (.head _)) (by omega) o λo4 l g1 g2=>⟨trivial,?_⟩⟩
  refine C5 (t:=.nd w (.trm t (.trm u .nil))) (c:=u) (i:=2) (j:=1) rfl f rfl (.inr I) (λd=>rfl) (e u (.tail _ (.head _))) (by rw[Yj,Yh];omega) g1 λo4 q B E=>⟨trivial,g _ _ q ?_ (z g2 E)⟩
  rw[B,Yv]
  show _=some (HW.lst ((a++((lt n t).map _++((lt n u).map _++[]))).map Te.enc))
  rw[Yx]
theorem UN:∀{f:Fl}{i:Nat}{c:Te},f.terms[i]?=some c->∃ x,f.enc[i]?=some (.tup [.str x,c.enc])/\∀ d:Te,f.enc.set i (.tup [.str x,d.enc])=(f.withT (f.terms.set i d)).enc
 | .nil,i,c,h=>by cases h
 | .cons x t r,0,c,h=>by
  cases h
  refine⟨x,rfl,λd=>?_⟩
  show _::r.enc=_::(r.withT r.terms).enc
  have go:∀ r:Fl,r.withT r.terms=r:=by
   intro r
   induction r using Fl.rec (motive_1:=λ_=>True) (motive_2:=λ_=>True)with
   | nd=>trivial
   | num=>trivial
   | tru=>trivial
   | nam=>trivial
   | knd=>trivial
   | trm=>trivial
   | fld=>trivial
   | cons x t r _ a=>show Fl.cons x t (r.withT r.terms)=_;rw[a]
   | _=>first | rfl | trivial
  rw[go r]
 | .cons x t r,i+1,c,h=>by
  obtain⟨b,h1,h2⟩:=UN (f:=r) (i:=i) h
  refine⟨b,h1,λd=>?_⟩
  show _::r.enc.set i _=_::(r.withT (r.terms.set i d)).enc
  rw[h2]
abbrev gT2(n:Nat):GS:=AD (Au (Ag (F9 n) XF (Aa (Ad (Ae ixW) (Ad (Ae ixW) (Ad (Ae ixW) (Ab 0) (gC (.int 1))) (Ab 2)) (gC (.int 1))) Ac))) (gNm 4) (Aw (gMt AH AS (Ab 1) (Aa (Ah (Aa (gC (.str "rec")) (Aa (Ad (Az) (Ad (Az) (AN (Ad (Ae ixW) (Ab 0) (gC (.int 1))) AF (AG (Ab 2))) (Ah (Aa (Ah (Aa (Ad (Ae ixW) (Ad (Ae ixW) (Ad (Ae ixW) (Ab 0) (gC (.int 1))) (Ab 2)) (gC (.int 0))) (Aa (Ab 4) Ac))) Ac))) (AN (Ad (Ae ixW) (Ab 0) (gC (.int 1))) (AG (Ad (Az) (Ab 2) (gC (.int 1)))) AF)) Ac))) Ac)))
theorem UO{n:Nat}{D:Ew}{f:Fl}{p:Addr}{o3:Option W}(k:f.enc.length<=1000):∀(l:List Te)(i:Nat)(e o4:Option W)(G:Hw)(a:List Te),f.terms.drop i=l->(∀ c∈l,c.ok=true/\c.dp<=n/\c.cnt<=40)->a.length+240*AK l<=20000->G p=some (.lst (a.map Te.enc))->
  (∀ e o4 y,y p=some (.lst ((a++ltS (lt n) (.nd "rec" (.fld f .nil)) i l).map Te.enc))->(∀ b,b≠p->∀ u,G b=some u->y b=some u)->D.nx [some (.tup [.str "rec",.tup f.enc]),some (.ref p),e,o3,o4] y)->
  Bh yes (gNm 2) (gT2 n) D ((List.range' i l.length).map λj:Nat=>W.int j) [some (.tup [.str "rec",.tup f.enc]),some (.ref p),e,o3,o4] G
 | [],i,e,o4,G,a,_,_,_,w,m=>⟨trivial,m e o4 G (by show G p=some (.lst ((a++[]).map Te.enc));rw[Yx];exact w) λ_ _ _ h=>h⟩
 | c::l,i,e,o4,G,a,hl,hc,I,w,m=>by
  have N:a.length+240*(c.cnt+AK l)<=20000:=I
  have O:=DQ n c (hc c Ye).1
  have r:f.terms[i]?=some c:=by
   have z:=congrArg (·[0]?) hl
   simpa using z
  obtain⟨nm,h1,h2⟩:=UN r
  have hi:i < f.enc.length:=by
   rcases Nat.lt_or_ge i f.enc.length with z | z
   ·exact z
   ·rw[Qd z]at h1;cases h1
  have x:f.terms.drop (i+1)=l:=by rw[<- List.drop_drop,hl];rfl
  have t:atI f.enc (i:Int)=some (.tup [.str nm,c.enc]):=C7 h1
  refine⟨trivial,?_⟩
  show gT2 n _ [some (.tup [.str "rec",.tup f.enc]),some (.ref p),some (.int i),o3,o4] G
  simp only[gT2,AD,Au,Ag,Ad,Ae,Ab,gC,Aa,Ac,Yb,Yc,ixW,A0,t,Ak]
  refine⟨c,⟨rfl,hc c Ye⟩,λq E=>?_⟩
  have v:p≠q:=AI w E
  simp only[Aj]
  refine J2 (g:=λd=>(Te.nd "rec" (.fld f .nil)).withPs ((Te.nd "rec" (.fld f .nil)).parts.set i d)) (mk:=λo=>[some (.tup [.str "rec",.tup f.enc]),some (.ref p),some (.int i),o3,o]) (λ_=>rfl) (λ_ _=>rfl) v (lt n c) o4 _ a (λd hd s Z z=>?_) (by omega) (by rw[Aq v];exact w) Aj λK s g1 g2=>?_
  ·have B:Z (.tup [.str "rec",.tup (f.withT ((f.terms++[]).set i d)).enc]) s:=z
   rw[Yx,<- h2]at B
   show Ad Az _ _ _ s _
   refine Na (i:=i) (d:=.tup [.str nm,d.enc]) (λZ z=>?_) (λZ z=>z) (λZ z=>?_) (λZ z=>?_) hi k ⟨(show 2<=sizeLine by decide),B⟩
   ·simp only[Ad,Ae,Ab,gC,Yb,ixW,A0,Ak]
    exact z
   ·simp only[Ah,Aa,Ac,Ad,Ae,Ab,gC,Yb,Yc,ixW,A0,t,Bf,Ak]
    exact⟨(show 2<=sizeLine by decide),z⟩
   ·show Z (.int ((i:Int)+1)) s
    rw[show((i:Int)+1)=((i+1:Nat):Int) by omega];exact z
  ·refine UO k l (i+1) _ _ s _ x (λd hd=>hc d (Yd _ hd)) (by rw[Yj,Yh];omega) g1 λe o4 J H L=>?_
   refine m e o4 J (by rw[H,Yv];rfl) λb A u F=>L b A u (g2 b A u (AB E _ _ F))
theorem ip{w:Str}(h:KTD.datumAt w AX=some r.sorts)(h2:two w=true)(d:Kd):((Te.nd w r).withKd d).enc=.tup ((.str w::r.enc).set 2 d.enc)/\2<=r.enc.length:=by
 have a:w≠"rec":=by rintro rfl;exact absurd h2 (by decide +kernel)
 rcases Hq h a with⟨rfl,i,rfl⟩|⟨rfl,i,rfl⟩|⟨rfl,i,rfl⟩|⟨rfl,x,k,t,rfl⟩|⟨rfl,t,x,rfl⟩|⟨rfl,t,x,u,rfl⟩|⟨rfl,t,u,v,rfl⟩|⟨rfl,t,k,rfl⟩|⟨rfl | rfl,t,rfl⟩|⟨rfl | rfl | rfl | rfl,t,u,rfl⟩ <;> first | exact⟨rfl,(show 3>=2 by decide)⟩| exact⟨rfl,(show 2>=2 by decide)⟩| exact absurd h2 (by decide +kernel)
theorem EB(T:Tx K mg base a):∀ n:Nat,Df P w K mg base "_law_less_terms" (n+10) 1 (F9 n)
 | 0=>CM T.Qu BE λws G Q E⟨k,⟨_,_,hd,_⟩,_⟩=>by have:=He k;omega
 | n+1=>by
  refine mk0 (k:=n+10) T.Qu rfl S7 BE (λws G Q E⟨x,⟨e,_⟩,_⟩=>by rw[e];rfl) (gf T (EA T 8 (by omega)) (by omega) (EB T n) (Yr _)) λws G Q E hC q=>?_
  obtain⟨t,⟨rfl,O,hd,hc⟩,q⟩:=q
  have Y:=Ci t
  have e2:=CL t
  have hK:=Jo (t:=t) t.told (F8 O)
  have h3:=Hm O
  have s:∀ c∈t.parts,c.ok=true/\c.dp<=n/\c.cnt<=40:=λc m=>⟨C2 O c m,by have:=F7 m;omega,by have:=Hf m;omega⟩
  cases t with
  | nd w r =>
  obtain⟨h1,h2⟩:=Cj O
  have hsl:=DG h1
  have hel:=Dh r
  unfold S8
  show Af (An 1 _) _ (Av Q) [some (.tup (.str w::r.enc)),none,none,none,none] G
  refine AL ?_
  simp only[Ap,Ac]
  refine⟨by decide,λp hp=>?_⟩
  walk_at "pd"
  have I:∀(A v B:Option W)(D:Ew)(y:Hw),y p=some (.lst ((lt (n+1) (.nd w r)).map Te.enc))->(∀ b,b≠p->∀ u,G b=some u->y b=some u)->D.rt=Q->Ai (Ab 1) D [some (.tup (.str w::r.enc)),some (.ref p),A,v,B] y:=by
   intro A v B D y h1 h2 hD
   simp only[Ai,Ab,Yb,Yc,hD]
   refine hC _ _ _ (λb u j=>?_) (q p hp)
   by_cases h:b=p
   ·subst h;rw[Aj]at j;cases j;exact h1
   ·rw[Aq h]at j;exact h2 b h u j
  refine D0 (λω' y=>∃ v,ω'=[some (.tup (.str w::r.enc)),some (.ref p),none,v,none]/\y p=some (.lst ((ltK (.nd w r) r.told).map Te.enc))/\∀ b,b≠p->∀ u,G b=some u->y b=some u) ?_ (λAo=>?_)
  rotate_left
  ·simp only[Af,gIf,gTB,Ad,Ae,Ab,gC,Ap,Aa,Ac,Yb,ixW,Bf,Ak]
   refine⟨by decide,λp2 H=>?_⟩
   have J:p≠p2:=AI Aj H
   have l:put (put G p (.lst [])) p2 (.lst [.str "fun",.str "as"]) p=some (.lst []):=by rw[Aq J];exact Aj
   have X:∀ b,b≠p->∀ u,G b=some u->put (put G p (.lst [])) p2 (.lst [.str "fun",.str "as"]) b=some u:=λb h u j=>AB H _ _ (by rw[Aq h];exact j)
   rw[JJ w Aj,Ak]
   generalize put (put G p (.lst [])) p2 (.lst [.str "fun",.str "as"])=L at l X ⊢
   rcases Ts h1 with⟨R,k,S,ea⟩|⟨R,S⟩
   ·have hk:=DP h2 k (by rw[S];exact Ye)
    rw[R]
    simp only[if_true,AD,Au,Ag,Ad,Ae,Ab,gC,Aa,Ac,Yb,ixW,ea,Ak]
    refine⟨k,⟨rfl,hk.2,by omega,by omega⟩,λz hz=>?_⟩
    have N:p≠z:=AI l hz
    simp only[Aj]
    have hll:=Ff 8 k
    refine J2 (enc:=Kd.enc) (g:=λd=>(Te.nd w r).withKd d) (mk:=λo=>[some (.tup (.str w::r.enc)),some (.ref p),none,o,none]) (λ_=>rfl) (λ_ _=>rfl) N (lk 8 k) none _ [] (λd _ L Z z=>?_) (by simp only[Yi];omega) (by rw[Aq N];exact l) Aj λo G3 g1 g2=>?_
    ·obtain⟨a1,a2⟩:=ip h1 R d
     exact Na (i:=2) (d:=d.enc) (λZ z=>z) (λZ z=>z) (λZ z=>z) (λZ z=>z) (by rw[Yg];omega) (by rw[Yg];omega) (by rw[<- a1];exact z)
    ·refine Ao _ _ ⟨o,rfl,?_,λb h u j=>g2 b h u (AB hz _ _ (X b h u j))⟩
     rw[g1,S]
     show _=some (HW.lst (((lk 8 k).map _++[]).map Te.enc))
     rw[Yx];rfl
   ·rw[R]
    simp only[Yq,if_false,Al]
    refine Ao _ _ ⟨none,rfl,?_,X⟩
    rw[S];exact l
  rintro ω' G1 ⟨v,rfl,F,s1⟩
  have hK':(ltK (.nd w r) r.told).length<=80*r.told.length:=hK
  have h3':r.told.length<=3:=h3
  walk_at "ps"
  by_cases e:w="rec"
  ·rw[show(w==("rec":Str))=true by simp[e]]
   obtain⟨f,rfl⟩:=(DF h1).1 e
   subst e
   simp only[show(true != false)=true from rfl,if_true]
   have U:=Mo f
   have hcl:=Hj f
   have m:1+(f.cnt+0)<=40:=hc
   have ep:(Te.nd "rec" (.fld f .nil)).parts=f.terms:=by show f.terms++[]=f.terms;rw[Yx]
   rw[ep]at s Y
   show AD _ _ (gT2 n) _ _ _
   simp only[AD,CF,gB,rF,Ad,Ae,Aa,Ac,Ab,gC,Yb,As.enc,ixW,A0,Ak,AZ,B9]
   refine⟨by omega,by omega,?_⟩
   rw[Int.toNat_natCast,U,List.range_eq_range']
   refine UO (by omega) f.terms 0 none none G1 _ rfl s (by have:AK f.terms<=40:=(by omega);omega) F λA B L g1 g2=>?_
   refine I A v B (Av Q) L ?_ (λb h u j=>g2 b h u (s1 b h u j)) rfl
   rw[g1]
   show _=some (HW.lst ((ltK _ _++ltS (lt n) _ 0 (Te.nd "rec" (.fld f .nil)).parts).map Te.enc))
   rw[ep];rfl
  ·rw[show(w==("rec":Str))=false by simpa using e]
   walk_at "px"
   show AD _ _ (gT1 n) _ _ _
   have el:AZ [.tup (.str w::r.enc)] G1=some (.int ((r.enc.length+1:Nat):Int)):=rfl
   simp only[AD,FP,gB,rF,Aa,Ac,Ab,gC,Yb,el,Ak]
   refine⟨1,((r.enc.length+1:Nat):Int),rfl,⟨by omega,by omega,by omega,by omega⟩,?_⟩
   rw[show(((r.enc.length+1:Nat):Int) - 1).toNat=r.enc.length by omega,List.range_eq_range']
   refine io h1 e s ?_ F λA B L g1 g2=>?_
   ·have e1':(Te.nd w r).cnt=1+AK r.parts:=Y
    omega
   ·exact I A v B (Av Q) L g1 (λb h u j=>g2 b h u (s1 b h u j)) rfl
mutual
theorem J3:∀ t:Te,plW t.enc=true
 | .nd w r=>by have:=Fq r;show(true&&plL r.enc)=true;rw[this];rfl
theorem Fq:∀ r:As,plL r.enc=true
 | .nil=>rfl
 | .num i r=>by have:=Fq r;show(true&&plL r.enc)=true;rw[this];rfl
 | .tru i r=>by have:=Fq r;show(true&&plL r.enc)=true;rw[this];rfl
 | .nam i r=>by have:=Fq r;show(true&&plL r.enc)=true;rw[this];rfl
 | .knd k r=>by have:=Fq r;show(plW k.enc&&plL r.enc)=true;rw[Fo,this];rfl
 | .trm t r=>by have:=Fq r;have:=J3 t;show(plW t.enc&&plL r.enc)=true;rw[‹plW t.enc=true›,‹plL r.enc=true›];rfl
 | .fld f r=>by have:=Fq r;have:=UP f;show(plL f.enc&&plL r.enc)=true;rw[‹plL f.enc=true›,‹plL r.enc=true›];rfl
theorem UP:∀ f:Fl,plL f.enc=true
 | .nil=>rfl
 | .cons x t r=>by have:=J3 t;have:=UP r;show((true&&(plW t.enc&&true))&&plL r.enc)=true;rw[‹plW t.enc=true›,‹plL r.enc=true›];rfl
end
mutual
theorem iq:∀ x:W,plW x=true->eqD x x=some true
 | .str s,_=>by show some (s==s)=_;rw[beq_self_eq_true]
 | .bl s,_=>by show some (s==s)=_;rw[beq_self_eq_true]
 | .int s,_=>by show some (s==s)=_;rw[beq_self_eq_true]
 | .tup xs,h=>Nb xs h
 | .non,h=>by cases h
 | .rol _,h=>by cases h
 | .ref _,h=>by cases h
theorem Nb:∀ xs:List W,plL xs=true->Bj xs xs=some true
 | [],_=>rfl
 | x::xs,h=>by
  obtain⟨h1,h2⟩:=M3 h
  exact Uz (iq x h1) (Nb xs h2)
end
theorem UQ(h:tg t):PT t.enc:=by
 have h1:=J3 t
 have h2:=J1 t h.1
 have b:=h.2.2
 cases t with
 | nd w r =>
  have a:L3.dpL (.str w::r.enc)+1<=3*(Te.nd w r).dp+25:=h2
  exact⟨_,rfl,h1,by omega⟩
theorem UR:∀ ts:List Te,plL (ts.map Te.enc)=true
 | []=>rfl
 | t::ts=>by show(plW t.enc&&plL (ts.map Te.enc))=true;rw[J3,UR ts];rfl
theorem ir(neg:Bool){r:Addr}(h1:G p=some (.lst xs))(h2:G r=some (.lst xs))(hd:L3.dpL xs < 90)(a:Bj xs xs=some true):eqF neg (.ref p) (.ref r) G=some (.bl (true != neg)):=by
 have:eqW (.ref p) (.ref r) G=some true:=by
  unfold eqW
  simp only[h1,h2]
  rw[if_pos hd,a]
 unfold eqF
 rw[this];rfl
theorem US:∀(fs:Fs)(us:List Kd),us.length=fs.kinds.length->(fs.withK us).names=fs.names/\(fs.withK us).kinds=us/\(fs.ok=true->(∀ c∈us,c.ok=true)->(fs.withK us).ok=true)
 | .nil,[],_=>⟨rfl,rfl,λ_ _=>rfl⟩
 | .cons n m k r,u::us,h=>by
  obtain⟨a,b,c⟩:=US r us (Nat.succ.inj h)
  refine⟨congrArg (n::·) a,congrArg (u::·) b,λh1 h2=>?_⟩
  have d:(AC n&&k.ok&&r.ok)=true:=h1
  simp only[YF]at d
  show(AC n&&u.ok&&(r.withK us).ok)=true
  rw[d.1.1,h2 u Ye,c d.2 λc hc=>h2 c (Yd _ hc)];rfl
theorem iu(k:Kd)(us:List Kd)(h:us.length=k.kids.length):(k.withK us).kids=us/\(k.ok=true->(∀ c∈us,c.ok=true)->(k.withK us).ok=true):=by
 cases k with
 | to x y =>
  match us,h with
  | [u,v],_=>exact⟨rfl,λ_ h=>by show(u.ok&&v.ok)=true;rw[h u (.head _),h v (.tail _ (.head _))];rfl⟩
 | box x =>
  match us,h with
  | [u],_=>exact⟨rfl,λ_ h=>h u (.head _)⟩
 | row fs o =>
  obtain⟨a,b,c⟩:=US fs us h
  refine⟨b,λh1 h2=>?_⟩
  have d:(A3 fs.names&&fs.ok)=true:=h1
  simp only[YF]at d
  show(A3 (fs.withK us).names&&(fs.withK us).ok)=true
  rw[a,d.1,c d.2 h2];rfl
 | any=>match us,h with | [],_=>exact⟨rfl,λ_ _=>rfl⟩
 | num=>match us,h with | [],_=>exact⟨rfl,λ_ _=>rfl⟩
 | truth=>match us,h with | [],_=>exact⟨rfl,λ_ _=>rfl⟩
theorem UT:∀{l:List Kd}{i:Nat}{c d:Kd},l[i]?=some c->d.cnt<=c.cnt->d.dp<=c.dp->AM (l.set i d)<=AM l/\dpL (l.set i d)<=dpL l
 | x::l,0,c,d,h,h1,h2=>by
  cases h
  exact⟨by show d.cnt+AM l<=x.cnt+AM l;omega,by show max d.dp (dpL l)<=max x.dp (dpL l);omega⟩
 | x::l,i+1,c,d,h,h1,h2=>by
  obtain⟨a,b⟩:=UT (l:=l) (i:=i) h h1 h2
  exact⟨by show x.cnt+AM (l.set i d)<=x.cnt+AM l;omega,by show max x.dp (dpL (l.set i d))<=max x.dp (dpL l);omega⟩
theorem UU{f:Kd->List Kd}{k d:Kd}:∀{l:List Kd}{i:Nat},d∈lkS f k i l->∃ j c d',l[j]?=some c/\d'∈f c/\d=k.withK (k.kids.set (i+j) d')
 | c::l,i,h=>by
  rcases Yz.mp (show d∈(f c).map _++lkS f k (i+1) l from h)with h | h
  ·obtain⟨d',h1,rfl⟩:=YC.mp h
   exact⟨0,c,d',rfl,h1,rfl⟩
  ·obtain⟨j,a,d',h1,h2,b⟩:=UU h
   exact⟨j+1,a,d',h1,h2,by rw[b];congr 2;omega⟩
theorem UV:∀(n:Nat){k:Kd},k.ok=true->∀ d∈lk n k,d.ok=true/\d.cnt<=k.cnt/\d.dp<=k.dp
 | 0,k,_,d,h=>by cases h
 | n+1,k,a,d,h=>by
  rcases Yz.mp (show d∈((if k.hd="any" then[]else[.any])++opn k)++lkS (lk n) k 0 k.kids from h)with h | h
  ·rcases Yz.mp h with h | h
   ·split at h
    ·cases h
    ·rw[YA.mp h];exact⟨rfl,Ij k,C1 k⟩
   ·unfold opn at h
    split at h
    ·rw[YA.mp h];exact⟨a,Yr _,Yr _⟩
    ·cases h
  ·obtain⟨j,c,f,h1,h2,rfl⟩:=UU h
   rw[Nat.zero_add]
   have hc:c∈k.kids:=List.mem_of_getElem? h1
   obtain⟨m,l,i⟩:=UV n (GW a c hc) f h2
   obtain⟨o,p⟩:=UT h1 l i
   obtain⟨e,g⟩:=iu k (k.kids.set j f) (by rw[List.length_set])
   refine⟨g a λx b=>?_,?_,?_⟩
   ·rcases List.mem_or_eq_of_mem_set b with b | rfl
    ·exact GW a x b
    ·exact m
   ·rw[Cf,Cf k,e];omega
   ·rw[FR,FR k,e];omega
theorem Ft(d:Kd):∀ r:As,(r.withKd d).parts=r.parts/\(r.withKd d).sorts=r.sorts/\(r.ok=true->d.ok=true->Bd d=true->(r.withKd d).ok=true)
 | .nil=>⟨rfl,rfl,λ_ _ _=>rfl⟩
 | .num i r=>by
  obtain⟨a,b,c⟩:=Ft d r
  refine⟨a,congrArg (_::·) b,λh h1 h2=>?_⟩
  walk_at "pB"
  walk_at "pa"
  show(decide (-NB<=i/\i<=NB)&&(r.withKd d).ok)=true
  rw[h'.1,c h'.2 h1 h2];rfl
 | .tru i r=>by
  obtain⟨a,b,c⟩:=Ft d r
  exact⟨a,congrArg (_::·) b,c⟩
 | .nam x r=>by
  obtain⟨a,b,c⟩:=Ft d r
  refine⟨a,congrArg (_::·) b,λh h1 h2=>?_⟩
  have h':(AC x&&r.ok)=true:=h
  walk_at "pa"
  show(AC x&&(r.withKd d).ok)=true
  rw[h'.1,c h'.2 h1 h2];rfl
 | .knd k r=>by
  obtain⟨a,b,c⟩:=Ft d r
  refine⟨a,congrArg (_::·) b,λh h1 h2=>?_⟩
  have h':((k.ok&&Bd k)&&r.ok)=true:=h
  walk_at "pa"
  show((d.ok&&Bd d)&&(r.withKd d).ok)=true
  rw[h1,h2,c h'.2 h1 h2];rfl
 | .trm t r=>by
  obtain⟨a,b,c⟩:=Ft d r
  refine⟨congrArg (t::·) a,congrArg (_::·) b,λh h1 h2=>?_⟩
  have h':(t.ok&&r.ok)=true:=h
  walk_at "pa"
  show(t.ok&&(r.withKd d).ok)=true
  rw[h'.1,c h'.2 h1 h2];rfl
 | .fld f r=>by
  obtain⟨a,b,c⟩:=Ft d r
  refine⟨congrArg (f.terms++·) a,congrArg (_::·) b,λh h1 h2=>?_⟩
  have h':((A3 f.names&&f.ok)&&r.ok)=true:=h
  walk_at "pa"
  show((A3 f.names&&f.ok)&&(r.withKd d).ok)=true
  rw[h'.1.1,h'.1.2,c h'.2 h1 h2];rfl
theorem UW:∀(f:Fl)(us:List Te),us.length=f.terms.length->(f.withT us).names=f.names/\(f.withT us).terms=us/\(f.ok=true->(∀ c∈us,c.ok=true)->(f.withT us).ok=true)
 | .nil,[],_=>⟨rfl,rfl,λ_ _=>rfl⟩
 | .cons n k r,u::us,h=>by
  obtain⟨a,b,c⟩:=UW r us (Nat.succ.inj h)
  refine⟨congrArg (n::·) a,congrArg (u::·) b,λh1 h2=>?_⟩
  have d:((AC n&&k.ok)&&r.ok)=true:=h1
  simp only[YF]at d
  show((AC n&&u.ok)&&(r.withT us).ok)=true
  rw[d.1.1,h2 u Ye,c d.2 λc hc=>h2 c (Yd _ hc)];rfl
theorem J5:∀(r:As)(us:List Te),("fields":Str)∉r.sorts->us.length=r.parts.length->(r.withPs us).parts=us/\(r.withPs us).sorts=r.sorts/\(r.ok=true->(∀ c∈us,c.ok=true)->(r.withPs us).ok=true)
 | .nil,[],_,_=>⟨rfl,rfl,λ_ _=>rfl⟩
 | .num i r,us,d,hl=>by
  walk_at "pJ"
  refine⟨a,congrArg (_::·) b,λh h2=>?_⟩
  walk_at "pB"
  walk_at "pa"
  show(decide (-NB<=i/\i<=NB)&&(r.withPs us).ok)=true
  rw[h'.1,c h'.2 h2];rfl
 | .tru i r,us,d,hl=>by
  walk_at "pJ"
  exact⟨a,congrArg (_::·) b,c⟩
 | .nam x r,us,d,hl=>by
  walk_at "pJ"
  refine⟨a,congrArg (_::·) b,λh h2=>?_⟩
  have h':(AC x&&r.ok)=true:=h
  walk_at "pa"
  show(AC x&&(r.withPs us).ok)=true
  rw[h'.1,c h'.2 h2];rfl
 | .knd k r,us,d,hl=>by
  walk_at "pJ"
  refine⟨a,congrArg (_::·) b,λh h2=>?_⟩
  have h':((k.ok&&Bd k)&&r.ok)=true:=h
  walk_at "pa"
  show((k.ok&&Bd k)&&(r.withPs us).ok)=true
  rw[h'.1.1,h'.1.2,c h'.2 h2];rfl
 | .trm t r,u::us,d,hl=>by
  obtain⟨a,b,c⟩:=J5 r us (λz=>d (Yd _ z)) (Nat.succ.inj hl)
  refine⟨congrArg (u::·) a,congrArg (_::·) b,λh h2=>?_⟩
  have h':(t.ok&&r.ok)=true:=h
  walk_at "pa"
  show(u.ok&&(r.withPs us).ok)=true
  rw[h2 u (.head _),c h'.2 λc hc=>h2 c (.tail _ hc)];rfl
 | .fld f r,us,d,hl=>absurd Ye d
theorem iw(i:t.ok=true)(us:List Te)(h:us.length=t.parts.length)(h2:∀ c∈us,c.ok=true):(t.withPs us).parts=us/\(t.withPs us).ok=true:=by
 cases t with
 | nd w r =>
 obtain⟨h1,g⟩:=Cj i
 by_cases e:w="rec"
 ·obtain⟨f,rfl⟩:=(DF h1).1 e
  have hl:us.length=(f.terms++[]).length:=h
  rw[Yx]at hl
  obtain⟨a,b,c⟩:=UW f us hl
  have d:((A3 f.names&&f.ok)&&true)=true:=g
  simp only[Bool.and_true,YF]at d
  refine⟨by show(f.withT us).terms++[]=us;rw[Yx,b],Co (r:=.fld (f.withT us) .nil) h1 ?_⟩
  show((A3 (f.withT us).names&&(f.withT us).ok)&&true)=true
  rw[a,d.1,c d.2 h2];rfl
 ·obtain⟨a,b,c⟩:=J5 r us ((DF h1).2 e) h
  exact⟨a,Co (r:=r.withPs us) (by rw[b];exact h1) (c g h2)⟩
theorem UX:∀{l:List Te}{i:Nat}{c d:Te},l[i]?=some c->d.cnt<=c.cnt->d.dp<=c.dp->AK (l.set i d)<=AK l/\tdp (l.set i d)<=tdp l
 | x::l,0,c,d,h,h1,h2=>by
  cases h
  exact⟨by show d.cnt+AK l<=x.cnt+AK l;omega,by show max d.dp (tdp l)<=max x.dp (tdp l);omega⟩
 | x::l,i+1,c,d,h,h1,h2=>by
  obtain⟨a,b⟩:=UX (l:=l) (i:=i) h h1 h2
  exact⟨by show x.cnt+AK (l.set i d)<=x.cnt+AK l;omega,by show max x.dp (tdp (l.set i d))<=max x.dp (tdp l);omega⟩
theorem UY{f:Te->List Te}{t d:Te}:∀{l:List Te}{i:Nat},d∈ltS f t i l->∃ j c d',l[j]?=some c/\d'∈f c/\d=t.withPs (t.parts.set (i+j) d')
 | c::l,i,h=>by
  rcases Yz.mp (show d∈(f c).map _++ltS f t (i+1) l from h)with h | h
  ·obtain⟨d',h1,rfl⟩:=YC.mp h
   exact⟨0,c,d',rfl,h1,rfl⟩
  ·obtain⟨j,a,d',h1,h2,b⟩:=UY h
   exact⟨j+1,a,d',h1,h2,by rw[b];congr 2;omega⟩
theorem Fu:∀{r:As},r.ok=true->∀ k∈r.told,k.ok=true
 | .nil,_,c,hc=>by cases hc
 | .num i r,h,c,hc=>by
  walk_at "pB"
  walk_at "pa"
  exact Fu h'.2 c hc
 | .tru _ r,h,c,hc=>Fu (r:=r) h c hc
 | .nam x r,h,c,hc=>by
  have h':(AC x&&r.ok)=true:=h
  walk_at "pa"
  exact Fu h'.2 c hc
 | .knd k r,h,c,hc=>by
  have h':((k.ok&&Bd k)&&r.ok)=true:=h
  walk_at "pa"
  rcases Yo.mp hc with rfl | hc
  ·exact h'.1.1
  ·exact Fu h'.2 c hc
 | .trm t r,h,c,hc=>by
  have h':(t.ok&&r.ok)=true:=h
  walk_at "pa"
  exact Fu h'.2 c hc
 | .fld f r,h,c,hc=>by
  have h':((A3 f.names&&f.ok)&&r.ok)=true:=h
  walk_at "pa"
  exact Fu h'.2 c hc
theorem UZ:∀(n:Nat){t:Te},t.ok=true->∀ u∈lt n t,TmB t.cnt t.dp u
 | 0,t,_,u,h=>by cases h
 | n+1,t,a,u,h=>by
  rcases Yz.mp (show u∈ltK t t.told++ltS (lt n) t 0 t.parts from h)with h | h
  ·obtain⟨k,m,h⟩:=List.mem_flatMap.mp h
   obtain⟨j,s,rfl⟩:=YC.mp h
   have z:=F8 a k m
   cases t with
   | nd w r =>
   obtain⟨h1,q⟩:=Cj a
   obtain⟨d,p,o⟩:=UV 8 (Fu q k m) j s
   obtain⟨f,g,y⟩:=Ft j r
   have e:((Te.nd w r).withKd j).parts=(Te.nd w r).parts:=f
   refine⟨Co (r:=r.withKd j) (by rw[g];exact h1) (y q d (by unfold Bd;rw[YN];omega)),?_,?_⟩
   ·rw[Ci,e,<- Ci];exact Yr _
   ·rw[CL,e,<- CL];exact Yr _
  ·obtain⟨j,c,i,h1,h2,rfl⟩:=UY h
   rw[Nat.zero_add]
   have hc:c∈t.parts:=List.mem_of_getElem? h1
   obtain⟨d,p,o⟩:=UZ n (C2 a c hc) i h2
   obtain⟨f,g⟩:=UX h1 p o
   obtain⟨l,v⟩:=iw a (t.parts.set j i) (by rw[List.length_set]) λx b=>by
    rcases List.mem_or_eq_of_mem_set b with b | rfl
    ·exact C2 a x b
    ·exact d
   exact⟨v,by rw[Ci,Ci t,l];omega,by rw[CL,CL t,l];omega⟩
abbrev ix:Spw:=DV (λ(k:Kd)s ws _=>ws=[.ref s,k.enc]/\KdOk 4 2 k) λ_ _ r _=>∃ t:Te,r=t.enc/\tg t
abbrev J4:GS:=Af (An 4 (Ag (CO 4) XF (Aa (Ab 0) (Aa (Ab 1) (Aa HZ (Aa (Ab 3) Ac)))))) (Af (An 5 (Ag (MK 22) XF (Aa (Ab 4) Ac))) (gIf (A1 (gTB (Ad (A9 (λi j=>decide (i<=j)) (λa b=>!A6 b a)) (Ad (Ae ixW) (Ab 5) (gC (.int 0))) (gC (.int 40)))) (A1 (gTB (Ad (A9 (λi j=>decide (i<=j)) (λa b=>!A6 b a)) (Ad (Ae ixW) (Ab 5) (gC (.int 1))) (gC (.int 10)))) (gOr (gTB (Ad (Ae (eqF false)) (Ab 2) (Ah (Aa (gC (.str "num")) (Aa (gC (.int 0)) Ac))))) (gTB (Ad (Bb λi j=>decide (j < i)) (Ag Cz XF (Aa (Ab 0) (Aa (gC (.int 3)) Ac))) (gC (.int 0))))))) (An 2 (Ab 4)) Al))
theorem U0{s q:Addr}{items:List W}{k:Kd}{D:Ew}(L:KdOk 4 2 k)(w:q≠s):∀(l:List Nat)(t:Te)(o3 o4 c:Option W)(G:Hw),tg t->St s G->G q=some (.lst items)->(∀ m∈l,m<=3)->(∀(t:Te)o3 o4 c h,tg t->Hs s G h->D.nx [some (.ref s),some k.enc,some t.enc,o3,o4,c] h)->Bh (holds q items) (gNm 3) J4 D (l.map λm:Nat=>W.int m) [some (.ref s),some k.enc,some t.enc,o3,o4,c] G
 | [],t,o3,o4,c,G,i,hs,B,_,e=>⟨B,e t o3 o4 c G i (Hs.refl hs)⟩
 | m::l,t,o3,o4,c,G,i,hs,B,K,e=>by
  have F:=K m Ye
  refine⟨B,?_⟩
  show J4 _ [some (.ref s),some k.enc,some t.enc,some (.int m),o4,c] G
  refine AL ?_
  simp only[Ag,Ab,HZ,Aa,Ac,Yb,Yc]
  intro z Q
  have j:=Hs.new (o:=.dct []) hs Q
  refine Bx (by omega) F (L.mono (by unfold kb;omega) (by unfold kp;omega)) ⟨[],Aj,(λx P=>by cases P),by rw[Yi];omega⟩ j.1 rfl λu J A d=>?_
  have d:=j.trans d
  have R:tb m<=1104/\td m<=22:=by
   have:m=0\/m=1\/m=2\/m=3:=by omega
   rcases this with rfl | rfl | rfl | rfl <;> decide
  refine AL ?_
  simp only[Ag,Ab,Aa,Ac,Yb,Yc,Yk,Yl]
  refine⟨u,⟨rfl,A.1,by have:=A.2.2;omega,by have:=A.2.1;omega⟩,λy N=>?_⟩
  have a:=d.put (o:=.lst [.int (u.cnt:Nat),.int (u.dp:Nat)]) N
  have g:put J y (.lst [.int (u.cnt:Nat),.int (u.dp:Nat)]) y=some (.lst [.int (u.cnt:Nat),.int (u.dp:Nat)]):=Aj
  generalize put J y (.lst [.int (u.cnt:Nat),.int (u.dp:Nat)])=G3 at a g ⊢
  have next:∀(v:Te)h,tg v->Hs s G h->Bh (holds q items) (gNm 3) J4 D (l.map λm:Nat=>W.int m) [some (.ref s),some k.enc,some v.enc,some (.int m),some u.enc,some (.ref y)] h:=λv h O f=>U0 L w l v _ _ _ h O f.1 (f.2 q w _ B) (λm E=>K m (Yd _ E)) λt o3 o4 c H h1 h2=>e t o3 o4 c H h1 (f.trans h2)
  simp only[gIf,A1,gOr,gTB,Ad,A9,Ae,Ab,gC,Ah,Aa,Ac,Yb,Yc,Yk,Yl,ix0 g,ix1 g,Ak]
  refine DY (λh1=>?_) (λ_=>?_)
  ·refine DY (λh2=>?_) (λ_=>?_)
   ·have T:(u.cnt:Int)<=40:=of_decide_eq_true h1
    have U:(u.dp:Int)<=10:=of_decide_eq_true h2
    have p:tg u:=⟨A.1,by omega,by omega⟩
    refine⟨by decide,Gc (UQ i) (UQ (t:=.nd "num" (.num 0 .nil)) ⟨by decide +kernel,by decide,by decide⟩) λb=>?_⟩
    refine DY (λ_=>?_) (λ_=>?_)
    ·exact next u G3 p a
    ·simp only[Ag,Ab,gC,Aa,Ac,Yb]
     refine BW (by decide) (by decide) a.1 λr I S r1 n=>?_
     refine DY (λ_=>?_) (λ_=>?_)
     ·exact next u I p (a.trans n)
     ·exact next t I i (a.trans n)
   ·exact next t G3 i a
  ·exact next t G3 i a
theorem JE(T:Tx K mg base a):Df P w K mg base "_law_drawn" 25 2 ix:=by
 refine mk0 (k:=24) T.dR rfl S1 CA (λd G Q E⟨k,s,⟨e,_⟩,_⟩=>by rw[e];rfl) (f3 T (BR T 4) (by omega) (Ez T 22) (by omega) (Ba T) (by omega)) λd G Q E j q=>?_
 obtain⟨k,s,⟨rfl,f⟩,hs,q⟩:=q
 unfold S2
 show Af (An 2 _) _ (Av Q) [some (.ref s),some k.enc,none,none,none,none] G
 refine AL ?_
 simp only[Ah,gC,Aa,Ac]
 refine⟨by decide,?_⟩
 show Af (AD _ _ J4) _ _ _ _
 simp only[Af,AD,Au,Ap,gC,Aa,Ac,Yk,Yl]
 refine⟨by decide,λz b=>?_⟩
 simp only[Aj]
 refine U0 f (Hs.ne hs b) [1,2,2,3,3] (.nd "num" (.num 0 .nil)) none none none _ ⟨by decide +kernel,by decide,by decide⟩ (hs.put b) Aj (by decide) λt h l i m c g=>?_
 simp only[Ai,Ab,Yb,Yc]
 exact q _ _ ⟨t,rfl,c⟩ ((Hs.new hs b).trans g)
theorem iy(T:Tx K mg base a){fd:FuncData}(F:Fun K "law" "law" FU f fd):FnOk P w K mg base (CXe P w) 27 f fd ["script"] (FD K Ih):=by
 refine ok0 F Th (λS G Q E⟨ns,e,_⟩=>by rw[e];rfl) (gA (k:=26) T (JD T) (by omega) (B7 T 2) (by omega) (JE T) (by omega) (EB T 10) (by omega) (Ju T) (by omega) (JF T) (by omega) (ED T 10) (by omega) (Jr T) (by omega)) λS G Q E hC q=>?_
 obtain⟨ns,rfl,O,q⟩:=q
 unfold Ti
 show Af (An 1 _) _ (Av Q) [some (.rol (ns.map W.int)),none,none,none,none,none,none] G
 refine AL ⟨ns,rfl,λs x f hs=>?_⟩
 have o:St s (put G s (ST x f)):=⟨x,f,Aj⟩
 generalize put G s (ST x f)=G1 at o ⊢
 walk_at "pd"
 refine AL ?_
 simp only[Ag,Ab,gC,Aa,Ac,Yb,Yc]
 refine EI (m:=1) (by decide) o λk G2 Y D=>?_
 refine⟨k,s,⟨rfl,Y⟩,D.1,λr J U hg3=>?_⟩
 obtain⟨t,rfl,c⟩:=U
 walk_at "pd"
 refine AL ⟨t,⟨rfl,c.1,c.2.2,c.2.1⟩,λb L=>?_⟩
 walk_at "pd"
 have n:put J b (.lst ((lt 10 t).map Te.enc)) b=some (.lst ((lt 10 t).map Te.enc)):=Aj
 generalize put J b (.lst ((lt 10 t).map Te.enc))=G4 at n ⊢
 refine AL ⟨t,⟨rfl,c⟩,?_⟩
 simp only[Af,gIf,gOr,gNt,AO,gTB,Ad,Ae,Ag,Ab,gC,Aa,Ac,Yb,Yc,Yk,Yl]
 refine⟨(Jt t:Int),rfl,?_⟩
 simp only[BG,YE,Yq,if_false]
 refine⟨t,⟨rfl,c.1,c.2.2,by have:=c.2.1;omega⟩,?_⟩
 dsimp only
 rw[Bm,show((Jt t:Int)==((tN 10 t:Nat):Int))=true from beq_self_eq_true _]
 simp only[Ak,show(true != true)=false from rfl,Yq,if_false,Al]
 simp only[Af,AD,CF,Aa,Ac,gC]
 refine⟨by decide,by decide,?_⟩
 have hdl:=M9 λu I=>UZ 10 c.1 u I
 have hdp:=c.2.2
 have Z:=DQ 10 t c.1
 have hcn:=c.2.1
 have g:∀(l:List Nat)(z y:Option W)(d:Hw),d b=some (.lst ((lt 10 t).map Te.enc))->Bh yes (gNm 5) (Af (An 6 (Ag SM XF (Aa (Ab 2) Ac))) (Af (gIf (gOr (gNt (AO (A2 "list" (Ab 6)))) (gOr (gTB (Ad (Ae (eqF true)) (Ab 6) (Ab 3))) (gNt (AO (gB (rF By) (Aa (AQ (Au (Ab 6)) 1 (gNm 0) AA (A2 "tuple" (Ab 0))) Ac)))))) (Ai (gC (.bl false))) Al) (Aw (gMt AH AS (Ab 6) (Aa (Ah Ac) Ac))))) {nx:=Ai (gC (.bl true)) (Av Q),rt:=(Av Q).rt,bk:=(Av Q).bk,ct:=(Av Q).ct} (l.map λj:Nat=>W.int j) [some (.rol (ns.map W.int)),some (.ref s),some t.enc,some (.ref b),some (.int (Jt t:Nat)),z,y] d:=by
  intro l
  induction l with
  | nil=>intro z y d A;exact⟨trivial,q _⟩
  | cons j l X =>
   intro z y d A
   refine⟨trivial,?_⟩
   simp only[gNm,Yk,Yl]
   refine AL ⟨t,⟨rfl,c⟩,λfo H=>?_⟩
   have p:b≠fo:=AI A H
   have v:put d fo (.lst ((lt 10 t).map Te.enc)) b=some (.lst ((lt 10 t).map Te.enc)):=by rw[Aq p];exact A
   have i:put d fo (.lst ((lt 10 t).map Te.enc)) fo=some (.lst ((lt 10 t).map Te.enc)):=Aj
   generalize put d fo (.lst ((lt 10 t).map Te.enc))=G6 at v i ⊢
   simp only[Af,gIf,gOr,gNt,AO,gTB,A2,Ad,Ae,gB,rF,AQ,Au,Ab,gC,Aa,Ac,Yb,Yc,Yk,Yl,tyN,i]
   rw[show Bt "list" "list"=true by decide]
   simp only[BG,YE,Yq,if_false]
   rw[ir true i v (by omega) (Nb _ (UR _)),Ak]
   simp only[show(true != true)=false from rfl,Yq,if_false]
   refine El (enc:=Te.enc) (f:=λ_=>.bl true) (cst:=[]) i (lt 10 t) none [] (λu I Q' R=>?_) (by exact AT (by simp only[Yi];omega)) λp1 h=>?_
   ·cases u with
    | nd w r=>exact R
   ·have B:put G6 p1 (.lst ([]++(lt 10 t).map λ_=>W.bl true)) fo=some (.lst ((lt 10 t).map Te.enc)):=AB h _ _ i
    have N:put G6 p1 (.lst ([]++(lt 10 t).map λ_=>W.bl true)) b=some (.lst ((lt 10 t).map Te.enc)):=AB h _ _ v
    have e:By [.ref p1] (put G6 p1 (.lst ([]++(lt 10 t).map λ_=>W.bl true)))=some (.bl true):=by
     unfold By
     simp only[EK Aj,Option.bind_some,Yw]
     rw[show((lt 10 t).map λ_=>W.bl true)=((lt 10 t).map λ_=>true).map W.bl by rw[YB];rfl,Hv]
     simp
    rw[e,Ak]
    generalize put G6 p1 (.lst ([]++(lt 10 t).map λ_=>W.bl true))=G7 at B N ⊢
    simp only[YE,Yq,if_false,Al,Aw,gMt,Ah,Aa,Ac,Ab,Yb,Yc]
    refine⟨Bv B,by decide,Ck B (by rw[Yh];exact Bl (by omega)) ?_⟩
    exact X _ _ _ (by rw[Aq p];exact N)
 exact g [0,1] none none G4 n
theorem Gf{e:DictEntry}{x:Str}{i:Int}{t u:Tok}{es:List DictEntry}{D:List (Str×KTD.Dat)}(h1:e.key=.str x t)(h2:e.val=.int i u)(r:KTD.Rows (KTD.Dat.At base) es D):KTD.Rows (KTD.Dat.At base) (e::es) ((x,KTD.Dat.flat (.int i))::D):=
 .cons h1 (by rw[h2];exact PyProof.V.Flat.int i u) r
theorem iz{h:Heap}(X:K.In h)(G:h.Ns mainGlobals mg)(FF:Fns K mg)(NN:Bls mg){c_CastError c_NoTerm:Addr}{z_MARKS:Addr}{w0_MARKS w1_MARKS:Tok}{nn_MARKS:Nat}{sl_MARKS:Array (Option Value)}{w_MOST_DEPTH:Tok}{w_MOST_KINDS:Tok}{w_MOST_LETTERS:Tok}{w_MOST_NUMBER:Tok}{w_MOST_TERMS:Tok}{w_MOST_TERM_DEPTH:Tok}{z_LENGTHS:Addr}{ep_LENGTHS:Nat}{e0_LENGTHS e1_LENGTHS e2_LENGTHS e3_LENGTHS e4_LENGTHS e5_LENGTHS:DictEntry}{a0_LENGTHS b0_LENGTHS a1_LENGTHS b1_LENGTHS a2_LENGTHS b2_LENGTHS a3_LENGTHS b3_LENGTHS a4_LENGTHS b4_LENGTHS a5_LENGTHS b5_LENGTHS:Tok}{z_FORMS:Addr}{ep_FORMS:Nat}{s0_FORMS:DictEntry}{st0_FORMS:Tok}{sa0_FORMS:Addr}{sn0_FORMS:Nat}{sl0_FORMS:Array (Option Value)}{sw0_0_FORMS:Tok}{s1_FORMS:DictEntry}{st1_FORMS:Tok}{sa1_FORMS:Addr}{sn1_FORMS:Nat}{sl1_FORMS:Array (Option Value)}{sw1_0_FORMS:Tok}{s2_FORMS:DictEntry}{st2_FORMS:Tok}{sa2_FORMS:Addr}{sn2_FORMS:Nat}{sl2_FORMS:Array (Option Value)}{sw2_0_FORMS:Tok}{s3_FORMS:DictEntry}{st3_FORMS:Tok}{sa3_FORMS:Addr}{sn3_FORMS:Nat}{sl3_FORMS:Array (Option Value)}{sw3_0_FORMS:Tok}{sw3_1_FORMS:Tok}{sw3_2_FORMS:Tok}{s4_FORMS:DictEntry}{st4_FORMS:Tok}{sa4_FORMS:Addr}{sn4_FORMS:Nat}{sl4_FORMS:Array (Option Value)}{sw4_0_FORMS:Tok}{sw4_1_FORMS:Tok}{s5_FORMS:DictEntry}{st5_FORMS:Tok}{sa5_FORMS:Addr}{sn5_FORMS:Nat}{sl5_FORMS:Array (Option Value)}{sw5_0_FORMS:Tok}{s6_FORMS:DictEntry}{st6_FORMS:Tok}{sa6_FORMS:Addr}{sn6_FORMS:Nat}{sl6_FORMS:Array (Option Value)}{sw6_0_FORMS:Tok}{sw6_1_FORMS:Tok}{s7_FORMS:DictEntry}{st7_FORMS:Tok}{sa7_FORMS:Addr}{sn7_FORMS:Nat}{sl7_FORMS:Array (Option Value)}{sw7_0_FORMS:Tok}{sw7_1_FORMS:Tok}{sw7_2_FORMS:Tok}{s8_FORMS:DictEntry}{st8_FORMS:Tok}{sa8_FORMS:Addr}{sn8_FORMS:Nat}{sl8_FORMS:Array (Option Value)}{sw8_0_FORMS:Tok}{sw8_1_FORMS:Tok}{sw8_2_FORMS:Tok}{s9_FORMS:DictEntry}{st9_FORMS:Tok}{sa9_FORMS:Addr}{sn9_FORMS:Nat}{sl9_FORMS:Array (Option Value)}{sw9_0_FORMS:Tok}{sw9_1_FORMS:Tok}{s10_FORMS:DictEntry}{st10_FORMS:Tok}{sa10_FORMS:Addr}{sn10_FORMS:Nat}{sl10_FORMS:Array (Option Value)}{sw10_0_FORMS:Tok}{sw10_1_FORMS:Tok}{s11_FORMS:DictEntry}{st11_FORMS:Tok}{sa11_FORMS:Addr}{sn11_FORMS:Nat}{sl11_FORMS:Array (Option Value)}{sw11_0_FORMS:Tok}{s12_FORMS:DictEntry}{st12_FORMS:Tok}{sa12_FORMS:Addr}{sn12_FORMS:Nat}{sl12_FORMS:Array (Option Value)}{sw12_0_FORMS:Tok}{s13_FORMS:DictEntry}{st13_FORMS:Tok}{sa13_FORMS:Addr}{sn13_FORMS:Nat}{sl13_FORMS:Array (Option Value)}{sw13_0_FORMS:Tok}{sw13_1_FORMS:Tok}{s14_FORMS:DictEntry}{st14_FORMS:Tok}{sa14_FORMS:Addr}{sn14_FORMS:Nat}{sl14_FORMS:Array (Option Value)}{sw14_0_FORMS:Tok}{sw14_1_FORMS:Tok}
  (e_CastError:PySem.W.nsIn K mainGlobals "CastError"=some (some (.ref c_CastError)))
  (e_NoTerm:PySem.W.nsIn K mainGlobals "NoTerm"=some (some (.ref c_NoTerm)))
  (FY:PySem.W.excIn K c_NoTerm [.type "ValueError",.type "Exception",.type "BaseException",.type "object"] "ValueError.__new__"=true)
  (FZ:PySem.W.nsIn K mainGlobals "MARKS"=some (some (.ref z_MARKS)))
  (l_MARKS:K.lookup z_MARKS=some ⟨.type "tuple",none,.seq #[.str "must" w0_MARKS,.str "may" w1_MARKS] nn_MARKS,sl_MARKS⟩)
  (F0:PySem.W.nsIn K mainGlobals "MOST_DEPTH"=some (some (.int 8 w_MOST_DEPTH)))
  (F1:PySem.W.nsIn K mainGlobals "MOST_KINDS"=some (some (.int 40 w_MOST_KINDS)))
  (F2:PySem.W.nsIn K mainGlobals "MOST_LETTERS"=some (some (.int 8 w_MOST_LETTERS)))
  (F3:PySem.W.nsIn K mainGlobals "MOST_NUMBER"=some (some (.int 99999999999999999999 w_MOST_NUMBER)))
  (F4:PySem.W.nsIn K mainGlobals "MOST_TERMS"=some (some (.int 40 w_MOST_TERMS)))
  (F5:PySem.W.nsIn K mainGlobals "MOST_TERM_DEPTH"=some (some (.int 10 w_MOST_TERM_DEPTH)))
  (v_LENGTHS:PySem.W.nsIn K mainGlobals "LENGTHS"=some (some (.ref z_LENGTHS)))
  (l_LENGTHS:K.lookup z_LENGTHS=some ⟨.type "dict",none,.dict #[e0_LENGTHS,e1_LENGTHS,e2_LENGTHS,e3_LENGTHS,e4_LENGTHS,e5_LENGTHS] ep_LENGTHS,#[]⟩)
  (u_LENGTHS:(z_LENGTHS==sysModules)=false)
  (a0_LENGTHS_:e0_LENGTHS.key=.str "any" a0_LENGTHS)
  (b0_LENGTHS_:e0_LENGTHS.val=.int 1 b0_LENGTHS)
  (a1_LENGTHS_:e1_LENGTHS.key=.str "num" a1_LENGTHS)
  (b1_LENGTHS_:e1_LENGTHS.val=.int 1 b1_LENGTHS)
  (a2_LENGTHS_:e2_LENGTHS.key=.str "truth" a2_LENGTHS)
  (b2_LENGTHS_:e2_LENGTHS.val=.int 1 b2_LENGTHS)
  (a3_LENGTHS_:e3_LENGTHS.key=.str "to" a3_LENGTHS)
  (b3_LENGTHS_:e3_LENGTHS.val=.int 3 b3_LENGTHS)
  (a4_LENGTHS_:e4_LENGTHS.key=.str "box" a4_LENGTHS)
  (b4_LENGTHS_:e4_LENGTHS.val=.int 2 b4_LENGTHS)
  (a5_LENGTHS_:e5_LENGTHS.key=.str "row" a5_LENGTHS)
  (b5_LENGTHS_:e5_LENGTHS.val=.int 3 b5_LENGTHS)
  (v_FORMS:PySem.W.nsIn K mainGlobals "FORMS"=some (some (.ref z_FORMS)))
  (l_FORMS:K.lookup z_FORMS=some ⟨.type "dict",none,.dict #[s0_FORMS,s1_FORMS,s2_FORMS,s3_FORMS,s4_FORMS,s5_FORMS,s6_FORMS,s7_FORMS,s8_FORMS,s9_FORMS,s10_FORMS,s11_FORMS,s12_FORMS,s13_FORMS,s14_FORMS] ep_FORMS,#[]⟩)
  (u_FORMS:(z_FORMS==sysModules)=false)
  (ka0_FORMS:s0_FORMS.key=.str "num" st0_FORMS)
  (kb0_FORMS:s0_FORMS.val=.ref sa0_FORMS)
  (kc0_FORMS:K.lookup sa0_FORMS=some ⟨.type "tuple",none,.seq #[.str "number" sw0_0_FORMS] sn0_FORMS,sl0_FORMS⟩)
  (ka1_FORMS:s1_FORMS.key=.str "truth" st1_FORMS)
  (kb1_FORMS:s1_FORMS.val=.ref sa1_FORMS)
  (kc1_FORMS:K.lookup sa1_FORMS=some ⟨.type "tuple",none,.seq #[.str "truth" sw1_0_FORMS] sn1_FORMS,sl1_FORMS⟩)
  (ka2_FORMS:s2_FORMS.key=.str "name" st2_FORMS)
  (kb2_FORMS:s2_FORMS.val=.ref sa2_FORMS)
  (kc2_FORMS:K.lookup sa2_FORMS=some ⟨.type "tuple",none,.seq #[.str "name" sw2_0_FORMS] sn2_FORMS,sl2_FORMS⟩)
  (ka3_FORMS:s3_FORMS.key=.str "fun" st3_FORMS)
  (kb3_FORMS:s3_FORMS.val=.ref sa3_FORMS)
  (kc3_FORMS:K.lookup sa3_FORMS=some ⟨.type "tuple",none,.seq #[.str "name" sw3_0_FORMS,.str "kind" sw3_1_FORMS,.str "term" sw3_2_FORMS] sn3_FORMS,sl3_FORMS⟩)
  (ka4_FORMS:s4_FORMS.key=.str "call" st4_FORMS)
  (kb4_FORMS:s4_FORMS.val=.ref sa4_FORMS)
  (kc4_FORMS:K.lookup sa4_FORMS=some ⟨.type "tuple",none,.seq #[.str "term" sw4_0_FORMS,.str "term" sw4_1_FORMS] sn4_FORMS,sl4_FORMS⟩)
  (ka5_FORMS:s5_FORMS.key=.str "rec" st5_FORMS)
  (kb5_FORMS:s5_FORMS.val=.ref sa5_FORMS)
  (kc5_FORMS:K.lookup sa5_FORMS=some ⟨.type "tuple",none,.seq #[.str "fields" sw5_0_FORMS] sn5_FORMS,sl5_FORMS⟩)
  (ka6_FORMS:s6_FORMS.key=.str "get" st6_FORMS)
  (kb6_FORMS:s6_FORMS.val=.ref sa6_FORMS)
  (kc6_FORMS:K.lookup sa6_FORMS=some ⟨.type "tuple",none,.seq #[.str "term" sw6_0_FORMS,.str "name" sw6_1_FORMS] sn6_FORMS,sl6_FORMS⟩)
  (ka7_FORMS:s7_FORMS.key=.str "or" st7_FORMS)
  (kb7_FORMS:s7_FORMS.val=.ref sa7_FORMS)
  (kc7_FORMS:K.lookup sa7_FORMS=some ⟨.type "tuple",none,.seq #[.str "term" sw7_0_FORMS,.str "name" sw7_1_FORMS,.str "term" sw7_2_FORMS] sn7_FORMS,sl7_FORMS⟩)
  (ka8_FORMS:s8_FORMS.key=.str "if" st8_FORMS)
  (kb8_FORMS:s8_FORMS.val=.ref sa8_FORMS)
  (kc8_FORMS:K.lookup sa8_FORMS=some ⟨.type "tuple",none,.seq #[.str "term" sw8_0_FORMS,.str "term" sw8_1_FORMS,.str "term" sw8_2_FORMS] sn8_FORMS,sl8_FORMS⟩)
  (ka9_FORMS:s9_FORMS.key=.str "plus" st9_FORMS)
  (kb9_FORMS:s9_FORMS.val=.ref sa9_FORMS)
  (kc9_FORMS:K.lookup sa9_FORMS=some ⟨.type "tuple",none,.seq #[.str "term" sw9_0_FORMS,.str "term" sw9_1_FORMS] sn9_FORMS,sl9_FORMS⟩)
  (ka10_FORMS:s10_FORMS.key=.str "less" st10_FORMS)
  (kb10_FORMS:s10_FORMS.val=.ref sa10_FORMS)
  (kc10_FORMS:K.lookup sa10_FORMS=some ⟨.type "tuple",none,.seq #[.str "term" sw10_0_FORMS,.str "term" sw10_1_FORMS] sn10_FORMS,sl10_FORMS⟩)
  (ka11_FORMS:s11_FORMS.key=.str "new" st11_FORMS)
  (kb11_FORMS:s11_FORMS.val=.ref sa11_FORMS)
  (kc11_FORMS:K.lookup sa11_FORMS=some ⟨.type "tuple",none,.seq #[.str "term" sw11_0_FORMS] sn11_FORMS,sl11_FORMS⟩)
  (ka12_FORMS:s12_FORMS.key=.str "read" st12_FORMS)
  (kb12_FORMS:s12_FORMS.val=.ref sa12_FORMS)
  (kc12_FORMS:K.lookup sa12_FORMS=some ⟨.type "tuple",none,.seq #[.str "term" sw12_0_FORMS] sn12_FORMS,sl12_FORMS⟩)
  (ka13_FORMS:s13_FORMS.key=.str "write" st13_FORMS)
  (kb13_FORMS:s13_FORMS.val=.ref sa13_FORMS)
  (kc13_FORMS:K.lookup sa13_FORMS=some ⟨.type "tuple",none,.seq #[.str "term" sw13_0_FORMS,.str "term" sw13_1_FORMS] sn13_FORMS,sl13_FORMS⟩)
  (ka14_FORMS:s14_FORMS.key=.str "as" st14_FORMS)
  (kb14_FORMS:s14_FORMS.val=.ref sa14_FORMS)
  (kc14_FORMS:K.lookup sa14_FORMS=some ⟨.type "tuple",none,.seq #[.str "term" sw14_0_FORMS,.str "kind" sw14_1_FORMS] sn14_FORMS,sl14_FORMS⟩):
  ∃ a:Adr,∀ base:Heap,K.In base->Tx K mg base a:=by
 refine⟨⟨c_CastError,c_NoTerm⟩,λbase B=>?_⟩
 exact{
  toFns:=FF
  toBls:=NN
  dX:=PySem.W.mg_of X G e_CastError
  QB:=PySem.W.mg_of X G e_NoTerm
  FY:=FY
  FZ:=c5 X G (dd:=none) (ts:=[("must",w0_MARKS),("may",w1_MARKS)]) FZ l_MARKS (by simp)
  F0:=FQ X G F0
  F1:=FQ X G F1
  F2:=FQ X G F2
  F3:=FQ X G F3
  F4:=FQ X G F4
  F5:=FQ X G F5
  QC:=c6 X G B v_LENGTHS l_LENGTHS u_LENGTHS ⟨rfl,rfl,rfl⟩ rfl (Gf a0_LENGTHS_ b0_LENGTHS_ (Gf a1_LENGTHS_ b1_LENGTHS_ (Gf a2_LENGTHS_ b2_LENGTHS_ (Gf a3_LENGTHS_ b3_LENGTHS_ (Gf a4_LENGTHS_ b4_LENGTHS_ (Gf a5_LENGTHS_ b5_LENGTHS_ .nil))))))
  QD:=bY X G B v_FORMS l_FORMS u_FORMS ⟨rfl,rfl,rfl⟩ rfl (Ca (dd:=none) (ts:=[("number",sw0_0_FORMS)]) ka0_FORMS kb0_FORMS kc0_FORMS (by simp) (Ca (dd:=none) (ts:=[("truth",sw1_0_FORMS)]) ka1_FORMS kb1_FORMS kc1_FORMS (by simp) (Ca (dd:=none) (ts:=[("name",sw2_0_FORMS)]) ka2_FORMS kb2_FORMS kc2_FORMS (by simp) (Ca (dd:=none) (ts:=[("name",sw3_0_FORMS),("kind",sw3_1_FORMS),("term",sw3_2_FORMS)]) ka3_FORMS kb3_FORMS kc3_FORMS (by simp) (Ca (dd:=none) (ts:=[("term",sw4_0_FORMS),("term",sw4_1_FORMS)]) ka4_FORMS kb4_FORMS kc4_FORMS (by simp) (Ca (dd:=none) (ts:=[("fields",sw5_0_FORMS)]) ka5_FORMS kb5_FORMS kc5_FORMS (by simp) (Ca (dd:=none) (ts:=[("term",sw6_0_FORMS),("name",sw6_1_FORMS)]) ka6_FORMS kb6_FORMS kc6_FORMS (by simp) (Ca (dd:=none) (ts:=[("term",sw7_0_FORMS),("name",sw7_1_FORMS),("term",sw7_2_FORMS)]) ka7_FORMS kb7_FORMS kc7_FORMS (by simp) (Ca (dd:=none) (ts:=[("term",sw8_0_FORMS),("term",sw8_1_FORMS),("term",sw8_2_FORMS)]) ka8_FORMS kb8_FORMS kc8_FORMS (by simp) (Ca (dd:=none) (ts:=[("term",sw9_0_FORMS),("term",sw9_1_FORMS)]) ka9_FORMS kb9_FORMS kc9_FORMS (by simp) (Ca (dd:=none) (ts:=[("term",sw10_0_FORMS),("term",sw10_1_FORMS)]) ka10_FORMS kb10_FORMS kc10_FORMS (by simp) (Ca (dd:=none) (ts:=[("term",sw11_0_FORMS)]) ka11_FORMS kb11_FORMS kc11_FORMS (by simp) (Ca (dd:=none) (ts:=[("term",sw12_0_FORMS)]) ka12_FORMS kb12_FORMS kc12_FORMS (by simp) (Ca (dd:=none) (ts:=[("term",sw13_0_FORMS),("term",sw13_1_FORMS)]) ka13_FORMS kb13_FORMS kc13_FORMS (by simp) (Ca (dd:=none) (ts:=[("term",sw14_0_FORMS),("kind",sw14_1_FORMS)]) ka14_FORMS kb14_FORMS kc14_FORMS (by simp) .nil)))))))))))))))}
end KS
open PySem PySem.W PyProof.Rows
set_option hygiene false in
local macro_rules | `(tactic| walk_at "fb") => `(tactic| (intro _ _ _ _ _ _ us hl; first | (obtain rfl := L3.ln0 hl; rfl) | (obtain ⟨_, _, rfl, g0⟩ := L3.ln1 hl; first | (obtain rfl := L3.ln0 g0; rfl) | (obtain ⟨_, _, rfl, g1⟩ := L3.ln1 g0; first | (obtain rfl := L3.ln0 g1; rfl) | (obtain ⟨_, _, rfl, g2⟩ := L3.ln1 g1; first | (obtain rfl := L3.ln0 g2; rfl) | (obtain ⟨_, _, rfl, g3⟩ := L3.ln1 g2; first | (obtain rfl := L3.ln0 g3; rfl) | (obtain ⟨_, _, rfl, g4⟩ := L3.ln1 g3; obtain rfl := L3.ln0 g4; rfl)))))))
set_option hygiene false in
local macro_rules | `(tactic| walk_at "fk") => `(tactic| (dsimp only [L2.KOf]; refine' L3.c1 KX G ?e ?l ?c ?k ?b; (case e => k_is); (case l => k_is); (case c => k_is); (case k => k_is); (case b => walk_at "fb")))
set_option maxRecDepth 100000 in
set_option maxHeartbeats 0 in
theorem PySem.Challenge.cw_castwright_k73_forgettings_holds : PySem.Challenge.rw_castwright_k73_forgettings.Holds := by
 show KS.rwS.Holds
 w_on;o_law
 refine holds_open (r:=KS.rwS.row) (q:=KS.vwS) (loose:=["LENGTHS","FORMS"]) (N:=4730)
  (Yf:=(kHook KS.KF KS.KL KS.kfe).obs) (Ya:=(kHook KS.KF KS.KL KS.kfe).val) (YP:=(kHook KS.KF KS.KL KS.kfe).says)
  (Xt:=λs=>xlAt KS.vwS [] s&&recOk (RowW.records KS.rwS.row.toRowW) s)
  (XP:=XL KS.vwS []) ?hl (kHook KS.KF KS.KL KS.kfe).of (kHook KS.KF KS.KL KS.kfe).keeps ?g1 XL.keeps rfl rfl rfl ?g2 rfl
  ?g3 (by decide +kernel) ?g4 ?hw ?hc
 case g1=>exact λs e=>xl_of s (Bool.and_eq_true_iff.mp e).1
 case g2=>exact λs e=>recFacts_of (Bool.and_eq_true_iff.mp e).2
 case g3=>first | assumption | decide +kernel
 case g4=>exact⟨rfl,rfl,rfl,rfl,rfl,by decide +kernel⟩
 case hw=>w_witness2
 case hl=>exact byRow2 "special-get-raises" KS.lbf KS.lbt
 k_fill
 refine L3.c7 (l:=KS.rwS) (k:=27) ⟨rfl,by decide,by decide⟩ rfl rfl (λw h Y=>PySem.W.kIn_of Y) ?F
 case F =>
  intro w mg fa h KX G hmg
  have FF:KS.Fns (L2.KOf KX) mg:=by constructor <;> walk_at "fk"
  have NN:KS.Bls mg:=by constructor <;> exact PySem.W.mg_none_of KX G (by k_is)
  have T:∃ a:KS.Adr,∀ base:Heap,(L2.KOf KX).In base->KS.Tx (L2.KOf KX) mg base a:=by
   dsimp only[L2.KOf]at *
   refine' KS.iz KX G FF NN ?e_CastError ?e_NoTerm ?FY ?FZ ?l_MARKS ?F0 ?F1 ?F2 ?F3 ?F4 ?F5 ?v_LENGTHS ?l_LENGTHS ?u_LENGTHS ?a0_LENGTHS_ ?b0_LENGTHS_ ?a1_LENGTHS_ ?b1_LENGTHS_ ?a2_LENGTHS_ ?b2_LENGTHS_ ?a3_LENGTHS_ ?b3_LENGTHS_ ?a4_LENGTHS_ ?b4_LENGTHS_ ?a5_LENGTHS_ ?b5_LENGTHS_ ?v_FORMS ?l_FORMS ?u_FORMS ?ka0_FORMS ?kb0_FORMS ?kc0_FORMS ?ka1_FORMS ?kb1_FORMS ?kc1_FORMS ?ka2_FORMS ?kb2_FORMS ?kc2_FORMS ?ka3_FORMS ?kb3_FORMS ?kc3_FORMS ?ka4_FORMS ?kb4_FORMS ?kc4_FORMS ?ka5_FORMS ?kb5_FORMS ?kc5_FORMS ?ka6_FORMS ?kb6_FORMS ?kc6_FORMS ?ka7_FORMS ?kb7_FORMS ?kc7_FORMS ?ka8_FORMS ?kb8_FORMS ?kc8_FORMS ?ka9_FORMS ?kb9_FORMS ?kc9_FORMS ?ka10_FORMS ?kb10_FORMS ?kc10_FORMS ?ka11_FORMS ?kb11_FORMS ?kc11_FORMS ?ka12_FORMS ?kb12_FORMS ?kc12_FORMS ?ka13_FORMS ?kb13_FORMS ?kc13_FORMS ?ka14_FORMS ?kb14_FORMS ?kc14_FORMS
   (case e_CastError=>k_is)
   (case e_NoTerm=>k_is)
   (case FY=>k_exc)
   (case FZ=>k_is)
   (case l_MARKS=>k_is)
   (case F0=>k_is)
   (case F1=>k_is)
   (case F2=>k_is)
   (case F3=>k_is)
   (case F4=>k_is)
   (case F5=>k_is)
   (case v_LENGTHS=>k_is)
   (case l_LENGTHS=>k_is)
   (case u_LENGTHS=>decide)
   (case a0_LENGTHS_=>exact rfl)
   (case b0_LENGTHS_=>exact rfl)
   (case a1_LENGTHS_=>exact rfl)
   (case b1_LENGTHS_=>exact rfl)
   (case a2_LENGTHS_=>exact rfl)
   (case b2_LENGTHS_=>exact rfl)
   (case a3_LENGTHS_=>exact rfl)
   (case b3_LENGTHS_=>exact rfl)
   (case a4_LENGTHS_=>exact rfl)
   (case b4_LENGTHS_=>exact rfl)
   (case a5_LENGTHS_=>exact rfl)
   (case b5_LENGTHS_=>exact rfl)
   (case v_FORMS=>k_is)
   (case l_FORMS=>k_is)
   (case u_FORMS=>decide)
   (case ka0_FORMS=>exact rfl)
   (case kb0_FORMS=>exact rfl)
   (case kc0_FORMS=>k_is)
   (case ka1_FORMS=>exact rfl)
   (case kb1_FORMS=>exact rfl)
   (case kc1_FORMS=>k_is)
   (case ka2_FORMS=>exact rfl)
   (case kb2_FORMS=>exact rfl)
   (case kc2_FORMS=>k_is)
   (case ka3_FORMS=>exact rfl)
   (case kb3_FORMS=>exact rfl)
   (case kc3_FORMS=>k_is)
   (case ka4_FORMS=>exact rfl)
   (case kb4_FORMS=>exact rfl)
   (case kc4_FORMS=>k_is)
   (case ka5_FORMS=>exact rfl)
   (case kb5_FORMS=>exact rfl)
   (case kc5_FORMS=>k_is)
   (case ka6_FORMS=>exact rfl)
   (case kb6_FORMS=>exact rfl)
   (case kc6_FORMS=>k_is)
   (case ka7_FORMS=>exact rfl)
   (case kb7_FORMS=>exact rfl)
   (case kc7_FORMS=>k_is)
   (case ka8_FORMS=>exact rfl)
   (case kb8_FORMS=>exact rfl)
   (case kc8_FORMS=>k_is)
   (case ka9_FORMS=>exact rfl)
   (case kb9_FORMS=>exact rfl)
   (case kc9_FORMS=>k_is)
   (case ka10_FORMS=>exact rfl)
   (case kb10_FORMS=>exact rfl)
   (case kc10_FORMS=>k_is)
   (case ka11_FORMS=>exact rfl)
   (case kb11_FORMS=>exact rfl)
   (case kc11_FORMS=>k_is)
   (case ka12_FORMS=>exact rfl)
   (case kb12_FORMS=>exact rfl)
   (case kc12_FORMS=>k_is)
   (case ka13_FORMS=>exact rfl)
   (case kb13_FORMS=>exact rfl)
   (case kc13_FORMS=>k_is)
   (case ka14_FORMS=>exact rfl)
   (case kb14_FORMS=>exact rfl)
   (case kc14_FORMS=>k_is)
  obtain⟨a,T⟩:=T
  obtain⟨f,fd,hm,F,_⟩:=FF.dS
  have e0:=hmg.symm.trans hm
  cases e0
  obtain⟨oc,od,kV,doc,pm,an,cdv,ct,osl,rfl,lk,hcd⟩:=F.ex
  exact⟨_,λs u=>.of_eq rfl,λbase kb nb=>KS.iy (T base kb) F⟩
