import PyProof.Rows.All
import Wide.All
import OpenK.AllK
import Wide.FinOn
import Lean
import PyProof.EqAt
import PyProof.EqKinds
import PyProof.TupleCall
import PyProof.SetRoads
import PyProof.CollectWalk
import PyProof.ZipIter
import PyProof.TupleIter
import PyProof.NeKinds
import PyProof.AttrMissHeap
import KE.KDictOf
import PySem.Challenge.RW_castwright_k26_either_of_two
set_option Elab.async false
set_option linter.all false
set_option maxRecDepth 100000
set_option maxHeartbeats 4000000
namespace L2
open PySem PySem.Spec PyProof.Rows
def Zf8 (s:Stmt):Arguments:=match s with
 | .FunctionDef _ a _ _ _ _ _ _ _ _=>a
 | _=>{ posonlyargs:=[],args:=[],vararg:=none,kwonlyargs:=[],kw_defaults:=[],kwarg:=none,defaults:=[] }
def ZaC (s:Stmt):List Stmt:=match s with
 | .FunctionDef _ _ b _ _ _ _ _ _ _=>b
 | _=>[]
def Zac (s:Stmt):Scope:=match s with
 | .FunctionDef _ _ _ _ _ _ sc _ _ _=>sc
 | _=>{ kind:=.function,names:=[],isGenerator:=false,isCoroutine:=false }
end L2
namespace KG
open PySem PySem.Spec PyProof.Rows L2
 def top (i:Nat):Stmt:=PySem.Challenge.pw_castwright_k26_either_of_two.main.body.getD i (.Pass ⟨0,0,0,0⟩)
abbrev pwS:Program:=PySem.Challenge.pw_castwright_k26_either_of_two
abbrev rwS:PySem.W.OpenLaw:=PySem.Challenge.rw_castwright_k26_either_of_two
def vwS:Program:=PySem.W.view pwS [1,2,4,5,6,7,8,9,10,11,12,13,14,15,16,17,18,19,20,21,22,23,24,26,27,28,30,31,32,33,35,36,37,38,39,40,41,42,43,44,45,46,47,48,49,50,51]
abbrev en (P:Params) (k:Str) (t:Tok) (v:Value):DictEntry:=⟨PyData.keyHash P k,.str k t,v⟩
abbrev co (n:Str) (a l g r f e:Nat) (x y:Value) (z t u:Nat):Obj:=.mk (.type "code") Option.none (.fields #[.str n a,.str n (a+1),.str "/claim/cut.py" (a+2),.int l 0,.int g 0,.int 0 0,.int 0 0,.int 3 0,.ref r,.bool Bool.true,.int f 0,.ref e,.none,x,y,.ref z,.int t 0,.int l 0,.str "/claim/cut.py" u]) #[]
abbrev fo (n:Str) (s:Stmt) (q:Str) (t c:Nat):Obj:=.mk (.type "function") Option.none (.func (PySem.W.fnOf n n (Zf8 s) (ZaC s) (Zac s) .none .none .none (.str q t) Option.none (.ref c) .none)) #[]
def KF:Params→PySem.W.Frag:=fun P =>
 (nat_lit 2,.mk .none Option.none (.dict #[]) #[]) ::
 (nat_lit 3,.mk (.type "dict") Option.none (.dict #[en P "__name__" 165 (.str "law_castwright_k26_either_of_two" 420),en P "__doc__" 166 .none,en P "__package__" 167 .none,en P "__loader__" 168 (.builtin "__main__.__loader__#opaque"),en P "__spec__" 169 .none,en P "__annotations__" 170 (.ref 6),en P "__builtins__" 171 (.ref 4),en P "__file__" 173 (.str "/claim/cut.py" 172),en P "__cached__" 174 .none,en P "CastError" 206 (.ref 24),en P "NoKind" 222 (.ref 37),en P "MOST_KINDS" 226 (.int 40 225),en P "MOST_DEPTH" 228 (.int 8 227),en P "MOST_LETTERS" 230 (.int 8 229),en P "MARKS" 233 (.ref 40),en P "LENGTHS" 252 (.ref 41),en P "entry_of" 261 (.ref 48),en P "names_of" 267 (.ref 53),en P "names_of_both" 275 (.ref 60),en P "row_of" 281 (.ref 65),en P "check_kind" 288 (.ref 72),en P "check_kinds" 296 (.ref 79),en P "is_kind" 303 (.ref 86),en P "is_made_of" 309 (.ref 91),en P "layer_within" 319 (.ref 98),en P "kinds_within" 325 (.ref 103),en P "has_form" 332 (.ref 110),en P "are_fields" 338 (.ref 115),en P "is_field" 345 (.ref 122),en P "is_name" 351 (.ref 127),en P "is_small_letter" 358 (.ref 134),en P "names_rise" 364 (.ref 139),en P "join_of" 372 (.ref 144),en P "join_of_rows" 378 (.ref 149),en P "join_of_entries" 386 (.ref 156),en P "either" 396 (.ref 163),en P "either_of" 404 (.ref 170),en P "either_of_rows" 410 (.ref 175),en P "either_of_entries" 419 (.ref 182),en P "_law_cell_at" 429 (.ref 189),en P "_law_state" 438 (.ref 196),en P "_law_choice" 448 (.ref 203),en P "_law_row" 462 (.ref 210),en P "_law_kind" 474 (.ref 217),en P "_law_drawn_kind" 486 (.ref 224),en P "_law_less" 492 (.ref 229),en P "_law_other" 505 (.ref 236),en P "_law_pair" 517 (.ref 243),en P "_law_entry" 526 (.ref 250),en P "_law_names" 532 (.ref 255),en P "_law_clash" 546 (.ref 262),en P "_law_lack" 561 (.ref 269),en P "_law_joined" 574 (.ref 276),en P "_law_either" 587 (.ref 283),en P "_law_is_kind" 593 (.ref 288),en P "law" 604 (.ref 295)] 56) #[]) ::
 (nat_lit 15,.mk (.type "tuple") Option.none (.seq #[.type "ValueError"]) #[]) ::
 (nat_lit 22,.mk (.type "tuple") Option.none (.seq #[]) #[]) ::
 (nat_lit 23,.mk (.type "dict") Option.none (.dict #[en P "__module__" 196 (.str "castwright.errors" 187),en P "__firstlineno__" 200 (.int 2 199),en P "__static_attributes__" 201 (.ref 22),en P "__weakref__" 203 (.ref 25),en P "__doc__" 204 .none] 3) #[]) ::
 (nat_lit 24,.mk (.type "type") Option.none (.cls (.mk "CastError" [.type "ValueError"] [.ref 24,.type "ValueError",.type "Exception",.type "BaseException",.type "object"] 23 "CastError" Bool.true [] [.ref 37] Bool.false Option.none Bool.false)) #[Option.some (.ref 15),Option.none,Option.some (.str "CastError" 189),Option.some (.str "CastError" 197),Option.some (.builtin "ValueError.__new__"),Option.some (.bool Bool.true)]) ::
 (nat_lit 25,.mk (.type "getset_descriptor") Option.none (.fields #[.str "__weakref__" 202,.ref 24,.builtin "ExceptionGroup.__weakref__",.none]) #[]) ::
 (nat_lit 28,.mk (.type "tuple") Option.none (.seq #[.ref 24]) #[]) ::
 (nat_lit 35,.mk (.type "tuple") Option.none (.seq #[]) #[]) ::
 (nat_lit 36,.mk (.type "dict") Option.none (.dict #[en P "__module__" 214 (.str "castwright.errors" 187),en P "__firstlineno__" 218 (.int 4 217),en P "__static_attributes__" 219 (.ref 35),en P "__doc__" 220 .none] 2) #[]) ::
 (nat_lit 37,.mk (.type "type") Option.none (.cls (.mk "NoKind" [.ref 24] [.ref 37,.ref 24,.type "ValueError",.type "Exception",.type "BaseException",.type "object"] 36 "NoKind" Bool.true [] [] Bool.false Option.none Bool.false)) #[Option.some (.ref 28),Option.none,Option.some (.str "NoKind" 207),Option.some (.str "NoKind" 215),Option.some (.builtin "ValueError.__new__"),Option.some (.bool Bool.true)]) ::
 (nat_lit 40,.mk (.type "tuple") Option.none (.seq #[.str "must" 231,.str "may" 232]) #[]) ::
 (nat_lit 41,.mk (.type "dict") Option.none (.dict #[en P "any" 234 (.int 1 235),en P "num" 236 (.int 1 237),en P "truth" 238 (.int 1 239),en P "to" 240 (.int 3 241),en P "box" 242 (.int 2 243),en P "row" 244 (.int 3 245)] 6) #[]) ::
 (nat_lit 47,co "entry_of" 253 12 2 42 181 43 (.ref 44) (.ref 45) 46 259 260) ::
 (nat_lit 48,fo "entry_of" (top 9) "castwright.kinds" 223 47) ::
 (nat_lit 52,co "names_of" 262 17 1 49 181 50 .none .none 51 265 266) ::
 (nat_lit 53,fo "names_of" (top 10) "castwright.kinds" 223 52) ::
 (nat_lit 59,co "names_of_both" 268 19 2 54 181 55 (.ref 56) (.ref 57) 58 273 274) ::
 (nat_lit 60,fo "names_of_both" (top 11) "castwright.kinds" 223 59) ::
 (nat_lit 64,co "row_of" 276 21 3 61 181 62 .none .none 63 279 280) ::
 (nat_lit 65,fo "row_of" (top 12) "castwright.kinds" 223 64) ::
 (nat_lit 71,co "check_kind" 282 24 1 66 181 67 (.ref 68) (.ref 69) 70 286 287) ::
 (nat_lit 72,fo "check_kind" (top 13) "castwright.kinds" 223 71) ::
 (nat_lit 78,co "check_kinds" 289 27 2 73 181 74 (.ref 75) (.ref 76) 77 294 295) ::
 (nat_lit 79,fo "check_kinds" (top 14) "castwright.kinds" 223 78) ::
 (nat_lit 85,co "is_kind" 297 30 1 80 181 81 (.ref 82) (.ref 83) 84 301 302) ::
 (nat_lit 86,fo "is_kind" (top 15) "castwright.kinds" 223 85) ::
 (nat_lit 90,co "is_made_of" 304 32 5 87 181 88 .none .none 89 307 308) ::
 (nat_lit 91,fo "is_made_of" (top 16) "castwright.kinds" 223 90) ::
 (nat_lit 97,co "layer_within" 310 45 2 92 181 93 (.ref 94) (.ref 95) 96 317 318) ::
 (nat_lit 98,fo "layer_within" (top 17) "castwright.kinds" 223 97) ::
 (nat_lit 102,co "kinds_within" 320 50 1 99 181 100 .none .none 101 323 324) ::
 (nat_lit 103,fo "kinds_within" (top 18) "castwright.kinds" 223 102) ::
 (nat_lit 109,co "has_form" 326 54 1 104 181 105 (.ref 106) (.ref 107) 108 330 331) ::
 (nat_lit 110,fo "has_form" (top 19) "castwright.kinds" 223 109) ::
 (nat_lit 114,co "are_fields" 333 60 1 111 181 112 .none .none 113 336 337) ::
 (nat_lit 115,fo "are_fields" (top 20) "castwright.kinds" 223 114) ::
 (nat_lit 121,co "is_field" 339 64 1 116 181 117 (.ref 118) (.ref 119) 120 343 344) ::
 (nat_lit 122,fo "is_field" (top 21) "castwright.kinds" 223 121) ::
 (nat_lit 126,co "is_name" 346 68 1 123 181 124 .none .none 125 349 350) ::
 (nat_lit 127,fo "is_name" (top 22) "castwright.kinds" 223 126) ::
 (nat_lit 133,co "is_small_letter" 352 72 1 128 181 129 (.ref 130) (.ref 131) 132 356 357) ::
 (nat_lit 134,fo "is_small_letter" (top 23) "castwright.kinds" 223 133) ::
 (nat_lit 138,co "names_rise" 359 74 1 135 181 136 .none .none 137 362 363) ::
 (nat_lit 139,fo "names_rise" (top 24) "castwright.kinds" 223 138) ::
 (nat_lit 143,co "join_of" 367 77 2 140 181 141 .none .none 142 370 371) ::
 (nat_lit 144,fo "join_of" (top 26) "castwright.known" 365 143) ::
 (nat_lit 148,co "join_of_rows" 373 83 2 145 181 146 .none .none 147 376 377) ::
 (nat_lit 149,fo "join_of_rows" (top 27) "castwright.known" 365 148) ::
 (nat_lit 155,co "join_of_entries" 379 87 2 150 181 151 (.ref 152) (.ref 153) 154 384 385) ::
 (nat_lit 156,fo "join_of_entries" (top 28) "castwright.known" 365 155) ::
 (nat_lit 162,co "either" 389 92 2 157 181 158 (.ref 159) (.ref 160) 161 394 395) ::
 (nat_lit 163,fo "either" (top 30) "castwright.serving" 387 162) ::
 (nat_lit 169,co "either_of" 397 95 2 164 181 165 (.ref 166) (.ref 167) 168 402 403) ::
 (nat_lit 170,fo "either_of" (top 31) "castwright.serving" 387 169) ::
 (nat_lit 174,co "either_of_rows" 405 105 2 171 181 172 .none .none 173 408 409) ::
 (nat_lit 175,fo "either_of_rows" (top 32) "castwright.serving" 387 174) ::
 (nat_lit 181,co "either_of_entries" 411 109 2 176 181 177 (.ref 178) (.ref 179) 180 417 418) ::
 (nat_lit 182,fo "either_of_entries" (top 33) "castwright.serving" 387 181) ::
 (nat_lit 188,co "_law_cell_at" 422 119 2 183 181 184 (.ref 185) (.ref 186) 187 427 428) ::
 (nat_lit 189,fo "_law_cell_at" (top 35) "law_castwright_k26_either_of_two" 420 188) ::
 (nat_lit 195,co "_law_state" 430 123 2 190 181 191 (.ref 192) (.ref 193) 194 436 437) ::
 (nat_lit 196,fo "_law_state" (top 36) "law_castwright_k26_either_of_two" 420 195) ::
 (nat_lit 202,co "_law_choice" 439 128 2 197 181 198 (.ref 199) (.ref 200) 201 446 447) ::
 (nat_lit 203,fo "_law_choice" (top 37) "law_castwright_k26_either_of_two" 420 202) ::
 (nat_lit 209,co "_law_row" 449 137 4 204 181 205 (.ref 206) (.ref 207) 208 460 461) ::
 (nat_lit 210,fo "_law_row" (top 38) "law_castwright_k26_either_of_two" 420 209) ::
 (nat_lit 216,co "_law_kind" 463 146 4 211 181 212 (.ref 213) (.ref 214) 215 472 473) ::
 (nat_lit 217,fo "_law_kind" (top 39) "law_castwright_k26_either_of_two" 420 216) ::
 (nat_lit 223,co "_law_drawn_kind" 475 157 4 218 181 219 (.ref 220) (.ref 221) 222 484 485) ::
 (nat_lit 224,fo "_law_drawn_kind" (top 40) "law_castwright_k26_either_of_two" 420 223) ::
 (nat_lit 228,co "_law_less" 487 164 2 225 181 226 .none .none 227 490 491) ::
 (nat_lit 229,fo "_law_less" (top 41) "law_castwright_k26_either_of_two" 420 228) ::
 (nat_lit 235,co "_law_other" 493 178 2 230 181 231 (.ref 232) (.ref 233) 234 503 504) ::
 (nat_lit 236,fo "_law_other" (top 42) "law_castwright_k26_either_of_two" 420 235) ::
 (nat_lit 242,co "_law_pair" 506 195 3 237 181 238 (.ref 239) (.ref 240) 241 515 516) ::
 (nat_lit 243,fo "_law_pair" (top 43) "law_castwright_k26_either_of_two" 420 242) ::
 (nat_lit 249,co "_law_entry" 518 206 2 244 181 245 (.ref 246) (.ref 247) 248 524 525) ::
 (nat_lit 250,fo "_law_entry" (top 44) "law_castwright_k26_either_of_two" 420 249) ::
 (nat_lit 254,co "_law_names" 527 211 2 251 181 252 .none .none 253 530 531) ::
 (nat_lit 255,fo "_law_names" (top 45) "law_castwright_k26_either_of_two" 420 254) ::
 (nat_lit 275,co "_law_joined" 562 261 2 270 181 271 (.ref 272) (.ref 273) 274 572 573) ::
 (nat_lit 276,fo "_law_joined" (top 48) "law_castwright_k26_either_of_two" 420 275) ::
 (nat_lit 282,co "_law_either" 575 280 2 277 181 278 (.ref 279) (.ref 280) 281 585 586) ::
 (nat_lit 283,fo "_law_either" (top 49) "law_castwright_k26_either_of_two" 420 282) ::
 (nat_lit 287,co "_law_is_kind" 588 299 1 284 181 285 .none .none 286 591 592) ::
 (nat_lit 288,fo "_law_is_kind" (top 50) "law_castwright_k26_either_of_two" 420 287) ::
 (nat_lit 294,co "law" 594 303 1 289 181 290 (.ref 291) (.ref 292) 293 602 603) ::
 (nat_lit 295,fo "law" (top 51) "law_castwright_k26_either_of_two" 420 294) ::
 []
def KL:List Addr:=2::3::15::22::23::24::25::28::35::36::37::40::41::47::48::52::53::59::60::64::65::71::72::78::79::85::86::90::91::97::98::102::103::109::110::114::115::121::122::126::127::133::134::138::139::143::144::148::149::155::156::162::163::169::170::174::175::181::182::188::189::195::196::202::203::209::210::216::217::223::224::228::229::235::236::242::243::249::250::254::255::275::276::282::283::287::288::294::295::[]
theorem kfe (P:Params):KL=(KF P).map (·.1):=by kernel_rfl
section
open PySem.W
abbrev LB (w:World):Prop:=(openEnds treeTable pwS w 3692).map (fun s=>(openSeen vwS ["LENGTHS"] (importedModules pwS.main.body) (fun s=>xlAt vwS [] s&&recOk (RowW.records rwS.row.toRowW) s) true s,(kHook KF KL kfe).obs s))=some (openGood vwS ["LENGTHS"],(kHook KF KL kfe).val w)
theorem lbf (w:World):LB (w.withFollow "special-get-raises" false):=by kernel_rfl
theorem lbt (w:World):LB (w.withFollow "special-get-raises" true):=by kernel_rfl
end
end KG
set_option Elab.async false
set_option linter.all false
set_option maxRecDepth 100000
namespace L2
open PySem PySem.Spec PyProof.Rows
abbrev Key:=Sum Int Str
def Zuz:Key→Value→Bool
 | .inl k,v=>Value.isInt k v
 | .inr x,v=>Value.isStrOf x v
def Zxq (w:World):Key→Int
 | .inl k=>hashInt k
 | .inr x=>hashStr w x
theorem ZbH:∀ {k:Key} {v:Value},Zuz k v=true→(∃ i t,k=Sum.inl i∧v=Value.int i t)∨(∃ x t,k=Sum.inr x∧v=Value.str x t)
 | .inl i,v,h=>by
  obtain ⟨t,e⟩:=Value.isInt_shape (k:=i) (v:=v) h
  exact .inl ⟨i,t,rfl,e⟩
 | .inr x,v,h=>by
  obtain ⟨t,e⟩:=Value.isStrOf_shape (x:=x) (v:=v) h
  exact .inr ⟨x,t,rfl,e⟩
theorem ZuH (a b:Int):decide ((Sum.inl a:Key)=Sum.inl b)=(a==b):=by
 by_cases e:a=b
 ·subst e;simp
 ·have h:¬ (Sum.inl a:Key)=Sum.inl b:=fun q=>e (Sum.inl.inj q)
  rw [decide_eq_false h]
  exact (beq_eq_false_iff_ne.mpr e).symm
theorem Zuc (a b:Str):decide ((Sum.inr a:Key)=Sum.inr b)=decide (a=b):=by
 by_cases e:a=b
 ·subst e;simp
 ·have h:¬ (Sum.inr a:Key)=Sum.inr b:=fun q=>e (Sum.inr.inj q)
  rw [decide_eq_false h,decide_eq_false e]
theorem Zuo (a:Int) (b:Str):decide ((Sum.inl a:Key)=Sum.inr b)=false:=decide_eq_false (fun q=>nomatch q)
theorem ZuU (a:Str) (b:Int):decide ((Sum.inr a:Key)=Sum.inl b)=false:=decide_eq_false (fun q=>nomatch q)
def Zl1 (prog:Program) (w:World):PySem.KeyKind prog w Key where
 is:=Zuz
 hash:=Zxq w
 inj:=fun v a b ha hb=>by
  rcases ZbH ha with ⟨i,t,rfl,rfl⟩ | ⟨x,t,rfl,rfl⟩
  ·rcases ZbH hb with ⟨j,u,rfl,e⟩ | ⟨y,u,rfl,e⟩
   ·injection e with e1 _;rw [e1]
   ·exact nomatch e
  ·rcases ZbH hb with ⟨j,u,rfl,e⟩ | ⟨y,u,rfl,e⟩
   ·exact nomatch e
   ·injection e with e1 _;rw [e1]
 byValue:=fun k v h=>by
  rcases ZbH h with ⟨i,t,rfl,rfl⟩ | ⟨x,t,rfl,rfl⟩ <;> rfl
 pyHash:=fun hv h=>by
  rcases ZbH hv with ⟨i,t,rfl,rfl⟩ | ⟨x,t,rfl,rfl⟩
  ·exact wpAny_pyHash_int h
  ·exact wpAny_pyHash_str h
 eqBool:=fun hu hv h=>by
  rcases ZbH hu with ⟨i,t,rfl,rfl⟩ | ⟨x,t,rfl,rfl⟩
  ·rcases ZbH hv with ⟨j,u,rfl,rfl⟩ | ⟨y,u,rfl,rfl⟩
   ·rw [ZuH] at h;exact wpAny_eqBool_int h
   ·rw [Zuo] at h;exact SeqAt.EqAt.int_str i t y u _ _ _ _ h
  ·rcases ZbH hv with ⟨j,u,rfl,rfl⟩ | ⟨y,u,rfl,rfl⟩
   ·rw [ZuU] at h;exact SeqAt.EqAt.str_int x t j u _ _ _ _ h
   ·rw [Zuc] at h;exact wpAny_eqBool_str h
 «strs»:=fun k x t v h=>by
  rcases ZbH h with ⟨i,u,rfl,e⟩ | ⟨y,u,rfl,e⟩
  ·exact nomatch e
  ·injection e with e1 _
   subst e1
   cases v <;> rfl
end L2
namespace L2
open PySem PySem.Spec PyProof.Rows
inductive V where
 | non | bl (b:Bool) | int (i:Int) | str (x:Str) | byt (b:Array UInt8) | flt (b:UInt64) | ref (a:Addr) | ty (n:String)
 deriving DecidableEq
def RelV:V→Value→Prop
 | .non,u=>u=Value.none
 | .bl b,u=>u=Value.bool b
 | .int i,u=>∃ t,u=Value.int i t
 | .str x,u=>∃ t,u=Value.str x t
 | .byt b,u=>∃ t,u=Value.bytes b t
 | .flt b,u=>∃ t,u=Value.float b t
 | .ref a,u=>u=Value.ref a
 | .ty n,u=>u=Value.type n
abbrev Vals:List V→List Value→Prop:=Paired RelV
theorem Vals.length {xs:List V} {us:List Value} (r:Vals xs us):xs.length=us.length:=Paired.length r
theorem Vals.get:∀ {xs:List V} {us:List Value} {i:Nat} {x:V},Vals xs us→xs[i]?=some x→∃ u,us[i]?=some u∧RelV x u
 | _,_,_,_,.nil,e=>by simp at e
 | _,_,0,_,.cons r _,e=>by simp at e;subst e;exact ⟨_,rfl,r⟩
 | _,_,i+1,x,.cons _ t,e=>by
  obtain ⟨u,h1,h2⟩:=Vals.get (i:=i) (x:=x) t (by simpa using e)
  exact ⟨u,by simpa using h1,h2⟩
theorem Vals.set {x:V} {u:Value} (r:RelV x u):∀ {xs:List V} {us:List Value} (i:Nat),Vals xs us→Vals (xs.set i x) (us.set i u)
 | _,_,_,.nil=>.nil
 | _,_,0,.cons _ t=>.cons r t
 | _,_,i+1,.cons q t=>.cons q (Vals.set r i t)
theorem Vals.append:∀ {xs ys:List V} {us ws:List Value},Vals xs us→Vals ys ws→Vals (xs++ys) (us++ws)
 | _,_,_,_,.nil,s=>s
 | _,_,_,_,.cons r t,s=>.cons r (Vals.append t s)
theorem Vals.take:∀ {xs:List V} {us:List Value} (n:Nat),Vals xs us→Vals (xs.take n) (us.take n)
 | _,_,0,_=>.nil
 | _,_,_+1,.nil=>.nil
 | _,_,n+1,.cons r t=>.cons r (Vals.take n t)
theorem Vals.drop:∀ {xs:List V} {us:List Value} (n:Nat),Vals xs us→Vals (xs.drop n) (us.drop n)
 | _,_,0,r=>r
 | _,_,_+1,.nil=>.nil
 | _,_,n+1,.cons _ t=>Vals.drop n t
def ZwR:Option V→Option Value→Prop
 | some v,some u=>RelV v u
 | none,none=>True
 | _,_=>False
def KV {κ:Type}:List (κ×V)→List (κ×Value)→Prop:=Paired fun (p:κ×V) (q:κ×Value)=>p.1=q.1∧RelV p.2 q.2
def kV:Key→V
 | .inl i=>.int i
 | .inr x=>.str x
inductive HO where
 | lst (xs:List V)
 | tup (xs:List V)
 | dK (kvs:List (Key×V)) | dT (kvs:List (List Key×V))
 | set (S:Int→Bool) (n:Nat)
 | ins (C dx:Addr) (fs:List (Str×V))
 | own (x:Addr)
 | xd (fs:List (Str×V))
 | met (f x:Addr)
 | rng (lo hi:Int)
 | frz (o:Obj) (u:HO)
 | tbl (ps:Array Value)
 | ext (φ:Heap→Prop)
abbrev Hp:=Addr→Option HO
def upd (H:Hp) (a:Addr) (o:HO):Hp:=fun b=>if b=a then some o else H b
theorem ZbX {H:Hp} {a:Addr} {o:HO}:upd H a o a=some o:=by unfold upd;rw [if_pos rfl]
theorem Zbd {H:Hp} {a b:Addr} {o:HO} (h:b≠a):upd H a o b=H b:=by unfold upd;rw [if_neg h]
theorem Zc1 {H:Hp} {a b:Addr} {o:HO} (h:H a=some o) (h':H b=none):a≠b:=by
 intro e;subst e;rw [h] at h';cases h'
section
variable (P:Program) (w:World)
def ObjOk (H:Hp) (h:Heap) (a:Addr):HO→Prop
 | .lst xs=>xs.length≤sizeLine∧∃ (its:List Value) (n:Nat),Vals xs its∧h.get? a=some { cls:=.type "list",data:=.seq its.toArray n }
 | .tup xs=>xs.length≤sizeLine∧∃ its:List Value,Vals xs its∧IsTup h a its.toArray
 | .dK kvs=>kvs.length≤sizeLine∧(a==sysModules)=false∧∃ vs,KV kvs vs∧h.DictOf (Zl1 P w) a vs
 | .dT kvs=>kvs.length≤sizeLine∧(a==sysModules)=false∧∃ xs:List (List Key×Addr×Value),
   Paired (fun (p:List Key×V) (q:List Key×Addr×Value)=>p.1=q.1∧H q.2.1=some (.tup (p.1.map kV))∧RelV p.2 q.2.2) kvs xs ∧
   ∃ o es ep,h.get? a=some o∧o.ExactDict∧o.data=.dict es ep∧es.toList=xs.map (entryOfKey (tupleKind (Zl1 P w)))∧(xs.map (·.1)).Nodup
 | .set S n=>h.SetOf (intKind P w) a S n
 | .ins C dx fs=>H dx=some (.own a)∧fs.length≤1000∧dx≠a∧h.get? a=some (PySem.W.instObj C dx) ∧
   ∃ mA,h.Ns1 dx mA∧(∀ f,ZwR (fs.lookup f) (mA f))∧PySem.Within mA (fs.map (·.1))
 | .own _=>∃ o,h.get? a=some o
 | .xd fs=>∃ mA,h.Ns1 a mA∧∀ f,ZwR (fs.lookup f) (mA f)
 | .rng lo hi=>∃ t u v,h.get? a=some { cls:=.type "range",data:=.fields #[.int lo t,.int hi u,.int 1 v] }
 | .frz o u=>h.get? a=some o∧ObjOk H h a u
 | .tbl ps=>h.get? a=some { cls:=.none,data:=.fields ps }
 | .met f x=>h.get? a=some (PySem.W.methodObj (.ref f) (.ref x))
 | .ext φ=>φ h∧(∃ o,h.get? a=some o)∧∀ h1 h2:Heap,φ h1→(∀ o,h1.get? a=some o→h2.get? a=some o)→φ h2
def HOk (H:Hp) (h:Heap):Prop:=∀ a o,H a=some o→ObjOk P w H h a o
end
section
variable {P:Program} {w:World} {H H':Hp} {h h':Heap} {a:Addr} {o:HO}
theorem ObjOk.lt (x:ObjOk P w H h a o):a < h.objs.size:=by
 cases o with
 | lst xs=>obtain ⟨_,_,_,_,e⟩:=x;exact Heap.lt_size e
 | tup xs=>obtain ⟨_,_,_,p⟩:=x;exact p.lt
 | dK kvs=>obtain ⟨_,_,_,_,o,_,_,e,_⟩:=x;exact Heap.lt_size e
 | dT kvs=>obtain ⟨_,_,_,_,o,_,_,e,_⟩:=x;exact Heap.lt_size e
 | set S n=>obtain ⟨o,_,_,_,e,_⟩:=x;exact Heap.lt_size e
 | ins C dx fs=>obtain ⟨_,_,_,e,_⟩:=x;exact Heap.lt_size e
 | own y=>obtain ⟨_,e⟩:=x;exact Heap.lt_size e
 | xd fs=>obtain ⟨_,⟨_,_,_,e,_⟩,_⟩:=x;exact Heap.lt_size e
 | rng lo hi=>obtain ⟨_,_,_,e⟩:=x;exact Heap.lt_size e
 | frz ob u=>obtain ⟨e,_⟩:=x;exact Heap.lt_size e
 | tbl ps=>exact Heap.lt_size (show h.get? a=some _ from x)
 | met f y=>exact Heap.lt_size (show h.get? a=some _ from x)
 | ext φ=>obtain ⟨_,⟨_,e⟩,_⟩:=x;exact Heap.lt_size e
theorem Paired.mapP {α β:Type} {F G:α→β→Prop}:∀ {l₁:List α} {l₂:List β},Paired F l₁ l₂→(∀ a b,F a b→G a b)→Paired G l₁ l₂
 | _,_,.nil,_=>.nil
 | _,_,.cons r t,f=>.cons (f _ _ r) (Paired.mapP t f)
theorem ObjOk.stay (x:ObjOk P w H h a o) (k:∀ b u,(b=a∨H b=some (.own a))→h.get? b=some u→h'.get? b=some u)
  (ho:∀ b,H b=some (.own a)→H' b=some (.own a)) (ht:∀ b xs,H b=some (.tup xs)→H' b=some (.tup xs)):ObjOk P w H' h' a o:=by
 induction o with
 | lst xs=>obtain ⟨z,its,n,r,e⟩:=x;exact ⟨z,its,n,r,k _ _ (.inl rfl) e⟩
 | tup xs=>obtain ⟨z,its,r,ob,e,c⟩:=x;exact ⟨z,its,r,ob,k _ _ (.inl rfl) e,c⟩
 | dK kvs=>obtain ⟨z,y,vs,r,ob,es,ep,e,c⟩:=x;exact ⟨z,y,vs,r,ob,es,ep,k _ _ (.inl rfl) e,c⟩
 | dT kvs =>
  obtain ⟨z,y,xs,r,ob,es,ep,e,c⟩:=x
  exact ⟨z,y,xs,Paired.mapP r fun p q z=>⟨z.1,ht _ _ z.2.1,z.2.2⟩,ob,es,ep,k _ _ (.inl rfl) e,c⟩
 | set S n=>obtain ⟨ob,es,ep,t,e,c⟩:=x;exact ⟨ob,es,ep,t,k _ _ (.inl rfl) e,c⟩
 | ins C dx fs =>
  obtain ⟨d,z,ne,e,mA,⟨od,es,ep,e2,c⟩,r⟩:=x
  exact ⟨ho _ d,z,ne,k _ _ (.inl rfl) e,mA,⟨od,es,ep,k _ _ (.inr d) e2,c⟩,r⟩
 | own y=>obtain ⟨ob,e⟩:=x;exact ⟨ob,k _ _ (.inl rfl) e⟩
 | xd fs=>obtain ⟨mA,⟨od,es,ep,e,c⟩,r⟩:=x;exact ⟨mA,⟨od,es,ep,k _ _ (.inl rfl) e,c⟩,r⟩
 | rng lo hi=>obtain ⟨t,u,v,e⟩:=x;exact ⟨t,u,v,k _ _ (.inl rfl) e⟩
 | frz ob u ih=>obtain ⟨e,q⟩:=x;exact ⟨k _ _ (.inl rfl) e,ih q⟩
 | tbl ps =>
  have e:h.get? a=some { cls:=.none,data:=.fields ps }:=x
  show h'.get? a=some { cls:=.none,data:=.fields ps }
  exact k a _ (.inl rfl) e
 | met f y =>
  have e:h.get? a=some (PySem.W.methodObj (.ref f) (.ref y)):=x
  show h'.get? a=some (PySem.W.methodObj (.ref f) (.ref y))
  exact k a _ (.inl rfl) e
 | ext φ=>obtain ⟨p,⟨o,e⟩,st⟩:=x;exact ⟨st _ _ p fun o q=>k _ _ (.inl rfl) q,⟨o,k _ _ (.inl rfl) e⟩,st⟩
theorem HOk.lt (x:HOk P w H h) (e:H a=some o):a < h.objs.size:=(x a o e).lt
theorem HOk.fresh (x:HOk P w H h) (e:h.objs.size≤a):H a=none:=by
 cases q:H a with
 | none=>rfl
 | some u=>exact absurd (Nat.lt_of_lt_of_le (x.lt q) e) (Nat.lt_irrefl _)
theorem HOk.kept (x:HOk P w H h) (k:∀ b u,h.get? b=some u→h'.get? b=some u):HOk P w H h':=fun a o e =>
 (x a o e).stay (fun b u _ q=>k b u q) (fun _ q=>q) fun _ _ q=>q
theorem HOk.laid (x:HOk P w H h) (k:∀ b u,h.get? b=some u→h'.get? b=some u) (hp:h.objs.size≤a) (new:ObjOk P w (upd H a o) h' a o):HOk P w (upd H a o) h':=fun b u e=>by
 have hn:=x.fresh hp
 by_cases hb:b=a
 ·subst hb;rw [ZbX] at e;cases e;exact new
 ·rw [Zbd hb] at e
  exact (x b u e).stay (fun c v _ q=>k c v q) (fun c q=>by rw [Zbd (Zc1 q hn)];exact q) fun c xs q=>by rw [Zbd (Zc1 q hn)];exact q
end
def Rd (H:Hp) (a:Addr) (u:HO):Prop:=H a=some u∨∃ o,H a=some (.frz o u)
theorem Rd.of {H:Hp} {a:Addr} {u:HO} (h:H a=some u):Rd H a u:=.inl h
theorem Rd.ok {P:Program} {w:World} {H:Hp} {h:Heap} {a:Addr} {u:HO} (r:Rd H a u) (x:HOk P w H h):ObjOk P w H h a u:=by
 rcases r with r | ⟨o,r⟩
 ·exact x a u r
 ·obtain ⟨_,q⟩:=x a _ r
  exact q
def Mut:Option HO→Prop
 | some (.lst _)=>True
 | some (.dK _)=>True
 | some (.dT _)=>True
 | some (.set _ _)=>True
 | some (.ins _ _ _)=>True
 | some (.ext _)=>True
 | _=>False
section
variable {P:Program} {w:World} {H:Hp} {h h':Heap} {x e:Addr} {o':HO}
theorem HOk.write (ok:HOk P w H h) (mu:Mut (H x)) (he:e=x∨H e=some (.own x)) (k:∀ b u,b≠e→h.get? b=some u→h'.get? b=some u) (heo:∃ u,h'.get? e=some u)
  (new:ObjOk P w (upd H x o') h' x o'):HOk P w (upd H x o') h':=fun b u q=>by
 have nown:∀ c y,H c=some (.own y)→c≠x:=fun c y r z=>by subst z;rw [r] at mu;exact mu
 have ntup:∀ c xs,H c=some (.tup xs)→c≠x:=fun c xs r z=>by subst z;rw [r] at mu;exact mu
 by_cases hb:b=x
 ·subst hb;rw [ZbX] at q;cases q;exact new
 ·rw [Zbd hb] at q
  by_cases hbe:b=e
  ·have q':H b=some (.own x):=by
    rcases he with z | z
    ·exact absurd (hbe.trans z) hb
    ·rw [hbe];exact z
   rw [q] at q';cases q'
   obtain ⟨v,hv⟩:=heo
   exact ⟨v,by rw [hbe];exact hv⟩
  ·refine (ok b u q).stay (fun c v hc r=>k c v ?_ r) (fun c r=>by rw [Zbd (nown c b r)];exact r) fun c xs r=>by rw [Zbd (ntup c xs r)];exact r
   rcases hc with rfl | hc
   ·exact hbe
   ·rintro rfl
    rcases he with z | z
    ·exact nown c b hc z
    ·rw [hc] at z;cases z;exact hb rfl
end
structure Un (fs ex:List Addr) (H H':Hp) (h h':Heap):Prop where
 keep:∀ b o,h.get? b=some o→H b=none→b∉fs→b∉ex→h'.get? b=some o
 slot:∀ b o,h.get? b=some o→H b=none→b∈fs→b∉ex→∃ sl,h'.get? b=some { o with slots:=sl }
 free:∀ b o,h.get? b=some o→H b=none→b∉ex→H' b=none
 there:∀ b o,h.get? b=some o→b∉ex→∃ o',h'.get? b=some o'
 tups:∀ b xs,H b=some (.tup xs)→H' b=some (.tup xs)
 frzs:∀ b o u,H b=some (.frz o u)→H' b=some (.frz o u)
 tbls:∀ b ps,H b=some (.tbl ps)→∃ more,H' b=some (.tbl (ps++more))
section
variable {fs fs' ex ex':List Addr} {H H1 H2:Hp} {h h1 h2 h':Heap} {a x e:Addr} {o:HO}
theorem Un.any (u:Un fs ex H H1 h h1) {b:Addr} {ob:Obj} (q:h.get? b=some ob) (n:H b=none) (hx:b∉ex):∃ sl,h1.get? b=some { ob with slots:=sl }:=by
 by_cases hb:b∈fs
 ·exact u.slot b ob q n hb hx
 ·exact ⟨ob.slots,u.keep b ob q n hb hx⟩
theorem Un.trans (a:Un fs ex H H1 h h1) (b:Un fs ex H1 H2 h1 h2):Un fs ex H H2 h h2 where
 keep:=fun c ob q n hc hx=>b.keep c ob (a.keep c ob q n hc hx) (a.free c ob q n hx) hc hx
 slot:=fun c ob q n hc hx=>by
  obtain ⟨sl,e1⟩:=a.slot c ob q n hc hx
  obtain ⟨sl',e2⟩:=b.slot c _ e1 (a.free c ob q n hx) hc hx
  exact ⟨sl',e2⟩
 free:=fun c ob q n hx=>by
  obtain ⟨o',e1⟩:=a.there c ob q hx
  exact b.free c o' e1 (a.free c ob q n hx) hx
 there:=fun c ob q hx=>by
  obtain ⟨o',e1⟩:=a.there c ob q hx
  exact b.there c o' e1 hx
 tups:=fun c xs q=>b.tups c xs (a.tups c xs q)
 frzs:=fun c ob xs q=>b.frzs c ob xs (a.frzs c ob xs q)
 tbls:=fun c ps q=>by
  obtain ⟨m1,e1⟩:=a.tbls c ps q
  obtain ⟨m2,e2⟩:=b.tbls c _ e1
  exact ⟨m1++m2,by rw [e2,Array.append_assoc]⟩
theorem Un.kept (k:∀ b u,h.get? b=some u→h'.get? b=some u):Un fs ex H H h h' :=
 ⟨fun b ob q _ _ _=>k b ob q,fun b ob q _ _ _=>⟨ob.slots,k b ob q⟩,fun _ _ _ n _=>n,fun b ob q _=>⟨ob,k b ob q⟩,fun _ _ q=>q,fun _ _ _ q=>q,fun _ ps q=>⟨#[],by rw [q];simp⟩⟩
theorem Un.refl:Un fs ex H H h h:=Un.kept fun _ _ q=>q
theorem Un.laid (k:∀ b u,h.get? b=some u→h'.get? b=some u) (hp:h.objs.size≤a) (hn:H a=none):Un fs ex H (upd H a o) h h' where
 keep:=fun b u q _ _ _=>k b u q
 slot:=fun b u q _ _ _=>⟨u.slots,k b u q⟩
 free:=fun b u q n _=>by rw [Zbd (Nat.ne_of_lt (Nat.lt_of_lt_of_le (Heap.lt_size q) hp))];exact n
 there:=fun b u q _=>⟨u,k b u q⟩
 tups:=fun b xs q=>by rw [Zbd (Zc1 q hn)];exact q
 frzs:=fun b u xs q=>by rw [Zbd (Zc1 q hn)];exact q
 tbls:=fun b ps q=>⟨#[],by rw [Zbd (Zc1 q hn),q];simp⟩
theorem Un.write (mu:Mut (H x)) (he:e=x∨H e=some (.own x)) (k:∀ b u,b≠e→h.get? b=some u→h'.get? b=some u) (heo:∃ u,h'.get? e=some u):Un fs ex H (upd H x o) h h':=by
 have hx:∀ b,H b=none→b≠x:=fun b n z=>by subst z;rw [n] at mu;exact mu
 have hb:∀ b,H b=none→b≠e:=fun b n z=>by
  subst z
  rcases he with r | r
  ·exact hx b n r
  ·rw [n] at r;cases r
 have hm:∀ b u,H b=some u→¬ Mut (some u)→b≠x:=fun b u q nm z=>by subst z;rw [q] at mu;exact nm mu
 refine ⟨fun b u q n _ _=>k b u (hb b n) q,fun b u q n _ _=>⟨u.slots,k b u (hb b n) q⟩,fun b u q n _=>by rw [Zbd (hx b n)];exact n,fun b u q _=>?_,
  fun b xs q=>by rw [Zbd (hm b _ q fun z=>z)];exact q,fun b u xs q=>by rw [Zbd (hm b _ q fun z=>z)];exact q,fun b ps q=>⟨#[],by rw [Zbd (hm b _ q fun z=>z),q];simp⟩⟩
 by_cases hbe:b=e
 ·subst hbe;exact heo
 ·exact ⟨u,k b u hbe q⟩
theorem Un.mono (u:Un fs ex H H1 h h1) (hs:∀ b∈fs,b∈fs') (hx:∀ b∈ex,b∈ex'):Un fs' ex' H H1 h h1 :=
 ⟨fun b ob q n hb he=>u.keep b ob q n (fun z=>hb (hs b z)) fun z=>he (hx b z),fun _ _ q n _ he=>u.any q n fun z=>he (hx _ z),fun b ob q n he=>u.free b ob q n fun z=>he (hx b z),fun b ob q he=>u.there b ob q fun z=>he (hx b z),u.tups,u.frzs,u.tbls⟩
end
def trk (h:Heap) (H:Hp):List Addr:=(List.range h.objs.size).filter fun a=>(H a).isSome
def ZqW (h:Heap) (H:Hp):Heap:=PySem.W.hideAll h (trk h H)
theorem ZnJ (h:Heap) (H:Hp):(ZqW h H).objs.size=h.objs.size:=PySem.W.hideAll_size _ _
theorem Zqw {h:Heap} {H:Hp} {b:Addr} {o:Obj} (e:h.get? b=some o) (n:H b=none):(ZqW h H).get? b=some o :=
 PySem.W.hideAll_get _ e fun hm=>by
  have q:(H b).isSome=true:=(List.mem_filter.mp hm).2
  rw [n] at q;simp at q
theorem ZsV {h:Heap} {H:Hp} {b:Addr} {o:Obj} (e:(ZqW h H).get? b=some o):h.get? b=some o∧H b=none:=by
 have e':h.get? b=some o:=PySem.W.of_hideAll (trk h H) e
 refine ⟨e',?_⟩
 cases q:H b with
 | none=>rfl
 | some x =>
  have hm:b∈trk h H:=List.mem_filter.mpr ⟨List.mem_range.mpr (Heap.lt_size e'),by simp [q]⟩
  have z:(ZqW h H).get? b=none:=PySem.W.hideAll_none (trk h H) hm
  rw [z] at e;cases e
def Ztf (g h:Heap) (L:Addr):List (Addr×Obj):=(List.range h.objs.size).filterMap fun a=>if a=L∨(g.get? a).isSome=true then none else (h.get? a).map fun o=>(a,o)
def Zcg (g h:Heap) (L d:Addr):List (Addr×Obj):=(Ztf g h L).filter fun p=>decide (p.1≠d)
end L2
namespace L2
open PySem PySem.Spec PyProof.Rows
structure Mod (K:PySem.W.Frag) (mg:Str→Option Value) (base:Heap):Prop where
 kin:K.In base
 glob:base.Ns mainGlobals mg
 blt:∃ mb,base.Ns builtinsNs mb∧∀ x:Str,x≠"__name__"→mb x=bootBuiltins x
 nolimit:base.NoLimit
structure Cx where
 prog:Program
 w:World
 K:PySem.W.Frag
 mg:Str→Option Value
 base:Heap
 A:Around
 N:List Str
 s₀:Shared
 H₀:Hp
 env:Env
 outer:List Env
 stack:List Env
 ex:List Addr
 fn:Str→Bool
 calm:Bool
 pn:List (Addr×Obj)
 xe:Value→Shared→Prop
def frs (l:List Env):List Addr:=l.filterMap (·.frame)
abbrev Cx.fs (X:Cx):List Addr:=frs X.outer
def Vis (sc:Scope) (x:Str):Prop:=sc.names.lookup x=some .local∨sc.names.lookup x=some .cell∨sc.names.lookup x=some .free
def Loc (sc:Scope) (x:Str):Prop:=sc.names.lookup x=some .local∨sc.names.lookup x=some .cell
def Zxd (env:Env) (h:Heap) (m:Str→Option Value) (x:Str) (u:Value):Prop :=
 (env.kindOf x=some .local∧m x=some u)∨((env.kindOf x=some .cell∨env.kindOf x=some .free)∧∃ c,env.cells.lookup x=some c∧h.IsCell c (some u))
structure Cx.Ok (X:Cx):Prop where
 mod:Mod X.K X.mg X.base
 kind:X.env.scope.kind=.function
 glob:X.env.globals=mainGlobals
 blt:X.env.builtins=builtinsNs
 above:X.s₀.heap.objs.size≤X.env.locals
 inj:∀ x y c,X.env.cells.lookup x=some c→X.env.cells.lookup y=some c→x=y
 has:∀ x,(X.env.kindOf x=some .cell∨X.env.kindOf x=some .free)→∃ c,X.env.cells.lookup x=some c
 cab:∀ x c,X.fn x=true→X.env.cells.lookup x=some c→X.s₀.heap.objs.size≤c
 hd:X.calm=true→X.A.handled=none
 frames:X.A.frames=some X.stack
 stk:X.stack=X.outer∨(X.stack=X.env::X.outer∧X.env.frame=some X.env.locals)
 exf:∀ b∈X.ex,b≠X.env.locals∧∀ x c,X.env.cells.lookup x=some c→c≠b
 bs:∀ b o,X.base.get? b=some o→X.s₀.heap.get? b=some o∧X.H₀ b=none
 bsz:X.base.objs.size≤X.s₀.heap.objs.size
 noex:∀ b o,X.base.get? b=some o→b∉X.ex
 exfs:∀ b∈X.ex,b∉X.fs
 funs:X.s₀.heap.FunFrames X.base X.outer
 frf:∀ b∈X.fs,X.H₀ b=none
structure Inv (X:Cx) (pins:List (Addr×Obj)) (σ:List (Option V)) (H:Hp) (s:Shared):Prop where
 ok:X.Ok
 os:s.os=X.s₀.os
 bare:AllBare s.gens
 base:Un X.fs X.ex X.H₀ H X.s₀.heap s.heap
 loc:∃ m,s.heap.Ns X.env.locals m∧∀ (i:Nat) (x:Str) (v:V),X.N[i]?=some x→σ[i]?=some (some v)→Vis X.env.scope x→∃ u,RelV v u∧Zxd X.env s.heap m x u
 cell:∀ x c,X.env.cells.lookup x=some c→∃ v,s.heap.IsCell c v
 free:H X.env.locals=none
 freeC:∀ x c,X.env.cells.lookup x=some c→H c=none
 pin:∀ p∈X.pn++pins,s.heap.get? p.1=some p.2∧H p.1=none∧p.1≠X.env.locals∧p.1∉X.fs∧∀ v,p.2.data≠.cell v
 hok:HOk X.prog X.w H s.heap
 len:σ.length=X.N.length
section
variable {X:Cx} {pins:List (Addr×Obj)} {σ:List (Option V)} {H H':Hp} {s:Shared} {h':Heap}
theorem Cx.Ok.nofr (ok:X.Ok) {b:Addr} {o:Obj} (e:X.base.get? b=some o):b∉X.fs:=fun hb=>by
 have:=(ok.funs.mem hb).1
 rw [e] at this;cases this
theorem Inv.bs (I:Inv X pins σ H s):∀ b o,X.base.get? b=some o→s.heap.get? b=some o∧H b=none:=fun b o e =>
 ⟨I.base.keep b o (I.ok.bs b o e).1 (I.ok.bs b o e).2 (I.ok.nofr e) (I.ok.noex b o e),I.base.free b o (I.ok.bs b o e).1 (I.ok.bs b o e).2 (I.ok.noex b o e)⟩
theorem Inv.bk (I:Inv X pins σ H s):∀ b o,X.base.get? b=some o→s.heap.get? b=some o:=fun b o e=>(I.bs b o e).1
theorem Inv.mod (I:Inv X pins σ H s):Mod X.K X.mg X.base:=I.ok.mod
theorem Inv.kIn (I:Inv X pins σ H s):X.K.In s.heap:=I.ok.mod.kin.keeps I.bk
theorem Inv.nolimit (I:Inv X pins σ H s):s.heap.NoLimit:=I.ok.mod.nolimit.keeps I.bk
theorem Inv.fr (I:Inv X pins σ H s):∃ m,Fr X.base X.env.locals s.heap m :=
 let ⟨m,hn,_⟩:=I.loc
 ⟨m,hn,I.bk,Nat.le_trans I.ok.bsz I.ok.above⟩
theorem Inv.lt (I:Inv X pins σ H s):X.env.locals < s.heap.objs.size:=let ⟨_,hn,_⟩:=I.loc;hn.lt
theorem Inv.sz (I:Inv X pins σ H s):X.s₀.heap.objs.size≤s.heap.objs.size:=Nat.le_trans I.ok.above (Nat.le_of_lt I.lt)
theorem Inv.nofs (I:Inv X pins σ H s) {a:Addr} (h:s.heap.objs.size≤a):a∉X.fs:=fun hb=>by
 obtain ⟨_,o,ho,_⟩:=I.ok.funs.mem hb
 exact absurd (Nat.lt_of_lt_of_le (Heap.lt_size ho) (Nat.le_trans I.sz h)) (Nat.lt_irrefl _)
theorem Inv.cne (I:Inv X pins σ H s):∀ x c,X.env.cells.lookup x=some c→c≠X.env.locals:=fun x c e z=>by
 obtain ⟨v,o,ho,hd⟩:=I.cell x c e
 obtain ⟨m,⟨o',es,ep,ho',hd',_⟩,_⟩:=I.loc
 rw [z,ho'] at ho;cases ho;rw [hd'] at hd;cases hd
theorem Inv.funs (I:Inv X pins σ H s):s.heap.FunFrames X.base X.outer:=by
 have all:∀ (l:List Env),(∀ b∈frs l,b∈X.fs)→X.s₀.heap.FunFrames X.base l→s.heap.FunFrames X.base l:=by
  intro l
  induction l with
  | nil=>intro _ _;trivial
  | cons env r ih =>
   intro hs hl
   obtain ⟨hk,⟨L,o,hf,hn,ho,hd⟩,hr⟩:=hl
   have hL:L∈X.fs:=hs L (by unfold frs;rw [List.filterMap_cons,hf];exact List.mem_cons_self)
   obtain ⟨sl,e⟩:=I.base.slot L o ho (I.ok.frf L hL) hL fun z=>I.ok.exfs L z hL
   exact ⟨hk,⟨L,_,hf,hn,e,hd⟩,ih (fun b hb=>hs b (by unfold frs;rw [List.filterMap_cons,hf];exact List.mem_cons_of_mem _ hb)) hr⟩
 exact all X.outer (fun _ hb=>hb) I.ok.funs
theorem Inv.stack (I:Inv X pins σ H s):s.heap.FunFrames X.base X.stack:=by
 rcases I.ok.stk with e | ⟨e,hf⟩
 ·rw [e];exact I.funs
 ·rw [e]
  obtain ⟨m,hn,_⟩:=I.loc
  refine .cons (by rw [I.ok.kind];decide) hf hn ?_ I.funs
  exact Heap.get?_none_of_le (Nat.le_trans I.ok.bsz I.ok.above)
theorem Inv.stkSub (I:Inv X pins σ H s):∀ b∈frs X.stack,b∈X.env.locals::X.fs:=fun b hb=>by
 rcases I.ok.stk with e | ⟨e,hf⟩
 ·rw [e] at hb;exact List.mem_cons_of_mem _ hb
 ·rw [e] at hb
  unfold frs at hb
  rw [List.filterMap_cons,hf] at hb
  exact hb
theorem Inv.stkFree (I:Inv X pins σ H s):∀ b∈frs X.stack,H b=none:=fun b hb=>by
 rcases List.mem_cons.mp (I.stkSub b hb) with e | hb
 ·rw [e];exact I.free
 ·obtain ⟨_,o,ho,_⟩:=I.ok.funs.mem hb
  exact I.base.free b o ho (I.ok.frf b hb) fun z=>I.ok.exfs b z hb
theorem Inv.step {g':Array GenState} {t':Nat} {d':Drawn} {ch:List Addr} (I:Inv X pins σ H s)
  (hch:∀ b∈ch,(b∈X.ex∨X.s₀.heap.objs.size≤b)∧b≠X.env.locals∧(∀ x c,X.env.cells.lookup x=some c→c≠b)∧∀ p∈X.pn++pins,p.1≠b)
  (keep:∀ b o,b≠X.env.locals→b∉X.fs→b∉ch→s.heap.get? b=some o→H b=none→h'.get? b=some o)
  (slot:∀ b o,b≠X.env.locals→b∈X.fs→b∉ch→s.heap.get? b=some o→H b=none→∃ sl,h'.get? b=some { o with slots:=sl }) (free:∀ b o,b∉ch→s.heap.get? b=some o→H b=none→H' b=none)
  (there:∀ b o,b∉ch→s.heap.get? b=some o→∃ o',h'.get? b=some o')
  (tups:∀ b xs,H b=some (.tup xs)→H' b=some (.tup xs)) (frzs:∀ b o u,H b=some (.frz o u)→H' b=some (.frz o u)) (tbls:∀ b ps,H b=some (.tbl ps)→∃ more,H' b=some (.tbl (ps++more)))
  (ns:∀ m,s.heap.Ns X.env.locals m→h'.Ns X.env.locals m) (hok:HOk X.prog X.w H' h') (hg:AllBare g') :
  Inv X pins σ H' { s with heap:=h',gens:=g',drawn:=d',toks:=t' }:=by
 have neL:∀ b o,X.s₀.heap.get? b=some o→b≠X.env.locals:=fun b o e=>Nat.ne_of_lt (Nat.lt_of_lt_of_le (Heap.lt_size e) I.ok.above)
 have neC:∀ b o,X.s₀.heap.get? b=some o→b∉X.ex→b∉ch:=fun b o e hx hb=>by
  rcases (hch b hb).1 with z | z
  ·exact hx z
  ·exact absurd (Nat.lt_of_lt_of_le (Heap.lt_size e) z) (Nat.lt_irrefl _)
 have cellK:∀ x c,X.env.cells.lookup x=some c→∀ v,s.heap.IsCell c v→h'.IsCell c v:=by
  rintro x c e v ⟨o,ho,hd⟩
  have nch:c∉ch:=fun z=>(hch c z).2.2.1 x c e rfl
  by_cases hc:c∈X.fs
  ·obtain ⟨sl,q⟩:=slot c o (I.cne x c e) hc nch ho (I.freeC x c e)
   exact ⟨_,q,hd⟩
  ·exact ⟨o,keep c o (I.cne x c e) hc nch ho (I.freeC x c e),hd⟩
 refine ⟨I.ok,I.os,hg,⟨fun b o e n hb hx=>?_,fun b o e n hb hx=>?_,fun b o e n hx=>?_,fun b o e hx=>?_,fun b xs e=>tups b xs (I.base.tups b xs e),fun b o xs e=>frzs b o xs (I.base.frzs b o xs e),fun b ps e=>?_⟩,?_,fun x c e=>?_,?_,fun x c e=>?_,fun p hp=>?_,hok,I.len⟩
 ·exact keep b o (neL b o e) hb (neC b o e hx) (I.base.keep b o e n hb hx) (I.base.free b o e n hx)
 ·obtain ⟨sl,e1⟩:=I.base.slot b o e n hb hx
  obtain ⟨sl',e2⟩:=slot b _ (neL b o e) hb (neC b o e hx) e1 (I.base.free b o e n hx)
  exact ⟨sl',e2⟩
 ·obtain ⟨o',e1⟩:=I.base.there b o e hx
  exact free b o' (neC b o e hx) e1 (I.base.free b o e n hx)
 ·obtain ⟨o',e1⟩:=I.base.there b o e hx
  exact there b o' (neC b o e hx) e1
 ·obtain ⟨m1,e1⟩:=I.base.tbls b ps e
  obtain ⟨m2,e2⟩:=tbls b _ e1
  exact ⟨m1++m2,by rw [e2,Array.append_assoc]⟩
 ·obtain ⟨m,hn,hl⟩:=I.loc
  refine ⟨m,ns m hn,fun i x v e1 e2 e3=>?_⟩
  obtain ⟨u,r,l⟩:=hl i x v e1 e2 e3
  refine ⟨u,r,?_⟩
  rcases l with l | ⟨k,c,e,z⟩
  ·exact .inl l
  ·exact .inr ⟨k,c,e,cellK x c e _ z⟩
 ·obtain ⟨v,z⟩:=I.cell x c e
  exact ⟨v,cellK x c e v z⟩
 ·obtain ⟨m,⟨o,_,_,ho,_⟩,_⟩:=I.loc
  exact free _ o (fun z=>(hch _ z).2.1 rfl) ho I.free
 ·obtain ⟨v,o,ho,hd⟩:=I.cell x c e
  exact free c o (fun z=>(hch c z).2.2.1 x c e rfl) ho (I.freeC x c e)
 ·obtain ⟨e,n,ne,nf,d⟩:=I.pin p hp
  have nch:p.1∉ch:=fun z=>(hch p.1 z).2.2.2 p hp rfl
  exact ⟨keep p.1 p.2 ne nf nch e n,free p.1 p.2 nch e n,ne,nf,d⟩
theorem Inv.un {t':Nat} (I:Inv X pins σ H s) (u:Un X.fs [] H H' s.heap h') (hok:HOk X.prog X.w H' h'):Inv X pins σ H' { s with heap:=h',toks:=t' }:=by
 obtain ⟨m,⟨o,es,ep,ho,r⟩,_⟩:=id I.loc
 obtain ⟨sl,hL⟩:=u.any ho I.free (by simp)
 exact I.step (g':=s.gens) (d':=s.drawn) (ch:=[]) (fun _ z=>nomatch z) (fun b o _ hb _ e n=>u.keep b o e n hb (by simp)) (fun b o _ hb _ e n=>u.slot b o e n hb (by simp)) (fun b o _ e n=>u.free b o e n (by simp)) (fun b o _ e=>u.there b o e (by simp)) u.tups u.frzs u.tbls (fun m' hm=>by
  obtain ⟨o',es',ep',ho',r'⟩:=hm
  rw [ho] at ho';cases ho'
  exact ⟨_,es',ep',hL,r'⟩) hok I.bare
theorem Inv.call {g':Array GenState} {t':Nat} {d':Drawn} {ch:List Addr} (I:Inv X pins σ H s) (u:Un (frs X.stack) ch H H' s.heap h') (hok:HOk X.prog X.w H' h') (hg:AllBare g')
  (hch:∀ b∈ch,(b∈X.ex∨X.s₀.heap.objs.size≤b)∧b≠X.env.locals∧(∀ x c,X.env.cells.lookup x=some c→c≠b)∧∀ p∈X.pn++pins,p.1≠b) :
  Inv X pins σ H' { s with heap:=h',gens:=g',drawn:=d',toks:=t' }:=by
 obtain ⟨m,⟨o,es,ep,ho,r⟩,_⟩:=id I.loc
 obtain ⟨sl,hL⟩:=u.any ho I.free fun z=>(hch _ z).2.1 rfl
 exact I.step (ch:=ch) hch (fun b o hL hb hc e n=>u.keep b o e n (fun z=>(List.mem_cons.mp (I.stkSub b z)).elim hL hb) hc) (fun b o _ _ hc e n=>u.any e n hc) (fun b o hc e n=>u.free b o e n hc) (fun b o hc e=>u.there b o e hc) u.tups u.frzs u.tbls (fun m' hm=>by
  obtain ⟨o',es',ep',ho',r'⟩:=hm
  rw [ho] at ho';cases ho'
  exact ⟨_,es',ep',hL,r'⟩) hok hg
theorem Inv.turned {t':Nat} {it:Addr} (I:Inv X pins σ H s) (k:∀ b o,b≠it→s.heap.get? b=some o→h'.get? b=some o) (hn:H it=none) (hL:it≠X.env.locals)
  (h1:it∈X.ex∨X.s₀.heap.objs.size≤it) (h2:∀ x c,X.env.cells.lookup x=some c→c≠it) (h3:∀ p∈X.pn++pins,p.1≠it):Inv X pins σ H { s with heap:=h',toks:=t' }:=by
 have nit:∀ b u,H b=some u→b≠it:=fun b u e z=>by rw [z,hn] at e;cases e
 refine I.step (g':=s.gens) (d':=s.drawn) (ch:=[it]) (fun b hb=>?_) (fun b o _ _ hc e _=>k b o (fun z=>hc (by simp [z])) e) (fun b o _ _ hc e _=>⟨o.slots,k b o (fun z=>hc (by simp [z])) e⟩) (fun _ _ _ _ n=>n)
  (fun b o hc e=>⟨o,k b o (fun z=>hc (by simp [z])) e⟩) (fun _ _ e=>e) (fun _ _ _ e=>e) (fun b ps e=>⟨#[],by rw [e];simp⟩) (fun m hm=>?_) (fun b u e=>?_) I.bare
 ·have e:b=it:=by simpa using hb
  subst e
  exact ⟨h1,hL,h2,h3⟩
 ·obtain ⟨o,es,ep,ho,r⟩:=hm
  exact ⟨o,es,ep,k _ o (Ne.symm hL) ho,r⟩
 ·refine (I.hok b u e).stay (fun c v hc q=>k c v ?_ q) (fun _ q=>q) fun _ _ q=>q
  rcases hc with z | z
  ·rw [z];exact nit b u e
  ·exact nit c _ z
theorem Inv.tok (I:Inv X pins σ H s) (t:Nat):Inv X pins σ H { s with toks:=t }:=I.un (h':=s.heap) (t':=t) Un.refl I.hok
theorem Inv.kept {t':Nat} (I:Inv X pins σ H s) (k:∀ b u,s.heap.get? b=some u→h'.get? b=some u):Inv X pins σ H { s with heap:=h',toks:=t' }:=I.un (Un.kept k) (I.hok.kept k)
theorem Inv.laid {a:Addr} {o:HO} {t':Nat} (I:Inv X pins σ H s) (k:∀ b u,s.heap.get? b=some u→h'.get? b=some u) (hp:s.heap.objs.size≤a) (new:ObjOk X.prog X.w (upd H a o) h' a o) :
  Inv X pins σ (upd H a o) { s with heap:=h',toks:=t' }:=I.un (Un.laid k hp (I.hok.fresh hp)) (I.hok.laid k hp new)
theorem Inv.write {x e:Addr} {o:HO} {t':Nat} (I:Inv X pins σ H s) (mu:Mut (H x)) (he:e=x∨H e=some (.own x)) (k:∀ b u,b≠e→s.heap.get? b=some u→h'.get? b=some u) (heo:∃ u,h'.get? e=some u)
  (new:ObjOk X.prog X.w (upd H x o) h' x o):Inv X pins σ (upd H x o) { s with heap:=h',toks:=t' }:=I.un (Un.write mu he k heo) (I.hok.write mu he k heo new)
theorem Inv.pins_of {pins':List (Addr×Obj)} (I:Inv X pins σ H s) (h:∀ p∈pins',s.heap.get? p.1=some p.2∧H p.1=none∧p.1≠X.env.locals∧p.1∉X.fs∧∀ v,p.2.data≠.cell v):Inv X pins' σ H s :=
 ⟨I.ok,I.os,I.bare,I.base,I.loc,I.cell,I.free,I.freeC,fun p hp=>(List.mem_append.mp hp).elim (fun z=>I.pin p (List.mem_append_left _ z)) (h p),I.hok,I.len⟩
theorem Zmz {N:List Str} (hN:N.Nodup) {i j:Nat} {x:Str} (a:N[i]?=some x) (b:N[j]?=some x):i=j:=by
 obtain ⟨h1,e1⟩:=List.getElem?_eq_some_iff.mp a
 obtain ⟨h2,e2⟩:=List.getElem?_eq_some_iff.mp b
 exact (List.getElem_inj hN).mp (e1.trans e2.symm)
theorem Zph {M:Model} {A:Around} {E:Value→Shared→Prop} {i:Nat} {x:Str} {v:V} {u:Value} {Q:Unit→Shared→Prop} (I:Inv X pins σ H s) (hN:X.N.Nodup) (hi:X.N[i]?=some x) (hx:Loc X.env.scope x) (r:RelV v u)
  (h:∀ s',Inv X pins (σ.set i (some v)) H s'→(∃ a,Heap.SameBut a s.heap s'.heap∧(a=X.env.locals∨X.env.cells.lookup x=some a))→Q () s') (hf:X.fn x=true∨X.env.scope.names.lookup x=some .local:=by first | exact .inl rfl | exact .inr rfl | assumption):wpAny M A (storeName X.env x u) Q E s:=by
 obtain ⟨m,hn,hl⟩:=id I.loc
 have hcls:(X.env.scope.kind==.class||(X.env.scope.kind==.module&&X.env.locals != X.env.globals))=false:=by rw [I.ok.kind];rfl
 have hiσ:i < σ.length:=by rw [I.len];exact (List.getElem?_eq_some_iff.mp hi).1
 have cne:=I.cne
 have tracked:∀ {a:Addr} {h':Heap},(∃ o,s.heap.get? a=some o∧H a=none)→Heap.SameBut a s.heap h'→HOk X.prog X.w H h':=fun {a h'} ha hs b ob e=>by
  obtain ⟨_,_,hfree⟩:=ha
  refine (I.hok b ob e).stay (fun c w' hc q=>(hs.2 c ?_).trans q) (fun _ q=>q) fun _ _ q=>q
  rintro rfl
  rcases hc with rfl | hc
  ·rw [hfree] at e;cases e
  ·rw [hfree] at hc;cases hc
 rcases hx with hk | hk
 ·refine wpAny_storeName_local hk hn (fun h' hn' hs=>?_) hcls
  obtain ⟨oL,_,_,hoL,_⟩:=id hn
  refine h _ ⟨I.ok,I.os,I.bare,⟨fun b o e n hb hx=>?_,fun b o e n hb hx=>?_,I.base.free,fun b o e hx=>?_,I.base.tups,I.base.frzs,I.base.tbls⟩,⟨_,hn',fun j y v' e1 e2 e3=>?_⟩,fun y c e=>?_,I.free,I.freeC,fun p hp=>?_,tracked ⟨oL,hoL,I.free⟩ hs,by simpa using I.len⟩ ⟨_,hs,.inl rfl⟩
  ·exact (hs.2 b (Nat.ne_of_lt (Nat.lt_of_lt_of_le (Heap.lt_size e) I.ok.above))).trans (I.base.keep b o e n hb hx)
  ·obtain ⟨sl,e1⟩:=I.base.slot b o e n hb hx
   exact ⟨sl,(hs.2 b (Nat.ne_of_lt (Nat.lt_of_lt_of_le (Heap.lt_size e) I.ok.above))).trans e1⟩
  ·obtain ⟨o',e1⟩:=I.base.there b o e hx
   exact ⟨o',(hs.2 b (Nat.ne_of_lt (Nat.lt_of_lt_of_le (Heap.lt_size e) I.ok.above))).trans e1⟩
  ·by_cases hj:j=i
   ·subst hj
    rw [hi] at e1;cases e1
    rw [List.getElem?_set_self hiσ] at e2
    cases e2
    exact ⟨u,r,.inl ⟨hk,by simp⟩⟩
   ·rw [List.getElem?_set_ne (Ne.symm hj)] at e2
    obtain ⟨u',r',q⟩:=hl j y v' e1 e2 e3
    refine ⟨u',r',?_⟩
    rcases q with ⟨k,e⟩ | ⟨k,c,e,z⟩
    ·refine .inl ⟨k,?_⟩
     have:y≠x:=fun e=>hj (Zmz hN e1 (e▸hi))
     simp [this,e]
    ·exact .inr ⟨k,c,e,z.sameBut hs (cne y c e)⟩
  ·obtain ⟨w',z⟩:=I.cell y c e
   exact ⟨w',z.sameBut hs (cne y c e)⟩
  ·obtain ⟨e,n,ne,nf,d⟩:=I.pin p hp
   exact ⟨(hs.2 p.1 ne).trans e,n,ne,nf,d⟩
 ·have hfn:X.fn x=true:=by
   rcases hf with z | z
   ·exact z
   ·rw [z] at hk;cases hk
  obtain ⟨c,hc⟩:=I.ok.has x (.inl hk)
  obtain ⟨w',z⟩:=I.cell x c hc
  refine wpAny_storeName_cell I.ok.kind hk hc z (fun h' hc' hs=>?_)
  obtain ⟨oc,hoc,hocd⟩:=id z
  refine h { s with heap:=h' } ⟨I.ok,I.os,I.bare,⟨fun b o e n hb hx=>?_,fun b o e n hb hx=>?_,I.base.free,fun b o e hx=>?_,I.base.tups,I.base.frzs,I.base.tbls⟩,⟨m,hn.sameBut hs (Ne.symm (cne x c hc)),fun j y v' e1 e2 e3=>?_⟩,fun y c' e=>?_,I.free,I.freeC,fun p hp=>?_,tracked ⟨oc,hoc,I.freeC x c hc⟩ hs,by simpa using I.len⟩ ⟨c,hs,.inr hc⟩
  ·exact (hs.2 b (Nat.ne_of_lt (Nat.lt_of_lt_of_le (Heap.lt_size e) (I.ok.cab x c hfn hc)))).trans (I.base.keep b o e n hb hx)
  ·obtain ⟨sl,e1⟩:=I.base.slot b o e n hb hx
   exact ⟨sl,(hs.2 b (Nat.ne_of_lt (Nat.lt_of_lt_of_le (Heap.lt_size e) (I.ok.cab x c hfn hc)))).trans e1⟩
  ·obtain ⟨o',e1⟩:=I.base.there b o e hx
   exact ⟨o',(hs.2 b (Nat.ne_of_lt (Nat.lt_of_lt_of_le (Heap.lt_size e) (I.ok.cab x c hfn hc)))).trans e1⟩
  ·by_cases hj:j=i
   ·subst hj
    rw [hi] at e1;cases e1
    rw [List.getElem?_set_self hiσ] at e2
    cases e2
    exact ⟨u,r,.inr ⟨.inl hk,c,hc,hc'⟩⟩
   ·rw [List.getElem?_set_ne (Ne.symm hj)] at e2
    obtain ⟨u',r',q⟩:=hl j y v' e1 e2 e3
    refine ⟨u',r',?_⟩
    rcases q with q | ⟨k,c',e,z'⟩
    ·exact .inl q
    ·refine .inr ⟨k,c',e,z'.sameBut hs ?_⟩
     rintro rfl
     exact hj (Zmz hN e1 (I.ok.inj _ _ _ e hc▸hi))
  ·by_cases hcc:c'=c
   ·subst hcc;exact ⟨_,hc'⟩
   ·obtain ⟨w2,z2⟩:=I.cell y c' e
    exact ⟨w2,z2.sameBut hs hcc⟩
  ·obtain ⟨e,n,ne,nf,d⟩:=I.pin p hp
   refine ⟨(hs.2 p.1 ?_).trans e,n,ne,nf,d⟩
   intro q
   rw [q,hoc] at e
   have q':oc=p.2:=Option.some.inj e
   exact d w' (by rw [← q'];exact hocd)
theorem ZhG {M:Model} {A:Around} {E:Value→Shared→Prop} {i:Nat} {x:Str} {v:V} {u:Value} {Q:Unit→Shared→Prop} (I:Inv X pins σ H s) (hN:X.N.Nodup) (hi:X.N[i]?=some x) (hx:Loc X.env.scope x) (r:RelV v u)
  (h:∀ s',Inv X pins (σ.set i (some v)) H s'→Q () s') (hf:X.fn x=true∨X.env.scope.names.lookup x=some .local:=by first | exact .inl rfl | exact .inr rfl | assumption):wpAny M A (storeName X.env x u) Q E s :=
 Zph I hN hi hx r (fun s' I' _=>h s' I') hf
theorem Inv.call' {s':Shared} {ch:List Addr} (I:Inv X pins σ H s) (ho:s'.os=s.os) (u:Un (frs X.stack) ch H H' s.heap s'.heap) (hok:HOk X.prog X.w H' s'.heap) (hg:AllBare s'.gens)
  (hch:∀ b∈ch,(b∈X.ex∨X.s₀.heap.objs.size≤b)∧b≠X.env.locals∧(∀ x c,X.env.cells.lookup x=some c→c≠b)∧∀ p∈X.pn++pins,p.1≠b):Inv X pins σ H' s':=by
 obtain ⟨h',g',d',t',o'⟩:=s'
 have e:o'=s.os:=ho
 subst e
 exact I.call (g':=g') (t':=t') (d':=d') u hok hg hch
end
abbrev XK:=Value→Option Addr→Hp→Prop
abbrev St:=List (Option V)
abbrev VK:=V→Hp→Prop
abbrev TE:=St→Hp→VK→Prop
abbrev TT:=St→Hp→(Bool→Hp→Prop)→Prop
abbrev TA:=St→Hp→(List V→Hp→Prop)→Prop
structure Ztp where
 nx:St→Hp→Prop
 rt:VK
 bk:St→Hp→Prop:=fun _ _=>False
 ct:St→Hp→Prop:=fun _ _=>False
abbrev TS:=Ztp→St→Hp→Prop
def EP (X:Cx) (pins:List (Addr×Obj)) (σ:St) (Q:VK) (u:Value) (s':Shared):Prop:=∃ v H',Inv X pins σ H' s'∧RelV v u∧Q v H'
def TP (X:Cx) (pins:List (Addr×Obj)) (σ:St) (Q:Bool→Hp→Prop) (b:Bool) (s':Shared):Prop:=∃ H',Inv X pins σ H' s'∧Q b H'
def AP (X:Cx) (pins:List (Addr×Obj)) (σ:St) (Q:List V→Hp→Prop) (us:List Value) (s':Shared):Prop:=∃ vs H',Inv X pins σ H' s'∧Vals vs us∧Q vs H'
def SP (X:Cx) (pins:List (Addr×Obj)) (D:Ztp) (f:Flow) (s':Shared):Prop :=
 match f with
 | .next=>∃ σ' H',Inv X pins σ' H' s'∧D.nx σ' H'
 | .brk=>∃ σ' H',Inv X pins σ' H' s'∧D.bk σ' H'
 | .cont=>∃ σ' H',Inv X pins σ' H' s'∧D.ct σ' H'
 | .ret u=>∃ v σ' H',Inv X pins σ' H' s'∧RelV v u∧D.rt v H'
def PE (X:Cx) (e:Expr) (t:TE):Prop :=
 ∀ (pins:List (Addr×Obj)) (s:Shared) (σ:St) (H:Hp) (Q:VK),Inv X pins σ H s→t σ H Q→wpAny (model X.prog X.w) X.A (eval e X.env) (EP X pins σ Q) X.xe s
def PT (X:Cx) (e:Expr) (t:TT):Prop :=
 ∀ (pins:List (Addr×Obj)) (s:Shared) (σ:St) (H:Hp) (Q:Bool→Hp→Prop),Inv X pins σ H s→t σ H Q→wpAny (model X.prog X.w) X.A (isTrue e X.env (eval e X.env)) (TP X pins σ Q) X.xe s
def PW (X:Cx) (e:Expr) (t:TT):Prop :=
 ∀ (whole:Sem Value) (pins:List (Addr×Obj)) (s:Shared) (σ:St) (H:Hp) (Q:Bool→Hp→Prop),Inv X pins σ H s→t σ H Q→wpAny (model X.prog X.w) X.A (isTrue e X.env whole) (TP X pins σ Q) X.xe s
theorem PW.pt {X:Cx} {e:Expr} {t:TT} (h:PW X e t):PT X e t:=h _
def PA (X:Cx) (es:List Expr) (t:TA):Prop :=
 ∀ (pos:Pos) (pins:List (Addr×Obj)) (s:Shared) (σ:St) (H:Hp) (Q:List V→Hp→Prop),Inv X pins σ H s→t σ H Q→wpAny (model X.prog X.w) X.A (spliced (backTo pos (starEach es X.env))) (AP X pins σ Q) X.xe s
def PS (X:Cx) (st:Stmt) (t:TS):Prop :=
 ∀ (pins:List (Addr×Obj)) (s:Shared) (σ:St) (H:Hp) (D:Ztp),Inv X pins σ H s→t D σ H→wpAny (model X.prog X.w) X.A (exec st X.env) (SP X pins D) X.xe s
def PSs (X:Cx) (st:List Stmt) (t:TS):Prop :=
 ∀ (pins:List (Addr×Obj)) (s:Shared) (σ:St) (H:Hp) (D:Ztp),Inv X pins σ H s→t D σ H→wpAny (model X.prog X.w) X.A (execs st X.env) (SP X pins D) X.xe s
theorem thn {α:Type} {t:Sem α} {Q Q':α→Shared→Prop} {M:Model} {A:Around} {E:Value→Shared→Prop} {s:Shared} (h:wpAny M A t Q E s) (hQ:∀ a s,Q a s→Q' a s):wpAny M A t Q' E s:=wpAny_mono h hQ fun _ _ x=>x
end L2
namespace L2
open PySem PySem.Spec PyProof.Rows
section
variable {X:Cx}
theorem bin {a b:Expr} {ta tb:TE} (ha:PE X a ta) (hb:PE X b tb) {pins:List (Addr×Obj)} {s:Shared} {σ:St} {H:Hp} {R:V→V→Hp→Prop} (I:Inv X pins σ H s) (h:ta σ H fun x H1=>tb σ H1 fun y H2=>R x y H2)
  {α:Type} {Q:α→Shared→Prop} {f:Value→Value→Sem α}
  (hf:∀ v u s2 x y H2,Inv X pins σ H2 s2→RelV x v→RelV y u→R x y H2→wpAny (model X.prog X.w) X.A (f v u) Q X.xe s2) :
  wpAny (model X.prog X.w) X.A (eval a X.env) (fun v s₁=>wpAny (model X.prog X.w) X.A (eval b X.env) (fun u s₂=>wpAny (model X.prog X.w) X.A (f v u) Q X.xe s₂) X.xe s₁) X.xe s:=by
 refine thn (ha pins s σ H _ I h) fun v s1 zz1=>?_
 obtain ⟨x,H1,I1,r1,q1⟩:=zz1
 refine thn (hb pins s1 σ H1 _ I1 q1) fun u s2 zz2=>?_
 obtain ⟨y,H2,I2,r2,q2⟩:=zz2
 exact hf v u s2 x y H2 I2 r1 r2 q2
def Zxm (i:Nat):TE:=fun σ H Q=>∃ v,σ[i]?=some (some v)∧Q v H
def tC (v:V):TE:=fun _ H Q=>Q v H
theorem ZtR {i:Nat} {x:Str} {pos:Pos} (hN:X.N[i]?=some x) (hv:Vis X.env.scope x) (hd:(x==("__debug__":Str))=false:=by decide) (hcd:(x==("__classdict__":Str))=false:=by decide):PE X (.Name x pos) (Zxm i):=by
 intro pins s σ H Q I h
 obtain ⟨v,e,h⟩:=h
 obtain ⟨m,hn,hl⟩:=I.loc
 obtain ⟨u,r,l⟩:=hl i x v hN e hv
 have fin:EP X pins σ Q u s:=⟨v,H,I,r,h⟩
 rcases l with ⟨hk,hm⟩ | ⟨hk,c,hc,hcell⟩
 ·exact wpAny_Name (wpAny_loadName_local I.ok.kind hk hn hm fin) hd
 ·rcases hk with hk | hk
  ·exact wpAny_Name (wpAny_loadName_cell I.ok.kind hk hc hcell fin) hd
  ·exact wpAny_Name (wpAny_loadName_free I.ok.kind hk hc hcell fin hcd) hd
theorem Zvm {i j pos}:PE X (.Constant (.int i) j pos) (tC (.int i)):=fun _ _ _ H _ I h=>wpAny_Constant_int ⟨.int i,H,I.tok _,⟨_,rfl⟩,h⟩
theorem ZvZ {b j pos}:PE X (.Constant (.bool b) j pos) (tC (.bl b)):=fun _ _ _ H _ I h=>Constant_bool ⟨.bl b,H,I,rfl,h⟩
theorem ZtO {x j pos}:PE X (.Constant (.str x) j pos) (tC (.str x)):=fun _ _ _ H _ I h=>Calls.Constant_str ⟨.str x,H,I.tok _,⟨_,rfl⟩,h⟩
def Gl (X:Cx) (x:Str):Prop:=X.env.kindOf x=some .globalImplicit
theorem ZlX {E:Value→Shared→Prop} {pins:List (Addr×Obj)} {s:Shared} {σ:St} {H:Hp} {x:Str} {u:Value} {pos:Pos} {Q:Value→Shared→Prop} (I:Inv X pins σ H s) (hg:Gl X x) (hm:X.mg x=some u) (h:Q u s)
  (hd:(x==("__debug__":Str))=false:=by decide):wpAny (model X.prog X.w) X.A (eval (.Name x pos) X.env) Q E s :=
 Calls.Name_function_global I.ok.kind hg (Calls.loadGlobal_global (by rw [I.ok.glob];exact I.mod.glob.keeps I.bk) hm h) hd
theorem Ze8 {E:Value→Shared→Prop} {pins:List (Addr×Obj)} {s:Shared} {σ:St} {H:Hp} {x:Str} {u:Value} {pos:Pos} {Q:Value→Shared→Prop} (I:Inv X pins σ H s) (hg:Gl X x) (hm:X.mg x=none) (hv:bootBuiltins x=some u) (h:Q u s)
  (hn:x≠"__name__":=by decide) (hd:(x==("__debug__":Str))=false:=by decide):wpAny (model X.prog X.w) X.A (eval (.Name x pos) X.env) Q E s:=by
 obtain ⟨mb,h1,h2⟩:=I.mod.blt
 exact Calls.Name_function_global I.ok.kind hg (Calls.loadGlobal_builtin (by rw [I.ok.glob];exact I.mod.glob.keeps I.bk) hm (by rw [I.ok.blt];exact h1.keeps I.bk) ((h2 x hn).trans hv) h) hd
theorem ZsH {x:Str} {v:V} {u:Value} {pos:Pos} (hg:Gl X x) (hm:X.mg x=some u) (r:RelV v u) (hd:(x==("__debug__":Str))=false:=by decide):PE X (.Name x pos) (tC v) :=
 fun _ _ _ H _ I h=>ZlX I hg hm ⟨v,H,I,r,h⟩ hd
theorem Zma {x:Str} {v:V} {u:Value} {pos:Pos} (hg:Gl X x) (hm:X.mg x=none) (hv:bootBuiltins x=some u) (r:RelV v u) (hn:x≠"__name__":=by decide) (hd:(x==("__debug__":Str))=false:=by decide):PE X (.Name x pos) (tC v) :=
 fun _ _ _ H _ I h=>Ze8 I hg hm hv ⟨v,H,I,r,h⟩ hn hd
def t2I (ta tb:TE) (k:Int→Int→Hp→Prop):St→Hp→Prop:=fun σ H=>ta σ H fun x H1=>tb σ H1 fun y H2=>∃ i j,x=.int i∧y=.int j∧k i j H2
def Zxj (ta tb:TE):TE:=fun σ H Q=>t2I ta tb (fun i j H2=>Q (.int (i - j)) H2) σ H
variable {a b:Expr} {ta tb:TE} {pos:Pos}
theorem Zbz (ha:PE X a ta) (hb:PE X b tb):PE X (.BinOp a .Sub b pos) (Zxj ta tb):=by
 intro pins s σ H Q I h
 refine wpAny_BinOp (bin ha hb I h fun v u s2 x y H2 I2 rx ry q=>?_)
 obtain ⟨i,j,rfl,rfl,q⟩:=q
 obtain ⟨t,rfl⟩:=rx
 obtain ⟨t',rfl⟩:=ry
 exact sub_int ⟨.int _,H2,I2.tok _,⟨_,rfl⟩,q⟩
variable {tA tB':TT} {Zcg:List Expr}
def Zw9 (t u:TT):TT:=fun σ H Q=>t σ H fun c H1=>if c=true then u σ H1 Q else Q false H1
def tOr (t u:TT):TT:=fun σ H Q=>t σ H fun c H1=>if c=true then Q true H1 else u σ H1 Q
def Zxs (t:TT):TT:=fun σ H Q=>t σ H fun c H1=>Q (!c) H1
theorem Ztc (ha:PT X a tA):PW X (.BoolOp .And [a] pos) tA:=by
 intro wh pins s σ H Q I h
 refine isTrue_and (thn (ha pins s σ H Q I h) fun c s1 e=>?_)
 cases c with
 | true=>exact isTrue_and_nil e
 | false=>exact e
theorem ZtC (ha:PT X a tA):PW X (.BoolOp .Or [a] pos) tA:=by
 intro wh pins s σ H Q I h
 refine isTrue_or (thn (ha pins s σ H Q I h) fun c s1 e=>?_)
 cases c with
 | false=>exact isTrue_or_nil e
 | true=>exact e
theorem ZtV (ha:PT X a tA) (hb:PW X (.BoolOp .And (b::Zcg) pos) tB'):PW X (.BoolOp .And (a::b::Zcg) pos) (Zw9 tA tB'):=by
 intro wh pins s σ H Q I h
 refine isTrue_and (thn (ha pins s σ H _ I h) fun c s1 zz7=>?_)
 obtain ⟨H1,I1,q1⟩:=zz7
 cases c with
 | true=>exact hb wh pins s1 σ H1 Q I1 q1
 | false=>exact ⟨H1,I1,q1⟩
theorem Zwq (ha:PT X a tA) (hb:PW X (.BoolOp .Or (b::Zcg) pos) tB'):PW X (.BoolOp .Or (a::b::Zcg) pos) (tOr tA tB'):=by
 intro wh pins s σ H Q I h
 refine isTrue_or (thn (ha pins s σ H _ I h) fun c s1 zz8=>?_)
 obtain ⟨H1,I1,q1⟩:=zz8
 cases c with
 | true=>exact ⟨H1,I1,q1⟩
 | false=>exact hb wh pins s1 σ H1 Q I1 q1
theorem ZtS (ha:PT X a tA):PT X (.UnaryOp .Not a pos) (Zxs tA):=by
 intro pins s σ H Q I h
 exact isTrue_not (ha pins s σ H (fun c H1=>Q (!c) H1) I h)
def Zwa (ta tb:TE):TE:=fun σ H Q=>ta σ H fun x H1=>∃ c,x=.bl c∧if c=true then tb σ H1 Q else Q (.bl false) H1
def Zw6 (ta tb:TE):TE:=fun σ H Q=>ta σ H fun x H1=>∃ c,x=.bl c∧if c=true then Q (.bl true) H1 else tb σ H1 Q
def ZvM (ta:TE):TE:=fun σ H Q=>ta σ H fun x H1=>∃ c,x=.bl c∧Q (.bl (!c)) H1
theorem ZuS {op} {t:TE} (h:PE X a t):PE X (.BoolOp op [a] pos) t:=fun pins s σ H Q I hw=>BoolOp_one (h pins s σ H Q I hw)
theorem Zul (ha:PE X a ta) (hb:PE X (.BoolOp .And (b::Zcg) pos) tb):PE X (.BoolOp .And (a::b::Zcg) pos) (Zwa ta tb):=by
 intro pins s σ H Q I h
 refine BoolOp_and (thn (ha pins s σ H _ I h) fun v s1 zz9=>?_)
 obtain ⟨x,H1,I1,r1,q1⟩:=zz9
 obtain ⟨c,rfl,q1⟩:=q1
 cases r1
 refine wpAny_truthy_bool ?_
 cases c with
 | true=>exact hb pins s1 σ H1 Q I1 q1
 | false=>exact ⟨.bl false,H1,I1,rfl,q1⟩
theorem Zwd (ha:PE X a ta) (hb:PE X (.BoolOp .Or (b::Zcg) pos) tb):PE X (.BoolOp .Or (a::b::Zcg) pos) (Zw6 ta tb):=by
 intro pins s σ H Q I h
 refine BoolOp_or (thn (ha pins s σ H _ I h) fun v s1 zz10=>?_)
 obtain ⟨x,H1,I1,r1,q1⟩:=zz10
 obtain ⟨c,rfl,q1⟩:=q1
 cases r1
 refine wpAny_truthy_bool ?_
 cases c with
 | false=>exact hb pins s1 σ H1 Q I1 q1
 | true=>exact ⟨.bl true,H1,I1,rfl,q1⟩
theorem ZtW (ha:PE X a ta):PE X (.UnaryOp .Not a pos) (ZvM ta):=by
 intro pins s σ H Q I h
 refine UnaryOp_ (thn (ha pins s σ H _ I h) fun v s1 zz11=>?_)
 obtain ⟨x,H1,I1,r1,q1⟩:=zz11
 obtain ⟨c,rfl,q1⟩:=q1
 cases r1
 exact not_of (wpAny_truthy_bool ⟨.bl (!c),H1,I1,rfl,q1⟩)
def tIf (t:TT) (ta tb:TE):TE:=fun σ H Q=>t σ H fun c H1=>if c=true then ta σ H1 Q else tb σ H1 Q
theorem ZqH {c:Expr} (hc:PT X c tA) (ha:PE X a ta) (hb:PE X b tb):PE X (.IfExp c a b pos) (tIf tA ta tb):=by
 intro pins s σ H Q I h
 refine wpAny_IfExp (thn (hc pins s σ H _ I h) fun d s1 zz12=>?_)
 obtain ⟨H1,I1,q1⟩:=zz12
 cases d with
 | true=>exact ha pins s1 σ H1 Q I1 q1
 | false=>exact hb pins s1 σ H1 Q I1 q1
end
end L2
namespace L2
open PySem PySem.Spec PyProof.Rows
def SqL (K:PySem.W.Frag) (H:Hp) (a:Addr) (xs:List V):Prop :=
 Rd H a (.lst xs) ∨
  ∃ (o:Obj) (its:Array Value) (n:Nat),K.lookup a=some o∧o.cls=.type "list"∧o.dict=none∧o.data=.seq its n∧its.size≤sizeLine∧Vals xs its.toList
def SqT (K:PySem.W.Frag) (H:Hp) (a:Addr) (xs:List V):Prop :=
 Rd H a (.tup xs) ∨
  ∃ (o:Obj) (its:Array Value) (n:Nat),K.lookup a=some o∧o.cls=.type "tuple"∧o.data=.seq its n∧its.size≤sizeLine∧Vals xs its.toList
def Zxg:Value→Option V
 | .none=>some .non
 | .bool b=>some (.bl b)
 | .int i _=>some (.int i)
 | .str x _=>some (.str x)
 | .bytes b _=>some (.byt b)
 | .float b _=>some (.flt b)
 | .ref a=>some (.ref a)
 | .type n=>some (.ty n)
 | _=>none
theorem RelV.abs {x:V} {u:Value} (r:RelV x u):Zxg u=some x:=by
 cases x with
 | non=>cases r;rfl
 | bl _=>cases r;rfl
 | int _=>obtain ⟨t,rfl⟩:=r;rfl
 | str _=>obtain ⟨t,rfl⟩:=r;rfl
 | byt _=>obtain ⟨t,rfl⟩:=r;rfl
 | flt _=>obtain ⟨t,rfl⟩:=r;rfl
 | ref _=>cases r;rfl
 | ty _=>cases r;rfl
theorem RelV.inj {x y:V} {u:Value} (r:RelV x u) (q:RelV y u):x=y:=Option.some.inj (r.abs.symm.trans q.abs)
theorem Vals.inj:∀ {xs ys:List V} {us:List Value},Vals xs us→Vals ys us→xs=ys
 | _,_,_,.nil,.nil=>rfl
 | _,_,_,.cons r t,.cons r' t'=>by rw [r.inj r',Vals.inj t t']
section
variable {X:Cx} {pins:List (Addr×Obj)} {σ:St} {H:Hp} {s:Shared} {a:Addr} {xs ys:List V}
theorem SqL.of {K:PySem.W.Frag} (h:H a=some (.lst xs)):SqL K H a xs:=.inl (.inl h)
theorem SqT.of {K:PySem.W.Frag} (h:H a=some (.tup xs)):SqT K H a xs:=.inl (.inl h)
theorem Inv.list (I:Inv X pins σ H s) (h:SqL X.K H a xs):∃ its:List Value,Vals xs its∧PlainL s.heap a its.toArray∧xs.length≤sizeLine:=by
 rcases h with h | ⟨o,its,n,hk,hc,hd,hs,hz,r⟩
 ·obtain ⟨z,its,n,r,e⟩:=h.ok I.hok
  exact ⟨its,r,⟨_,n,e,rfl,rfl,rfl⟩,z⟩
 ·refine ⟨its.toList,r,⟨o,n,I.kIn a o hk,hc,hd,by simpa using hs⟩,?_⟩
  have e:=r.length
  simp only [Array.length_toList] at e
  omega
theorem Inv.tuple (I:Inv X pins σ H s) (h:SqT X.K H a xs):∃ its:List Value,Vals xs its∧IsTup s.heap a its.toArray∧xs.length≤sizeLine:=by
 rcases h with h | ⟨o,its,n,hk,hc,hs,hz,r⟩
 ·obtain ⟨z,its,r,p⟩:=h.ok I.hok
  exact ⟨its,r,p,z⟩
 ·refine ⟨its.toList,r,⟨o,I.kIn a o hk,hc,n,by simpa using hs⟩,?_⟩
  have e:=r.length
  simp only [Array.length_toList] at e
  omega
theorem Inv.list_inj (I:Inv X pins σ H s) (h:SqL X.K H a xs) (h':SqL X.K H a ys):xs=ys:=by
 obtain ⟨its,r,⟨o,n,e,_,_,d⟩,_⟩:=I.list h
 obtain ⟨its',r',⟨o',n',e',_,_,d'⟩,_⟩:=I.list h'
 rw [e] at e';cases e'
 rw [d] at d'
 injection d' with d1 _
 have:its=its':=by simpa using congrArg Array.toList d1
 subst this
 exact r.inj r'
theorem Inv.tuple_inj (I:Inv X pins σ H s) (h:SqT X.K H a xs) (h':SqT X.K H a ys):xs=ys:=by
 obtain ⟨its,r,⟨o,e,_,n,d⟩,_⟩:=I.tuple h
 obtain ⟨its',r',⟨o',e',_,n',d'⟩,_⟩:=I.tuple h'
 rw [e] at e';cases e'
 rw [d] at d'
 injection d' with d1 _
 have:its=its':=by simpa using congrArg Array.toList d1
 subst this
 exact r.inj r'
end
abbrev Cx.wish (X:Cx) (E:Value→Shared→Prop):Cx:={ X with xe:=E }
abbrev Cx.nox (X:Cx):Cx:=X.wish fun _ _=>False
theorem Cx.Ok.wish {X:Cx} (ok:X.Ok) (E:Value→Shared→Prop):(X.wish E).Ok :=
 ⟨ok.mod,ok.kind,ok.glob,ok.blt,ok.above,ok.inj,ok.has,ok.cab,ok.hd,ok.frames,ok.stk,ok.exf,ok.bs,ok.bsz,ok.noex,ok.exfs,ok.funs,ok.frf⟩
theorem Cx.Ok.unwish {X:Cx} {E:Value→Shared→Prop} (ok:(X.wish E).Ok):X.Ok :=
 ⟨ok.mod,ok.kind,ok.glob,ok.blt,ok.above,ok.inj,ok.has,ok.cab,ok.hd,ok.frames,ok.stk,ok.exf,ok.bs,ok.bsz,ok.noex,ok.exfs,ok.funs,ok.frf⟩
section
variable {X:Cx} {pins:List (Addr×Obj)} {σ:St} {H:Hp} {s:Shared} {E:Value→Shared→Prop}
theorem Inv.wish (I:Inv X pins σ H s) (E:Value→Shared→Prop):Inv (X.wish E) pins σ H s:=⟨I.ok.wish E,I.os,I.bare,I.base,I.loc,I.cell,I.free,I.freeC,I.pin,I.hok,I.len⟩
theorem Inv.unwish (I:Inv (X.wish E) pins σ H s):Inv X pins σ H s:=⟨I.ok.unwish,I.os,I.bare,I.base,I.loc,I.cell,I.free,I.freeC,I.pin,I.hok,I.len⟩
theorem SP.unwish {D:Ztp} {f:Flow} {s':Shared} (h:SP (X.wish E) pins D f s'):SP X pins D f s':=by
 cases f with
 | next=>obtain ⟨σ',H',I,q⟩:=h;exact ⟨σ',H',I.unwish,q⟩
 | brk=>obtain ⟨σ',H',I,q⟩:=h;exact ⟨σ',H',I.unwish,q⟩
 | cont=>obtain ⟨σ',H',I,q⟩:=h;exact ⟨σ',H',I.unwish,q⟩
 | ret u=>obtain ⟨v,σ',H',I,r,q⟩:=h;exact ⟨v,σ',H',I.unwish,r,q⟩
theorem PE.nox {e:Expr} {t:TE} (h:PE X.nox e t):PE X e t:=fun pins s σ H Q I hw =>
 wpAny_mono (h pins s σ H Q (I.wish _) hw) ((by rintro _ _ ⟨v,H',I',r,q⟩;exact ⟨v,H',I'.unwish,r,q⟩)) fun _ _ z=>False.elim z
theorem PT.nox {e:Expr} {t:TT} (h:PT X.nox e t):PT X e t:=fun pins s σ H Q I hw =>
 wpAny_mono (h pins s σ H Q (I.wish _) hw) ((by rintro _ _ ⟨H',I',q⟩;exact ⟨H',I'.unwish,q⟩)) fun _ _ z=>False.elim z
theorem PSs.nox {st:List Stmt} {t:TS} (h:PSs X.nox st t):PSs X st t:=fun pins s σ H D I hw =>
 wpAny_mono (h pins s σ H D (I.wish _) hw) (fun _ _ q=>q.unwish) fun _ _ z=>False.elim z
end
section
variable {X:Cx} {st:Stmt} {Zcg:List Stmt} {t u:TS} {e:Expr} {te:TE} {pos:Pos}
def ZvQ:TS:=fun D σ H=>D.nx σ H
def Zw5 (t u:TS):TS:=fun D σ H=>t { D with nx:=u D } σ H
theorem Zsx:PSs X [] ZvQ:=fun _ _ σ H _ I h=>wpAny_execs_nil ⟨σ,H,I,h⟩
theorem ZqK (h1:PS X st t) (h2:PSs X Zcg u):PSs X (st::Zcg) (Zw5 t u):=by
 intro pins s σ H D I h
 refine wpAny_execs_cons (thn (h1 pins s σ H { D with nx:=u D } I h) fun f s1 q=>?_)
 cases f with
 | next =>
  obtain ⟨σ',H',I',q⟩:=q
  exact h2 pins s1 σ' H' D I' q
 | ret v=>exact q
 | brk=>exact q
 | cont=>exact q
theorem Ztk (h1:PS X st t):PSs X [st] t:=by
 intro pins s σ H D I h
 refine wpAny_execs_cons (thn (h1 pins s σ H D I h) fun f s1 q=>?_)
 cases f with
 | next=>exact wpAny_execs_nil q
 | ret v=>exact q
 | brk=>exact q
 | cont=>exact q
theorem Inv.quiet {pins:List (Addr×Obj)} {σ:St} {H:Hp} {s:Shared} (I:Inv X pins σ H s):interactive X.env=false:=by simp [interactive,I.ok.kind]
def ZvS (te:TE):TS:=fun D σ H=>te σ H fun _ H1=>D.nx σ H1
theorem Ztb (he:PE X e te) (hs:swapsWith e none pos.line X.env=pure false:=by rfl):PS X (.Expr e pos) (ZvS te):=by
 intro pins s σ H D I h
 exact wpAny_Expr_any (thn (he pins s σ H _ I h) (by rintro v s1 ⟨x,H1,I1,r1,q1⟩;exact ⟨σ,H1,I1,q1⟩)) I.quiet hs
def Zxr (te:TE):TS:=fun D σ H=>te σ H D.rt
theorem Zuk (he:PE X e te):PS X (.Return (some e) pos) (Zxr te):=by
 intro pins s σ H D I h
 exact wpAny_Return_some (thn (he pins s σ H _ I h) (by rintro v s1 ⟨x,H1,I1,r1,q1⟩;exact ⟨x,σ,H1,I1,r1,q1⟩))
def Zxh (c:TT) (t u:TS):TS:=fun D σ H=>c σ H fun b H1=>if b=true then t D σ H1 else u D σ H1
theorem ZvP {c:Expr} {a b:List Stmt} {tc:TT} (hc:PT X c tc) (ha:PSs X a t) (hb:PSs X b u):PS X (.If c a b pos) (Zxh tc t u):=by
 intro pins s σ H D I h
 refine wpAny_If (thn (hc pins s σ H _ I h) fun d s1 zz13=>?_)
 obtain ⟨H1,I1,q1⟩:=zz13
 cases d with
 | true=>exact ha pins s1 σ H1 D I1 q1
 | false=>exact hb pins s1 σ H1 D I1 q1
end
abbrev TG:=V→St→Hp→(St→Hp→Prop)→Prop
abbrev TGs:=List V→St→Hp→(St→Hp→Prop)→Prop
def PG (X:Cx) (target:Expr) (t:TG):Prop :=
 ∀ (pins:List (Addr×Obj)) (s:Shared) (σ:St) (H:Hp) (v:V) (u:Value) (Q:St→Hp→Prop),Inv X pins σ H s→RelV v u→t v σ H Q →
  wpAny (model X.prog X.w) X.A (assign target X.env u) (fun _ s'=>∃ σ' H',Inv X pins σ' H' s'∧Q σ' H') X.xe s
def PGs (X:Cx) (ts:List Expr) (t:TGs):Prop :=
 ∀ (pins:List (Addr×Obj)) (s:Shared) (σ:St) (H:Hp) (vs:List V) (us:List Value) (Q:St→Hp→Prop),Inv X pins σ H s→Vals vs us→t vs σ H Q →
  wpAny (model X.prog X.w) X.A (assignInOrder ((assignEach ts X.env).map (·.2)) us) (fun _ s'=>∃ σ' H',Inv X pins σ' H' s'∧Q σ' H') X.xe s
abbrev ZwF:=V→V→V→Hp→(Hp→Prop)→Prop
def ZwP (X:Cx) (t:ZwF):Prop :=
 ∀ (pins:List (Addr×Obj)) (s:Shared) (σ:St) (H:Hp) (o i v:V) (ov iv u:Value) (Q:Hp→Prop),Inv X pins σ H s→RelV o ov→RelV i iv→RelV v u→t o i v H Q →
  wpAny (model X.prog X.w) X.A (setItem ov iv u) (fun _ s'=>∃ H',Inv X pins σ H' s'∧Q H') X.xe s
abbrev TIp:=V→V→Hp→VK→Prop
def PIp (X:Cx) (op:Operator) (t:TIp):Prop :=
 ∀ (pins:List (Addr×Obj)) (s:Shared) (σ:St) (H:Hp) (x y:V) (v u:Value) (Q:VK),Inv X pins σ H s→RelV x v→RelV y u→t x y H Q →
  wpAny (model X.prog X.w) X.A (inplaceOp op v u) (EP X pins σ Q) X.xe s
section
variable {X:Cx} {pos:Pos}
def Zga (i:Nat):TG:=fun v σ H Q=>Q (σ.set i (some v)) H
theorem ZcA {i:Nat} {x:Str} (hN:X.N.Nodup) (hi:X.N[i]?=some x) (hx:Loc X.env.scope x) (hf:X.fn x=true∨X.env.scope.names.lookup x=some .local:=by first | exact .inl rfl | exact .inr rfl | assumption):PG X (.Name x pos) (Zga i):=by
 intro pins s σ H v u Q I r h
 exact wpAny_assign_Name (ZhG I hN hi hx r (fun s' I'=>⟨_,H,I',h⟩) hf)
def Zan:TGs:=fun vs σ H Q=>vs=[]∧Q σ H
def Zab (t:TG) (u:TGs):TGs:=fun vs σ H Q=>∃ v r,vs=v::r∧t v σ H fun σ' H'=>u r σ' H' Q
theorem Ziv:PGs X [] Zan:=by
 intro pins s σ H vs us Q I r h
 obtain ⟨e,h⟩:=h
 subst e
 cases r
 exact assignInOrder_nil ⟨σ,H,I,h⟩
theorem Zcv {e:Expr} {es:List Expr} {t:TG} {u:TGs} (h1:PG X e t) (h2:PGs X es u)
  (hs:(assignEach (e::es) X.env).map (·.2)=assign e X.env::(assignEach es X.env).map (·.2):=by rfl):PGs X (e::es) (Zab t u):=by
 intro pins s σ H vs us Q I r h
 obtain ⟨v,vr,e1,h⟩:=h
 subst e1
 cases r with
 | cons r rr =>
  rw [hs]
  refine assignInOrder_cons (thn (h1 pins s σ H _ _ _ I r h) fun _ s1 zz14=>?_)
  obtain ⟨σ1,H1,I1,q1⟩:=zz14
  exact h2 pins s1 σ1 H1 _ _ Q I1 rr q1
def ZaN (K:PySem.W.Frag) (n:Nat) (t:TGs):TG:=fun v σ H Q=>∃ a xs,v=.ref a∧SqT K H a xs∧xs.length=n∧t xs σ H Q
theorem Zld {es:List Expr} {k:Nat} {t:TGs} {n:Nat} (hc:X.calm=true) (h:PGs X es t)
  (hn:(assignEach es X.env).length=n:=by rfl) (hst:(assignEach es X.env).findIdx? (·.1)=none:=by rfl):PG X (.Tuple es k pos) (ZaN X.K n t):=by
 intro pins s σ H v u Q I r hw
 obtain ⟨a,xs,e1,hq,hl,hw⟩:=hw
 subst e1
 cases r
 obtain ⟨its,rv,ht,hz⟩:=I.tuple hq
 refine assign_Tuple_tuple (I.ok.hd hc) ht (by simp [hn,← hl,rv.length]) hst fun h' hx=>?_
 have I1:Inv X pins σ H { s with heap:=h' }:=I.kept (t':=s.toks) fun b o e=>hx b o (Nat.ne_of_lt (Heap.lt_size e)) e
 exact h pins _ σ H xs _ Q I1 (by simpa using rv) hw
def Zxa (to ti:TE) (t:ZwF):TG:=fun v σ H Q=>to σ H fun o H1=>ti σ H1 fun i H2=>t o i v H2 fun H3=>Q σ H3
theorem ZtI {o i:Expr} {to ti:TE} {t:ZwF} (ho:PE X o to) (hi:PE X i ti) (hs:ZwP X t)
  (ha:∀ v,assign (.Subscript o i pos) X.env v=(do
   let ov ← holding [v] (eval o X.env)
   let iv ← holding [v,ov] (eval i X.env)
   standAt pos
   holding [v,ov,iv] (setItem ov iv v)
   release [v,ov,iv] []):=by intro _;rfl):PG X (.Subscript o i pos) (Zxa to ti t):=by
 intro pins s σ H v u Q I r h
 rw [ha]
 refine wpAny_bind (wpAny_holding (thn (ho pins s σ H _ I h) fun ov s1 zz15=>?_))
 obtain ⟨x,H1,I1,r1,q1⟩:=zz15
 refine wpAny_bind (wpAny_holding (thn (hi pins s1 σ H1 _ I1 q1) fun iv s2 zz16=>?_))
 obtain ⟨y,H2,I2,r2,q2⟩:=zz16
 refine wpAny_bind (wpAny_standAt (wpAny_bind (wpAny_holding (thn (hs pins s2 σ H2 x y v ov iv u _ I2 r1 r2 r q2) fun _ s3 zz17=>?_))))
 obtain ⟨H3,I3,q3⟩:=zz17
 exact wpAny_release ⟨σ,H3,I3,q3⟩
def Zv6 (te:TE) (g:TG):TS:=fun D σ H=>te σ H fun x H1=>g x σ H1 D.nx
theorem Zq5 {tg e:Expr} {te:TE} {g:TG} (he:PE X e te) (hg:PG X tg g) (hs:swapsWithSole [tg] e pos.line X.env=pure false:=by rfl) (hw:swappedStores [tg] e X.env=pure none:=by rfl)
  (h1:(assignEach [tg] X.env).map (·.2)=[assign tg X.env]:=by rfl):PS X (.Assign [tg] e pos) (Zv6 te g):=by
 intro pins s σ H D I h
 refine wpAny_Assign_stores (thn (he pins s σ H _ I h) fun v s1 zz18=>?_) hs hw
 obtain ⟨x,H1,I1,r1,q1⟩:=zz18
 rw [h1]
 exact thn (hg pins s1 σ H1 x v _ I1 r1 q1) fun _ s2 q=>q
theorem ZtG {i:Nat} {x:Str} {e:Expr} {te:TE} {pos':Pos} (hN:X.N.Nodup) (hi:X.N[i]?=some x) (hx:Loc X.env.scope x) (he:PE X e te) (hs:swapsWith e (some (.Name x pos')) pos.line X.env=pure false:=by rfl) (hf:X.fn x=true∨X.env.scope.names.lookup x=some .local:=by first | exact .inl rfl | exact .inr rfl | assumption) :
  PS X (.Assign [.Name x pos'] e pos) (Zv6 te (Zga i)):=by
 intro pins s σ H D I h
 refine wpAny_Assign_Name (thn (he pins s σ H _ I h) fun v s1 zz19=>?_) hs
 obtain ⟨y,H1,I1,r1,q1⟩:=zz19
 exact ZhG I1 hN hi hx r1 (fun s2 I2=>⟨_,H1,I2,q1⟩) hf
def Zxf (i:Nat) (te:TE) (ti:TIp):TS:=fun D σ H=>∃ x,σ[i]?=some (some x)∧te σ H fun y H1=>ti x y H1 fun z H2=>D.nx (σ.set i (some z)) H2
theorem Zt2 {i:Nat} {x:Str} {e:Expr} {te:TE} {op:Operator} {ti:TIp} {pos':Pos} (hN:X.N.Nodup) (hi:X.N[i]?=some x) (hx:Loc X.env.scope x) (he:PE X e te) (ho:PIp X op ti) (hf:X.fn x=true∨X.env.scope.names.lookup x=some .local:=by first | exact .inl rfl | exact .inr rfl | assumption) :
  PS X (.AugAssign (.Name x pos') op e pos) (Zxf i te ti):=by
 intro pins s σ H D I h
 obtain ⟨v,e1,h⟩:=h
 obtain ⟨m,hn,hl⟩:=I.loc
 have vis:Vis X.env.scope x:=by rcases hx with k | k;exact .inl k;exact .inr (.inl k)
 obtain ⟨u,r,l⟩:=hl i x v hi e1 vis
 refine wpAny_AugAssign_Name ?_
 have go:wpAny (model X.prog X.w) X.A (eval e X.env) (fun w s₂=>wpAny (model X.prog X.w) X.A (inplaceOp op u w) (fun r s₃=>wpAny (model X.prog X.w) X.A (storeName X.env x r) (fun _=>SP X pins D .next) X.xe s₃) X.xe s₂) X.xe s:=by
  refine thn (he pins s σ H _ I h) fun w s1 zz21=>?_
  obtain ⟨y,H1,I1,r1,q1⟩:=zz21
  refine thn (ho pins s1 σ H1 v y u w _ I1 r r1 q1) fun z s2 zz22=>?_
  obtain ⟨zv,H2,I2,r2,q2⟩:=zz22
  exact ZhG I2 hN hi hx r2 (fun s3 I3=>⟨_,H2,I3,q2⟩) hf
 rcases l with ⟨hk,hm⟩ | ⟨hk,c,hc,hcell⟩
 ·exact wpAny_loadName_local I.ok.kind hk hn hm go
 ·rcases hk with hk | hk
  ·exact wpAny_loadName_cell I.ok.kind hk hc hcell go
  ·rcases hx with k | k
   ·have:X.env.scope.names.lookup x=some .free:=hk
    rw [k] at this;cases this
   ·have:X.env.scope.names.lookup x=some .free:=hk
    rw [k] at this;cases this
end
section
variable {X:Cx} {pos:Pos}
def Zuv (c:TT) (tb:TS):TS:=fun D σ H=>∃ W:Nat→St→Hp→Prop,(∃ m,W m σ H)∧∀ m σ H,W m σ H →
 c σ H fun b H1=>if b=true then ∃ N:St→Hp→Prop,(∀ σ' H',N σ' H'→∃ m',m' < m∧W m' σ' H')∧tb { D with nx:=N,ct:=N,bk:=D.nx } σ H1 else D.nx σ H1
theorem ZpL {c:Expr} {body:List Stmt} {tc:TT} {tb:TS} (hp:PassesOwn (model X.prog X.w) X.A X.env X.xe) (hc:PT X c tc) (hb:PSs X body tb):PS X (.While c body [] pos) (Zuv tc tb):=by
 intro pins s σ H D I h
 obtain ⟨W,⟨m0,w0⟩,turn⟩:=h
 refine wpAny_While (codeAny_whileLoop (fun n s'=>∃ σ' H',Inv X pins σ' H' s'∧W n σ' H') ?_ m0 ⟨σ,H,I,w0⟩)
 rintro n s1 ⟨σ1,H1,I1,w1⟩
 refine wpAny_passesOwn hp (thn (hc pins s1 σ1 H1 _ I1 (turn n σ1 H1 w1)) fun b s2 zz28=>?_)
 obtain ⟨H2,I2,q2⟩:=zz28
 cases b with
 | true =>
  obtain ⟨N,hN,q2⟩:=q2
  rw [if_pos rfl]
  refine wpAny_passesOwn hp (thn (hb pins s2 σ1 H2 _ I2 q2) fun f s3 q3=>?_)
  cases f with
  | next =>
   obtain ⟨σ3,H3,I3,n3⟩:=q3
   obtain ⟨m',hm,w3⟩:=hN σ3 H3 n3
   exact ⟨m',hm,σ3,H3,I3,w3⟩
  | cont =>
   obtain ⟨σ3,H3,I3,n3⟩:=q3
   obtain ⟨m',hm,w3⟩:=hN σ3 H3 n3
   exact ⟨m',hm,σ3,H3,I3,w3⟩
  | brk=>exact q3
  | ret v=>exact q3
 | false =>
  rw [if_neg Bool.false_ne_true]
  exact wpAny_execs_nil ⟨σ1,H2,I2,q2⟩
end
structure It where
 go:Nat→Hp→Prop
 yld:Nat→Hp→V→Hp→Prop
 stop:Nat→Hp→Prop
def ZoU (X:Cx) (pins:List (Addr×Obj)) (H:Hp) (b:Addr):Prop :=
 H b=none∧b≠X.env.locals∧b∉X.fs∧(b∈X.ex∨X.s₀.heap.objs.size≤b)∧(∀ x c,X.env.cells.lookup x=some c→c≠b)∧∀ p∈X.pn++pins,p.1≠b
theorem Inv.fpOk {X:Cx} {pins:List (Addr×Obj)} {σ:St} {H H':Hp} {s:Shared} {b:Addr} (I:Inv X pins σ H s) (hb:s.heap.objs.size≤b) (hn:H' b=none):ZoU X pins H' b:=by
 refine ⟨hn,Nat.ne_of_gt (Nat.lt_of_lt_of_le I.lt hb),I.nofs hb,.inr (Nat.le_trans I.sz hb),fun x c e z=>?_,fun p hp z=>?_⟩
 ·obtain ⟨v,q⟩:=I.cell x c e
  exact absurd (Nat.lt_of_lt_of_le q.lt (by rw [z];exact hb)) (Nat.lt_irrefl _)
 ·exact absurd (Nat.lt_of_lt_of_le (Heap.lt_size (I.pin p hp).1) (by rw [z];exact hb)) (Nat.lt_irrefl _)
structure ZrH (P:Program) (w:World) (K:PySem.W.Frag) (tg:Expr) (J:It) (fp:List Addr) (it:Addr) (tn:Nat→Heap→Prop):Prop where
 mem:it∈fp
 obj:∀ i h,tn i h→∀ b∈fp,∃ o,h.get? b=some o∧∀ v,o.data≠.cell v
 keep:∀ i h h',tn i h→(∀ b∈fp,∀ o,h.get? b=some o→h'.get? b=some o)→tn i h'
 item:∀ (X:Cx),X.prog=P→X.w=w→X.K=K→X.calm=true→∀ (i:Nat) (pins:List (Addr×Obj)) (s:Shared) (σ:St) (H:Hp) (E:Value→Shared→Prop),Inv X pins σ H s→(∀ b∈fp,ZoU X pins H b)→tn i s.heap→J.go i H →
  wpAny (model P w) X.A (pyNext (.ref it)) (fun r s1=>∃ u,r=some u ∧
   wpAny (model P w) X.A (letOwnedTupleGo tg (.ref it) u) (fun _ s2=>∃ x H',Inv X pins σ H' s2∧RelV x u∧J.yld i H x H'∧tn (i+1) s2.heap∧∀ b∈fp,H' b=none) E s1) E s
 done:∀ (X:Cx),X.prog=P→X.w=w→X.K=K→X.calm=true→∀ (i:Nat) (pins:List (Addr×Obj)) (s:Shared) (σ:St) (H:Hp) (E:Value→Shared→Prop),Inv X pins σ H s→(∀ b∈fp,ZoU X pins H b)→tn i s.heap→J.stop i H →
  wpAny (model P w) X.A (pyNext (.ref it)) (fun r s1=>r=none∧Inv X pins σ H s1) E s
 self:∀ (A:Around) (i:Nat) (s:Shared) (Q:Value→Shared→Prop) (E:Value→Shared→Prop),tn i s.heap→Q (.ref it) s→wpAny (model P w) A (pyIter (.ref it)) Q E s
abbrev TI:=St→Hp→(It→Hp→Prop)→Prop
def PIE (X:Cx) (pins:List (Addr×Obj)) (σ:St) (tg:Expr) (R:It→Hp→Prop) (itv:Value) (s2:Shared):Prop :=
 ∃ (it:Addr) (fp:List Addr) (tn:Nat→Heap→Prop) (J:It) (H':Hp),itv=.ref it∧Inv X pins σ H' s2∧ZrH X.prog X.w X.K tg J fp it tn∧tn 0 s2.heap∧(∀ b∈fp,ZoU X pins H' b)∧R J H'
def PI (X:Cx) (tg iter:Expr) (wi:TI):Prop :=
 ∀ (pins:List (Addr×Obj)) (s:Shared) (σ:St) (H:Hp) (R:It→Hp→Prop),Inv X pins σ H s→wi σ H R →
  wpAny (model X.prog X.w) X.A (eval iter X.env) (fun v s1=>wpAny (model X.prog X.w) X.A (pyIter v) (PIE X pins σ tg R) X.xe s1) X.xe s
theorem ZtB {M:Model} {A:Around} {E:Value→Shared→Prop} {s:Shared} {tg:Expr} {it:Addr} {u:Value} {o:Obj} {n:String} {vs:Array Value} {Q:Unit→Shared→Prop} (ho:s.heap.get? it=some o) (hc:o.cls=.type n) (hd:o.data=.fields vs)
  (hn:["enumerate","zip","dict_itemiterator","dict_reverseitemiterator","odict_iterator","itertools.zip_longest","itertools.pairwise"].contains n=false) (hQ:Q () s):wpAny M A (letOwnedTupleGo tg (.ref it) u) Q E s:=by
 unfold letOwnedTupleGo
 cases tg <;> first
  | exact wpAny_pure hQ
  | (cases u <;> first
    | exact wpAny_pure hQ
    | (refine wpAny_bind (wpAny_load ho ?_)
       rw [hc,hd]
       show wpAny M A (if (["enumerate","zip","dict_itemiterator","dict_reverseitemiterator","odict_iterator","itertools.zip_longest","itertools.pairwise"].contains n&&vs[0]?==some (rawInt _))=true then _ else _) Q E s
       rw [if_neg (by intro h;rw [hn,Bool.false_and] at h;cases h)]
       exact wpAny_pure hQ))
def Itl (K:PySem.W.Frag) (a:Addr):It :=
 ⟨fun i H=>∃ xs x,SqL K H a xs∧xs[i]?=some x,fun i H x H'=>H'=H∧∀ xs,SqL K H a xs→xs[i]?=some x,fun i H=>∃ xs,SqL K H a xs∧xs.length≤i⟩
def Itt (K:PySem.W.Frag) (a:Addr):It :=
 ⟨fun i H=>∃ xs x,SqT K H a xs∧xs[i]?=some x,fun i H x H'=>H'=H∧∀ xs,SqT K H a xs→xs[i]?=some x,fun i H=>∃ xs,SqT K H a xs∧xs.length≤i⟩
def Itr (lo:Int) (n:Nat):It:=⟨fun i _=>i < n,fun i H x H'=>H'=H∧x=.int (lo+i),fun i _=>n≤i⟩
theorem Zkr {P:Program} {w:World} {K:PySem.W.Frag} {tg:Expr} (a it:Addr):ZrH P w K tg (Itl K a) [it] it (fun i h=>h.IsListIter it a i) where
 mem:=by simp
 obj:=fun i h st b hb=>by
  have e:b=it:=by simpa using hb
  subst e
  obtain ⟨o,e,c,d⟩:=st
  exact ⟨o,e,fun v z=>by rw [d] at z;cases z⟩
 keep:=fun i h h' st k=>st.at fun o e=>k it (by simp) o e
 item:=by
  intro X hP hw hK hc i pins s σ H E I hf st hg
  subst hP hw hK
  obtain ⟨xs,x,hq,hx⟩:=hg
  obtain ⟨its,rv,p,hz⟩:=I.list hq
  obtain ⟨u,hu,ru⟩:=rv.get hx
  obtain ⟨f0,f1,f2,f3,f4,f5⟩:=hf it (by simp)
  refine wpAny_pyNext_list_item st p.isList (x:=u) (by simpa using hu) fun h' st' sb=>?_
  have I1:Inv X pins σ H { s with heap:=h' }:=I.turned (t':=s.toks) (fun b o hb e=>(sb.2 b hb).trans e) f0 f1 f3 f4 f5
  obtain ⟨o,e,c,d⟩:=id st'
  exact ⟨u,rfl,ZtB (s:={ s with heap:=h' }) e c d (by decide) ⟨x,H,I1,ru,⟨rfl,fun ys hy=>by rw [I.list_inj hy hq];exact hx⟩,st',fun b hb=>(hf b hb).1⟩⟩
 done:=by
  intro X hP hw hK hc i pins s σ H E I hf st hg
  subst hP hw hK
  obtain ⟨xs,hq,hx⟩:=hg
  obtain ⟨its,rv,p,hz⟩:=I.list hq
  obtain ⟨f0,f1,f2,f3,f4,f5⟩:=hf it (by simp)
  have hl:=rv.length
  exact wpAny_pyNext_list_end (I.ok.hd hc) st p.isList (by simp;omega) fun h' eb=>⟨rfl,I.turned (t':=s.toks) (fun b o hb e=>eb b o hb e) f0 f1 f3 f4 f5⟩
 self:=fun _ _ _ _ _ st h=>wpAny_pyIter_listiter st h
theorem Zjg {P:Program} {w:World} {K:PySem.W.Frag} {tg:Expr} (a it:Addr):ZrH P w K tg (Itt K a) [it] it (fun i h=>h.IsTupleIter it a i) where
 mem:=by simp
 obj:=fun i h st b hb=>by
  have e:b=it:=by simpa using hb
  subst e
  obtain ⟨o,e,c,d⟩:=st
  exact ⟨o,e,fun v z=>by rw [d] at z;cases z⟩
 keep:=fun i h h' st k=>st.at fun o e=>k it (by simp) o e
 item:=by
  intro X hP hw hK hc i pins s σ H E I hf st hg
  subst hP hw hK
  obtain ⟨xs,x,hq,hx⟩:=hg
  obtain ⟨its,rv,p,hz⟩:=I.tuple hq
  obtain ⟨u,hu,ru⟩:=rv.get hx
  obtain ⟨f0,f1,f2,f3,f4,f5⟩:=hf it (by simp)
  refine wpAny_pyNext_tuple_item st (show s.heap.IsTuple a its.toArray from p) (x:=u) (by simpa using hu) fun h' st' sb=>?_
  have I1:Inv X pins σ H { s with heap:=h' }:=I.turned (t':=s.toks) (fun b o hb e=>(sb.2 b hb).trans e) f0 f1 f3 f4 f5
  obtain ⟨o,e,c,d⟩:=id st'
  exact ⟨u,rfl,ZtB (s:={ s with heap:=h' }) e c d (by decide) ⟨x,H,I1,ru,⟨rfl,fun ys hy=>by rw [I.tuple_inj hy hq];exact hx⟩,st',fun b hb=>(hf b hb).1⟩⟩
 done:=by
  intro X hP hw hK hc i pins s σ H E I hf st hg
  subst hP hw hK
  obtain ⟨xs,hq,hx⟩:=hg
  obtain ⟨its,rv,p,hz⟩:=I.tuple hq
  obtain ⟨f0,f1,f2,f3,f4,f5⟩:=hf it (by simp)
  have hl:=rv.length
  exact wpAny_pyNext_tuple_end (I.ok.hd hc) st (show s.heap.IsTuple a its.toArray from p) (by simp;omega) fun h' eb=>⟨rfl,I.turned (t':=s.toks) (fun b o hb e=>eb b o hb e) f0 f1 f3 f4 f5⟩
 self:=fun _ _ _ _ _ st h=>wpAny_pyIter_tupleiter st h
end L2
namespace L2
open PySem PySem.Spec PyProof.Rows
section
variable {X:Cx} {tg:Expr}
def Zw3 (wi:TI) (g:TG) (tb:TS):TS:=fun D σ H=>wi σ H fun J H1=>∃ W:Nat→Nat→St→Hp→Prop,(∃ m,W 0 m σ H1)∧∀ i m σ H,W i m σ H →
 (J.stop i H∧D.nx σ H)∨(J.go i H∧∃ N:St→Hp→Prop,(∀ σ' H',N σ' H'→∃ m',m' < m∧W (i+1) m' σ' H')∧∀ x H',J.yld i H x H'→g x σ H' fun σ2 H2=>tb { D with nx:=N,ct:=N,bk:=D.nx } σ2 H2)
def Zi4 (fp:List Addr) (h:Heap):List (Addr×Obj):=fp.filterMap fun b=>(h.get? b).map fun o=>(b,o)
theorem ZeM {fp:List Addr} {h:Heap} {b:Addr} {o:Obj} (hb:b∈fp) (e:h.get? b=some o):(b,o)∈Zi4 fp h:=List.mem_filterMap.mpr ⟨b,hb,by rw [e];rfl⟩
theorem Zn3 {fp:List Addr} {h:Heap} {p:Addr×Obj} (hp:p∈Zi4 fp h):p.1∈fp∧h.get? p.1=some p.2:=by
 obtain ⟨b,hb,e⟩:=List.mem_filterMap.mp hp
 cases q:h.get? b with
 | none=>rw [q] at e;cases e
 | some o =>
  rw [q] at e
  have e':(b,o)=p:=Option.some.inj e
  subst e'
  exact ⟨hb,q⟩
theorem Inv.pinned {pins:List (Addr×Obj)} {σ:St} {H:Hp} {s:Shared} {fp:List Addr} (I:Inv X pins σ H s) (hf:∀ b∈fp,ZoU X pins H b) (ho:∀ b∈fp,∃ o,s.heap.get? b=some o∧∀ v,o.data≠.cell v):Inv X (pins++Zi4 fp s.heap) σ H s :=
 I.pins_of fun p hp=>(List.mem_append.mp hp).elim (fun z=>I.pin p (List.mem_append_right _ z)) fun z=>by
  obtain ⟨hb,e⟩:=Zn3 z
  obtain ⟨f0,f1,f2,_⟩:=hf p.1 hb
  obtain ⟨o,e',d⟩:=ho p.1 hb
  rw [e] at e';cases e'
  exact ⟨e,f0,f1,f2,d⟩
theorem Inv.unpinned {pins pl:List (Addr×Obj)} {σ:St} {H:Hp} {s:Shared} (I:Inv X (pins++pl) σ H s):Inv X pins σ H s:=I.pins_of fun p hp=>I.pin p (List.mem_append_right _ (List.mem_append_left _ hp))
theorem ZuB {iter:Expr} {body:List Stmt} {wi:TI} {g:TG} {tb:TS} {pos:Pos} (hp:PassesOwn (model X.prog X.w) X.A X.env X.xe) (hc:X.calm=true) (hi:PI X tg iter wi) (hg:PG X tg g) (hb:PSs X body tb)
  (hs:∀ x,foldedSetIterable iter X.env x=pure x:=by intro _;rfl):PS X (.For tg iter body [] pos) (Zw3 wi g tb):=by
 intro pins s σ H D I h
 refine wpAny_For (thn (hi pins s σ H _ I h) fun v s1 h1=>thn h1 fun itv s2 h2=>?_) hs
 obtain ⟨it,fp,tn,J,H2,e,I2,T,st2,f2,W,⟨m0,w0⟩,turn⟩:=h2
 subst e
 have stat:∀ {H':Hp},(∀ b∈fp,H' b=none)→∀ b∈fp,ZoU X pins H' b:=fun hn b hb=>⟨hn b hb,(f2 b hb).2⟩
 refine codeAny_forLoop_any (fun n s'=>∃ i σ' H',Inv X pins σ' H' s'∧tn i s'.heap∧(∀ b∈fp,H' b=none)∧W i n σ' H') ?_ m0 ⟨0,σ,H2,I2,st2,fun b hb=>(f2 b hb).1,w0⟩
 rintro n s3 ⟨i,σ3,H3,I3,st3,fr3,w3⟩
 rcases turn i n σ3 H3 w3 with ⟨stop,qn⟩ | ⟨go,N,hN,step⟩
 ·refine wpAny_passesOwn hp (thn (T.done X rfl rfl rfl hc i pins s3 σ3 H3 X.xe I3 (stat fr3) st3 stop) fun r s4 zz33=>?_)
  obtain ⟨hr,I4⟩:=zz33
  subst hr
  exact wpAny_execs_nil ⟨σ3,H3,I4,qn⟩
 ·refine wpAny_passesOwn hp (thn (T.item X rfl rfl rfl hc i pins s3 σ3 H3 X.xe I3 (stat fr3) st3 go) fun r s4 zz34=>?_)
  obtain ⟨u,hr,h4⟩:=zz34
  subst hr
  refine wpAny_passesOwn hp (thn h4 fun _ s5 zz35=>?_)
  obtain ⟨x,H5,I5,r5,y5,st5,fr5⟩:=zz35
  have I5':=I5.pinned (stat fr5) (T.obj _ _ st5)
  refine wpAny_passesOwn hp (thn (hg _ s5 σ3 H5 x u _ I5' r5 (step x H5 y5)) fun _ s6 zz36=>?_)
  obtain ⟨σ6,H6,I6,q6⟩:=zz36
  refine wpAny_passesOwn hp (thn (hb _ s6 σ6 H6 _ I6 q6) fun f s7 q7=>?_)
  have again:∀ {σ7:St} {H7:Hp},Inv X (pins++Zi4 fp s5.heap) σ7 H7 s7→N σ7 H7→∃ m,m < n∧∃ i σ' H',Inv X pins σ' H' s7∧tn i s7.heap∧(∀ b∈fp,H' b=none)∧W i m σ' H':=fun {σ7 H7} I7 n7=>by
   obtain ⟨m',hm,w7⟩:=hN σ7 H7 n7
   refine ⟨m',hm,i+1,σ7,H7,I7.unpinned,T.keep _ _ _ st5 fun b hb o e=>(I7.pin (b,o) (List.mem_append_right _ (List.mem_append_right _ (ZeM hb e)))).1,fun b hb=>?_,w7⟩
   obtain ⟨o,e,d⟩:=T.obj _ _ st5 b hb
   exact (I7.pin (b,o) (List.mem_append_right _ (List.mem_append_right _ (ZeM hb e)))).2.1
  cases f with
  | next=>obtain ⟨σ7,H7,I7,n7⟩:=q7;exact again I7 n7
  | cont=>obtain ⟨σ7,H7,I7,n7⟩:=q7;exact again I7 n7
  | brk=>obtain ⟨σ7,H7,I7,q7⟩:=q7;exact ⟨σ7,H7,I7.unpinned,q7⟩
  | ret v=>obtain ⟨x7,σ7,H7,I7,r7,q7⟩:=q7;exact ⟨x7,σ7,H7,I7.unpinned,r7,q7⟩
end
end L2
namespace L2
open PySem PySem.Spec PyProof.Rows
abbrev R2:=V→V→Hp→VK→Prop
def OpR (X:Cx) (f:Value→Value→Sem Value) (r:R2):Prop :=
 ∀ (pins:List (Addr×Obj)) (s:Shared) (σ:St) (H:Hp) (x y:V) (v u:Value) (Q:VK),Inv X pins σ H s→RelV x v→RelV y u→r x y H Q →
  wpAny (model X.prog X.w) X.A (f v u) (EP X pins σ Q) X.xe s
def CallR (X:Cx) (f:Value) (r:List V→Hp→VK→Prop):Prop :=
 ∀ (pins:List (Addr×Obj)) (s:Shared) (σ:St) (H:Hp) (xs:List V) (us:List Value) (Q:VK),Inv X pins σ H s→Vals xs us→r xs H Q →
  wpAny (model X.prog X.w) X.A (call f us) (EP X pins σ Q) X.xe s
def Zxc (X:Cx) (r:V→Hp→(Bool→Hp→Prop)→Prop):Prop :=
 ∀ (pins:List (Addr×Obj)) (s:Shared) (σ:St) (H:Hp) (x:V) (v:Value) (Q:Bool→Hp→Prop),Inv X pins σ H s→RelV x v→r x H Q →
  wpAny (model X.prog X.w) X.A (truthy v) (TP X pins σ Q) X.xe s
def tOp (r:R2) (ta tb:TE):TE:=fun σ H Q=>ta σ H fun x H1=>tb σ H1 fun y H2=>r x y H2 Q
def rI (C:Int→Int→Prop) (g:Int→Int→V):R2:=fun x y H Q=>∃ i j,x=.int i∧y=.int j∧C i j∧Q (g i j) H
def rI0 (g:Int→Int→V):R2:=fun x y H Q=>∃ i j,x=.int i∧y=.int j∧Q (g i j) H
section
variable {X:Cx} {a b c:Expr} {ta tb tc:TE} {pos:Pos}
theorem ZvL (ha:PE X a ta) (hb:PE X b tb) {pins:List (Addr×Obj)} {s:Shared} {σ:St} {H:Hp} {R:V→V→Hp→Prop} (I:Inv X pins σ H s)
  (h:ta σ H fun x H1=>tb σ H1 fun y H2=>R x y H2) {Q:Value→Shared→Prop} {f:Value→Value→Sem Value}
  (hf:∀ v u s2 x y H2,Inv X pins σ H2 s2→RelV x v→RelV y u→R x y H2→wpAny (model X.prog X.w) X.A (f v u) Q X.xe s2) :
  wpAny (model X.prog X.w) X.A (eval a X.env) (fun v s₁=>wpAny (model X.prog X.w) X.A (eval b X.env) (fun u s₂=>wpAny (model X.prog X.w) X.A (f v u) Q X.xe s₂) X.xe s₁) X.xe s:=by
 refine thn (ha pins s σ H _ I h) fun v s1 zz37=>?_
 obtain ⟨x,H1,I1,r1,q1⟩:=zz37
 refine thn (hb pins s1 σ H1 _ I1 q1) fun u s2 zz38=>?_
 obtain ⟨y,H2,I2,r2,q2⟩:=zz38
 exact hf v u s2 x y H2 I2 r1 r2 q2
theorem ZvU {op:Operator} {r:R2} (ho:OpR X (binaryOp op) r) (ha:PE X a ta) (hb:PE X b tb):PE X (.BinOp a op b pos) (tOp r ta tb):=by
 intro pins s σ H Q I h
 exact wpAny_BinOp (ZvL ha hb I h fun v u s2 x y H2 I2 rx ry q=>ho pins s2 σ H2 x y v u Q I2 rx ry q)
theorem opI {f:Value→Value→Sem Value} {C:Int→Int→Prop} {g:Int→Int→Int}
  (rule:∀ (i j:Int) (t u:Tok) (s:Shared) (Q:Value→Shared→Prop) (E:Value→Shared→Prop),C i j→Q (.int (g i j) s.toks) { s with toks:=s.toks+1 }→wpAny (model X.prog X.w) X.A (f (.int i t) (.int j u)) Q E s) :
  OpR X f (rI C fun i j=>.int (g i j)):=by
 intro pins s σ H x y v u Q I rx ry h
 obtain ⟨i,j,rfl,rfl,hc,q⟩:=h
 obtain ⟨t,rfl⟩:=rx
 obtain ⟨t',rfl⟩:=ry
 exact rule i j t t' s _ _ hc ⟨.int (g i j),H,I.tok _,⟨_,rfl⟩,q⟩
theorem ZwM {f:Value→Value→Sem Value} {g:Int→Int→Int}
  (rule:∀ (i j:Int) (t u:Tok) (s:Shared) (Q:Value→Shared→Prop) (E:Value→Shared→Prop),Q (.int (g i j) s.toks) { s with toks:=s.toks+1 }→wpAny (model X.prog X.w) X.A (f (.int i t) (.int j u)) Q E s) :
  OpR X f (rI0 fun i j=>.int (g i j)):=by
 intro pins s σ H x y v u Q I rx ry h
 obtain ⟨i,j,rfl,rfl,q⟩:=h
 obtain ⟨t,rfl⟩:=rx
 obtain ⟨t',rfl⟩:=ry
 exact rule i j t t' s _ _ ⟨.int (g i j),H,I.tok _,⟨_,rfl⟩,q⟩
theorem ZvH {f:Value→Value→Sem Value} {g:Int→Int→Bool}
  (rule:∀ (i j:Int) (t u:Tok) (s:Shared) (Q:Value→Shared→Prop) (E:Value→Shared→Prop),Q (.bool (g i j)) s→wpAny (model X.prog X.w) X.A (f (.int i t) (.int j u)) Q E s) :
  OpR X f (rI0 fun i j=>.bl (g i j)):=by
 intro pins s σ H x y v u Q I rx ry h
 obtain ⟨i,j,rfl,rfl,q⟩:=h
 obtain ⟨t,rfl⟩:=rx
 obtain ⟨t',rfl⟩:=ry
 exact rule i j t t' s _ _ ⟨.bl (g i j),H,I,rfl,q⟩
def ZvF (i j:Int):Prop:=0 < j∧j < 1073741824
def Ztu (i j:Int):Prop:=0≤j∧j≤1000000∧i.natAbs < 2 ^ 64
def CMul (i j:Int):Prop:=(-(2 ^ 64) < i∧i < 2 ^ 64)∨(-(2 ^ 64) < j∧j < 2 ^ 64)
theorem CMul.ok {i j:Int} (h:CMul i j):IntMulOk i j:=by
 rcases h with ⟨h1,h2⟩ | ⟨h1,h2⟩
 ·exact .of_left (intBits_le_64 h1 h2)
 ·exact .of_right (intBits_le_64 h1 h2)
theorem Zua:OpR X (binaryOp .Add) (rI0 fun i j=>.int (i+j)):=ZwM fun _ _ _ _ _ _ _ q=>add_int q
theorem ZuG:OpR X (binaryOp .Mult) (rI CMul fun i j=>.int (i*j)):=opI fun _ _ _ _ _ _ _ hc q=>mul_int q hc.ok
theorem Zsn:OpR X (binaryOp .FloorDiv) (rI ZvF fun i j=>.int (i / j)):=opI fun i j _ _ _ _ _ hc q=>by
 have h1:(0:Int) < j:=hc.1
 have h2:j < 1073741824:=hc.2
 exact floordiv_int (by omega) (by rw [Int.fdiv_eq_ediv_of_nonneg i (by omega)];exact q) (.inl (PyProof.noPylong_small (by omega)))
theorem ZtJ:OpR X (binaryOp .Mod) (rI (fun _ j=>0 < j) fun i j=>.int (i % j)):=opI fun i j _ _ _ _ _ hc q=>by
 have h1:(0:Int) < j:=hc
 exact mod_int' (by omega) (by rw [Int.fmod_eq_emod_of_nonneg i (by omega)];exact q)
theorem ZuJ:OpR X (binaryOp .Pow) (rI Ztu fun i j=>.int (i ^ j.toNat)):=opI fun _ _ _ _ _ _ _ hc q=>pow_int_small hc.1 hc.2.1 hc.2.2 q
theorem ZsA:OpR X (inplaceOp .Add) (rI0 fun i j=>.int (i+j)):=ZwM fun _ _ _ _ _ _ _ q=>iadd_int q
end
def ZsK:V→V→Bool
 | .non,.non=>true | .non,.int _=>true | .int _,.non=>true | .non,.bl _=>true | .bl _,.non=>true | .non,.str _=>true | .str _,.non=>true
 | .int _,.int _=>true | .bl _,.bl _=>true | .str _,.str _=>true | .byt _,.byt _=>true
 | .int _,.str _=>true | .str _,.int _=>true | .bl _,.str _=>true | .str _,.bl _=>true
 | _,_=>false
def rEq:R2:=fun x y H Q=>ZsK x y=true∧Q (.bl (decide (x=y))) H
def rNe:R2:=fun x y H Q=>ZsK x y=true∧Q (.bl (!decide (x=y))) H
theorem Zlr {i j:Int}:decide (V.int i=V.int j)=(i==j):=by
 rw [Bool.eq_iff_iff]
 simp
theorem ZnG {i j:Bool}:decide (V.bl i=V.bl j)=(i==j):=by
 rw [Bool.eq_iff_iff]
 simp
theorem ZlK {i j:Str}:decide (V.str i=V.str j)=(i==j):=by
 rw [Bool.eq_iff_iff]
 simp
theorem Zpu {i j:Array UInt8}:decide (V.byt i=V.byt j)=(i.toList==j.toList):=by
 rw [Bool.eq_iff_iff]
 cases i
 cases j
 simp
section
variable {X:Cx} {a b c:Expr} {ta tb tc:TE} {pos:Pos}
theorem Zbk {pins:List (Addr×Obj)} {σ:St} {H:Hp} {s:Shared} {Q:VK} {k k':Bool} (I:Inv X pins σ H s) (q:Q (.bl k) H) (e:k=k'):EP X pins σ Q (.bool k') s:=by
 subst e
 exact ⟨.bl k,H,I,rfl,q⟩
theorem Zwm:OpR X (compareOp .Eq) rEq:=by
 intro pins s σ H x y v u Q I rx ry h
 obtain ⟨hs,q⟩:=h
 cases x with
 | non =>
  cases rx
  cases y with
  | non=>cases ry;exact PySem.EqNone.eq_none_none (Zbk I q (by simp))
  | bl j=>cases ry;exact PySem.EqNone.eq_none_bool (Zbk I q (by simp))
  | int j=>obtain ⟨t',rfl⟩:=ry;exact PySem.EqNone.eq_none_int (Zbk I q (by simp))
  | str j=>obtain ⟨t',rfl⟩:=ry;exact PySem.EqNone.eq_none_str (Zbk I q (by simp))
  | _=>exact absurd (show false=true from hs) Bool.false_ne_true
 | bl i =>
  cases rx
  cases y with
  | non=>cases ry;exact PySem.EqNone.eq_bool_none (Zbk I q (by simp))
  | bl j=>cases ry;exact eq_bool (Zbk I q ZnG)
  | str j=>obtain ⟨t',rfl⟩:=ry;exact PySem.EqMixed.eq_bool_str (Zbk I q (by simp))
  | _=>exact absurd (show false=true from hs) Bool.false_ne_true
 | int i =>
  obtain ⟨t,rfl⟩:=rx
  cases y with
  | non=>cases ry;exact PySem.EqNone.eq_int_none (Zbk I q (by simp))
  | int j=>obtain ⟨t',rfl⟩:=ry;exact eq_int (Zbk I q Zlr)
  | str j=>obtain ⟨t',rfl⟩:=ry;exact PySem.EqMixed.eq_int_str (Zbk I q (by simp))
  | _=>exact absurd (show false=true from hs) Bool.false_ne_true
 | str i =>
  obtain ⟨t,rfl⟩:=rx
  cases y with
  | non=>cases ry;exact PySem.EqNone.eq_str_none (Zbk I q (by simp))
  | bl j=>cases ry;exact PySem.EqMixed.eq_str_bool (Zbk I q (by simp))
  | int j=>obtain ⟨t',rfl⟩:=ry;exact PySem.EqMixed.eq_str_int (Zbk I q (by simp))
  | str j=>obtain ⟨t',rfl⟩:=ry;exact eq_str (Zbk I q ZlK)
  | _=>exact absurd (show false=true from hs) Bool.false_ne_true
 | byt i =>
  obtain ⟨t,rfl⟩:=rx
  cases y with
  | byt j=>obtain ⟨t',rfl⟩:=ry;exact PySem.W.eq_bytes (Zbk I q Zpu)
  | _=>exact absurd (show false=true from hs) Bool.false_ne_true
 | _=>cases y <;> exact absurd (show false=true from hs) Bool.false_ne_true
theorem ZwA:OpR X (compareOp .NotEq) rNe:=by
 intro pins s σ H x y v u Q I rx ry h
 obtain ⟨hs,q⟩:=h
 cases x with
 | non =>
  cases rx
  cases y with
  | non=>cases ry;exact PySem.EqNone.ne_none_none (Zbk I q (by simp))
  | bl j=>cases ry;exact PySem.EqNone.ne_none_bool (Zbk I q (by simp))
  | int j=>obtain ⟨t',rfl⟩:=ry;exact PySem.EqNone.ne_none_int (Zbk I q (by simp))
  | str j=>obtain ⟨t',rfl⟩:=ry;exact PySem.EqNone.ne_none_str (Zbk I q (by simp))
  | _=>exact absurd (show false=true from hs) Bool.false_ne_true
 | bl i =>
  cases rx
  cases y with
  | non=>cases ry;exact PySem.EqNone.ne_bool_none (Zbk I q (by simp))
  | bl j=>cases ry;exact ne_bool (Zbk I q (congrArg not ZnG))
  | str j=>obtain ⟨t',rfl⟩:=ry;exact PySem.EqMixed.ne_bool_str (Zbk I q (by simp))
  | _=>exact absurd (show false=true from hs) Bool.false_ne_true
 | int i =>
  obtain ⟨t,rfl⟩:=rx
  cases y with
  | non=>cases ry;exact PySem.EqNone.ne_int_none (Zbk I q (by simp))
  | int j=>obtain ⟨t',rfl⟩:=ry;exact ne_int (Zbk I q (congrArg not Zlr))
  | str j=>obtain ⟨t',rfl⟩:=ry;exact PySem.EqMixed.ne_int_str (Zbk I q (by simp))
  | _=>exact absurd (show false=true from hs) Bool.false_ne_true
 | str i =>
  obtain ⟨t,rfl⟩:=rx
  cases y with
  | non=>cases ry;exact PySem.EqNone.ne_str_none (Zbk I q (by simp))
  | bl j=>cases ry;exact PySem.EqMixed.ne_str_bool (Zbk I q (by simp))
  | int j=>obtain ⟨t',rfl⟩:=ry;exact PySem.EqMixed.ne_str_int (Zbk I q (by simp))
  | str j=>obtain ⟨t',rfl⟩:=ry;exact ne_str (Zbk I q (congrArg not ZlK))
  | _=>exact absurd (show false=true from hs) Bool.false_ne_true
 | byt i =>
  obtain ⟨t,rfl⟩:=rx
  cases y with
  | byt j=>obtain ⟨t',rfl⟩:=ry;exact PySem.W.ne_bytes (Zbk I q (congrArg not Zpu))
  | _=>exact absurd (show false=true from hs) Bool.false_ne_true
 | _=>cases y <;> exact absurd (show false=true from hs) Bool.false_ne_true
theorem Zv9:OpR X (compareOp .Lt) (rI0 fun i j=>.bl (decide (i < j))):=ZvH fun _ _ _ _ _ _ _ q=>lt_int q
theorem Zwj:OpR X (compareOp .LtE) (rI0 fun i j=>.bl (decide (i≤j))):=ZvH fun _ _ _ _ _ _ _ q=>le_int q
theorem ZvW:OpR X (compareOp .Gt) (rI0 fun i j=>.bl (decide (j < i))):=ZvH fun _ _ _ _ _ _ _ q=>gt_int q
theorem Zwn:OpR X (compareOp .GtE) (rI0 fun i j=>.bl (decide (j≤i))):=ZvH fun _ _ _ _ _ _ _ q=>ge_int q
theorem Zpo:OpR X (compareOp .Lt) (fun x y H Q=>∃ i j,x=.str i∧y=.str j∧Q (.bl (decide (i.cps.toList < j.cps.toList))) H):=by
 intro pins s σ H x y v u Q I rx ry h
 obtain ⟨i,j,rfl,rfl,q⟩:=h
 obtain ⟨t,rfl⟩:=rx
 obtain ⟨t',rfl⟩:=ry
 exact lt_str (Zbk I q rfl)
theorem OpR.or {f:Value→Value→Sem Value} {r r':R2} (h:OpR X f r) (h':OpR X f r'):OpR X f (fun x y H Q=>r x y H Q∨r' x y H Q):=by
 intro pins s σ H x y v u Q I rx ry q
 rcases q with q | q
 ·exact h pins s σ H x y v u Q I rx ry q
 ·exact h' pins s σ H x y v u Q I rx ry q
theorem ZwO (b:Expr) {op:CmpOp} (h:op≠.In:=by decide) (h2:op≠.NotIn:=by decide):behindInMarks op b=false:=by
 have e1:(op==CmpOp.In)=false:=by cases op <;> first | rfl | exact absurd rfl h
 have e2:(op==CmpOp.NotIn)=false:=by cases op <;> first | rfl | exact absurd rfl h2
 cases b <;> simp [behindInMarks,e1,e2]
theorem Zsf {op:CmpOp} {r:R2} (ho:OpR X (compareOp op) r) (ha:PE X a ta) (hb:PE X b tb) (hm:behindInMarks op b=false):PE X (.Compare a [op] [b] pos) (tOp r ta tb):=by
 intro pins s σ H Q I h
 exact wpAny_Compare1 (ZvL ha hb I h fun v u s2 x y H2 I2 rx ry q=>ho pins s2 σ H2 x y v u Q I2 rx ry q) hm
def ZtZ (t:TE):TT:=fun σ H Q=>t σ H fun x H'=>∃ k,x=.bl k∧Q k H'
theorem ZsG {op:CmpOp} {r:R2} (ho:OpR X (compareOp op) r) (ha:PE X a ta) (hb:PE X b tb) (hm:behindInMarks op b=false):PT X (.Compare a [op] [b] pos) (ZtZ (tOp r ta tb)):=by
 intro pins s σ H Q I h
 refine wpAny_isTrue_Compare1 (thn (ha pins s σ H _ I h) fun v s1 ⟨x,H1,I1,r1,q1⟩=>thn (hb pins s1 σ H1 _ I1 q1) fun u s2 ⟨y,H2,I2,r2,q2⟩ =>
  thn (ho pins s2 σ H2 x y v u _ I2 r1 r2 q2) fun c s3 ⟨z,H3,I3,r3,k,e,q3⟩=>?_) hm
 subst e
 cases r3
 exact wpAny_truthy_bool ⟨H3,I3,q3⟩
def ZoL (r r':R2) (ta tb tc:TE):TE:=fun σ H Q=>ta σ H fun x H1=>tb σ H1 fun y H2=>r x y H2 fun z H3=>∃ k,z=.bl k ∧
 (if k=true then tc σ H3 fun w' H4=>r' y w' H4 Q else Q (.bl false) H3)
theorem ZqN {op op':CmpOp} {r r':R2} (ho:OpR X (compareOp op) r) (ho':OpR X (compareOp op') r') (ha:PE X a ta) (hb:PE X b tb) (hc:PE X c tc)
  (hm:lastMarks [op,op'] [b,c]=false:=by with_unfolding_all rfl):PE X (.Compare a [op,op'] [b,c] pos) (ZoL r r' ta tb tc):=by
 intro pins s σ H Q I h
 refine Compare_chain (thn (ha pins s σ H _ I h) fun v s1 ⟨x,H1,I1,r1,q1⟩=>chain_link (thn (hb pins s1 σ H1 _ I1 q1) fun u s2 ⟨y,H2,I2,r2,q2⟩ =>
  thn (ho pins s2 σ H2 x y v u _ I2 r1 r2 q2) fun d s3 ⟨z,H3,I3,r3,k,e,q3⟩=>?_)) hm
 subst e
 cases r3
 refine wpAny_truthy_bool ?_
 cases k with
 | false=>exact ite_ff ⟨.bl false,H3,I3,rfl,q3⟩
 | true=>exact ite_tt (chain_last (thn (hc pins s3 σ H3 _ I3 q3) (by rintro w' s4 ⟨z',H4,I4,r4,q4⟩;exact ho' pins s4 σ H4 y z' u w' Q I4 r2 r4 q4)))
theorem Zqn {op op':CmpOp} {r r':R2} (ho:OpR X (compareOp op) r) (ho':OpR X (compareOp op') r') (ha:PE X a ta) (hb:PE X b tb) (hc:PE X c tc)
  (hm:lastMarks [op,op'] [b,c]=false:=by with_unfolding_all rfl):PT X (.Compare a [op,op'] [b,c] pos) (ZtZ (ZoL r r' ta tb tc)):=by
 intro pins s σ H Q I h
 refine isTrue_chain (thn (ha pins s σ H _ I h) fun v s1 ⟨x,H1,I1,r1,q1⟩=>test_link (thn (hb pins s1 σ H1 _ I1 q1) fun u s2 ⟨y,H2,I2,r2,q2⟩ =>
  thn (ho pins s2 σ H2 x y v u _ I2 r1 r2 q2) fun d s3 ⟨z,H3,I3,r3,k,e,q3⟩=>?_)) hm
 subst e
 cases r3
 refine wpAny_truthy_bool ?_
 cases k with
 | false =>
  obtain ⟨k',e',q'⟩:=q3
  cases e'
  exact ite_ff ⟨H3,I3,q'⟩
 | true =>
  refine ite_tt (test_last (thn (hc pins s3 σ H3 _ I3 q3) fun w' s4 ⟨z',H4,I4,r4,q4⟩=>thn (ho' pins s4 σ H4 y z' u w' _ I4 r2 r4 q4) fun d' s5 ⟨z2,H5,I5,r5,k2,e2,q5⟩=>?_))
  subst e2
  cases r5
  exact wpAny_truthy_bool ⟨H5,I5,q5⟩
def Zwi (K:PySem.W.Frag) (x:V) (H:Hp) (k:Bool):Prop :=
 match x with
 | .non=>k=false
 | .bl b=>k=b
 | .int i=>k=(i != 0)
 | .str y=>y.length≤sizeLine∧k=((y.length:Int) != 0)
 | .byt y=>y.size≤sizeLine∧k=((y.size:Int) != 0)
 | .ref p=>(∃ xs,SqL K H p xs∧k=!xs.isEmpty)∨(∃ xs,SqT K H p xs∧k=!xs.isEmpty)∨∃ kvs,H p=some (.dK kvs)∧k=!kvs.isEmpty
 | _=>False
theorem Zns {κ:Type} {kvs:List (κ×V)} {vs:List (κ×Value)} (r:KV kvs vs):(!vs.isEmpty)=!kvs.isEmpty:=by
 cases r <;> rfl
theorem Zjj {xs:List V} {its:List Value} (r:Vals xs its):(!its.toArray.isEmpty)=!xs.isEmpty:=by
 cases r <;> simp
theorem ZiS:(sizeLine:Nat) < 2 ^ 63:=by rw [sizeLine_eq];decide
theorem Zur:Zxc X (fun x H Q=>∃ k,Zwi X.K x H k∧Q k H):=by
 intro pins s σ H x v Q I rx h
 obtain ⟨k,e,q⟩:=h
 have hl:=ZiS
 have hs:sizeLine=16777216:=sizeLine_eq
 cases x with
 | non =>
  cases rx
  have e':k=false:=e
  subst e'
  exact truthy_none ⟨H,I,q⟩
 | bl b =>
  cases rx
  have e':k=b:=e
  subst e'
  exact wpAny_truthy_bool ⟨H,I,q⟩
 | int i =>
  obtain ⟨t,rfl⟩:=rx
  have e':k=(i != 0):=e
  subst e'
  exact PySem.P.truthy_int ⟨H,I,q⟩
 | str y =>
  obtain ⟨t,rfl⟩:=rx
  obtain ⟨hy,e'⟩:y.length≤sizeLine∧k=((y.length:Int) != 0):=e
  subst e'
  exact PySem.P.truthy_str (by omega) ⟨H,I.tok _,q⟩
 | byt y =>
  obtain ⟨t,rfl⟩:=rx
  obtain ⟨hy,e'⟩:y.size≤sizeLine∧k=((y.size:Int) != 0):=e
  subst e'
  exact PySem.W.truthy_bytes (by omega) ⟨H,I.tok _,q⟩
 | ref p =>
  cases rx
  have e':(∃ xs,SqL X.K H p xs∧k=!xs.isEmpty)∨(∃ xs,SqT X.K H p xs∧k=!xs.isEmpty)∨∃ kvs,H p=some (.dK kvs)∧k=!kvs.isEmpty:=e
  rcases e' with ⟨xs,hx,e'⟩ | ⟨xs,hx,e'⟩ | ⟨kvs,hx,e'⟩
  ·subst e'
   obtain ⟨its,r,pl,hz⟩:=I.list hx
   have hlen:=r.length
   exact wpAny_truthy_list pl.isList (by simp only [List.size_toArray];omega) ⟨H,I.tok _,by rw [Zjj r];exact q⟩
  ·subst e'
   obtain ⟨its,r,pl,hz⟩:=I.tuple hx
   have hlen:=r.length
   exact truthy_tuple pl (by simp only [List.size_toArray];omega) ⟨H,I.tok _,by rw [Zjj r];exact q⟩
  ·subst e'
   obtain ⟨hz,hS,vs,r,m⟩:kvs.length≤sizeLine∧(p==sysModules)=false∧∃ vs,KV kvs vs∧s.heap.DictOf (Zl1 X.prog X.w) p vs:=I.hok p _ hx
   have hlen:kvs.length=vs.length:=Paired.length r
   exact wpAny_truthy_dict hS m (by omega) ⟨H,I.tok _,by rw [Zns r];exact q⟩
 | _=>exact (show False from e).elim
theorem Zqi (ha:PE X a ta) (he:∀ whole,isTrue a X.env whole=(do let v ← whole;standAt a.pos;holding [v] (truthy v))) :
  PT X a (fun σ H Q=>ta σ H fun x H'=>∃ k,Zwi X.K x H' k∧Q k H'):=by
 intro pins s σ H Q I h
 exact isTrue_plain (thn (ha pins s σ H _ I h) (by rintro v s1 ⟨x,H1,I1,r1,q1⟩;exact Zur pins s1 σ H1 x v Q I1 r1 q1)) (he _)
theorem Znb:OpR X (binaryOp .Add) (fun x y H Q=>∃ i j,x=.str i∧y=.str j∧i.length+j.length≤sizeLine∧Q (.str (i++j)) H):=by
 intro pins s σ H x y v u Q I rx ry h
 obtain ⟨i,j,rfl,rfl,hz,q⟩:=h
 obtain ⟨t,rfl⟩:=rx
 obtain ⟨t',rfl⟩:=ry
 exact add_str (fun t' tk=>⟨.str (i++j),H,I.tok _,⟨_,rfl⟩,q⟩) hz
theorem Zl5:OpR X (inplaceOp .Add) (fun x y H Q=>∃ i j,x=.str i∧y=.str j∧i.length+j.length≤sizeLine∧Q (.str (i++j)) H):=by
 intro pins s σ H x y v u Q I rx ry h
 obtain ⟨i,j,rfl,rfl,hz,q⟩:=h
 obtain ⟨t,rfl⟩:=rx
 obtain ⟨t',rfl⟩:=ry
 exact iadd_str (fun t' tk=>⟨.str (i++j),H,I.tok _,⟨_,rfl⟩,q⟩) hz
theorem Zl2 {x:V} {us:List Value} (r:Vals [x] us):∃ u,us=[u]∧RelV x u:=by
 cases r with
 | cons r1 r2=>cases r2;exact ⟨_,rfl,r1⟩
theorem Zo9 {x y:V} {us:List Value} (r:Vals [x,y] us):∃ u w',us=[u,w']∧RelV x u∧RelV y w':=by
 cases r with
 | cons r1 r2 =>
  cases r2 with
  | cons r3 r4=>cases r4;exact ⟨_,_,rfl,r1,r3⟩
theorem Zog:CallR X (.type "int") (fun xs H Q=>(∃ i,xs=[.int i]∧Q (.int i) H)∨∃ k,xs=[.bl k]∧Q (.int (if k then 1 else 0)) H):=by
 intro pins s σ H xs us Q I r h
 rcases h with ⟨i,rfl,q⟩ | ⟨k,rfl,q⟩
 ·obtain ⟨u,rfl,t,rfl⟩:=Zl2 r
  exact call_int_int ⟨.int i,H,I,⟨_,rfl⟩,q⟩
 ·obtain ⟨u,rfl,r1⟩:=Zl2 r
  cases r1
  exact call_int_bool ⟨.int (if k then 1 else 0),H,I.tok _,⟨_,rfl⟩,q⟩
def ZwN (K:PySem.W.Frag) (x:V) (H:Hp) (n:Nat):Prop :=
 match x with
 | .str y=>y.length≤sizeLine∧n=y.length
 | .byt y=>y.size≤sizeLine∧n=y.size
 | .ref p=>(∃ xs,SqL K H p xs∧n=xs.length)∨∃ xs,SqT K H p xs∧n=xs.length
 | _=>False
theorem Zp3:CallR X (.builtin "len") (fun xs H Q=>∃ x n,xs=[x]∧ZwN X.K x H n∧Q (.int n) H):=by
 intro pins s σ H xs us Q I r h
 obtain ⟨x,n,rfl,e,q⟩:=h
 obtain ⟨u,rfl,rx⟩:=Zl2 r
 have hl:=ZiS
 have hs:sizeLine=16777216:=sizeLine_eq
 cases x with
 | str y =>
  obtain ⟨t,rfl⟩:=rx
  obtain ⟨hy,e'⟩:y.length≤sizeLine∧n=y.length:=e
  subst e'
  exact len_str (by omega) ⟨.int _,H,I.tok _,⟨_,rfl⟩,q⟩
 | byt y =>
  obtain ⟨t,rfl⟩:=rx
  obtain ⟨hy,e'⟩:y.size≤sizeLine∧n=y.size:=e
  subst e'
  exact PySem.W.len_bytes (by omega) ⟨.int _,H,I.tok _,⟨_,rfl⟩,q⟩
 | ref p =>
  cases rx
  have e':(∃ xs,SqL X.K H p xs∧n=xs.length)∨∃ xs,SqT X.K H p xs∧n=xs.length:=e
  rcases e' with ⟨xs,hx,e'⟩ | ⟨xs,hx,e'⟩
  ·subst e'
   obtain ⟨its,r',pl,hz⟩:=I.list hx
   have hlen:=r'.length
   exact Calls.call_len_list pl.isList (by simp only [List.size_toArray];omega) ⟨.int xs.length,H,I.tok _,⟨_,by simp only [List.size_toArray];rw [hlen]⟩,q⟩
  ·subst e'
   obtain ⟨its,r',pl,hz⟩:=I.tuple hx
   have hlen:=r'.length
   exact len_tuple pl (by simp only [List.size_toArray];omega) ⟨.int xs.length,H,I.tok _,⟨_,by simp only [List.size_toArray];rw [hlen]⟩,q⟩
 | _=>exact (show False from e).elim
end
end L2
namespace L2
open PySem PySem.Spec PyProof.Rows
section
variable {prog:Program} {w:World} {A:Around} {E:Value→Shared→Prop} {s:Shared} {K:PySem.W.Frag} {x dx C f:Addr} {mA:Str→Option Value} {name:Str} {v:Value}
end
section
variable {P:Program} {w:World} {H H':Hp} {h h':Heap} {a C dx:Addr} {fs fs':List (Str×V)}
end
structure Cls (K:PySem.W.Frag) (C:Addr):Prop where
 pg:PySem.W.plainGet K C Str.empty=true
 hd:PySem.W.hasDictIn K C=true
 po:PySem.W.plainOver K C=true
 sa:PySem.W.findIn K (.ref C) "__setattr__"=some (some (.builtin "object.__setattr__"))
theorem Cls.get {K:PySem.W.Frag} {C:Addr} (c:Cls K C) (f:Str):PySem.W.plainGet K C f=true:=c.pg
section
variable {X:Cx} {pins:List (Addr×Obj)} {σ:St} {H:Hp} {s:Shared} {a C dx:Addr} {fs:List (Str×V)} {f:Str} {v:V} {A:Around} {E:Value→Shared→Prop}
theorem Inv.made (I:Inv X pins σ H s):Inv X pins σ (upd (upd H s.heap.objs.size (.own (s.heap.objs.size+1))) (s.heap.objs.size+1) (.ins C s.heap.objs.size []))
  { s with heap:=(s.heap.push PySem.W.emptyDict).push (PySem.W.instObj C s.heap.objs.size) }:=by
 have e1:(s.heap.push PySem.W.emptyDict).get? s.heap.objs.size=some PySem.W.emptyDict:=Heap.get?_push_size s.heap rfl
 have e2:((s.heap.push PySem.W.emptyDict).push (PySem.W.instObj C s.heap.objs.size)).get? (s.heap.objs.size+1)=some (PySem.W.instObj C s.heap.objs.size):=by
  have:=Heap.get?_push_size (s.heap.push PySem.W.emptyDict) (o:=PySem.W.instObj C s.heap.objs.size) rfl
  rwa [Heap.size_push] at this
 have e3:(s.heap.push PySem.W.emptyDict).Ns s.heap.objs.size (fun _=>none):=⟨PySem.W.emptyDict,#[],_,e1,rfl,(fun e he=>absurd he (by simp)),fun _=>rfl⟩
 have I1:=I.laid (a:=s.heap.objs.size) (o:=.own (s.heap.objs.size+1)) (h':=s.heap.push PySem.W.emptyDict) (t':=s.toks) (fun b u q=>Heap.get?_push_of_some _ q) (Nat.le_refl _) ⟨_,e1⟩
 refine I1.laid (a:=s.heap.objs.size+1) (o:=.ins C s.heap.objs.size []) (t':=s.toks) (fun b u q=>Heap.get?_push_of_some _ q) (Nat.le_of_eq (Heap.size_push _ _)) ?_
 have ne:s.heap.objs.size≠s.heap.objs.size+1:=Nat.ne_of_lt (Nat.lt_succ_self _)
 refine ⟨by rw [Zbd ne,ZbX],Nat.zero_le _,ne,e2,fun _=>none,(Heap.Ns1.of_empty e3).at fun o q=>Heap.get?_push_of_some _ q,fun _=>True.intro,fun y hy=>absurd rfl hy⟩
end
section
variable {X:Cx} {o e value:Expr} {f:Str} {pos pos' tpos:Pos} {ta tv:TE}
def ZgJ:V→V→Hp→VK→Prop:=fun x y H Q=>∃ i j,x=.int i∧y=.int j∧Q (.int (i+j)) H
end
section
variable {X:Cx} {pins:List (Addr×Obj)} {σ:St} {H:Hp} {s:Shared} {A:Around} {E:Value→Shared→Prop} {Q:Value→Shared→Prop} {c:Value} {b:Bool}
end
end L2
namespace L2
open PySem PySem.Spec PyProof.Rows
structure Room (k:Nat) (A:Around):Prop where
 hd:A.handled=none
 dp:A.depth+3*k+5 < recursionLimit
 un:A.units+16*k+200 < cLine
theorem Room.mono {j k:Nat} {A:Around} (r:Room k A) (h:j≤k):Room j A:=⟨r.hd,by have:=r.dp;omega,by have:=r.un;omega⟩
theorem Room.deeper {k:Nat} {A:Around} (r:Room (k+1) A) (env:Env):Room k (A.deeper env) :=
 ⟨r.hd,by have:=r.dp;show A.depth+1+3*k+5 < _;omega,by have:=r.un;show A.units+3+16*k+200 < _;omega⟩
theorem Room.in1 {k:Nat} {A:Around} (r:Room (k+1) A):Room k A.in1 :=
 ⟨r.hd,by have:=r.dp;show A.depth+3*k+5 < _;omega,by have:=r.un;show A.units+1+16*k+200 < _;omega⟩
theorem Room.depth {k:Nat} {A:Around} (r:Room k A):A.depth < recursionLimit:=by have:=r.dp;omega
theorem Room.units {k:Nat} {A:Around} (r:Room k A):A.units+64 < cLine:=by have:=r.un;omega
def Zu3:TA:=fun _ H Q=>Q [] H
def Zla (ta:TE) (tr:TA):TA:=fun σ H Q=>ta σ H fun x H1=>tr σ H1 fun xs H2=>Q (x::xs) H2
section
variable {X:Cx} {e:Expr} {es:List Expr} {te:TE} {t:TA} {pos:Pos}
theorem Zlm:PA X [] Zu3:=fun _ _ _ _ H Q I h=>Calls.spliced_nil ⟨[],H,I,.nil,h⟩
theorem Zfh (ha:PE X e te) (hr:PA X es t) (hs:starEach (e::es) X.env=(false,eval e X.env)::starEach es X.env:=by rfl):PA X (e::es) (Zla te t):=by
 intro pos pins s σ H Q I h
 rw [hs]
 show wpAny _ _ (spliced ((false,eval e X.env)::backTo pos (starEach es X.env))) _ _ s
 refine Calls.spliced_cons (thn (ha pins s σ H _ I h) fun u s1 zz43=>?_)
 obtain ⟨x,H1,I1,r1,q1⟩:=zz43
 exact thn (hr pos pins s1 σ H1 _ I1 q1) (by rintro us s2 ⟨xs,H2,I2,r2,q2⟩;exact ⟨x::xs,H2,I2,.cons r1 r2,q2⟩)
def Zw0 (t:TA):TE:=fun σ H Q=>t σ H fun xs H1=>xs.length≤sizeLine∧∀ p,H1 p=none→Q (.ref p) (upd H1 p (.tup xs))
def Zxk (t:TA):TE:=fun σ H Q=>t σ H fun xs H1=>xs.length≤sizeLine∧∀ p,H1 p=none→Q (.ref p) (upd H1 p (.lst xs))
theorem ZrI {x1} (h:PA X es t):PE X (.Tuple es x1 pos) (Zw0 t):=by
 intro pins s σ H Q I hq
 refine wpAny_Tuple_spliced (thn (h pos pins s σ H _ I hq) fun us s1 ⟨xs,H1,I1,r,z,q⟩=>⟨by rw [← r.length];exact z,?_⟩)
 have hf:H1 s1.heap.objs.size=none:=I1.hok.fresh (Nat.le_refl _)
 refine ⟨.ref s1.heap.objs.size,upd H1 s1.heap.objs.size (.tup xs),I1.laid (t':=s1.toks) (fun b u e=>Heap.get?_push_of_some _ e) (Nat.le_refl _) ?_,rfl,q _ hf⟩
 exact ⟨z,us,r,⟨_,Heap.get?_push_size _ rfl,rfl,_,rfl⟩⟩
theorem Zt9 (h:PA X es t):PE X (.List es pos) (Zxk t):=by
 intro pins s σ H Q I hq
 refine wpAny_List_spliced (thn (h pos pins s σ H _ I hq) fun us s1 ⟨xs,H1,I1,r,z,q⟩=>⟨by rw [← r.length];exact z,?_⟩)
 have hf:H1 s1.heap.objs.size=none:=I1.hok.fresh (Nat.le_refl _)
 refine ⟨.ref s1.heap.objs.size,upd H1 s1.heap.objs.size (.lst xs),I1.laid (t':=s1.toks) (fun b u e=>Heap.get?_push_of_some _ e) (Nat.le_refl _) ?_,rfl,q _ hf⟩
 exact ⟨z,us,0,r,Heap.get?_push_size _ rfl⟩
end
abbrev Sp:=List V→Hp→VK→XK→Prop
abbrev CXT:=List Env→Hp→Shared→XK→Value→Shared→Prop
structure Env0 (P:Program) (w:World) (K:PySem.W.Frag) (mg:Str→Option Value) (base:Heap) (A:Around) (outer:List Env) (s:Shared) (H:Hp):Prop where
 frames:A.frames=some outer
 mod:Mod K mg base
 bs:∀ b o,base.get? b=some o→s.heap.get? b=some o∧H b=none
 bsz:base.objs.size≤s.heap.objs.size
 funs:s.heap.FunFrames base outer
 frf:∀ b∈frs outer,H b=none
 hok:HOk P w H s.heap
 bare:AllBare s.gens
def CE (outer:List Env) (P:Program) (w:World) (H:Hp) (s:Shared) (Q:VK) (u:Value) (s':Shared):Prop :=
 ∃ v H',s'.os=s.os∧AllBare s'.gens∧Un (frs outer) [] H H' s.heap s'.heap∧HOk P w H' s'.heap∧RelV v u∧Q v H'
def CR (CX:CXT) (outer:List Env) (P:Program) (w:World) (H:Hp) (s:Shared) (Q:VK) (E:XK) (r:Result) (s':Shared):Prop :=
 match r with
 | .ok (.ret u)=>CE outer P w H s Q u s'
 | .ok _=>False
 | .error e=>CX outer H s E e s'
structure FnOk (P:Program) (w:World) (K:PySem.W.Frag) (mg:Str→Option Value) (base:Heap) (CX:CXT) (k:Nat) (f:Addr) (fd:FuncData) (ps:List Str) (sp:Sp):Prop where
 len:∀ vs H Q E,sp vs H Q E→vs.length=ps.length
 run:∀ (A:Around) (outer:List Env) (s:Shared) (H:Hp) (args:Args) (us:List Value) (vs:List V) (Q:VK) (E:XK),Room k A→Env0 P w K mg base A outer s H→BindsTo s fd args (ps.zip us)→Vals vs us→sp vs H Q E →
  codeAny (model P w) A (.call (.ref f) args) (CR CX outer P w H s Q E) s
theorem FnOk.mono {P:Program} {w:World} {K:PySem.W.Frag} {mg:Str→Option Value} {base:Heap} {CX:CXT} {j k:Nat} {f:Addr} {fd:FuncData} {ps:List Str} {sp:Sp} (F:FnOk P w K mg base CX j f fd ps sp) (h:j≤k) :
  FnOk P w K mg base CX k f fd ps sp:=⟨F.len,fun A outer s H args us vs Q E hr=>F.run A outer s H args us vs Q E (hr.mono h)⟩
theorem FnOk.imp {P:Program} {w:World} {K:PySem.W.Frag} {mg:Str→Option Value} {base:Heap} {CX:CXT} {k:Nat} {f:Addr} {fd:FuncData} {ps:List Str} {sp sp':Sp} (F:FnOk P w K mg base CX k f fd ps sp)
  (h:∀ vs H Q E,sp' vs H Q E→sp vs H Q E):FnOk P w K mg base CX k f fd ps sp' :=
 ⟨fun vs H Q E q=>F.len vs H Q E (h _ _ _ _ q),fun A outer s H args us vs Q E hr he hb hv hs=>F.run A outer s H args us vs Q E hr he hb hv (h _ _ _ _ hs)⟩
theorem Env0.in1 {P:Program} {w:World} {K:PySem.W.Frag} {mg:Str→Option Value} {base:Heap} {A:Around} {outer:List Env} {s:Shared} {H:Hp} (e:Env0 P w K mg base A outer s H) :
  Env0 P w K mg base A.in1 outer s H:=⟨e.frames,e.mod,e.bs,e.bsz,e.funs,e.frf,e.hok,e.bare⟩
section
variable {X:Cx} {pins:List (Addr×Obj)} {σ:St} {H:Hp} {s s':Shared}
theorem Inv.env0 (I:Inv X pins σ H s):Env0 X.prog X.w X.K X.mg X.base X.A X.stack s H :=
 ⟨I.ok.frames,I.ok.mod,I.bs,Nat.le_trans I.ok.bsz I.sz,I.stack,I.stkFree,I.hok,I.bare⟩
theorem Inv.after {Q:VK} {u:Value} (I:Inv X pins σ H s) (h:CE X.stack X.prog X.w H s Q u s'):EP X pins σ Q u s':=by
 obtain ⟨v,H',os,bare,un,hok,r,q⟩:=h
 obtain ⟨hh,g,d,t,os'⟩:=s'
 obtain rfl:os'=s.os:=os
 exact ⟨v,H',I.call (h':=hh) (g':=g) (d':=d) (t':=t) (ch:=[]) un hok bare (fun b z=>absurd z (by simp)),r,q⟩
end
def Binds (K:PySem.W.Frag) (fd:FuncData) (ps:List Str) (ds:List Value):Prop :=
 ∀ (s:Shared) (us:List Value),K.In s.heap→(us++ds).length=ps.length→BindsTo s fd ⟨us,[]⟩ (ps.zip (us++ds))
theorem Binds.all {K:PySem.W.Frag} {fd:FuncData} {ps:List Str} (h:∀ us:List Value,us.length=ps.length→bindArgs fd ⟨us,[]⟩=pure (ps.zip us)):Binds K fd ps []:=fun s us _ hl=>by
 rw [List.append_nil] at hl ⊢
 exact .of_eq (h us hl)
section
variable {X:Cx} {CX:CXT} {k:Nat} {f C:Addr} {fd:FuncData} {ps:List Str} {sp:Sp} {dvs:List V} {ds:List Value} {E:XK} {x m:Str} {p pos apos:Pos} {e o:Expr} {es:List Expr} {ta:TE} {t:TA}
end
section
variable {X:Cx} {CX:CXT} {k:Nat} {f C:Addr} {fd:FuncData} {ps ks:List Str} {sp:Sp} {E:XK} {x m:Str} {p pos apos kpos:Pos} {e o:Expr} {es:List Expr} {kws:List Keyword} {te ta:TE} {t tk:TA} {nm:Option Str}
variable {g:List Value→List Value→List Value} {gV:List V→List V→List V}
end
structure ZaH (N P:List Str) (sc:Scope):Prop where
 kind:sc.kind=.function
 co:sc.isCoroutine=false
 gen:sc.isGenerator=false
 nd:N.Nodup
 pre:N.take P.length=P
 par:∀ x∈P,sc.names.lookup x=some .local∨sc.names.lookup x=some .cell
 nofree:∀ y∈sc.names,y.2≠.free
theorem ZkB {kindOf:Str→Option NameKind} {x:Str}:∀ {binds:List (Str×Value)} {m:Str→Option Value},(∀ v,(x,v)∉binds)→bindL kindOf binds m x=m x
 | [],_,_=>rfl
 | (n,v)::r,m,h=>by
  unfold bindL
  rw [ZkB fun w hw=>h w (List.mem_cons_of_mem _ hw)]
  split
  ·have:x≠n:=by rintro rfl;exact h v List.mem_cons_self
   simp [this]
  ·rfl
theorem ZkK {kindOf:Str→Option NameKind} {x:Str}:∀ {binds:List (Str×Value)} {m:Str→Option Value},(∀ v,(x,v)∉binds)→bindC kindOf binds m x=m x
 | [],_,_=>rfl
 | (n,v)::r,m,h=>by
  unfold bindC
  rw [ZkK fun w hw=>h w (List.mem_cons_of_mem _ hw)]
  split
  ·rfl
  ·have:x≠n:=by rintro rfl;exact h v List.mem_cons_self
   simp [this]
theorem ZkY {kindOf:Str→Option NameKind} {x:Str} {v:Value}:∀ {P:List Str} {vs:List Value} {i:Nat} {m:Str→Option Value},P.Nodup→P[i]?=some x→vs[i]?=some v→kindOf x=some .local →
  bindL kindOf (P.zip vs) m x=some v
 | [],_,_,_,_,h,_,_=>by simp at h
 | _::_,[],_,_,_,_,h,_=>by simp at h
 | p::P,w::vs,0,m,nd,h1,h2,hk=>by
  simp at h1 h2;subst h1;subst h2
  show bindL kindOf ((p,w)::P.zip vs) m p=_
  unfold bindL
  rw [ZkB fun v hv=>(List.nodup_cons.mp nd).1 (List.of_mem_zip hv).1,if_pos hk]
  simp
 | p::P,w::vs,i+1,m,nd,h1,h2,hk=>by
  show bindL kindOf ((p,w)::P.zip vs) m x=_
  unfold bindL
  exact ZkY (i:=i) (List.nodup_cons.mp nd).2 (by simpa using h1) (by simpa using h2) hk
theorem Zlh {kindOf:Str→Option NameKind} {x:Str} {v:Value}:∀ {P:List Str} {vs:List Value} {i:Nat} {m:Str→Option Value},P.Nodup→P[i]?=some x→vs[i]?=some v→kindOf x≠some .local →
  bindC kindOf (P.zip vs) m x=some v
 | [],_,_,_,_,h,_,_=>by simp at h
 | _::_,[],_,_,_,_,h,_=>by simp at h
 | p::P,w::vs,0,m,nd,h1,h2,hk=>by
  simp at h1 h2;subst h1;subst h2
  show bindC kindOf ((p,w)::P.zip vs) m p=_
  unfold bindC
  rw [ZkK fun v hv=>(List.nodup_cons.mp nd).1 (List.of_mem_zip hv).1,if_neg hk]
  simp
 | p::P,w::vs,i+1,m,nd,h1,h2,hk=>by
  show bindC kindOf ((p,w)::P.zip vs) m x=_
  unfold bindC
  exact Zlh (i:=i) (List.nodup_cons.mp nd).2 (by simpa using h1) (by simpa using h2) hk
def Zix (N:List Str) (vs:List V):St:=vs.map some++List.replicate (N.length - vs.length) none
def ZrT (CX:CXT) (P:Program) (w:World) (K:PySem.W.Frag) (mg:Str→Option Value) (base:Heap) (N:List Str) (qual:Str) (scope:Scope) (f:Addr) (cd:Value) (A:Around) (outer:List Env) (s:Shared) (H:Hp) (E:XK):Cx where
 prog:=P
 w:=w
 K:=K
 mg:=mg
 base:=base
 A:=A.deeper (envOfC qual scope s.heap.objs.size f cd)
 N:=N
 s₀:=s
 H₀:=H
 env:=envOfC qual scope s.heap.objs.size f cd
 outer:=outer
 stack:=envOfC qual scope s.heap.objs.size f cd::outer
 ex:=[]
 calm:=true
 fn:=fun _=>true
 pn:=[]
 xe:=fun e s'=>wpAny (model P w) (A.deeper (envOfC qual scope s.heap.objs.size f cd)) (leaving (envOfC qual scope s.heap.objs.size f cd) e) (fun _ s''=>CX outer H s E e s'') (fun e' s''=>CX outer H s E e' s'') s'
theorem Zjv {sc:Scope} {n:Nat} {x:Str} (h:sc.names.lookup x=some .cell):∃ c,(cellsFrom n sc.names []).lookup x=some c:=by
 have q:=PySem.W.cellsFrom_some sc.names n [] (.inl h)
 exact Option.isSome_iff_exists.mp q
theorem ZoS {CX:CXT} {P:Program} {w:World} {K:PySem.W.Frag} {mg:Str→Option Value} {base:Heap} {N ps:List Str} {qual:Str} {scope:Scope} {f:Addr} {cd:Value} {A:Around} {outer:List Env} {s s1:Shared} {H:Hp} {E:XK} {us:List Value} {vs:List V}
  (S:ZaH N ps scope) (hd:A.handled=none) (e0:Env0 P w K mg base A outer s H) (hl:vs.length=ps.length) (r:Vals vs us)
  (x:InCallC s s.heap.objs.size (bindL (envOfC qual scope s.heap.objs.size f cd).kindOf (ps.zip us) fun _=>none) (cellsFrom (s.heap.objs.size+1) scope.names []) (bindC (envOfC qual scope s.heap.objs.size f cd).kindOf (ps.zip us) fun _=>none) s1) :
  Inv (ZrT CX P w K mg base N qual scope f cd A outer s H E) [] (Zix N vs) H s1:=by
 have hpl:ps.length≤N.length:=by have:=congrArg List.length S.pre;rw [List.length_take] at this;omega
 obtain ⟨h1,tk,rfl,hk⟩:=x.done
 have noA:∀ b:Addr,b∉(ZrT CX P w K mg base N qual scope f cd A outer s H E).ex:=fun b z=>absurd (show b∈([]:List Addr) from z) (by simp)
 refine ⟨⟨e0.mod,S.kind,rfl,rfl,Nat.le_refl _,fun y z c h1 h2=>?_,fun y hy=>?_,fun y c _ h=>?_,fun _=>hd,Around.frames_deeper e0.frames,.inr ⟨rfl,rfl⟩,fun b z=>absurd z (noA b),e0.bs,e0.bsz,fun b _ _=>noA b,fun b z=>absurd z (noA b),e0.funs,e0.frf⟩,
  rfl,e0.bare,Un.kept hk,⟨_,x.toInCall.ns,fun i y v h1 h2 h3=>?_⟩,fun y c h=>⟨_,x.cell y c h⟩,e0.hok.fresh (Nat.le_refl _),fun y c h=>?_,fun p hp=>absurd (show p∈([]:List (Addr×Obj)) from hp) (by simp),e0.hok.kept hk,?_⟩
 ·exact name_of_addr x.apart (PySem.mem_of_lookup h1) (PySem.mem_of_lookup h2)
 ·have hy:scope.names.lookup y=some .cell∨scope.names.lookup y=some .free:=hy
  rcases hy with hy | hy
  ·exact Zjv hy
  ·exact absurd rfl (S.nofree _ (PySem.mem_of_lookup hy))
 ·exact Nat.le_of_lt (x.above y c (PySem.mem_of_lookup h))
 ·have hi:i < vs.length:=by
   unfold Zix at h2
   by_cases hi:i < vs.length
   ·exact hi
   ·rw [List.getElem?_append_right (by simpa using hi)] at h2
    rw [List.getElem?_replicate] at h2
    split at h2 <;> cases h2
  have ha:vs[i]?=some v:=by
   unfold Zix at h2
   rw [List.getElem?_append_left (by simpa using hi),List.getElem?_map] at h2
   cases e:vs[i]? with
   | none=>rw [e] at h2;cases h2
   | some a=>rw [e] at h2;cases h2;rfl
  obtain ⟨u,hu,rv⟩:=r.get ha
  have hp:ps[i]?=some y:=by
   rw [← S.pre,List.getElem?_take_of_lt (by omega)];exact h1
  have ndP:ps.Nodup:=by rw [← S.pre];exact S.nd.sublist (List.take_sublist _ _)
  refine ⟨u,rv,?_⟩
  rcases S.par y (List.mem_of_getElem? hp) with k | k
  ·exact .inl ⟨k,ZkY ndP hp hu k⟩
  ·obtain ⟨c,e⟩:=Zjv (n:=s.heap.objs.size+1) k
   refine .inr ⟨.inl k,c,e,?_⟩
   have q:=x.cell y c e
   rw [Zlh ndP hp hu (by show scope.names.lookup y≠_;rw [k];decide)] at q
   exact q
 ·exact e0.hok.fresh (Nat.le_of_lt (x.above y c (PySem.mem_of_lookup h)))
 ·unfold Zix
  show _=N.length
  rw [List.length_append,List.length_map,List.length_replicate]
  omega
theorem Zsz {CX:CXT} {P:Program} {w:World} {K:PySem.W.Frag} {mg:Str→Option Value} {base:Heap} {k:Nat} {f:Addr} {name qual:Str} {params:Arguments} {body:List Stmt} {scope:Scope} {dV kV doc pm cdv ct oc:Value} {an od:Option Addr}
  {osl:Array (Option Value)} {N ps:List Str} {sp:Sp} (lk:K.lookup f=some ⟨oc,od,.func (PySem.W.fnOf name qual params body scope dV kV doc pm an cdv ct),osl⟩) (hcd:PySem.W.codeIn K cdv qual=true) (S:ZaH N ps scope)
  (len:∀ vs H Q E,sp vs H Q E→vs.length=ps.length)
  (hbody:∀ (A:Around) (outer:List Env) (s:Shared) (H:Hp) (vs:List V) (Q:VK) (E:XK),Room k (A.deeper (envOfC qual scope s.heap.objs.size f cdv))→sp vs H Q E →
   ∃ t,PSs (ZrT CX P w K mg base N qual scope f cdv A outer s H E) body t∧t { nx:=fun _ H'=>Q .non H',rt:=Q } (Zix N vs) H) :
  FnOk P w K mg base CX (k+1) f (PySem.W.fnOf name qual params body scope dV kV doc pm an cdv ct) ps sp:=by
 refine ⟨len,fun A outer s H args us vs Q E hr e0 hb r hsp=>?_⟩
 have hl:=len _ _ _ _ hsp
 have KX:K.In s.heap:=e0.mod.kin.keeps fun b o e=>(e0.bs b o e).1
 have lim:s.heap.NoLimit:=e0.mod.nolimit.keeps fun b o e=>(e0.bs b o e).1
 have hkind:∀ y∈ps.zip us,scope.names.lookup y.1=some .local∨(scope.names.lookup y.1=some .cell∧((cellsFrom (s.heap.objs.size+1) scope.names []).lookup y.1).isSome=true):=by
  rintro ⟨n,v⟩ hy
  rcases S.par n (List.of_mem_zip hy).1 with q | q
  ·exact .inl q
  ·exact .inr ⟨q,PySem.W.cellsFrom_some _ _ _ (.inl q)⟩
 refine codeAny_call_function hr.depth (KX _ _ lk) rfl S.co S.gen rfl (PySem.W.codeRec_of KX hcd) (hb _ _ _ _ ?_)
 refine wpAny_newFunctionEnv_cells S.kind hkind fun env he s1 x=>?_
 subst he
 refine ⟨lim.keeps x.toInCall.keep,codeAny_func ?_⟩
 obtain ⟨t,ht,hq⟩:=hbody A outer s H vs Q E (hr.deeper _) hsp
 have I:Inv (ZrT CX P w K mg base N qual scope f cdv A outer s H E) [] (Zix N vs) H s1:=ZoS S hr.hd e0 hl r x
 refine wpAny_mono (ht [] s1 (Zix N vs) H _ I hq) (fun fl s' hs=>?_) fun e s' hs=>hs
 have fin:∀ {σ':St} {H':Hp} {v:V} {u:Value},Inv (ZrT CX P w K mg base N qual scope f cdv A outer s H E) [] σ' H' s'→RelV v u→Q v H'→CE outer P w H s Q u s' :=
  fun {σ' H' v u} J rv q=>⟨v,H',J.os,J.bare,J.base,J.hok,rv,q⟩
 cases fl with
 | ret u =>
  obtain ⟨v,σ',H',J,rv,q⟩:=hs
  exact fin J rv q
 | next =>
  obtain ⟨σ',H',J,q⟩:=hs
  exact fin (v:=V.non) (u:=Value.none) J rfl q
 | brk =>
  obtain ⟨_,_,_,q⟩:=hs
  exact False.elim q
 | cont =>
  obtain ⟨_,_,_,q⟩:=hs
  exact False.elim q
end L2
namespace L2
open PySem PySem.Spec PyProof.Rows
section
variable {X:Cx} {x:Str} {p pos:Pos} {e:Expr} {es:List Expr} {t:TA} {id T:String} {r:List V→Hp→VK→Prop}
def tCB (r:List V→Hp→VK→Prop) (t:TA):TE:=fun σ H Q=>t σ H fun vs H1=>r vs H1 Q
theorem Zqz (hc:CallR X (.builtin id) r) (hg:Gl X x) (hm:X.mg x=none) (hv:bootBuiltins x=some (.builtin id)) (ha:PA X (e::es) t) (hn:x≠"__name__":=by decide) (hdb:(x==("__debug__":Str))=false:=by decide)
  (he:starEach (e::es) X.env=(false,eval e X.env)::starEach es X.env:=by rfl) (hpl:(backTo pos (starEach es X.env)).any (·.1)=false:=by rfl):PE X (.Call (.Name x p) (e::es) [] pos) (tCB r t):=by
 intro pins s σ H Q I h
 refine wpAny_Call_Name_kw (Ze8 I hg hm hv ?_ hn hdb)
 exact PyProof.Rows.callWith_builtin1 (thn (ha pos pins s σ H _ I h) (by rintro us s1 ⟨vs,H1,I1,r1,q1⟩;exact hc pins s1 σ H1 vs us Q I1 r1 q1)) he hpl
theorem Zoo (hc:CallR X (.type T) r) (hg:Gl X x) (hm:X.mg x=none) (hv:bootBuiltins x=some (.type T)) (ha:PA X (e::es) t) (hn:x≠"__name__":=by decide) (hdb:(x==("__debug__":Str))=false:=by decide)
  (he:starEach (e::es) X.env=(false,eval e X.env)::starEach es X.env:=by rfl) (hpl:(backTo pos (starEach es X.env)).any (·.1)=false:=by rfl):PE X (.Call (.Name x p) (e::es) [] pos) (tCB r t):=by
 intro pins s σ H Q I h
 refine wpAny_Call_Name_kw (Ze8 I hg hm hv ?_ hn hdb)
 exact PyProof.Rows.callWith_type1 (thn (ha pos pins s σ H _ I h) (by rintro us s1 ⟨vs,H1,I1,r1,q1⟩;exact hc pins s1 σ H1 vs us Q I1 r1 q1)) he hpl
end
end L2
namespace HT
open PySem PyProof.Rows
section
open PySem.SeqAt
open PySem.AutoSeq1 (wpAny_loadPart')
open PySem.MeetsSeq PySem.MeetsSeq2 PySem.MeetsSeq3
end
section
variable {prog:Program} {w:World} {A:Around} {E:Value→Shared→Prop} {s:Shared}
theorem cat_tup {t b:Addr} {vs ws:List Value} {Q:Value→Shared→Prop} (ht:IsTup s.heap t vs.toArray) (hb:IsTup s.heap b ws.toArray) (hv:vs≠[])
  (h1:ws=[]→Q (.ref t) s) (h2:ws≠[]→Q (.ref s.heap.objs.size) { s with heap:=s.heap.push { cls:=.type "tuple",data:=.seq (vs++ws).toArray } })
  (hsz:vs.length+ws.length≤sizeLine):wpAny (model prog w) A (binaryOp .Add (.ref t) (.ref b)) Q E s:=by
 obtain ⟨⟨cls,dd,data,sl⟩,ho,hc,n,hd⟩:=id ht
 obtain ⟨⟨cls2,dd2,data2,sl2⟩,ho2,hc2,n2,hd2⟩:=id hb
 simp only at hc hd hc2 hd2
 subst hc hd hc2 hd2
 have e:vs.toArray++ws.toArray=(vs++ws).toArray:=by simp
 by_cases hw:ws=[]
 ·exact concat_meets ⟨_,ho,rfl⟩ ⟨_,ho2,rfl⟩ noFill_tuple_add seq_tuple_add PySem.F.slot_tuple_add PySem.F.entry_tuple_add (PySem.F.args_tuple_add_2 _ _)
   (tuple_addW1 t b vs.toArray ws.toArray n n2 dd dd2 sl sl2 (by simpa using hv) (by simp [hw])) ⟨ho,ho2,h1 hw⟩
 ·refine concat_meets ⟨_,ho,rfl⟩ ⟨_,ho2,rfl⟩ noFill_tuple_add seq_tuple_add PySem.F.slot_tuple_add PySem.F.entry_tuple_add (PySem.F.args_tuple_add_2 _ _)
   (tuple_addW2 t b vs.toArray ws.toArray n n2 dd dd2 sl sl2 (by simpa using hv) (by simpa using hw) (by rw [List.size_toArray,List.size_toArray];exact hsz)) ⟨ho,ho2,?_⟩
  rw [e]
  exact h2 hw
def sIx (n d:Nat):Option Int→Nat
 | none=>d
 | some v=>if v < 0 then (v+(n:Int)).toNat else min v.toNat n
theorem sIx_none (n d:Nat):sIx n d none=d:=rfl
theorem sIx_nat (n d k:Nat):sIx n d (some (k:Int))=min k n:=by
 show (if (k:Int) < 0 then ((k:Int)+(n:Int)).toNat else min (k:Int).toNat n)=min k n
 rw [if_neg (by omega),Int.toNat_natCast]
theorem ZtU (n d:Nat) (hd:d≤n) (o:Option Int):sIx n d o≤n:=by
 cases o with
 | none=>exact hd
 | some v =>
  show (if v < 0 then (v+(n:Int)).toNat else min v.toNat n)≤n
  by_cases hv:v < 0
  ·rw [if_pos hv];omega
  ·rw [if_neg hv];exact Nat.min_le_right _ _
theorem Zpc (v:Int) (n d:Nat):(if v < 0 then max (v+(n:Int)) 0 else min v (n:Int))=((sIx n d (some v):Nat):Int):=by
 show (if v < 0 then max (v+(n:Int)) 0 else min v (n:Int))=(((if v < 0 then (v+(n:Int)).toNat else min v.toNat n):Nat):Int)
 by_cases hv:v < 0
 ·simp only [if_pos hv];omega
 ·simp only [if_neg hv];omega
theorem Znh (lo hi:Option Int) (n:Nat):Builtin.Slice.sliceAdjust lo hi 1 (n:Int)=(((sIx n 0 lo:Nat):Int),((sIx n n hi:Nat):Int)):=by
 have h1:¬ ((1:Int) < 0):=by omega
 unfold Builtin.Slice.sliceAdjust
 simp only [h1,if_false]
 refine Prod.ext ?_ ?_
 ·cases lo with
  | none=>rfl
  | some v=>exact Zpc v n 0
 ·cases hi with
  | none=>rfl
  | some v=>exact Zpc v n n
theorem Znk (i j:Nat):Builtin.Slice.slicePlaces (i:Int) (j:Int) 1=j - i:=by
 unfold Builtin.Slice.slicePlaces
 have h1:(1:Int) > 0:=by omega
 simp only [h1,if_true,Int.ediv_one]
 split <;> omega
theorem Zje {v:Value} {o:Option Int} {Q:Option Int→Shared→Prop} (p:IsPart v o) (h:Q o s):wpAny (model prog w) A (Builtin.Slice.slicePartIndex v) Q E s:=by
 cases p with
 | none=>exact slicePart_none h
 | int i t=>exact slicePart_int h
theorem Ze6 {sl:Addr} {vl vu:Value} {lo hi:Option Int} {n:Nat} {Q:Int×Int×Nat→Shared→Prop} (hs:s.heap.IsSliceOf sl vl vu .none) (pl:IsPart vl lo) (pu:IsPart vu hi)
  (h:Q (((sIx n 0 lo:Nat):Int),1,sIx n n hi - sIx n 0 lo) s):wpAny (model prog w) A (Builtin.Slice.sliceApplied (.ref sl) (pure (n:Int))) Q E s:=by
 obtain ⟨os,hos,hcs,hds⟩:=id hs
 unfold Builtin.Slice.sliceApplied Builtin.Slice.sliceFields
 refine wpAny_bind (wpAny_bind (wpAny_field hos hds (x:=vl) rfl (wpAny_bind (wpAny_field hos hds (x:=vu) rfl (wpAny_bind (wpAny_field hos hds (x:=.none) rfl (wpAny_pure ?_)))))))
 refine wpAny_bind (slicePart_none ?_)
 show wpAny _ _ (if ((1:Int)==0)=true then _ else _) _ _ s
 rw [if_neg (by decide)]
 refine wpAny_bind (Zje pl (wpAny_bind (Zje pu (wpAny_bind (wpAny_pure ?_)))))
 show wpAny _ _ (match Builtin.Slice.sliceAdjust lo hi 1 (n:Int) with | (lo,hi)=>pure (lo,(1:Int),Builtin.Slice.slicePlaces lo hi 1)) _ _ s
 rw [Znh lo hi n]
 show wpAny _ _ (pure (((sIx n 0 lo:Nat):Int),(1:Int),Builtin.Slice.slicePlaces ((sIx n 0 lo:Nat):Int) ((sIx n n hi:Nat):Int) 1)) _ _ s
 rw [Znk]
 exact wpAny_pure h
theorem ZpE (xs:Array Value) (i k:Nat):((List.range k).filterMap fun (m:Nat)=>xs[((i:Int)+(m:Int)*1).toNat]?).toArray=((xs.toList.drop i).take k).toArray:=by
 have e:(fun (m:Nat)=>xs[((i:Int)+(m:Int)*1).toNat]?)=fun m=>xs[i+m]?:=by
  funext m
  have:((i:Int)+(m:Int)*1).toNat=i+m:=by omega
  rw [this]
 rw [e]
 have:=pick_run xs i k
 rw [List.filterMap_map] at this
 have e2:((fun x=>xs[x]?)∘fun x=>i+x)=fun m=>xs[i+m]?:=rfl
 rw [e2] at this
 rw [this]
theorem getItem_tuple_cut {t sl:Addr} {items:Array Value} {vl vu:Value} {lo hi:Option Int} {Q:Value→Shared→Prop} (ht:IsTup s.heap t items) (hs:s.heap.IsSliceOf sl vl vu .none) (pl:IsPart vl lo) (pu:IsPart vu hi)
  (hw:¬ (sIx items.size 0 lo=0∧sIx items.size items.size hi=items.size))
  (h:Q (.ref s.heap.objs.size) { s with heap:=s.heap.push { cls:=.type "tuple",data:=.seq ((items.toList.drop (sIx items.size 0 lo)).take (sIx items.size items.size hi - sIx items.size 0 lo)).toArray } })
  (hsz:items.size≤sizeLine):wpAny (model prog w) A (getItem (.ref t) (.ref sl)) Q E s:=by
 have htake:sizeOk (.seq ((items.toList.drop (sIx items.size 0 lo)).take (sIx items.size items.size hi - sIx items.size 0 lo)).toArray):=by
  show ((items.toList.drop (sIx items.size 0 lo)).take (sIx items.size items.size hi - sIx items.size 0 lo)).toArray.size≤sizeLine
  rw [List.size_toArray,List.length_take,List.length_drop,Array.length_toList]
  omega
 have hj:sIx items.size items.size hi≤items.size:=ZtU _ _ (Nat.le_refl _) hi
 obtain ⟨os,hos,hcs,hds⟩:=id hs
 have hTs:s.TypeIs (.ref sl) "slice":=⟨os,hos,hcs⟩
 unfold getItem
 try with_reducible refine wpAny_holding ?_
 first | refine wpAny_bind (wpAny_pure ?_) | skip
 refine wpAny_bind (wpAny_sequenceKey ht.typeIs (by decide) ?_)
 refine wpAny_bind (wpAny_callSpecial?_slot (name:=Str.ofString "__getitem__") ht.typeIs PyProof.Rows.slot_tuple_getitem
  (wpAny_call_entry PyProof.Rows.slot_tuple_getitem ht.typeIs entry_tuple_getitem ?_ (args_tuple_getitem _ _)))
 show wpAny _ _ (Builtin.Tuple.tupleItemsOf (.ref t) >>= _) _ _ s
 refine wpAny_bind (tupleItemsOf_ ht ?_)
 refine wpAny_bind (wpAny_typeOf hTs ?_)
 rw [if_pos (by decide)]
 refine wpAny_bind (Ze6 hs pl pu ?_)
 have hno:¬ ((((sIx items.size 0 lo:Nat):Int)==0&&(1:Int)==1&&(sIx items.size items.size hi - sIx items.size 0 lo)==items.size)=true):=by
  intro q
  rw [Bool.and_eq_true,Bool.and_eq_true] at q
  have q1:((sIx items.size 0 lo:Nat):Int)=0:=eq_of_beq q.1.1
  have q2:sIx items.size items.size hi - sIx items.size 0 lo=items.size:=eq_of_beq q.2
  exact hw ⟨by omega,by omega⟩
 show wpAny _ _ (if (((sIx items.size 0 lo:Nat):Int)==0&&(1:Int)==1&&(sIx items.size items.size hi - sIx items.size 0 lo)==items.size)=true then _ else _) _ _ s
 rw [if_neg hno,ZpE]
 first
  | exact wpAny_bind (m:=Builtin.Tuple.tupleExact _) (wpAny_newObj_type (wpAny_pure ⟨_,rfl,wpAny_pure h⟩) htake)
  | exact wpAny_bind (m:=Builtin.Tuple.tupleExact _) (wpAny_newObj_type (wpAny_bind (wpAny_pure (wpAny_pure ⟨_,rfl,wpAny_pure h⟩))) htake)
  | exact wpAny_bind (wpAny_bind (m:=Builtin.Tuple.tupleExact _) (wpAny_newObj_type (wpAny_pure (wpAny_pure ⟨_,rfl,wpAny_pure h⟩)) htake))
  | exact wpAny_bind (wpAny_bind (m:=Builtin.Tuple.tupleExact _) (wpAny_newObj_type (wpAny_pure ⟨_,rfl,wpAny_pure h⟩) htake))
end
end HT
namespace L2
open PySem PySem.Spec PyProof.Rows
abbrev TO:=St→Hp→(Option Int→Hp→Prop)→Prop
def PO (X:Cx) (e:Option Expr) (t:TO):Prop :=
 ∀ (pins:List (Addr×Obj)) (s:Shared) (σ:St) (H:Hp) (Q:Option Int→Hp→Prop),Inv X pins σ H s→t σ H Q →
  wpAny (model X.prog X.w) X.A (evalPart e X.env) (fun u s'=>∃ o H',Inv X pins σ H' s'∧IsPart u o∧Q o H') X.xe s
def ZrS:TO:=fun _ H Q=>Q none H
def ZvX (t:TE):TO:=fun σ H Q=>t σ H fun x H1=>∃ i,x=.int i∧Q (some i) H1
section
variable {X:Cx} {e:Expr} {te:TE} {lo hi:Option Expr} {tl th:TO} {pos p2:Pos}
theorem Zsh:PO X none ZrS:=by
 intro pins s σ H Q I h
 rw [evalPart_none]
 exact wpAny_pure ⟨none,H,I,.none,h⟩
theorem Zsq (h:PE X e te):PO X (some e) (ZvX te):=by
 intro pins s σ H Q I hw
 rw [evalPart_some]
 refine thn (h pins s σ H _ I hw) fun u s1 zz48=>?_
 obtain ⟨x,H1,I1,r1,q1⟩:=zz48
 obtain ⟨i,rfl,q⟩:=q1
 obtain ⟨t,rfl⟩:=r1
 exact ⟨some i,H1,I1,.int i t,q⟩
def SlR (X:Cx) (r:V→Option Int→Option Int→Hp→VK→Prop):Prop :=
 ∀ (pins:List (Addr×Obj)) (s:Shared) (σ:St) (H:Hp) (x:V) (v vl vu:Value) (lo hi:Option Int) (sl:Addr) (Q:VK),Inv X pins σ H s→RelV x v→s.heap.IsSliceOf sl vl vu .none→IsPart vl lo→IsPart vu hi→r x lo hi H Q →
  ∃ T id,typeLookup (.type T) "__getitem__"=pure (some (.builtin id))∧s.TypeIs v T∧wpAny (model X.prog X.w) X.A (getItem v (.ref sl)) (EP X pins σ Q) X.xe s
theorem SlR.or {r r':V→Option Int→Option Int→Hp→VK→Prop} (h:SlR X r) (h':SlR X r'):SlR X (fun x lo hi H Q=>r x lo hi H Q∨r' x lo hi H Q):=by
 intro pins s σ H x v vl vu lo hi sl Q I rx hs pl pu q
 rcases q with q | q
 ·exact h pins s σ H x v vl vu lo hi sl Q I rx hs pl pu q
 ·exact h' pins s σ H x v vl vu lo hi sl Q I rx hs pl pu q
def tSl (r:V→Option Int→Option Int→Hp→VK→Prop) (te:TE) (tl th:TO):TE:=fun σ H Q=>te σ H fun x H1=>tl σ H1 fun l H2=>th σ H2 fun u H3=>r x l u H3 Q
theorem Zm2 {r:V→Option Int→Option Int→Hp→VK→Prop} (hr:SlR X r) (he:PE X e te) (hl:PO X lo tl) (hu:PO X hi th):PE X (.Subscript e (.Slice lo hi none p2) pos) (tSl r te tl th):=by
 intro pins s σ H Q I h
 refine Subscript_ (thn (he pins s σ H _ I h) fun v s1 zz49=>?_)
 obtain ⟨x,H1,I1,r1,q1⟩:=zz49
 refine wpAny_Slice (thn (hl pins s1 σ H1 _ I1 q1) fun vl s2 ⟨l,H2,I2,pl,q2⟩=>thn (hu pins s2 σ H2 _ I2 q2) fun vu s3 ⟨u,H3,I3,pu,q3⟩=>?_)
 rw [evalPart_none]
 refine wpAny_pure ?_
 have I4:Inv X pins σ H3 { s3 with heap:=s3.heap.push { cls:=.type "slice",data:=.fields #[vl,vu,.none] } }:=I3.kept (t':=s3.toks) fun b ob q=>Heap.get?_push_of_some _ q
 obtain ⟨T,id,hT,ht,hg⟩:=hr pins { s3 with heap:=s3.heap.push { cls:=.type "slice",data:=.fields #[vl,vu,.none] } } σ H3 x v vl vu l u s3.heap.objs.size Q I4 r1 (Heap.IsSliceOf.new ..) pl pu q3
 show wpAny (model X.prog X.w) X.A (subscriptTail e (.Slice lo hi none p2) v (.ref s3.heap.objs.size)) (EP X pins σ Q) X.xe { s3 with heap:=s3.heap.push { cls:=.type "slice",data:=.fields #[vl,vu,.none] } }
 exact tail_any (ops:=[.ref s3.heap.objs.size,v]) ht hT hg (by with_unfolding_all rfl)
def Zrz (xs:List V) (lo hi:Option Int):List V:=(xs.drop (HT.sIx xs.length 0 lo)).take (HT.sIx xs.length xs.length hi - HT.sIx xs.length 0 lo)
theorem Zia (xs:List V) (lo hi:Option Int):(Zrz xs lo hi).length≤xs.length:=by
 unfold Zrz
 rw [List.length_take,List.length_drop]
 omega
def ZvK (K:PySem.W.Frag):V→Option Int→Option Int→Hp→VK→Prop:=fun x lo hi H Q=>∃ a xs,x=.ref a∧SqT K H a xs ∧
 ¬ (HT.sIx xs.length 0 lo=0∧HT.sIx xs.length xs.length hi=xs.length)∧∀ p,H p=none→Q (.ref p) (upd H p (.tup (Zrz xs lo hi)))
theorem ZrM:SlR X (ZvK X.K):=by
 intro pins s σ H x v vl vu lo hi sl Q I rx hs pl pu h
 obtain ⟨a,xs,rfl,hx,hw,q⟩:=h
 cases rx
 obtain ⟨its,r,ht,hz⟩:=I.tuple hx
 have hlen:its.toArray.size=xs.length:=by rw [List.size_toArray];exact r.length.symm
 refine ⟨"tuple",_,PyProof.Rows.slot_tuple_getitem.lookup,ht.typeIs,?_⟩
 refine HT.getItem_tuple_cut ht hs pl pu (by rw [hlen];exact hw) ?_ (by rw [hlen];exact hz)
 rw [hlen]
 refine ⟨.ref s.heap.objs.size,_,I.laid (t':=s.toks) (o:=.tup (Zrz xs lo hi)) (fun b ob q=>Heap.get?_push_of_some _ q) (Nat.le_refl _) ?_,rfl,q _ (I.hok.fresh (Nat.le_refl _))⟩
 exact ⟨Nat.le_trans (Zia xs lo hi) hz,_,(r.drop (HT.sIx xs.length 0 lo)).take (HT.sIx xs.length xs.length hi - HT.sIx xs.length 0 lo),IsTup.new _ _⟩
def ZsS (K:PySem.W.Frag):R2:=fun x y H Q=>∃ a b xs ys,x=.ref a∧y=.ref b∧SqT K H a xs∧SqT K H b ys∧xs≠[]∧xs.length+ys.length≤sizeLine ∧
 (ys=[]→Q (.ref a) H)∧(ys≠[]→∀ p,H p=none→Q (.ref p) (upd H p (.tup (xs++ys))))
theorem Vals.nil_iff {xs:List V} {us:List Value} (r:Vals xs us):us=[]↔xs=[]:=by
 cases r with
 | nil=>simp
 | cons _ _=>simp
theorem Ztj:OpR X (binaryOp .Add) (ZsS X.K):=by
 intro pins s σ H x y v u Q I rx ry h
 obtain ⟨a,b,xs,ys,rfl,rfl,ha,hb,hx,hz,q1,q2⟩:=h
 cases rx
 cases ry
 obtain ⟨its,r1,p1,_⟩:=I.tuple ha
 obtain ⟨its2,r2,p2,_⟩:=I.tuple hb
 refine HT.cat_tup p1 p2 (fun z=>hx (r1.nil_iff.mp z)) (fun z=>⟨.ref a,H,I,rfl,q1 (r2.nil_iff.mp z)⟩) (fun z=>?_) (by rw [← r1.length,← r2.length];exact hz)
 refine ⟨.ref s.heap.objs.size,_,I.laid (t':=s.toks) (o:=.tup (xs++ys)) (fun b ob q=>Heap.get?_push_of_some _ q) (Nat.le_refl _) ?_,rfl,q2 (fun w=>z (r2.nil_iff.mpr w)) _ (I.hok.fresh (Nat.le_refl _))⟩
 exact ⟨by rw [List.length_append];exact hz,_,r1.append r2,IsTup.new _ _⟩
end
end L2
namespace L2
open PySem PySem.Spec PyProof.Rows
def ixN (n:Nat) (i:Int):Option Nat:=if 0≤i then (if i < n then some i.toNat else none) else if -(n:Int)≤i then some (i+n).toNat else none
def atI {α:Type} (xs:List α) (i:Int):Option α:=(ixN xs.length i).bind fun j=>xs[j]?
theorem ZnR {n:Nat} {i:Int} {j:Nat} (h:ixN n i=some j):seqIndex? i n=some j∧j < n∧-(n:Int)≤i∧i < n:=by
 unfold ixN at h
 by_cases h0:0≤i
 ·rw [if_pos h0] at h
  by_cases h1:i < n
  ·rw [if_pos h1] at h
   have e:i.toNat=j:=Option.some.inj h
   exact ⟨by rw [seqIndex_of h0 h1,e],by omega,by omega,h1⟩
  ·rw [if_neg h1] at h;cases h
 ·rw [if_neg h0] at h
  by_cases h1:-(n:Int)≤i
  ·rw [if_pos h1] at h
   have e:(i+n).toNat=j:=Option.some.inj h
   exact ⟨by rw [seqIndex_neg (by omega) h1,e],by omega,h1,by omega⟩
  ·rw [if_neg h1] at h;cases h
theorem Zl4 {α:Type} {xs:List α} {i:Int} {v:α} (h:atI xs i=some v):∃ j,seqIndex? i xs.length=some j∧xs[j]?=some v∧j < xs.length∧-(xs.length:Int)≤i∧i < xs.length:=by
 unfold atI at h
 cases e:ixN xs.length i with
 | none=>rw [e] at h;cases h
 | some j =>
  rw [e] at h
  obtain ⟨h1,h2,h3,h4⟩:=ZnR e
  exact ⟨j,h1,h,h2,h3,h4⟩
theorem Zj6 {α:Type} {xs:List α} {j:Nat} {v:α} (h:xs[j]?=some v):atI xs (j:Int)=some v:=by
 have hj:j < xs.length:=(List.getElem?_eq_some_iff.mp h).1
 have e:ixN xs.length (j:Int)=some j:=by
  unfold ixN
  rw [if_pos (by omega),if_pos (by omega)];simp
 unfold atI;rw [e];exact h
def ZlW (b:Expr):Prop:=∀ o i,subscripted b false o i=operate [o,i] (getItem o i)
def IxR (X:Cx) (r:R2):Prop :=
 ∀ (value slice:Expr) (pins:List (Addr×Obj)) (s:Shared) (σ:St) (H:Hp) (x y:V) (v u:Value) (Q:VK),Inv X pins σ H s→RelV x v→RelV y u→r x y H Q →
  subscripted slice false v u=operate [v,u] (getItem v u)→wpAny (model X.prog X.w) X.A (subscriptTail value slice v u) (EP X pins σ Q) X.xe s
def MtR (X:Cx) (id:String) (r:V→List V→Hp→VK→Prop):Prop :=
 ∀ (pins:List (Addr×Obj)) (s:Shared) (σ:St) (H:Hp) (x:V) (xs:List V) (v:Value) (us:List Value) (Q:VK),Inv X pins σ H s→RelV x v→Vals xs us→r x xs H Q →
  wpAny (model X.prog X.w) X.A (call (.builtin id) (v::us)) (EP X pins σ Q) X.xe s
section
variable {X:Cx} {a b:Expr} {ta tb:TE} {pos:Pos}
theorem IxR.or {r r':R2} (h:IxR X r) (h':IxR X r'):IxR X (fun x y H Q=>r x y H Q∨r' x y H Q):=by
 intro value slice pins s σ H x y v u Q I rx ry q hs
 rcases q with q | q
 ·exact h value slice pins s σ H x y v u Q I rx ry q hs
 ·exact h' value slice pins s σ H x y v u Q I rx ry q hs
theorem MtR.or {id:String} {r r':V→List V→Hp→VK→Prop} (h:MtR X id r) (h':MtR X id r'):MtR X id (fun x xs H Q=>r x xs H Q∨r' x xs H Q):=by
 intro pins s σ H x xs v us Q I rx rs q
 rcases q with q | q
 ·exact h pins s σ H x xs v us Q I rx rs q
 ·exact h' pins s σ H x xs v us Q I rx rs q
theorem Zwr {r:R2} (hr:IxR X r) (ha:PE X a ta) (hb:PE X b tb) (hs:ZlW b):PE X (.Subscript a b pos) (tOp r ta tb):=by
 intro pins s σ H Q I h
 exact Subscript_ (ZvL ha hb I h fun v u s2 x y H2 I2 rx ry q=>hr a b pins s2 σ H2 x y v u Q I2 rx ry q (hs _ _))
def ZwB (K:PySem.W.Frag):R2:=fun x y H Q=>∃ p xs i v,x=.ref p∧y=.int i∧SqL K H p xs∧atI xs i=some v∧Q v H
def Zwu (K:PySem.W.Frag):R2:=fun x y H Q=>∃ p xs i v,x=.ref p∧y=.int i∧SqT K H p xs∧atI xs i=some v∧Q v H
def ZvJ:R2:=fun x y H Q=>∃ z i c,x=.str z∧y=.int i∧z.length≤sizeLine∧atI z.cps.toList i=some c∧Q (.str ⟨#[c]⟩) H
theorem Zs5:IxR X (ZwB X.K):=by
 intro value slice pins s σ H x y v u Q I rx ry h hs
 obtain ⟨p,xs,i,z,rfl,rfl,hq,he,q⟩:=h
 cases rx
 obtain ⟨t,rfl⟩:=ry
 obtain ⟨its,r,pl,hz⟩:=I.list hq
 obtain ⟨j,h1,h2,h3,h4,h5⟩:=Zl4 he
 obtain ⟨w,ew,rw'⟩:=r.get h2
 have hl:=r.length
 have hn:=ZiS
 have fin:EP X pins σ Q w s:=⟨z,H,I,rw',q⟩
 by_cases h0:0≤i
 ·have hj:i.toNat=j:=by
   rw [seqIndex_of h0 h5] at h1
   exact Option.some.inj h1
  exact item_listR pl.isList h0 (by omega) (by rw [hj];simpa using ew) fin hs
 ·have hj:(i+(its.toArray.size:Int)).toNat=j:=by
   rw [seqIndex_neg (by omega) h4] at h1
   rw [List.size_toArray,← hl]
   exact Option.some.inj h1
  exact subscriptTail_builtinR (x:=w) pl.isList.typeIs slot_list_getitem.lookup
   (wpAny_getItem_list_neg (Q:=fun r s'=>r=w∧EP X pins σ Q r s') pl.isList (by omega) (by rw [List.size_toArray] <;> omega) (by omega) (by rw [hj];simpa using ew) ⟨rfl,fin⟩) hs
theorem ZuV:IxR X (Zwu X.K):=by
 intro value slice pins s σ H x y v u Q I rx ry h hs
 obtain ⟨p,xs,i,z,rfl,rfl,hq,he,q⟩:=h
 cases rx
 obtain ⟨t,rfl⟩:=ry
 obtain ⟨its,r,pl,hz⟩:=I.tuple hq
 obtain ⟨j,h1,h2,h3,h4,h5⟩:=Zl4 he
 obtain ⟨w,ew,rw'⟩:=r.get h2
 have hl:=r.length
 have hn:=ZiS
 have fin:EP X pins σ Q w s:=⟨z,H,I,rw',q⟩
 exact subscriptTail_builtinR (x:=w) pl.typeIs slot_tuple_getitem.lookup
  (getItem_tuple (j:=j) (Q:=fun r s'=>r=w∧EP X pins σ Q r s') pl (by omega) (by omega) (by rw [List.size_toArray,← hl];exact h1) (by simpa using ew) ⟨rfl,fin⟩) hs
theorem Zvt:IxR X ZvJ:=by
 intro value slice pins s σ H x y v u Q I rx ry h hs
 obtain ⟨z,i,c,rfl,rfl,hz,he,q⟩:=h
 obtain ⟨t,rfl⟩:=rx
 obtain ⟨t',rfl⟩:=ry
 obtain ⟨j,h1,h2,h3,h4,h5⟩:=Zl4 he
 have hl:z.cps.toList.length=z.length:=by simp [Str.length]
 rw [hl] at h1 h4 h5
 have hn:=ZiS
 exact tail_any (typeIs_str s z t) slot_str_getitem.lookup (getItem_str (c:=c) (by
  have e1:decide (i < -(2 ^ 63:Int))=false:=decide_eq_false (by omega)
  have e2:decide (i≥2 ^ 63)=false:=decide_eq_false (by omega)
  rw [e1,e2,Bool.or_false]) (by rw [h1];simpa using h2) ⟨.str ⟨#[c]⟩,H,I.tok _,⟨_,rfl⟩,q⟩) hs
theorem Znp (its:List Value) (n j:Nat) (u:Value):Obj.mapSeq (·.setIfInBounds j u) { cls:=.type "list",data:=.seq its.toArray n }={ cls:=.type "list",data:=.seq (its.set j u).toArray n }:=by
 simp [Obj.mapSeq]
theorem Inv.lst {pins:List (Addr×Obj)} {σ:St} {H:Hp} {s:Shared} {p:Addr} {xs:List V} (I:Inv X pins σ H s) (h:H p=some (.lst xs)) :
  ∃ (its:List Value) (n:Nat),Vals xs its∧s.heap.get? p=some { cls:=.type "list",data:=.seq its.toArray n }∧xs.length≤sizeLine:=by
 obtain ⟨z,its,n,r,e⟩:=I.hok p _ h
 exact ⟨its,n,r,e,z⟩
theorem Inv.lstUpd {pins:List (Addr×Obj)} {σ:St} {H:Hp} {s:Shared} {p:Addr} {xs ys:List V} {its its':List Value} {n n':Nat} {f:Obj→Obj} (I:Inv X pins σ H s) (h:H p=some (.lst xs))
  (ho:s.heap.get? p=some { cls:=.type "list",data:=.seq its.toArray n }) (hf:f { cls:=.type "list",data:=.seq its.toArray n }={ cls:=.type "list",data:=.seq its'.toArray n' }) (r:Vals ys its') (hz:ys.length≤sizeLine) (t:Nat) :
  Inv X pins σ (upd H p (.lst ys)) { s with heap:=s.heap.update p f,toks:=t }:=by
 have e:(s.heap.update p f).get? p=some { cls:=.type "list",data:=.seq its'.toArray n' }:=by
  rw [Heap.get?_update_self f ho (by rw [hf] <;> rfl),hf]
 refine I.write (x:=p) (e:=p) (by rw [h];trivial) (.inl rfl) (fun b u hb q=>(Heap.get?_update_other _ _ (Ne.symm hb)).trans q) ⟨_,e⟩ ?_
 exact ⟨hz,its',n',r,e⟩
def Zuh:V→V→V→Hp→(Hp→Prop)→Prop:=fun o i v H Q=>∃ p xs k j,o=.ref p∧i=.int k∧H p=some (.lst xs)∧ixN xs.length k=some j∧Q (upd H p (.lst (xs.set j v)))
theorem ZqO:ZwP X Zuh:=by
 intro pins s σ H o i v ov iv u Q I ro ri rv h
 obtain ⟨p,xs,k,j,rfl,rfl,hp,hj,q⟩:=h
 cases ro
 obtain ⟨t,rfl⟩:=ri
 obtain ⟨its,n,r,ho,hz⟩:=I.lst hp
 obtain ⟨h1,h2,h3,h4⟩:=ZnR hj
 have hl:=r.length
 have hn:=ZiS
 have I':Inv X pins σ (upd H p (.lst (xs.set j v))) { s with heap:=s.heap.update p (Obj.mapSeq (·.setIfInBounds j u)) } :=
  I.lstUpd hp ho (Znp its n j u) (r.set rv j) (by rw [List.length_set];exact hz) s.toks
 by_cases h0:0≤k
 ·have hk:k.toNat=j:=by
   rw [seqIndex_of h0 h4] at h1
   exact Option.some.inj h1
  exact PySem.W.ki_setAt ho h0 (by omega) (by rw [List.size_toArray,← hl];exact h4) (by rw [hk];exact ⟨_,I',q⟩)
 ·have hk:(k+(its.toArray.size:Int)).toNat=j:=by
   rw [seqIndex_neg (by omega) h3] at h1
   rw [List.size_toArray,← hl]
   exact Option.some.inj h1
  exact PySem.W.ki_setBack ho (by omega) (by rw [List.size_toArray,← hl];exact h3) (by omega) (by rw [hk];exact ⟨_,I',q⟩)
theorem ZkJ (lo hi:Option Int) (n:Nat):(sliceBounds lo hi none n).1=((HT.sIx n 0 lo:Nat):Int)∧(sliceBounds lo hi none n).2.1=((HT.sIx n n hi:Nat):Int)∧(sliceBounds lo hi none n).2.2=1:=by
 refine ⟨?_,?_,rfl⟩
 ·cases lo with
  | none=>simp [sliceBounds,HT.sIx]
  | some i =>
   simp only [sliceBounds,HT.sIx,Option.getD_none,show (1:Int) > 0 by decide,if_true]
   by_cases h:i < 0
   ·simp only [h,if_true] <;> omega
   ·simp only [h,if_false] <;> omega
 ·cases hi with
  | none=>simp [sliceBounds,HT.sIx]
  | some i =>
   simp only [sliceBounds,HT.sIx,Option.getD_none,show (1:Int) > 0 by decide,if_true]
   by_cases h:i < 0
   ·simp only [h,if_true] <;> omega
   ·simp only [h,if_false] <;> omega
theorem Zj3 (its:List Value) (lo hi:Option Int):slicePick its.toArray lo hi none=((its.drop (HT.sIx its.length 0 lo)).take (HT.sIx its.length its.length hi - HT.sIx its.length 0 lo)).toArray:=by
 obtain ⟨h1,h2,h3⟩:=ZkJ lo hi its.toArray.size
 unfold slicePick
 rw [h1,h2,h3]
 simp only [sliceRange_one,pick_run,List.size_toArray] <;> rfl
def Zww (K:PySem.W.Frag):V→Option Int→Option Int→Hp→VK→Prop:=fun x lo hi H Q=>∃ a xs,x=.ref a∧SqL K H a xs∧∀ p,H p=none→Q (.ref p) (upd H p (.lst (Zrz xs lo hi)))
theorem Zpq:SlR X (Zww X.K):=by
 intro pins s σ H x v vl vu lo hi sl Q I rx hs pl pu h
 obtain ⟨a,xs,rfl,hx,q⟩:=h
 cases rx
 obtain ⟨its,r,ht,hz⟩:=I.list hx
 have hlen:=r.length
 refine ⟨"list",_,slot_list_getitem.lookup,ht.isList.typeIs,?_⟩
 refine wpAny_getItem_list_slice ht.isList hs pl pu .none (by simp) ?_ (by rw [List.size_toArray] <;> omega)
 rw [Zj3,← hlen]
 refine ⟨.ref s.heap.objs.size,_,I.laid (t':=s.toks) (o:=.lst (Zrz xs lo hi)) (fun b ob q=>Heap.get?_push_of_some _ q) (Nat.le_refl _) ?_,rfl,q _ (I.hok.fresh (Nat.le_refl _))⟩
 exact ⟨Nat.le_trans (Zia xs lo hi) hz,_,0,(r.drop (HT.sIx xs.length 0 lo)).take (HT.sIx xs.length xs.length hi - HT.sIx xs.length 0 lo),Heap.get?_push_size _ rfl⟩
def ZiI:V→Bool
 | .non=>true
 | .bl _=>true
 | .int _=>true
 | .str _=>true
 | _=>false
def eqV:V→V→Bool
 | .non,.non=>true
 | .bl a,.bl b=>a==b
 | .bl a,.int b=>(if a then 1 else 0)==b
 | .int a,.bl b=>a==(if b then 1 else 0)
 | .int a,.int b=>a==b
 | .str a,.str b=>a==b
 | _,_=>false
theorem ZkW {A:Around} {s:Shared} {y x:V} {u v:Value} (ry:RelV y u) (rx:RelV x v) (fy:ZiI y=true) (fx:ZiI x=true):SeqAt.EqAt A s u v (eqV y x):=by
 cases y with
 | non =>
  cases ry
  cases x with
  | non=>cases rx;exact SeqAt.EqAt.same _
  | bl b=>cases rx;exact SeqAt.EqAt.none_bool b
  | int b=>obtain ⟨t,rfl⟩:=rx;exact SeqAt.EqAt.none_int b t
  | str b=>obtain ⟨t,rfl⟩:=rx;exact SeqAt.EqAt.none_str b t
  | _=>exact absurd (show false=true from fx) Bool.false_ne_true
 | bl a =>
  cases ry
  cases x with
  | non=>cases rx;exact SeqAt.EqAt.bool_none a
  | bl b=>cases rx;exact SeqAt.EqAt.bool_bool a b
  | int b=>obtain ⟨t,rfl⟩:=rx;exact SeqAt.EqAt.bool_int a b t
  | str b=>obtain ⟨t,rfl⟩:=rx;exact SeqAt.EqAt.bool_str a b t
  | _=>exact absurd (show false=true from fx) Bool.false_ne_true
 | int a =>
  obtain ⟨t',rfl⟩:=ry
  cases x with
  | non=>cases rx;exact SeqAt.EqAt.int_none a t'
  | bl b=>cases rx;exact SeqAt.EqAt.int_bool a t' b
  | int b=>obtain ⟨t,rfl⟩:=rx;exact SeqAt.EqAt.int_int a t' b t
  | str b=>obtain ⟨t,rfl⟩:=rx;exact SeqAt.EqAt.int_str a t' b t
  | _=>exact absurd (show false=true from fx) Bool.false_ne_true
 | str a =>
  obtain ⟨t',rfl⟩:=ry
  cases x with
  | non=>cases rx;exact SeqAt.EqAt.str_none a t'
  | bl b=>cases rx;exact SeqAt.EqAt.str_bool a t' b
  | int b=>obtain ⟨t,rfl⟩:=rx;exact SeqAt.EqAt.str_int a t' b t
  | str b=>obtain ⟨t,rfl⟩:=rx;exact SeqAt.EqAt.str_str a t' b t
  | _=>exact absurd (show false=true from fx) Bool.false_ne_true
 | _=>exact absurd (show false=true from fy) Bool.false_ne_true
def eqU (x:V) (u:Value):Bool:=match u with
 | .none=>eqV .non x
 | .bool b=>eqV (.bl b) x
 | .int i _=>eqV (.int i) x
 | .str z _=>eqV (.str z) x
 | _=>false
theorem Zrg {x y:V} {u:Value} (r:RelV y u) (f:ZiI y=true):eqU x u=eqV y x:=by
 cases y with
 | non=>cases r;rfl
 | bl b=>cases r;rfl
 | int i=>obtain ⟨t,rfl⟩:=r;rfl
 | str z=>obtain ⟨t,rfl⟩:=r;rfl
 | _=>exact absurd (show false=true from f) Bool.false_ne_true
theorem ZlS {x:V}:∀ {xs:List V} {us:List Value},Vals xs us→xs.all ZiI=true→us.any (eqU x)=xs.any fun y=>eqV y x
 | _,_,.nil,_=>rfl
 | y::xs,u::us,.cons r t,f=>by
  rw [List.all_cons,Bool.and_eq_true] at f
  rw [List.any_cons,List.any_cons,Zrg r f.1,ZlS t f.2]
theorem Zj8 {A:Around} {s:Shared} {x:V} {v:Value} (rx:RelV x v) (fx:ZiI x=true):∀ {xs:List V} {us:List Value},Vals xs us→xs.all ZiI=true→∀ u∈us,SeqAt.EqAt A s u v (eqU x u)
 | _,_,.nil,_=>fun u hu=>by cases hu
 | y::xs,u::us,.cons r t,f=>fun u' hu=>by
  rw [List.all_cons,Bool.and_eq_true] at f
  rcases List.mem_cons.mp hu with rfl | hu
  ·rw [Zrg r f.1];exact ZkW r rx f.1 fx
  ·exact Zj8 rx fx t f.2 u' hu
def inV (x:V) (xs:List V):Bool:=xs.any fun y=>eqV y x
def rIn (K:PySem.W.Frag) (neg:Bool):R2:=fun x y H Q=>∃ p xs,y=.ref p∧(SqL K H p xs∨SqT K H p xs)∧ZiI x=true∧xs.all ZiI=true∧Q (.bl (if neg then !inV x xs else inV x xs)) H
theorem ZoM:OpR X (compareOp .In) (rIn X.K false):=by
 intro pins s σ H x y v u Q I rx ry h
 obtain ⟨p,xs,rfl,hq,fx,fs,q⟩:=h
 cases ry
 rcases hq with hq | hq
 ·obtain ⟨its,r,pl,hz⟩:=I.list hq
  refine SeqAt.in_listAt (eqU x) pl.isList (fun w hw=>Zj8 rx fx r fs w (by simpa using hw)) ⟨.bl _,H,I,rfl,?_⟩
  rw [show its.toArray.any (eqU x)=its.any (eqU x) by simp,ZlS r fs]
  exact q
 ·obtain ⟨its,r,pl,hz⟩:=I.tuple hq
  refine SeqAt.in_tupleAt (eqU x) pl (fun w hw=>Zj8 rx fx r fs w (by simpa using hw)) ⟨.bl _,H,I,rfl,?_⟩
  rw [show its.toArray.any (eqU x)=its.any (eqU x) by simp,ZlS r fs]
  exact q
theorem CallR.or {f:Value} {r r':List V→Hp→VK→Prop} (h:CallR X f r) (h':CallR X f r'):CallR X f (fun xs H Q=>r xs H Q∨r' xs H Q):=by
 intro pins s σ H xs us Q I rs q
 rcases q with q | q
 ·exact h pins s σ H xs us Q I rs q
 ·exact h' pins s σ H xs us Q I rs q
theorem Zki:CallR X (.type "list") (fun xs H Q=>∃ p ys,xs=[.ref p]∧(SqL X.K H p ys∨SqT X.K H p ys)∧∀ l,H l=none→Q (.ref l) (upd H l (.lst ys))):=by
 intro pins s σ H xs us Q I r h
 obtain ⟨p,ys,rfl,hq,q⟩:=h
 obtain ⟨u,rfl,rx⟩:=Zl2 r
 cases rx
 have fin:∀ (its:List Value),Vals ys its→ys.length≤sizeLine→∀ (h':Heap) (c':Nat),(∀ b o',s.heap.get? b=some o'→h'.get? b=some o') →
   h'.get? s.heap.objs.size=some { cls:=.type "list",dict:=none,data:=.seq its.toArray c',slots:=#[] }→EP X pins σ Q (.ref s.heap.objs.size) { s with heap:=h' }:=fun its r' hz h' c' kp e =>
  ⟨.ref s.heap.objs.size,_,I.laid (t':=s.toks) kp (Nat.le_refl _) (show ObjOk X.prog X.w _ h' _ (.lst ys) from ⟨hz,its,c',r',e⟩),rfl,q _ (I.hok.fresh (Nat.le_refl _))⟩
 rcases hq with hq | hq
 ·obtain ⟨its,r',pl,hz⟩:=I.list hq
  have hlen:=r'.length
  obtain ⟨o,ho,hc,n,hd⟩:=pl.isList
  exact call_list_seq p (.inl rfl) ho hc hd (fun h' c' kp e=>fin its r' hz h' c' kp e) (by simp only [List.size_toArray] <;> omega)
 ·obtain ⟨its,r',pl,hz⟩:=I.tuple hq
  have hlen:=r'.length
  obtain ⟨o,ho,hc,n,hd⟩:=pl
  exact call_list_seq p (.inr rfl) ho hc hd (fun h' c' kp e=>fin its r' hz h' c' kp e) (by simp only [List.size_toArray] <;> omega)
theorem ZjK:CallR X (.type "tuple") (fun xs H Q=>∃ p ys,xs=[.ref p]∧((SqL X.K H p ys∧∀ l,H l=none→Q (.ref l) (upd H l (.tup ys)))∨(SqT X.K H p ys∧Q (.ref p) H))):=by
 intro pins s σ H xs us Q I r h
 obtain ⟨p,ys,rfl,h⟩:=h
 obtain ⟨u,rfl,rx⟩:=Zl2 r
 cases rx
 rcases h with ⟨hq,q⟩ | ⟨hq,q⟩
 ·obtain ⟨its,r',pl,hz⟩:=I.list hq
  have hlen:=r'.length
  refine call_tuple_list pl.isList (fun h' kp=>?_) (by simp only [List.size_toArray] <;> omega)
  have I1:Inv X pins σ H { s with heap:=h' }:=I.kept (t':=s.toks) kp
  have I2:Inv X pins σ (upd H h'.objs.size (.tup ys)) { s with heap:=h'.push { cls:=.type "tuple",data:=.seq its.toArray } } :=
   I1.laid (t':=s.toks) (fun b o e=>Heap.get?_push_of_some _ e) (Nat.le_refl _) (show ObjOk X.prog X.w _ _ _ (.tup ys) from ⟨hz,its,r',IsTup.new _ _⟩)
  exact ⟨.ref h'.objs.size,_,I2,rfl,q _ (I1.hok.fresh (Nat.le_refl _))⟩
 ·obtain ⟨its,r',pl,hz⟩:=I.tuple hq
  exact call_tuple_same pl ⟨.ref p,H,I,rfl,q⟩
def tyV (K:PySem.W.Frag) (T:String) (x:V) (H:Hp):Prop:=match x with
 | .str _=>T="str"
 | .int _=>T="int"
 | .ref p=>(T="list"∧∃ xs,SqL K H p xs)∨(T="tuple"∧∃ o,K.lookup p=some o∧o.cls=.type "tuple"∧o.dict=none) ∨
   (T="dict"∧((∃ kvs,H p=some (.dK kvs))∨∃ kvs,H p=some (.dT kvs)))∨(T="set"∧∃ S n,H p=some (.set S n))
 | _=>False
theorem ZuY {pins:List (Addr×Obj)} {σ:St} {H:Hp} {s:Shared} {T:String} {x:V} {v:Value} (I:Inv X pins σ H s) (r:RelV x v) (ty:tyV X.K T x H) :
  s.TypeIs v T∧∀ a,v=.ref a→∃ ob,s.heap.get? a=some ob∧ob.dict=none:=by
 cases x with
 | str z =>
  obtain ⟨t,rfl⟩:=r
  cases (show T="str" from ty)
  exact ⟨typeIs_str s z t,fun _ e=>nomatch e⟩
 | int i =>
  obtain ⟨t,rfl⟩:=r
  cases (show T="int" from ty)
  exact ⟨typeIs_int s i t,fun _ e=>nomatch e⟩
 | ref p =>
  cases r
  rcases ty with ⟨rfl,xs,hq⟩ | ⟨rfl,o,hk,hc,hd⟩ | ⟨rfl,hk⟩ | ⟨rfl,S,n,hk⟩
  ·obtain ⟨its,_,pl,_⟩:=I.list hq
   refine ⟨pl.isList.typeIs,fun a e=>?_⟩
   cases e
   obtain ⟨o,n,e,c,hd,_⟩:=pl
   exact ⟨o,e,hd⟩
  ·refine ⟨⟨o,I.kIn p o hk,hc⟩,fun a e=>?_⟩
   cases e
   exact ⟨o,I.kIn _ o hk,hd⟩
  ·have z:∃ o,s.heap.get? p=some o∧o.ExactDict:=by
    rcases hk with ⟨kvs,hk⟩ | ⟨kvs,hk⟩
    ·obtain ⟨_,_,_,_,o,_,_,e,ex,_⟩:=I.hok p _ hk
     exact ⟨o,e,ex⟩
    ·obtain ⟨_,_,_,_,o,_,_,e,ex,_⟩:=I.hok p _ hk
     exact ⟨o,e,ex⟩
   obtain ⟨o,e,ex⟩:=z
   refine ⟨⟨o,e,ex.1⟩,fun a e2=>?_⟩
   cases e2
   exact ⟨o,e,ex.2.1⟩
  ·obtain ⟨o,_,_,_,e,ex,_⟩:=I.hok p _ hk
   refine ⟨⟨o,e,ex.1⟩,fun a e2=>?_⟩
   cases e2
   exact ⟨o,e,ex.2.1⟩
 | _=>exact False.elim ty
def tBM (K:PySem.W.Frag) (T:String) (r:V→List V→Hp→VK→Prop) (to:TE) (t:TA):TE:=fun σ H Q=>to σ H fun x H1=>tyV K T x H1∧t σ H1 fun xs H2=>r x xs H2 Q
variable {o e:Expr} {es:List Expr} {to:TE} {t:TA} {name:Str} {apos cpos:Pos} {T id:String} {r:V→List V→Hp→VK→Prop}
theorem ZwC (pa:PlainAttrs T) (slot:Slot T name id) (hty:typeOf (.builtin id)=pure (.type "method_descriptor")) (hm:MtR X id r) (ho:PE X o to) (ha:PA X (e::es) t)
  (hbase:attributeBase o name X.env (eval o X.env)=eval o X.env:=by rfl)
  (hfew:((backTo cpos (starEach (e::es) X.env)).all (fun x=>!x.1)&&(backToKw cpos (keywordEach [] X.env)).all (fun x=>x.1.isSome)
   && decide ((e::es).length+([]:List Keyword).length+(if ([]:List Keyword).isEmpty then 0 else 1) < 30))=true:=by rfl)
  (hline:(apos.endLine==cpos.line)=true:=by rfl) (hs:starEach (e::es) X.env=(false,eval e X.env)::starEach es X.env:=by rfl) (hplain:(backTo cpos (starEach es X.env)).any (·.1)=false:=by rfl) :
  PE X (.Call (.Attribute o name apos) (e::es) [] cpos) (tBM X.K T r to t):=by
 intro pins s σ H Q I h
 refine wpAny_Call_method_late hbase hfew hline rfl (thn (ho pins s σ H _ I h) fun v s1 zz51=>?_)
 obtain ⟨x,H1,I1,r1,ty,q1⟩:=zz51
 obtain ⟨h1,h2⟩:=ZuY I1 r1 ty
 refine ⟨T,id,pa,slot,hty,h1,h2,?_⟩
 have hA:=ha cpos pins s1 σ H1 _ I1 q1
 rw [hs] at hA ⊢
 refine Calls.callWith_builtin (by show (false||(backTo cpos (starEach es X.env)).any (·.1))=false;rw [hplain] <;> rfl) (Calls.evalArgs_plain ?_)
 exact thn hA (by rintro us s2 ⟨vs,H2,I2,r2,q2⟩;exact hm pins s2 σ H2 x vs v us Q I2 r1 r2 q2)
end
end L2
namespace L2
open PySem PySem.Spec PyProof.Rows
def MtM (X:Cx) (id:String) (r:V→List V→Hp→VK→Prop):Prop :=
 ∀ (pins:List (Addr×Obj)) (s:Shared) (σ:St) (H:Hp) (x:V) (xs:List V) (v:Value) (us:List Value) (Q:VK),Inv X pins σ H s→RelV x v→Vals xs us→r x xs H Q →
  wpAny (model X.prog X.w) X.A (call (.builtin id) (v::us)) (EP X pins σ Q) X.xe s
theorem Vals.one:∀ {x:V} {us:List Value},Vals [x] us→∃ u,us=[u]∧RelV x u
 | _,_,.cons r .nil=>⟨_,rfl,r⟩
theorem Vals.two:∀ {x y:V} {us:List Value},Vals [x,y] us→∃ u v,us=[u,v]∧RelV x u∧RelV y v
 | _,_,_,.cons r (.cons q .nil)=>⟨_,_,rfl,r,q⟩
theorem Vals.zero:∀ {us:List Value},Vals [] us→us=[]
 | _,.nil=>rfl
theorem Vals.eraseIdx:∀ {xs:List V} {us:List Value} (i:Nat),Vals xs us→Vals (xs.eraseIdx i) (us.eraseIdx i)
 | _,_,_,.nil=>.nil
 | _,_,0,.cons _ t=>t
 | _,_,i+1,.cons r t=>.cons r (Vals.eraseIdx i t)
section
variable {X:Cx} {pins:List (Addr×Obj)} {σ:St} {H:Hp} {s:Shared} {l b:Addr} {xs ys zs:List V}
theorem Inv.lset {its its':List Value} {n:Nat} {f:Array Value→Array Value} {t':Nat} (I:Inv X pins σ H s) (hH:H l=some (.lst xs))
  (e:s.heap.get? l=some { cls:=.type "list",data:=.seq its.toArray n }) (hf:f its.toArray=its'.toArray) (hv:Vals ys its') (hz:ys.length≤sizeLine) :
  Inv X pins σ (upd H l (.lst ys)) { s with heap:=s.heap.update l (Obj.mapSeq f),toks:=t' }:=by
 have q:=PySem.IsL.update e f
 rw [hf] at q
 refine I.write (x:=l) (e:=l) (by rw [hH];exact trivial) (.inl rfl) (fun b' u hb hu=>(Heap.get?_update_other s.heap (Obj.mapSeq f) (Ne.symm hb)).trans hu) ⟨_,q⟩ ?_
 exact ⟨hz,its',_,hv,q⟩
theorem Inv.lnew {its:List Value} {t':Nat} (I:Inv X pins σ H s) (hv:Vals ys its) (hz:ys.length≤sizeLine) :
  Inv X pins σ (upd H s.heap.objs.size (.lst ys)) { s with heap:=s.heap.push { cls:=.type "list",data:=.seq its.toArray },toks:=t' } :=
 I.laid (fun _ _ q=>Heap.get?_push_of_some _ q) (Nat.le_refl _) ⟨hz,its,0,hv,Heap.get?_push_size _ rfl⟩
theorem Inv.fresh (I:Inv X pins σ H s):H s.heap.objs.size=none:=I.hok.fresh (Nat.le_refl _)
theorem Inv.lstM (I:Inv X pins σ H s) (hH:H l=some (.lst xs)):xs.length≤sizeLine∧∃ (its:List Value) (n:Nat),Vals xs its∧xs.length=its.length∧s.heap.get? l=some { cls:=.type "list",data:=.seq its.toArray n }:=by
 obtain ⟨z,its,n,r,e⟩:=I.hok l _ hH
 exact ⟨z,its,n,r,r.length,e⟩
theorem Zqm {n:Nat} (h:n≤sizeLine):Builtin.List.listTooLong n=false:=by
 unfold Builtin.List.listTooLong
 exact decide_eq_false (by omega)
end
section
variable {X:Cx}
def Zr3:V→List V→Hp→VK→Prop:=fun x vs H Q=>∃ l xs y,x=.ref l∧vs=[y]∧H l=some (.lst xs)∧xs.length < sizeLine∧Q .non (upd H l (.lst (xs++[y])))
theorem ZnH:MtM X "list.append" Zr3:=by
 intro pins s σ H x vs v us Q I rx rv h
 obtain ⟨l,xs,y,rfl,rfl,hH,hz,q⟩:=h
 cases rx
 obtain ⟨u,rfl,ru⟩:=rv.one
 obtain ⟨z,its,n,r,hl,e⟩:=I.lstM hH
 refine call_meets F.slot_list_append ⟨_,e,rfl⟩ F.entry_list_append (F.args_list_append_2 _ _) (PySem.list_append l its.toArray n u (by rw [List.size_toArray];omega)) ⟨e,?_⟩
 refine ⟨.non,_,I.lset (its':=its++[u]) hH e (by simp) (r.append (.cons ru .nil)) ?_,rfl,q⟩
 rw [List.length_append,List.length_singleton]
 omega
def Zsy:V→List V→Hp→VK→Prop:=fun x vs H Q=>∃ l b xs zs,x=.ref l∧vs=[.ref b]∧H l=some (.lst xs)∧H b=some (.lst zs)∧xs.length+zs.length≤sizeLine∧Q .non (upd H l (.lst (xs++zs)))
theorem ZnX:MtM X "list.extend" Zsy:=by
 intro pins s σ H x vs v us Q I rx rv h
 obtain ⟨l,b,xs,zs,rfl,rfl,hH,hB,hz,q⟩:=h
 cases rx
 obtain ⟨u,rfl,ru⟩:=rv.one
 cases ru
 obtain ⟨z,its,n,r,hl,e⟩:=I.lstM hH
 obtain ⟨z2,its2,n2,r2,hl2,e2⟩:=I.lstM hB
 have hsz:its.toArray.size+its2.toArray.size≤sizeLine:=by rw [List.size_toArray,List.size_toArray];omega
 have hlong:¬ (!its.toArray.isEmpty&&Builtin.List.listTooLong (its.toArray.size+its2.toArray.size))=true:=by
  rw [Zqm hsz,Bool.and_false]
  exact Bool.false_ne_true
 refine call_meets F.slot_list_extend ⟨_,e,rfl⟩ F.entry_list_extend (F.args_list_extend_2 _ _)
  (AutoSeq1.list_extend_list_list_0 l its.toArray n b its2.toArray n2 hlong (by rw [List.size_toArray];omega) (by omega)) ⟨e,e2,?_⟩
 refine ⟨.non,_,I.lset (its':=its++its2) hH e (by simp) (r.append r2) ?_,rfl,q⟩
 rw [List.length_append]
 omega
def Zvv:R2:=fun x y H Q=>∃ l b xs zs,x=.ref l∧y=.ref b∧H l=some (.lst xs)∧H b=some (.lst zs)∧xs.length+zs.length≤sizeLine∧∀ p,H p=none→Q (.ref p) (upd H p (.lst (xs++zs)))
theorem ZtE:OpR X (binaryOp .Add) Zvv:=by
 intro pins s σ H x y v u Q I rx ry h
 obtain ⟨l,b,xs,zs,rfl,rfl,hH,hB,hz,q⟩:=h
 cases rx
 cases ry
 obtain ⟨z,its,n,r,hl,e⟩:=I.lstM hH
 obtain ⟨z2,its2,n2,r2,hl2,e2⟩:=I.lstM hB
 refine PySem.P.add_list e e2 ?_ (by rw [List.size_toArray,List.size_toArray];omega)
 have ea:its.toArray++its2.toArray=(its++its2).toArray:=by simp
 rw [ea]
 exact ⟨.ref _,_,I.lnew (t':=s.toks) (r.append r2) (by rw [List.length_append];omega),rfl,q _ I.fresh⟩
end
section
variable {prog:Program} {w:World} {A:Around} {E:Value→Shared→Prop} {s:Shared}
end
section
variable {X:Cx}
end
end L2
namespace Att
open PySem PySem.W PySem.Calls PyProof.Rows
theorem Zip {P:Params} {h:Heap}:∀ (ns:List Int) (vs:List Value),WellAll P h vs (ns.map WData.int)→IntsAre vs ns:=by
 intro ns
 induction ns with
 | nil =>
  intro vs w
  rw [List.map_nil] at w
  cases w
  exact .nil
 | cons n ns ih =>
  intro vs w
  rw [List.map_cons] at w
  cases w with
  | cons a b =>
   cases a
   exact .cons _ _ (ih _ b)
theorem Zn8 {l:OpenLaw} {n:Nat} (hn:l.most=some n) {P:Params} {h:Heap} {args:List WData} {vals:List Value}
  (hpre:l.row.toRowW.claim.pre args=true) (hwl:WellAll P h vals args) :
  ∃ a vs ns,vals=[Value.ref a]∧args=[WData.list (ns.map WData.int)]∧h.get? a=some { cls:=.type "list",data:=.seq vs.toArray }∧IntsAre vs ns∧ns.length≤n:=by
 have hsh:WShape.hasAll [] args [.list .int]=true:=(pre_splitW hpre).1
 have hc:l.pre.holds [] { args:=args }=true:=(pre_splitW hpre).2
 obtain ⟨d,r,rfl,h1,h2⟩:=hasAllW_cons hsh
 obtain rfl:=hasAllW_nil h2
 obtain ⟨xs,rfl,h3⟩:=hasW_list h1
 obtain ⟨ns,rfl⟩:=items_int h3
 have hlen:ns.length≤n:=by
  unfold OpenLaw.pre at hc
  have h4:(WTm.not (.lt (.lit (.int (n:Int))) (.len (.arg 0)))).holds [] { args:=[.list (ns.map .int)] }=true:=by
   have h4:=(holds_andW hc).1
   rw [hn] at h4
   exact h4
  have h5:=condW_of h4 (w_not (w_lt w_lit (w_len_list (w_arg rfl))))
  rw [List.length_map] at h5
  refine Nat.le_of_not_lt fun q=>?_
  have q':(n:Int) < ((ns.length:Nat):Int):=by omega
  first
   | (rw [decide_eq_true q'] at h5;exact absurd h5 (by decide))
   | (simp at h5;omega)
 cases hwl with
 | cons w1 w2 =>
  cases w2
  cases w1 with
  | list ho hall=>exact ⟨_,_,ns,rfl,rfl,ho,Zip ns _ hall,hlen⟩
theorem ZnZ (l:OpenLaw) (args:List WData):l.row.toRowW.claim.post args (.bool true) args=true :=
 postW_of (r:=l.row.toRowW) (X:=(true==true))
  (show WShape.has [] (.bool true) .bool=true by first | rfl | decide | simp [WShape.has,WShape.arms,WShape.armsAll])
  (show (WTm.eq .res (.lit (.bool true))).value [] { args:=args,res:=some (.bool true),after:=args }=some (.bool (true==true)) from w_eq_bool (w_res rfl) w_lit) rfl
theorem attach_call {l:OpenLaw} {n:Nat} {q:Program} {loose:List Str} {XP:(Str→Option Value)→Heap→Prop} {YP:World→Heap→Prop} {d:DefRec}
  (hn:l.most=some n) (hdf:d.params.defaults=[])
  (call:∀ (w:World) (s₀ s₁:Shared) (mg mb:Str→Option Value) (fa:Addr) (o:Obj) (pm cd doc:Value) (a:Addr) (vs:List Value) (ns:List Int),
   Ground q loose [] XP w s₀ mg mb s₁.heap→YP w s₁.heap →
   s₁.heap.get? fa=some o→o.data=.func (docDef d.name d.params d.body d.scope pm cd doc)→s₁.heap.CodeRec cd d.name→mg d.name=some (.ref fa) →
   s₁.heap.get? a=some { cls:=.type "list",data:=.seq vs.toArray }→IntsAre vs ns→ns.length≤n→s₁.gens=#[] →
   codeAny (model l.prog w) callerA (.call (.ref fa) ⟨[.ref a],[]⟩) (fun r s'=>r=.ok (.ret (.bool true))∧OldK s₁.heap s'.heap∧s'.os=s₁.os∧AllBare s'.gens) s₁) :
  WalkO q loose XP YP l.row.toRowW d [] (fun f vs=>PySem.call f vs):=by
 intro w s₀ s₁ mg mb G Y fa o pm cd doc dV kV ho hd hcd hD hmg hg args vals as hpre hlay hrd hwl hlo
 obtain rfl:dV=.none:=Dflts.none hD hdf
 obtain rfl:kV=.none:=Dflts.noKw hD
 obtain ⟨a,vs,ns,rfl,rfl,hobj,hints,hlen⟩:=Zn8 hn hpre hwl
 refine enter_call (codeAny_mono (call w s₀ s₁ mg mb fa o pm cd doc a vs ns G Y ho (fd_plain hd) hcd hmg hobj hints hlen hg) fun r s' hq=>?_)
 obtain ⟨rfl,h2,h3,h4⟩:=hq
 exact ⟨.inl ⟨.bool true,.bool true,[],rfl,fun _=>rfl,.bool true,ZnZ l _,fun _=>⟨List.Pairwise.nil,fun _ hm=>(nomatch hm)⟩⟩,h2,h3,h4⟩
section
variable {prog:Program} {w:World} {A:Around} {E:Value→Shared→Prop} {s:Shared} {K:Frag}
end
end Att
namespace L2
open PySem PySem.Spec PyProof.Rows
theorem Zle:∀ {vs:List Value} {ns:List Int},IntsAre vs ns→Vals (ns.map V.int) vs
 | _,_,.nil=>.nil
 | _,_,.cons n t h=>.cons ⟨t,rfl⟩ (Zle h)
def ZvD (H:Hp):Prop:=∀ b,H b=none∨∃ o xs,H b=some (.frz o (.lst xs))
theorem ZqR {P:Program} {w:World} {K:PySem.W.Frag} {mg mb:Str→Option Value} {CX:CXT} {k:Nat} {fa a:Addr} {fd:FuncData} {x:Str} {sp:Sp} {s₁:Shared} {vs:List Value} {ns:List Int}
  (KX:K.In s₁.heap) (hns:s₁.heap.Ns mainGlobals mg) (hb:s₁.heap.Ns builtinsNs mb) (hbb:∀ x:Str,x≠"__name__"→mb x=bootBuiltins x) (hlim:s₁.heap.NoLimit) (hg:s₁.gens=#[])
  (ha:s₁.heap.get? a=some { cls:=.type "list",data:=.seq vs.toArray }) (hi:IntsAre vs ns) (hl:ns.length≤sizeLine) (hr:Room k callerA)
  (F:∀ base:Heap,K.In base→base.Ns mainGlobals mg→FnOk P w K mg base CX k fa fd [x] sp) (hbind:∀ (s:Shared) (u:Value),BindsTo s fd ⟨[u],[]⟩ [(x,u)])
  (hsp:∀ H:Hp,ZvD H→SqL K H a (ns.map V.int)→sp [.ref a] H (fun v _=>v=.bl true) fun _ _ _=>False)
  (hCX:∀ H e s',CX [] H s₁ (fun _ _ _=>False) e s'→False) :
  codeAny (model P w) callerA (.call (.ref fa) ⟨[.ref a],[]⟩) (fun r s'=>r=.ok (.ret (.bool true))∧OldK s₁.heap s'.heap∧s'.os=s₁.os∧AllBare s'.gens) s₁:=by
 have rv:=Zle hi
 have lenV:=hi.length
 have core:∀ H:Hp,ZvD H→SqL K H a (ns.map V.int)→HOk P w H s₁.heap→(∀ b,H b≠none→b=a)→(H a≠none→K.lookup a=none) →
   codeAny (model P w) callerA (.call (.ref fa) ⟨[.ref a],[]⟩) (fun r s'=>r=.ok (.ret (.bool true))∧OldK s₁.heap s'.heap∧s'.os=s₁.os∧AllBare s'.gens) s₁:=by
  intro H hO hS hok hA hK
  have base_of:∀ {b:Addr} {o:Obj},s₁.heap.get? b=some o→H b=none→(ZqW s₁.heap H).get? b=some o:=fun e n=>Zqw e n
  have noA:∀ {b:Addr} {o:Obj} {es:Array DictEntry} {ep:Nat},s₁.heap.get? b=some o→o.data=.dict es ep→H b=none:=fun {b o es ep} e d=>by
   cases q:H b with
   | none=>rfl
   | some u =>
    have e':b=a:=hA b (by rw [q];simp)
    subst e'
    rw [ha] at e;cases e
    have d':Data.seq vs.toArray _=Data.dict es ep:=d
    cases d'
  have nsK:∀ {b:Addr} {m:Str→Option Value},s₁.heap.Ns b m→(ZqW s₁.heap H).Ns b m:=fun {b m} ⟨o,es,ep,e,d,r⟩=>⟨o,es,ep,base_of e (noA e d),d,r⟩
  have hKb:K.In (ZqW s₁.heap H):=fun b o e=>base_of (KX b o e) (by
   cases q:H b with
   | none=>rfl
   | some u =>
    have e':b=a:=hA b (by rw [q];simp)
    subst e'
    rw [hK (by rw [q];simp)] at e;cases e)
  have hM:Mod K mg (ZqW s₁.heap H):=⟨hKb,nsK hns,⟨mb,nsK hb,hbb⟩,let ⟨mc,h1,h2⟩:=hlim;⟨mc,nsK h1,h2⟩⟩
  have e0:Env0 P w K mg (ZqW s₁.heap H) callerA [] s₁ H:=⟨rfl,hM,fun b o e=>ZsV e,Nat.le_of_eq (ZnJ _ _),trivial,fun b hb=>absurd (show b∈([]:List Addr) from hb) (by simp),hok,.of_eq hg⟩
  refine codeAny_mono ((F _ hKb (nsK hns)).run callerA [] s₁ H ⟨[.ref a],[]⟩ [.ref a] [.ref a] _ _ hr e0 (hbind s₁ (.ref a)) (.cons rfl .nil) (hsp H hO hS)) fun r s' h=>?_
  cases r with
  | error e=>exact (hCX H e s' h).elim
  | ok fl =>
   cases fl with
   | next=>exact False.elim h
   | brk=>exact False.elim h
   | cont=>exact False.elim h
   | ret u =>
    obtain ⟨v,H',os,bare,un,hok',r',q⟩:=h
    have q':v=.bl true:=q
    subst q'
    obtain rfl:u=Value.bool true:=r'
    refine ⟨rfl,OldK.of_keep fun b o e=>?_,os,bare⟩
    cases q:H b with
    | none=>exact un.keep b o e q (by intro z;exact absurd (show b∈([]:List Addr) from z) (by simp)) (by simp)
    | some u =>
     rcases hO b with z | ⟨ob,xs,z⟩
     ·rw [q] at z;cases z
     ·have z2:=un.frzs b ob _ z
      obtain ⟨e1,_⟩:=hok b _ z
      obtain ⟨e2,_⟩:=hok' b _ z2
      rw [e] at e1;cases e1
      exact e2
 cases hk:K.lookup a with
 | some o =>
  have e:=KX a o hk
  rw [ha] at e
  cases e
  refine core (fun _=>none) (fun _=>.inl rfl) (.inr ⟨_,vs.toArray,_,hk,rfl,rfl,rfl,by rw [List.size_toArray,lenV];exact hl,by simpa using rv⟩) (fun b u z=>by have z':(none:Option HO)=some u:=z;cases z') (fun b z=>absurd rfl z) fun z=>absurd rfl z
 | none =>
  refine core (fun b=>if b=a then some (.frz { cls:=.type "list",data:=.seq vs.toArray } (.lst (ns.map V.int))) else none) (fun b=>?_) (.inl (.inr ⟨{ cls:=.type "list",data:=.seq vs.toArray },if_pos rfl⟩)) (fun b u z=>?_) (fun b z=>?_) fun _=>hk
  ·by_cases hb:b=a
   ·exact .inr ⟨_,_,if_pos hb⟩
   ·exact .inl (if_neg hb)
  ·by_cases hb:b=a
   ·have z':=(if_pos hb).symm.trans z
    cases z'
    subst hb
    exact ⟨ha,by rw [List.length_map];exact hl,vs,_,rv,ha⟩
   ·have z':=(if_neg hb).symm.trans z
    cases z'
  ·by_cases hb:b=a
   ·exact hb
   ·exact absurd (if_neg hb) z
end L2
namespace L2
open PySem PySem.Spec PyProof.Rows
abbrev KOf {K:PySem.W.Frag} {h:Heap} (_:K.In h):PySem.W.Frag:=K
theorem Zr2 {l:PySem.W.OpenLaw} {n k:Nat} {q:Program} {loose:List Str} {XP:(Str→Option Value)→Heap→Prop} {YP:World→Heap→Prop} {d:DefRec} {K:Params→PySem.W.Frag} {CX:World→CXT} {sp:World→Sp} {x:Str}
  (hn:l.most=some n) (hn2:n≤sizeLine) (hdf:d.params.defaults=[]) (hr:Room k callerA)
  (hY:∀ (w:World) (h:Heap),YP w h→(K w.params).In h)
  (F:∀ (w:World) (mg:Str→Option Value) (fa:Addr) (h:Heap),(K w.params).In h→h.Ns mainGlobals mg→mg d.name=some (.ref fa) →
   ∃ fd:FuncData,(∀ (s:Shared) (u:Value),BindsTo s fd ⟨[u],[]⟩ [(x,u)]) ∧
    ∀ base:Heap,(K w.params).In base→base.Ns mainGlobals mg→FnOk l.prog w (K w.params) mg base (CX w) k fa fd [x] (sp w))
  (hsp:∀ (w:World) (H:Hp) (a:Addr) (ns:List Int),ns.length≤n→ZvD H→SqL (K w.params) H a (ns.map V.int)→sp w [.ref a] H (fun v _=>v=.bl true) fun _ _ _=>False)
  (hCX:∀ (w:World) (H:Hp) (s:Shared) (e:Value) (s':Shared),CX w [] H s (fun _ _ _=>False) e s'→False) :
  PySem.W.WalkO q loose XP YP l.row.toRowW d [] (fun f vs=>PySem.call f vs):=by
 refine Att.attach_call hn hdf fun w s₀ s₁ mg mb fa o pm cd doc a vs ns G Y ho hd hcd hmg hobj hints hlen hg=>?_
 have KX:=hY w _ Y
 obtain ⟨fd,hb,hF⟩:=F w mg fa _ KX G.T.g hmg
 exact ZqR KX G.T.g G.T.b G.T.builtins G.T.nolimit hg hobj hints (Nat.le_trans hlen hn2) hr hF hb (fun H hO hS=>hsp w H a ns hlen hO hS) fun H e s'=>hCX w H s₁ e s'
end L2
namespace L2
open PySem PySem.Spec PyProof.Rows
abbrev CX0:CXT:=fun _ _ _ _ _ _=>False
structure Fun (K:PySem.W.Frag) (x qual:Str) (st:Stmt) (f:Addr) (fd:FuncData):Prop where
 ex:∃ (oc:Value) (od:Option Addr) (kV doc pm:Value) (an:Option Addr) (cdv ct:Value) (osl:Array (Option Value)),
  fd=PySem.W.fnOf x qual (Zf8 st) (ZaC st) (Zac st) .none kV doc pm an cdv ct∧K.lookup f=some ⟨oc,od,.func fd,osl⟩∧PySem.W.codeIn K cdv qual=true
 kp:PySem.W.keepIn K (.ref f)=true
section
variable {P:Program} {w:World} {K:PySem.W.Frag} {mg:Str→Option Value} {base:Heap}
theorem Fun.ok {x qual:Str} {st:Stmt} {f:Addr} {fd:FuncData} {N ps:List Str} {k:Nat} {sp:Sp} (F:Fun K x qual st f fd) (S:ZaH N ps (Zac st)) (len:∀ vs H Q E,sp vs H Q E→vs.length=ps.length)
  (hbody:∀ (cdv:Value) (A:Around) (outer:List Env) (s:Shared) (H:Hp) (vs:List V) (Q:VK) (E:XK),Room k (A.deeper (envOfC qual (Zac st) s.heap.objs.size f cdv))→sp vs H Q E →
   ∃ t,PSs (ZrT CX0 P w K mg base N qual (Zac st) f cdv A outer s H E).nox (ZaC st) t∧t { nx:=fun _ H'=>Q .non H',rt:=Q } (Zix N vs) H):FnOk P w K mg base CX0 (k+1) f fd ps sp:=by
 obtain ⟨oc,od,kV,doc,pm,an,cdv,ct,osl,rfl,lk,hcd⟩:=F.ex
 refine Zsz lk hcd S len fun A outer s H vs Q E hr hsp=>?_
 obtain ⟨t,h,q⟩:=hbody cdv A outer s H vs Q E hr hsp
 exact ⟨t,h.nox,q⟩
theorem Fun.binds {x qual:Str} {st:Stmt} {f:Addr} {fd:FuncData} {ps:List Str} (F:Fun K x qual st f fd)
  (h:∀ (kV doc pm:Value) (an:Option Addr) (cdv ct:Value) (us:List Value),us.length=ps.length→bindArgs (PySem.W.fnOf x qual (Zf8 st) (ZaC st) (Zac st) .none kV doc pm an cdv ct) ⟨us,[]⟩=pure (ps.zip us)):Binds K fd ps []:=by
 obtain ⟨oc,od,kV,doc,pm,an,cdv,ct,osl,rfl,lk,hcd⟩:=F.ex
 exact .all (h kV doc pm an cdv ct)
theorem Zq7 {x qual:Str} {st:Stmt} {f:Addr} {oc:Value} {od an:Option Addr} {osl:Array (Option Value)} {kV doc pm cdv ct:Value} (l:K.lookup f=some ⟨oc,od,.func (PySem.W.fnOf x qual (Zf8 st) (ZaC st) (Zac st) .none kV doc pm an cdv ct),osl⟩)
  (c:PySem.W.codeIn K cdv qual=true) (k:PySem.W.keepIn K (.ref f)=true):Fun K x qual st f (PySem.W.fnOf x qual (Zf8 st) (ZaC st) (Zac st) .none kV doc pm an cdv ct):=⟨⟨oc,od,kV,doc,pm,an,cdv,ct,osl,rfl,l,c⟩,k⟩
end
section
variable {X:Cx}
end
theorem Zwz {c A B:Prop} [Decidable c] (h1:c→A) (h2:¬ c→B):if c then A else B:=by
 by_cases h:c
 ·rw [if_pos h]
  exact h1 h
 ·rw [if_neg h]
  exact h2 h
def Same (H H':Hp):Prop:=∀ b o,H b=some o→H' b=some o
theorem Same.refl (H:Hp):Same H H:=fun _ _ h=>h
theorem Same.trans {H H1 H2:Hp} (a:Same H H1) (b:Same H1 H2):Same H H2:=fun c o h=>b c o (a c o h)
theorem Same.free {H H':Hp} (e:Same H H') {l:Addr} (h:H' l=Option.none):H l=Option.none:=by
 cases q:H l with
 | none=>rfl
 | some o =>
  rw [e l o q] at h
  cases h
theorem Same.seq {K:PySem.W.Frag} {H H':Hp} {a:Addr} {xs:List V} (e:Same H H') (h:SqL K H a xs):SqL K H' a xs:=by
 rcases h with (h | ⟨o,h⟩) | h
 ·exact .inl (.inl (e _ _ h))
 ·exact .inl (.inr ⟨o,e _ _ h⟩)
 ·exact .inr h
end L2
set_option Elab.async false
set_option linter.all false
set_option maxRecDepth 100000
set_option maxHeartbeats 4000000
namespace L2
open PySem PySem.Spec PyProof.Rows
section
variable {prog:Program} {w:World} {A:Around} {R:Result→Shared→Prop} {s:Shared}
theorem Zf9 {elt target iter:Expr} {ifs:List Expr} {scope:Scope} {pos:Pos} {it acc:Value} {env:Env} {E':Value→Shared→Prop} (I:Nat→Shared→Prop)
  (hE:∀ e s',E' e s'→notedBy (model prog w) A env (fun e s'=>R (.error e) s') e s')
  (turn:∀ n s,I n s→wpAny (model prog w) A (pyNext it) (fun r s₁=>match r with
   | none=>R (.ok .next) s₁
   | some v=>wpAny (model prog w) A (letOwnedTupleGo target it v) (fun _ s₁'=>wpAny (model prog w) A (assign target env v) (fun _ s₂ =>
     wpAny (model prog w) A (forIn ifs true fun c r=>if r=true then do let ok ← isTrue c env (eval c env);pure (ForInStep.yield ok) else pure (ForInStep.yield r)) (fun ok s₃ =>
      if ok=true then wpAny (model prog w) A (eval elt env) (fun x s₄ =>
       wpAny (model prog w) A (call (.builtin "list.append") [acc,x]) (fun _ s₅=>∃ m,m < n∧I m s₅) E' s₄) E' s₃
      else ∃ m,m < n∧I m s₃) E' s₂) E' s₁') E' s₁) E' s)
  (n:Nat) (h:I n s) :
  codeAny (model prog w) A (.compLoop (.ListComp elt [⟨target,iter,ifs,0⟩] scope pos) 0 it acc env) R s:=by
 refine codeAny_loop rfl I (fun n s hI=>?_) n h
 show wpAny _ A ((compTurn (.ListComp elt [⟨target,iter,ifs,0⟩] scope pos) 0 it acc env).onRaise (fun x=>do noteFrame x env;theTreesLotGoes x)) _ _ s
 refine wpAny_noted ?_
 rw [compTurn_list]
 refine wpAny_bind (wpAny_standAt (wpAny_bind (wpAny_mono (turn n s hI) (fun r s₁ h₁=>?_) hE)))
 cases r with
 | none=>exact wpAny_pure h₁
 | some v =>
  refine wpAny_bind (wpAny_mono h₁ (fun _ s₁' h₁'=>?_) hE)
  refine wpAny_bind (wpAny_mono h₁' (fun _ s₂ h₂=>wpAny_bind (wpAny_mono h₂ (fun ok s₃ h₃=>?_) hE)) hE)
  cases ok with
  | false=>exact wpAny_pure ⟨rfl,h₃⟩
  | true =>
   exact wpAny_bind (wpAny_bind (wpAny_mono h₃ (fun x s₄ h₄=>wpAny_bind (wpAny_mono h₄ (fun _ s₅ h₅=>wpAny_pure (wpAny_pure ⟨rfl,h₅⟩)) hE)) hE))
end
def PF (X:Cx) (ifs:List Expr) (t:TT):Prop :=
 ∀ (pins:List (Addr×Obj)) (s:Shared) (σ:St) (H:Hp) (Q:Bool→Hp→Prop),Inv X pins σ H s→t σ H Q →
  wpAny (model X.prog X.w) X.A (forIn ifs true fun c r=>if r=true then do let ok ← isTrue c X.env (eval c X.env);pure (ForInStep.yield ok) else pure (ForInStep.yield r)) (TP X pins σ Q) X.xe s
def Zxe:TT:=fun _ H Q=>Q true H
theorem Zvo {X:Cx}:PF X [] Zxe:=fun _ _ _ H _ I h=>wpAny_tests_nil ⟨H,I,h⟩
theorem ZtA {X:Cx} {c:Expr} {t:TT} (hc:PT X c t):PF X [c] t:=fun pins s σ H Q I h=>wpAny_tests_one (hc pins s σ H Q I h)
def cxB (X:Cx) (Nc:List Str) (scope:Scope) (cl:List (Str×Addr)) (C:Addr) (fp:List Addr) (s:Shared) (H:Hp):Cx :=
 { X with N:=Nc,s₀:=s,H₀:=H,env:=compEnvC scope cl C X.env,outer:=X.stack,ex:=fp,fn:=fun _=>false,pn:=[],xe:=fun _ _=>False }
structure Blk (X:Cx) (Nc:List Str) (scope:Scope) (cl:List (Str×Addr)) (cap:St→St):Prop where
 clos:closureFor scope X.env=pure cl
 kind:scope.kind=.function
 names:∀ x∈scope.names,x.2=.local→scope.names.lookup x.1=some .local
 nocell:∀ y∈scope.names,y.2≠.cell
 sub:∀ y c,cl.lookup y=some c→X.env.cells.lookup y=some c
 has:∀ y,((relabel scope X.env).names.lookup y=some .cell∨(relabel scope X.env).names.lookup y=some .free)→∃ c,cl.lookup y=some c
 take:∀ (σ:St) (i:Nat) (y:Str) (v:V),Nc[i]?=some y→(cap σ)[i]?=some (some v)→Vis (relabel scope X.env) y →
  ((relabel scope X.env).names.lookup y=some .cell∨(relabel scope X.env).names.lookup y=some .free)∧Vis X.env.scope y∧X.env.scope.names.lookup y≠some .local∧∃ j:Nat,X.N[j]?=some y∧σ[j]?=some (some v)
 len:∀ σ:St,(cap σ).length=Nc.length
theorem ZiF {scope:Scope} {env:Env} (h:∀ y∈scope.names,y.2≠.free):relabel scope env=scope:=by
 unfold relabel
 rw [map_eq_self (l:=scope.names) (fun x hx=>by
  obtain ⟨n,k⟩:=x
  have:(k==NameKind.free)=false:=by simpa using h _ hx
  simp [this])]
theorem Zgj {names:List (Str×NameKind)} {x:Str} {k:NameKind} (h:names.lookup x=some k):(x,k)∈names:=PySem.mem_of_lookup h
theorem ZqD {X:Cx} {Nc:List Str} {scope:Scope} (kind:scope.kind=.function) (all:∀ y∈scope.names,y.2≠.free∧y.2≠.cell) (names:∀ x∈scope.names,x.2=.local→scope.names.lookup x.1=some .local) :
  Blk X Nc scope [] (fun _=>List.replicate Nc.length none) where
 clos:=closureFor_none fun x hx=>(all x hx).1
 kind:=kind
 names:=names
 nocell:=fun y hy=>(all y hy).2
 sub:=fun y c h=>by cases h
 has:=fun y h=>by
  rw [ZiF fun z hz=>(all z hz).1] at h
  rcases h with h | h
  ·exact absurd rfl (all _ (Zgj h)).2
  ·exact absurd rfl (all _ (Zgj h)).1
 take:=fun σ i y v h1 h2 h3=>by
  rw [List.getElem?_replicate] at h2
  split at h2 <;> cases h2
 len:=fun σ=>List.length_replicate ..
def cOk (cap:St→St) (g:TG) (tt:TT) (te:TE) (K:List V→Hp→Prop) (σ:St) (J:It) (H1:Hp):Prop :=
 ∃ W:Nat→Nat→St→Hp→List V→Prop,(∃ m,W 0 m (cap σ) H1 [])∧∀ i m σ' H' ys,W i m σ' H' ys →
  (J.stop i H'∧K ys H') ∨
  (J.go i H'∧ys.length < sizeLine∧∃ N:St→Hp→List V→Prop,(∀ σ2 H2 ys2,N σ2 H2 ys2→∃ m',m' < m∧W (i+1) m' σ2 H2 ys2) ∧
   ∀ x H2,J.yld i H' x H2→g x σ' H2 fun σ3 H3=>tt σ3 H3 fun b H4=>if b=true then te σ3 H4 fun y H5=>N σ3 H5 (ys++[y]) else N σ3 H4 ys)
def Zqx (wi:TI) (cap:St→St) (g:TG) (tt:TT) (te:TE):TE:=fun σ H Q=>wi σ H fun J H1=>cOk cap g tt te (fun ys H'=>∀ a,H' a=none→Q (.ref a) (upd H' a (.lst ys))) σ J H1
section
variable {X:Cx} {elt tg iter:Expr} {ifs:List Expr} {scope:Scope} {pos:Pos} {g:TG} {tt:TT} {te:TE} {Nc:List Str} {cap:St→St} {cl:List (Str×Addr)}
theorem Zi8 (hc:X.calm=true) (B:Blk X Nc scope cl cap) (hg:∀ C fp s H,PG (cxB X Nc scope cl C fp s H) tg g) (ht:∀ C fp s H,PF (cxB X Nc scope cl C fp s H) ifs tt) (he:∀ C fp s H,PE (cxB X Nc scope cl C fp s H) elt te)
  {pins:List (Addr×Obj)} {σ:St} {H2:Hp} {s2:Shared} {E:Value→Shared→Prop} {RR:Value→Addr→Result→Shared→Prop} {J:It} {fp:List Addr} {it:Addr} {tn:Nat→Heap→Prop} {K:List V→Hp→Prop}
  (I2:Inv X pins σ H2 s2) (T:ZrH X.prog X.w X.K tg J fp it tn) (st2:tn 0 s2.heap) (f2:∀ b∈fp,ZoU X pins H2 b) (w2:cOk cap g tt te K σ J H2)
  (fin:∀ (D C:Addr) (s':Shared) (H':Hp) (ys:List V) (oC:Obj),H' D=none→K ys H'→Inv X pins σ (upd H' D (.lst ys)) s'→ZoU X pins (upd H' D (.lst ys)) C→s'.heap.get? C=some oC→(∀ v,oC.data≠.cell v)→(∃ m,s'.heap.Ns C m)→RR (.ref D) C (.ok .next) s') :
  wpAny (model X.prog X.w) X.A (newList []) (fun acc s₃=>wpAny (model X.prog X.w) X.A (newFunctionEnv scope X.env.globals cl [] X.env.qual none .none (some X.env)) (fun cenv s₄ =>
   codeAny (model X.prog X.w) X.A (.compStart (.ListComp elt [⟨tg,iter,ifs,0⟩] scope pos) 0 (.ref it) acc { cenv with scope:=relabel scope X.env }) (RR acc cenv.locals) s₄) E s₃) E s2:=by
 refine wpAny_newObj_type (wpAny_newFunctionEnv B.nocell (by intro y hy;simp at hy) (fun h₁ hns₁ hsb₁=>?_) B.kind)
 dsimp only at hns₁ hsb₁ ⊢
 generalize hP2:s2.heap.push { cls:=.type "list",dict:=none,data:=.seq ([]:List Value).toArray }=P2 at hns₁ hsb₁ ⊢
 generalize hDD:s2.heap.objs.size=D at hns₁ hsb₁ ⊢
 have hCs:P2.objs.size=D+1:=by rw [← hP2,Heap.size_push,hDD]
 generalize hCC:P2.objs.size=C at hns₁ hsb₁ hCs ⊢
 have hDC:D≠C:=Nat.ne_of_lt (by rw [hCs];exact Nat.lt_succ_self _)
 have ltC:∀ b:Addr,b < D→b≠C:=fun b h=>Nat.ne_of_lt (by rw [hCs];exact Nat.lt_succ_of_lt h)
 have leC:D≤C:=by rw [hCs];exact Nat.le_succ _
 have old:∀ b o,s2.heap.get? b=some o→h₁.get? b=some o:=fun b o e=>by
  have hb:=Heap.lt_size e
  rw [hDD] at hb
  refine hsb₁.extBut b o (ltC b hb) (Heap.get?_push_of_some _ ?_)
  rw [← hP2]
  exact Heap.get?_push_of_some _ e
 have hacc:h₁.get? D=some { cls:=.type "list",data:=.seq #[] }:=by
  refine hsb₁.extBut D _ hDC (Heap.get?_push_of_some _ ?_)
  rw [← hP2,← hDD]
  exact Heap.get?_push_size _ rfl
 have lt2:∀ b o,s2.heap.get? b=some o→b < D:=fun b o e=>by rw [← hDD];exact Heap.lt_size e
 have fplt:∀ b∈fp,b < D:=fun b hb=>by
  obtain ⟨o,e,_⟩:=T.obj _ _ st2 b hb
  exact lt2 b o e
 have celt:∀ x c,X.env.cells.lookup x=some c→c < D:=fun x c e=>by
  obtain ⟨v,z⟩:=I2.cell x c e
  rw [← hDD]
  exact z.lt
 have pinlt:∀ p∈X.pn++pins,p.1 < D:=fun p hp=>lt2 _ _ (I2.pin p hp).1
 have fstk:∀ b∈fp,b∉frs X.stack:=fun b hb z=>(List.mem_cons.mp (I2.stkSub b z)).elim (f2 b hb).2.1 (f2 b hb).2.2.1
 have hDn:H2 D=none:=I2.hok.fresh (by rw [hDD];exact Nat.le_refl _)
 have hCn:H2 C=none:=I2.hok.fresh (by rw [hDD];exact leC)
 have sz0:X.s₀.heap.objs.size≤D:=by rw [← hDD];exact I2.sz
 let Xc:=cxB X Nc scope cl C fp s2 H2
 have okc:Xc.Ok:=by
  refine ⟨I2.ok.mod,?_,I2.ok.glob,I2.ok.blt,?_,fun x y c h1 h2=>I2.ok.inj x y c (B.sub x c h1) (B.sub y c h2),fun x hx=>B.has x hx,(fun x c h=>by cases h),I2.ok.hd,I2.ok.frames,.inl rfl,?_,I2.bs,Nat.le_trans I2.ok.bsz I2.sz,?_,fstk,I2.stack,I2.stkFree⟩
  ·exact B.kind
  ·show s2.heap.objs.size≤C
   rw [hDD];exact leC
  ·intro b hb
   refine ⟨?_,fun x c e=>?_⟩
   ·exact ltC b (fplt b hb)
   ·exact (f2 b hb).2.2.2.2.1 x c (B.sub x c e)
  ·intro b o e hb
   rcases (f2 b hb).2.2.2.1 with z | z
   ·exact I2.ok.noex b o e z
   ·exact absurd (Nat.lt_of_lt_of_le (Heap.lt_size (I2.ok.bs b o e).1) z) (Nat.lt_irrefl _)
 have I0:∀ tk,Inv Xc (X.pn++pins) (cap σ) H2 { s2 with heap:=h₁,toks:=tk }:=fun tk=>by
  refine ⟨okc,rfl,I2.bare,Un.kept old,⟨_,hns₁,fun i y v h1 h2 h3=>?_⟩,fun x c e=>?_,hCn,fun x c e=>I2.freeC x c (B.sub x c e),fun p hp=>?_,I2.hok.kept old,B.len σ⟩
  ·obtain ⟨k1,k2,k3,j,k4,k5⟩:=B.take σ i y v h1 h2 h3
   obtain ⟨m,hn,hl⟩:=I2.loc
   obtain ⟨u,r,l⟩:=hl j y v k4 k5 k2
   refine ⟨u,r,.inr ⟨k1,?_⟩⟩
   rcases l with ⟨l,_⟩ | ⟨_,c,e,z⟩
   ·exact absurd l k3
   ·obtain ⟨c',e'⟩:=B.has y k1
    have:=B.sub y c' e'
    rw [e] at this;cases this
    obtain ⟨oc,ec,dc⟩:=z
    exact ⟨c,e',oc,old _ _ ec,dc⟩
  ·obtain ⟨v,oc,ec,dc⟩:=I2.cell x c (B.sub x c e)
   exact ⟨v,oc,old _ _ ec,dc⟩
  ·have hp':p∈X.pn++pins:=by simpa [Xc,cxB] using hp
   obtain ⟨e,n,ne,nf,d⟩:=I2.pin p hp'
   exact ⟨old _ _ e,n,ltC _ (pinlt p hp'),fun z=>(List.mem_cons.mp (I2.stkSub _ z)).elim ne nf,d⟩
 have fpc:∀ {H':Hp} {o:Obj},(∀ b∈fp,H' b=none)→∀ b∈fp,ZoU Xc ((X.pn++pins)++[(D,o)]) H' b:=fun {H' o} hn b hb=>by
  refine ⟨hn b hb,ltC b (fplt b hb),fstk b hb,.inl hb,fun x c e=>(f2 b hb).2.2.2.2.1 x c (B.sub x c e),fun p hp=>?_⟩
  ·have hp':p∈X.pn++pins∨p=(D,o):=by
    rcases List.mem_append.mp hp with z | z
    ·cases z
    ·rcases List.mem_append.mp z with z | z
     ·exact .inl z
     ·exact .inr (List.mem_singleton.mp z)
   rcases hp' with z | z
   ·exact (f2 b hb).2.2.2.2.2 p z
   ·subst z
    exact Nat.ne_of_gt (fplt b hb)
 obtain ⟨W,⟨m0,w0⟩,turn⟩:=w2
 have loop:∀ tk,codeAny (model X.prog X.w) X.A (.compLoop (.ListComp elt [⟨tg,iter,ifs,0⟩] scope pos) 0 (.ref it) (.ref D) Xc.env) (RR (.ref D) C) { s2 with heap:=h₁,toks:=tk }:=by
  intro tk
  refine Zf9 (E':=fun _ _=>False)
   (fun n s'=>∃ (i:Nat) (σ':St) (H':Hp) (ys:List V) (its:List Value) (k:Nat),Inv Xc (X.pn++pins) σ' H' s'∧tn i s'.heap∧(∀ b∈fp,H' b=none)∧H' D=none∧s'.heap.get? D=some { cls:=.type "list",data:=.seq its.toArray k } ∧
    Vals ys its∧ys.length≤sizeLine∧W i n σ' H' ys) (fun _ _ z=>z.elim) ?_ m0
   ⟨0,cap σ,H2,[],[],0,I0 tk,T.keep _ _ _ st2 fun b _ o e=>old b o e,fun b hb=>(f2 b hb).1,hDn,hacc,.nil,Nat.zero_le _,w0⟩
  rintro n s3 ⟨i,σ3,H3,ys,its,k,I3,st3,fr3,hD3,o3,rv3,hz3,w3⟩
  have I3':Inv Xc ((X.pn++pins)++[(D,{ cls:=.type "list",data:=.seq its.toArray k })]) σ3 H3 s3:=I3.pins_of fun p hp=>by
   have hp':p∈X.pn++pins∨p=(D,{ cls:=.type "list",data:=.seq its.toArray k }):=by
    rcases List.mem_append.mp hp with z | z
    ·exact .inl z
    ·exact .inr (List.mem_singleton.mp z)
   rcases hp' with z | z
   ·exact I3.pin p (by simpa [Xc,cxB] using z)
   ·subst z
    refine ⟨o3,hD3,hDC,fun z=>?_,(fun v z=>by cases z)⟩
    ·obtain ⟨_,o,ho,_⟩:=I2.stack.mem z
     exact absurd (lt2 _ _ ho) (Nat.lt_irrefl _)
  rcases turn i n σ3 H3 ys w3 with ⟨stop,qn⟩ | ⟨go,hlt,N,hN,step⟩
  ·refine thn (T.done Xc rfl rfl rfl hc i _ s3 σ3 H3 _ I3' (fpc fr3) st3 stop) fun r s4 zz1=>?_
   obtain ⟨hr,I4⟩:=zz1
   subst hr
   have pD:=I4.pin (D,{ cls:=.type "list",data:=.seq its.toArray k }) (by simp)
   obtain ⟨m4,hn4,_⟩:=I4.loc
   obtain ⟨oC,es,ep,eC,dC,rC⟩:=id hn4
   have hD4:H3 D=none:=hD3
   have hC4:H3 C=none:=I4.free
   have hupd:∀ b u,H3 b=some u→upd H3 D (.lst ys) b=some u:=fun b u e=>by rw [Zbd (Zc1 e hD4)];exact e
   have un:Un (frs X.stack) fp H2 (upd H3 D (.lst ys)) s2.heap s4.heap:=by
    have u:=I4.base
    refine ⟨u.keep,u.slot,fun b o e n hx=>?_,u.there,fun b xs e=>hupd _ _ (u.tups b xs e),fun b o v e=>hupd _ _ (u.frzs b o v e),fun b ps e=>?_⟩
    ·rw [Zbd (Nat.ne_of_lt (lt2 b o e))]
     exact u.free b o e n hx
    ·obtain ⟨more,q⟩:=u.tbls b ps e
     exact ⟨more,hupd _ _ q⟩
   have hok:HOk X.prog X.w (upd H3 D (.lst ys)) s4.heap:=fun b u e=>by
    by_cases hb:b=D
    ·subst hb
     rw [ZbX] at e;cases e
     exact ⟨hz3,its,k,rv3,pD.1⟩
    ·rw [Zbd hb] at e
     exact (I4.hok b u e).stay (fun _ _ _ q=>q) (fun c q=>hupd _ _ q) fun c xs q=>hupd _ _ q
   have I5:Inv X pins σ (upd H3 D (.lst ys)) s4:=I2.call' (ch:=fp) I4.os un hok I4.bare fun b hb=>⟨(f2 b hb).2.2.2.1,(f2 b hb).2.1,(f2 b hb).2.2.2.2.1,(f2 b hb).2.2.2.2.2⟩
   refine fin D C s4 H3 ys oC hD4 qn I5 ⟨?_,?_,fun z=>?_,.inr (Nat.le_trans sz0 leC),fun x c e=>?_,fun p hp=>?_⟩ eC (fun v z=>by rw [dC] at z;cases z) ⟨m4,hn4⟩
   ·rw [Zbd (Ne.symm hDC)];exact hC4
   ·have:=I2.lt
    rw [hDD] at this
    exact Ne.symm (ltC _ this)
   ·exact I2.nofs (a:=C) (by rw [hDD];exact leC) z
   ·exact ltC _ (celt x c e)
   ·exact ltC _ (pinlt p hp)
  ·refine thn (T.item Xc rfl rfl rfl hc i _ s3 σ3 H3 _ I3' (fpc fr3) st3 go) fun r s4 zz2=>?_
   obtain ⟨u,hr,h4⟩:=zz2
   subst hr
   refine thn h4 fun _ s5 zz3=>?_
   obtain ⟨x,H5,I5,r5,y5,st5,fr5⟩:=zz3
   have I5':=I5.pinned (fpc fr5) (T.obj _ _ st5)
   refine thn (hg C fp s2 H2 _ s5 σ3 H5 x u _ I5' r5 (step x H5 y5)) fun _ s6 zz4=>?_
   obtain ⟨σ6,H6,I6,q6⟩:=zz4
   refine thn (ht C fp s2 H2 _ s6 σ6 H6 _ I6 q6) fun ok s7 zz5=>?_
   obtain ⟨H7,I7,q7⟩:=zz5
   have again:∀ {σ8:St} {H8:Hp} {s8:Shared},Inv Xc (((X.pn++pins)++[(D,{ cls:=.type "list",data:=.seq its.toArray k })])++Zi4 fp s5.heap) σ8 H8 s8 →
     tn (i+1) s8.heap∧(∀ b∈fp,H8 b=none)∧s8.heap.get? D=some { cls:=.type "list",data:=.seq its.toArray k }∧H8 D=none:=fun {σ8 H8 s8} I8=>by
    refine ⟨T.keep _ _ _ st5 fun b hb o e=>(I8.pin (b,o) (List.mem_append_right _ (List.mem_append_right _ (ZeM hb e)))).1,fun b hb=>?_,?_⟩
    ·obtain ⟨o,e,d⟩:=T.obj _ _ st5 b hb
     exact (I8.pin (b,o) (List.mem_append_right _ (List.mem_append_right _ (ZeM hb e)))).2.1
    ·have:=I8.pin (D,{ cls:=.type "list",data:=.seq its.toArray k }) (by simp)
     exact ⟨this.1,this.2.1⟩
   cases ok with
   | false =>
    rw [if_neg Bool.false_ne_true] at q7 ⊢
    obtain ⟨m',hm,w7⟩:=hN _ _ _ q7
    obtain ⟨t7,f7,o7,d7⟩:=again I7
    exact ⟨m',hm,i+1,σ6,H7,ys,its,k,I7.unpinned.unpinned,t7,f7,d7,o7,rv3,hz3,w7⟩
   | true =>
    rw [if_pos rfl] at q7 ⊢
    refine thn (he C fp s2 H2 _ s7 σ6 H7 _ I7 q7) fun y s8 zz6=>?_
    obtain ⟨yv,H8,I8,r8,q8⟩:=zz6
    obtain ⟨m',hm,w8⟩:=hN _ _ _ q8
    obtain ⟨t8,f8,o8,d8⟩:=again I8
    have hlen:=rv3.length
    refine wpAny_list_append_plain (s:=s8) (items:=its.toArray) ⟨k,o8⟩ (fun h9 zz7 sb9=>?_) (by rw [List.size_toArray];omega)
    obtain ⟨k9,l9⟩:=zz7
    have I9:Inv Xc (X.pn++pins) σ6 H8 { s8 with heap:=h9 }:=by
     refine I8.unpinned.unpinned.turned (t':=s8.toks) (fun b o hb e=>(sb9.2 b hb).trans e) d8 ?_ (.inr ?_) (fun x c e=>?_) fun p hp=>?_
     ·exact hDC
     ·show s2.heap.objs.size≤D
      rw [hDD];exact Nat.le_refl _
     ·exact Nat.ne_of_lt (celt x c (B.sub x c e))
     ·exact Nat.ne_of_lt (pinlt p (by simpa [Xc,cxB] using hp))
    refine ⟨m',hm,i+1,σ6,H8,ys++[yv],its++[y],k9,I9,?_,f8,d8,?_,rv3.append (.cons r8 .nil),?_,w8⟩
    ·refine T.keep _ _ _ t8 fun b hb o e=>?_
     exact (sb9.2 b (Nat.ne_of_lt (fplt b hb))).trans e
    ·rw [l9]
     simp
    ·rw [List.length_append,List.length_singleton]
     omega
 have env_eq:Xc.env=compEnvC scope cl C X.env:=rfl
 exact codeAny_compStart_list (loop _) (T.self _ 0 _ _ _ (T.keep _ _ _ st2 fun b _ o e=>old b o e) (loop _))
theorem Zpm {wi:TI} (hc:X.calm=true) (hi:PI X tg iter wi) (B:Blk X Nc scope cl cap) (hg:∀ C fp s H,PG (cxB X Nc scope cl C fp s H) tg g) (ht:∀ C fp s H,PF (cxB X Nc scope cl C fp s H) ifs tt) (he:∀ C fp s H,PE (cxB X Nc scope cl C fp s H) elt te)
  (hs:∀ x,foldedSetIterable iter X.env x=pure x:=by intro _;rfl):PE X (.ListComp elt [⟨tg,iter,ifs,0⟩] scope pos) (Zqx wi cap g tt te):=by
 intro pins s σ H Q I h
 rw [eval_ListComp]
 refine wpAny_comprehension_free (use:=none) rfl hs B.clos B.kind B.names (thn (hi pins s σ H _ I h) fun v s1 h1=>thn h1 fun itv s2 h2=>?_)
 obtain ⟨it,fp,tn,J,H2,e,I2,T,st2,f2,w2⟩:=h2
 subst e
 refine Zi8 (RR:=fun acc C=>compPost (model X.prog X.w) X.A X.xe none (EP X pins σ Q) acc C) hc B hg ht he I2 T st2 f2 w2 ?_
 intro D C s' H' ys oC hD q I' F eC dC ⟨m,hn⟩
 obtain ⟨f0,f1,_,f3,f4,f5⟩:=F
 exact ⟨m,hn,fun h' sb=>⟨.ref D,_,I'.turned (t':=s'.toks) (fun b o hb e=>(sb.2 b hb).trans e) f0 f1 f3 f4 f5,rfl,q D hD⟩⟩
theorem Znz {wi:TI} {i:Nat} {x:Str} {pos' spos:Pos} (hN:X.N.Nodup) (hix:X.N[i]?=some x) (hx:X.env.scope.names.lookup x=some .local) (hsw:swapsWith (.ListComp elt [⟨tg,iter,ifs,0⟩] scope pos) (some (.Name x pos')) spos.line X.env=pure true)
  (hc:X.calm=true) (hi:PI X tg iter wi) (B:Blk X Nc scope cl cap) (hg:∀ C fp s H,PG (cxB X Nc scope cl C fp s H) tg g) (ht:∀ C fp s H,PF (cxB X Nc scope cl C fp s H) ifs tt) (he:∀ C fp s H,PE (cxB X Nc scope cl C fp s H) elt te)
  (hs:∀ x,foldedSetIterable iter X.env x=pure x:=by intro _;rfl):PS X (.Assign [.Name x pos'] (.ListComp elt [⟨tg,iter,ifs,0⟩] scope pos) spos) (Zv6 (Zqx wi cap g tt te) (Zga i)):=by
 intro pins s σ H D0 I h
 rw [exec_Assign_Name_used _ _ _ _ hsw]
 refine wpAny_bind (wpAny_standAt (wpAny_bind ?_))
 show wpAny _ X.A (do let _ ← comprehension (.ListComp elt [⟨tg,iter,ifs,0⟩] scope pos) scope X.env _ (newList []) false (eval iter X.env) (some (assign (.Name x pos') X.env))) _ _ s
 refine wpAny_bind (wpAny_mono (wpAny_comprehension_free (use:=some (assign (.Name x pos') X.env)) (Q:=fun _ s'=>SP X pins D0 .next s') rfl hs B.clos B.kind B.names
  (thn (hi pins s σ H _ I h) fun v s1 h1=>thn h1 fun itv s2 h2=>?_)) (fun _ s' hq=>wpAny_pure (wpAny_pure hq)) fun _ _ e=>e)
 obtain ⟨it,fp,tn,J,H2,e,I2,T,st2,f2,w2⟩:=h2
 subst e
 refine Zi8 (RR:=fun acc C=>compPost (model X.prog X.w) X.A X.xe (some (assign (.Name x pos') X.env)) (fun _ s'=>SP X pins D0 .next s') acc C) hc B hg ht he I2 T st2 f2 w2 ?_
 intro D C s' H' ys oC hD q I' F eC dC ⟨m,hn⟩
 obtain ⟨f0,f1,f2',f3,f4,f5⟩:=F
 have Ip:Inv X (pins++Zi4 [C] s'.heap) σ (upd H' D (.lst ys)) s':=I'.pinned (fp:=[C]) (fun b hb=>by
  have e:b=C:=by simpa using hb
  subst e
  exact ⟨f0,f1,f2',f3,f4,f5⟩) fun b hb=>by
   have e:b=C:=by simpa using hb
   subst e
   exact ⟨oC,eC,dC⟩
 show wpAny _ X.A (assign (.Name x pos') X.env (.ref D)) _ _ _
 refine wpAny_assign_Name (ZhG Ip hN hix (.inl hx) (v:=.ref D) rfl (fun s3 I3=>?_) (.inr hx))
 have pC:=I3.pin (C,oC) (List.mem_append_right _ (List.mem_append_right _ (ZeM (by simp) eC)))
 obtain ⟨oC',es,ep,eC',dC',rC'⟩:=hn
 rw [eC] at eC';cases eC'
 refine ⟨m,⟨oC,es,ep,pC.1,dC',rC'⟩,fun h' sb=>⟨_,_,I3.unpinned.turned (t':=s3.toks) (fun b o hb e=>(sb.2 b hb).trans e) f0 f1 f3 f4 f5,q D hD⟩⟩
end
end L2
namespace L2
open PySem PySem.Spec PyProof.Rows
theorem ObjOk.at {P:Program} {w:World} {H:Hp} {h:Heap} {a:Addr} {o:HO} (x:ObjOk P w H h a o):∃ u,h.get? a=some u:=by
 cases o with
 | lst xs=>obtain ⟨_,_,_,_,e⟩:=x;exact ⟨_,e⟩
 | tup xs=>obtain ⟨_,_,_,ob,e,_⟩:=x;exact ⟨_,e⟩
 | dK kvs=>obtain ⟨_,_,_,_,o,_,_,e,_⟩:=x;exact ⟨_,e⟩
 | dT kvs=>obtain ⟨_,_,_,_,o,_,_,e,_⟩:=x;exact ⟨_,e⟩
 | set S n=>obtain ⟨o,_,_,_,e,_⟩:=x;exact ⟨_,e⟩
 | ins C dx fs=>obtain ⟨_,_,_,e,_⟩:=x;exact ⟨_,e⟩
 | own y=>obtain ⟨_,e⟩:=x;exact ⟨_,e⟩
 | xd fs=>obtain ⟨_,⟨_,_,_,e,_⟩,_⟩:=x;exact ⟨_,e⟩
 | rng lo hi=>obtain ⟨_,_,_,e⟩:=x;exact ⟨_,e⟩
 | frz ob u=>obtain ⟨e,_⟩:=x;exact ⟨_,e⟩
 | tbl ps=>exact ⟨_,(show h.get? a=some _ from x)⟩
 | met f y=>exact ⟨_,(show h.get? a=some _ from x)⟩
 | ext φ=>obtain ⟨_,⟨_,e⟩,_⟩:=x;exact ⟨_,e⟩
structure Fly (P:Program) (w:World) (outer:List Env) (H0:Hp) (s0:Shared) (H':Hp) (e C:Addr) (s':Shared):Prop where
 os:s'.os=s0.os
 bare:AllBare s'.gens
 un:Un (frs outer) [] H0 H' s0.heap s'.heap
 hok:HOk P w H' s'.heap
 fly:∃ (B:Heap) (a0:Value),Heap.FlyingW B outer e (.ref C) a0 s'.heap∧∀ b,b∉frs outer→((∃ o,s0.heap.get? b=some o)∨H' b≠none)→∃ o,B.get? b=some o
 new:s0.heap.get? e=none
 free:H' e=none
def CXe (P:Program) (w:World):CXT:=fun outer H0 s0 E ev s'=>∃ (e C:Addr) (H':Hp),ev=.ref e∧Fly P w outer H0 s0 H' e C s'∧E (.ref C) none H'
section
variable {X:Cx} {pins:List (Addr×Obj)} {σ:St} {H H':Hp} {s s':Shared} {e C:Addr}
end
section
variable {P:Program} {w:World} {K:PySem.W.Frag} {mg:Str→Option Value} {base:Heap} {N:List Str} {qual:Str} {scope:Scope} {f:Addr} {cd:Value} {A:Around} {outer:List Env} {s:Shared} {H:Hp} {E:XK}
end
theorem Inv.track {X:Cx} {pins:List (Addr×Obj)} {σ:St} {H:Hp} {s:Shared} {e:Addr} {o:HO} (I:Inv X pins σ H s) (hn:H e=none) (hL:e≠X.env.locals) (hc:∀ x c,X.env.cells.lookup x=some c→c≠e) (hp:∀ p∈X.pn++pins,p.1≠e)
  (h0:X.s₀.heap.get? e=none) (ok:ObjOk X.prog X.w (upd H e o) s.heap e o):Inv X pins σ (upd H e o) s:=by
 have hupd:∀ b u,H b=some u→upd H e o b=some u:=fun b u z=>by rw [Zbd (Zc1 z hn)];exact z
 refine ⟨I.ok,I.os,I.bare,⟨I.base.keep,I.base.slot,fun b ob z n hx=>?_,I.base.there,fun b xs z=>hupd _ _ (I.base.tups b xs z),fun b ob u z=>hupd _ _ (I.base.frzs b ob u z),fun b ps z=>?_⟩,I.loc,I.cell,?_,fun x c z=>?_,fun p z=>?_,fun b u z=>?_,I.len⟩
 ·rw [Zbd (fun q=>by rw [q,h0] at z;cases z)]
  exact I.base.free b ob z n hx
 ·obtain ⟨more,q⟩:=I.base.tbls b ps z
  exact ⟨more,hupd _ _ q⟩
 ·rw [Zbd (Ne.symm hL)];exact I.free
 ·rw [Zbd (hc x c z)];exact I.freeC x c z
 ·obtain ⟨q1,q2,q3⟩:=I.pin p z
  exact ⟨q1,by rw [Zbd (hp p z)];exact q2,q3⟩
 ·by_cases hb:b=e
  ·subst hb
   rw [ZbX] at z;cases z
   exact ok
  ·rw [Zbd hb] at z
   exact (I.hok b u z).stay (fun _ _ _ q=>q) (fun c q=>hupd _ _ q) fun c xs q=>hupd _ _ q
def Zwf (e C:Addr):Heap→Prop:=fun h=>∃ ox,h.get? e=some ox∧ox.cls=.ref C
def Zlz (CX:CXT) (X:Cx) (Eσ:St→XK):Prop:=∀ (pins:List (Addr×Obj)) (σ:St) (H:Hp) (s:Shared) (e:Value) (s':Shared),Inv X pins σ H s→CX X.stack H s (Eσ σ) e s'→X.xe e s'
def Zq8 (sp:Sp) (dvs:List V) (Eσ:St→XK) (t:TA):TE:=fun σ H Q=>t σ H fun vs H1=>sp (vs++dvs) H1 Q (Eσ σ)
section
variable {X:Cx} {CX:CXT} {k:Nat} {f:Addr} {fd:FuncData} {ps:List Str} {sp:Sp} {dvs:List V} {ds:List Value} {Eσ:St→XK} {x:Str} {p pos:Pos} {e:Expr} {es:List Expr} {t:TA}
theorem ZpH (F:FnOk X.prog X.w X.K X.mg X.base CX k f fd ps sp) (hr:Room k X.A) (hg:Gl X x) (hm:X.mg x=some (.ref f)) (hk:PySem.W.keepIn X.K (.ref f)=true) (hb:Binds X.K fd ps ds) (hd:Vals dvs ds) (hx:Zlz CX X Eσ)
  (ha:PA X (e::es) t) (hdb:(x==("__debug__":Str))=false:=by decide) (he:starEach (e::es) X.env=(false,eval e X.env)::starEach es X.env:=by rfl) (hpl:(backTo pos (starEach es X.env)).any (·.1)=false:=by rfl) :
  PE X (.Call (.Name x p) (e::es) [] pos) (Zq8 sp dvs Eσ t):=by
 intro pins s σ H Q I h
 refine wpAny_Call_Name_kw (ZlX I hg hm ?_ hdb)
 refine PySem.W.callWith_K (h₀:=X.base) I.ok.mod.kin hk (thn (ha pos pins s σ H _ I h) fun us s1 ⟨vs,H1,I1,r,q⟩=>⟨I1.kIn,?_⟩) he hpl
 have r2:Vals (vs++dvs) (us++ds):=r.append hd
 have hl:(us++ds).length=ps.length:=by rw [← r2.length];exact F.len _ _ _ _ q
 refine wpAny_call (codeAny_mono (F.run X.A X.stack s1 H1 ⟨us,[]⟩ (us++ds) (vs++dvs) Q (Eσ σ) hr I1.env0 (hb s1 us I1.kIn hl) r2 q) fun r s' hq=>?_)
 cases r with
 | error e=>exact hx pins σ H1 s1 e s' I1 hq
 | ok fl =>
  cases fl with
  | ret u=>exact I1.after hq
  | next=>exact False.elim hq
  | brk=>exact False.elim hq
  | cont=>exact False.elim hq
end
section
variable {X:Cx} {k:Nat} {f:Addr} {fd:FuncData} {ps:List Str} {sp:Sp} {x:Str} {p pos:Pos} {e:Expr} {es:List Expr} {t:TA}
end
end L2
set_option Elab.async false
set_option linter.all false
set_option maxRecDepth 100000
set_option maxHeartbeats 4000000
namespace L3
open PySem PySem.Spec PyProof.Rows L2
abbrev St:=L2.St
inductive W where
 | non | bl (b:Bool) | int (i:Int) | str (x:Str) | tup (xs:List W) | rol (xs:List W) | ref (a:Addr)
inductive HW where
 | lst (xs:List W) | exc (C:Addr) | ins (C:Addr) (fs:List (Str×W)) | dct (kvs:List (Key×W))
abbrev Sw:=List (Option W)
abbrev Hw:=Addr→Option HW
def put (H:Hw) (a:Addr) (o:HW):Hw:=fun b=>if b=a then some o else H b
theorem Zah {H:Hw} {a:Addr} {o:HW}:put H a o a=some o:=by unfold put;rw [if_pos rfl]
theorem Zat {H:Hw} {a b:Addr} {o:HW} (h:b≠a):put H a o b=H b:=by unfold put;rw [if_neg h]
section
variable (K:PySem.W.Frag)
def RoL (H:Hp) (a:Addr) (xs:List V):Prop:=(∃ o,H a=some (.frz o (.lst xs))) ∨
 ∃ (o:Obj) (its:Array Value) (n:Nat),K.lookup a=some o∧o.cls=.type "list"∧o.dict=none∧o.data=.seq its n∧its.size≤sizeLine∧Vals xs its.toList
theorem RoL.sq {K:PySem.W.Frag} {H:Hp} {a:Addr} {xs:List V} (h:RoL K H a xs):SqL K H a xs:=by
 rcases h with ⟨o,h⟩ | h
 ·exact .inl (.inr ⟨o,h⟩)
 ·exact .inr h
mutual
inductive Tr (H:Hp):V→W→Prop where
 | non:Tr H .non .non
 | bl (b:Bool):Tr H (.bl b) (.bl b)
 | int (i:Int):Tr H (.int i) (.int i)
 | str (x:Str):Tr H (.str x) (.str x)
 | tup {a:Addr} {vs:List V} {ws:List W}:SqT K H a vs→TrL H vs ws→Tr H (.ref a) (.tup ws)
 | rol {a:Addr} {vs:List V} {ws:List W}:RoL K H a vs→TrL H vs ws→Tr H (.ref a) (.rol ws)
 | ref (a:Addr):Tr H (.ref a) (.ref a)
inductive TrL (H:Hp):List V→List W→Prop where
 | nil:TrL H [] []
 | cons {v:V} {w:W} {vs:List V} {ws:List W}:Tr H v w→TrL H vs ws→TrL H (v::vs) (w::ws)
end
inductive TrP {α:Type} (H:Hp):List (α×V)→List (α×W)→Prop where
 | nil:TrP H [] []
 | cons {f:α} {v:V} {w:W} {vs:List (α×V)} {ws:List (α×W)}:Tr K H v w→TrP H vs ws→TrP H ((f,v)::vs) ((f,w)::ws)
structure Mono (H H':Hp):Prop where
 tup:∀ a vs,SqT K H a vs→SqT K H' a vs
 rol:∀ a vs,RoL K H a vs→RoL K H' a vs
def RelO2 (H:Hp) (a:Addr):HW→Prop
 | .lst ws=>∃ vs,H a=some (.lst vs)∧TrL K H vs ws
 | .exc C=>H a=some (.ext (Zwf a C))
 | .ins C ws=>∃ dx vs,H a=some (.ins C dx vs)∧TrP K H vs ws
 | .dct ws=>∃ vs,H a=some (.dK vs)∧TrP K H vs ws
def RelH (H:Hp) (G:Hw):Prop:=∀ a o,G a=some o→RelO2 K H a o
structure TrSt (H:Hp) (σ:St) (ω:Sw):Prop where
 len:σ.length=ω.length
 get:∀ (i:Nat) (w:W),ω[i]?=some (some w)→∃ v,σ[i]?=some (some v)∧Tr K H v w
end
variable {K:PySem.W.Frag} {H H' H2:Hp}
theorem Mono.refl:Mono K H H:=⟨fun _ _ h=>h,fun _ _ h=>h⟩
theorem Mono.trans (m:Mono K H H') (m':Mono K H' H2):Mono K H H2:=⟨fun a vs h=>m'.tup a vs (m.tup a vs h),fun a vs h=>m'.rol a vs (m.rol a vs h)⟩
mutual
theorem Tr.mono (m:Mono K H H') {v:V} {w:W} (t:Tr K H v w):Tr K H' v w:=by
 cases t with
 | non=>exact .non
 | bl b=>exact .bl b
 | int i=>exact .int i
 | str x=>exact .str x
 | tup h l=>exact .tup (m.tup _ _ h) (TrL.mono m l)
 | rol h l=>exact .rol (m.rol _ _ h) (TrL.mono m l)
 | ref a=>exact .ref a
theorem TrL.mono (m:Mono K H H') {vs:List V} {ws:List W} (t:TrL K H vs ws):TrL K H' vs ws:=by
 cases t with
 | nil=>exact .nil
 | cons h l=>exact .cons (Tr.mono m h) (TrL.mono m l)
end
theorem TrP.mono {α:Type} (m:Mono K H H'):∀ {vs:List (α×V)} {ws:List (α×W)},TrP K H vs ws→TrP K H' vs ws
 | _,_,.nil=>.nil
 | _,_,.cons r t=>.cons (r.mono m) (TrP.mono m t)
theorem RelO2.mono (m:Mono K H H') {a:Addr} (e:H' a=H a):∀ {o:HW},RelO2 K H a o→RelO2 K H' a o
 | .lst ws,⟨vs,z,t⟩=>⟨vs,e.trans z,t.mono m⟩
 | .exc C,z=>(e.trans z:H' a=_)
 | .ins C ws,⟨dx,vs,z,t⟩=>⟨dx,vs,e.trans z,t.mono m⟩
 | .dct ws,⟨vs,z,t⟩=>⟨vs,e.trans z,t.mono m⟩
theorem RelO2.some {a:Addr}:∀ {o:HW},RelO2 K H a o→H a≠none
 | .lst ws,⟨vs,z,t⟩,q=>by rw [q] at z;cases z
 | .exc C,z,q=>by rw [show H a=_ from z] at q;cases q
 | .ins C ws,⟨dx,vs,z,t⟩,q=>by rw [q] at z;cases z
 | .dct ws,⟨vs,z,t⟩,q=>by rw [q] at z;cases z
theorem TrSt.mono {σ:St} {ω:Sw} (m:Mono K H H') (t:TrSt K H σ ω):TrSt K H' σ ω:=⟨t.len,fun i w e=>let ⟨v,e',r⟩:=t.get i w e;⟨v,e',r.mono m⟩⟩
theorem TrSt.set {σ:St} {ω:Sw} {v:V} {w:W} (t:TrSt K H σ ω) (i:Nat) (r:Tr K H v w):TrSt K H (σ.set i (some v)) (ω.set i (some w)):=by
 refine ⟨by simp [t.len],fun j u e=>?_⟩
 by_cases h:i=j
 ·subst h
  by_cases hl:i < ω.length
  ·rw [List.getElem?_set_self hl] at e
   cases e
   exact ⟨v,List.getElem?_set_self (by rw [t.len];exact hl),r⟩
  ·rw [List.getElem?_eq_none (by simp;omega)] at e;cases e
 ·rw [List.getElem?_set_ne h] at e
  obtain ⟨v',e',r'⟩:=t.get j u e
  exact ⟨v',by rw [List.getElem?_set_ne h];exact e',r'⟩
theorem TrL.length:∀ {vs:List V} {ws:List W},TrL K H vs ws→vs.length=ws.length
 | _,_,.nil=>rfl
 | _,_,.cons _ t=>congrArg (·+1) t.length
theorem TrL.get:∀ {vs:List V} {ws:List W} {i:Nat} {w:W},TrL K H vs ws→ws[i]?=some w→∃ v,vs[i]?=some v∧Tr K H v w
 | _,_,_,_,.nil,e=>by simp at e
 | _,_,0,_,.cons r _,e=>by simp at e;subst e;exact ⟨_,rfl,r⟩
 | _,_,i+1,w,.cons _ t,e=>by
  obtain ⟨v,h1,h2⟩:=TrL.get (i:=i) (w:=w) t (by simpa using e)
  exact ⟨v,by simpa using h1,h2⟩
theorem TrL.get':∀ {vs:List V} {ws:List W} {i:Nat} {v:V},TrL K H vs ws→vs[i]?=some v→∃ w,ws[i]?=some w∧Tr K H v w
 | _,_,_,_,.nil,e=>by simp at e
 | _,_,0,_,.cons r _,e=>by simp at e;subst e;exact ⟨_,rfl,r⟩
 | _,_,i+1,v,.cons _ t,e=>by
  obtain ⟨w,h1,h2⟩:=TrL.get' (i:=i) (v:=v) t (by simpa using e)
  exact ⟨w,by simpa using h1,h2⟩
theorem TrL.append:∀ {vs vs':List V} {ws ws':List W},TrL K H vs ws→TrL K H vs' ws'→TrL K H (vs++vs') (ws++ws')
 | _,_,_,_,.nil,s=>s
 | _,_,_,_,.cons r t,s=>.cons r (t.append s)
theorem TrL.set {v:V} {w:W} (r:Tr K H v w):∀ {vs:List V} {ws:List W} (i:Nat),TrL K H vs ws→TrL K H (vs.set i v) (ws.set i w)
 | _,_,_,.nil=>.nil
 | _,_,0,.cons _ t=>.cons r t
 | _,_,i+1,.cons q t=>.cons q (TrL.set r i t)
theorem TrL.take:∀ {vs:List V} {ws:List W} (n:Nat),TrL K H vs ws→TrL K H (vs.take n) (ws.take n)
 | _,_,0,_=>.nil
 | _,_,_+1,.nil=>.nil
 | _,_,n+1,.cons r t=>.cons r (TrL.take n t)
theorem TrL.drop:∀ {vs:List V} {ws:List W} (n:Nat),TrL K H vs ws→TrL K H (vs.drop n) (ws.drop n)
 | _,_,0,r=>r
 | _,_,_+1,.nil=>.nil
 | _,_,n+1,.cons _ t=>TrL.drop n t
theorem ZlI {a b:Addr} {vs:List V} {o:HO} (h:SqT K H a vs) (hb:∀ xs,H b≠some (.tup xs)) (hf:∀ ob xs,H b≠some (.frz ob (.tup xs))):SqT K (upd H b o) a vs:=by
 rcases h with (h | ⟨ob,h⟩) | h
 ·exact .inl (.inl (by rw [Zbd (fun e=>hb _ (e▸h))];exact h))
 ·exact .inl (.inr ⟨ob,by rw [Zbd (fun e=>hf _ _ (e▸h))];exact h⟩)
 ·exact .inr h
theorem ZlV {a b:Addr} {vs:List V} {o:HO} (h:RoL K H a vs) (hf:∀ ob u,H b≠some (.frz ob u)):RoL K (upd H b o) a vs:=by
 rcases h with ⟨ob,h⟩ | h
 ·exact .inl ⟨ob,by rw [Zbd (fun e=>hf _ _ (e▸h))];exact h⟩
 ·exact .inr h
theorem Mono.new {p:Addr} (hp:H p=none) (o:HO):Mono K H (upd H p o) :=
 ⟨fun a vs h=>ZlI h (fun xs e=>by rw [hp] at e;cases e) (fun ob xs e=>by rw [hp] at e;cases e),fun a vs h=>ZlV h (fun ob xs e=>by rw [hp] at e;cases e)⟩
theorem Mono.lst {p:Addr} {xs:List V} (hp:H p=some (.lst xs)) (o:HO):Mono K H (upd H p o) :=
 ⟨fun a vs h=>ZlI h (fun xs e=>by rw [hp] at e;cases e) (fun ob xs e=>by rw [hp] at e;cases e),fun a vs h=>ZlV h (fun ob xs e=>by rw [hp] at e;cases e)⟩
theorem Mono.was {p:Addr} {o':HO} (hp:H p=some o') (o:HO) (h1:∀ xs,o'≠.tup xs) (h2:∀ ob u,o'≠.frz ob u):Mono K H (upd H p o) :=
 ⟨fun a vs h=>ZlI h (fun xs e=>by rw [hp] at e;exact h1 _ (Option.some.inj e)) (fun ob xs e=>by rw [hp] at e;exact h2 _ _ (Option.some.inj e)),fun a vs h=>ZlV h (fun ob xs e=>by rw [hp] at e;exact h2 _ _ (Option.some.inj e))⟩
theorem RelH.no {G:Hw} {p:Addr} (r:RelH K H G) (hp:H p=none):G p=none:=by
 cases e:G p with
 | none=>rfl
 | some o=>exact absurd hp (r p o e).some
theorem RelH.mono0 {G:Hw} {p:Addr} {o:HO} (r:RelH K H G) (hp:H p=none):RelH K (upd H p o) G:=fun a u e =>
 have q:=r a u e
 q.mono (Mono.new hp o) (Zbd (by rintro rfl;exact q.some hp))
theorem RelH.laid {G:Hw} {p:Addr} {o:HO} {u:HW} (r:RelH K H G) (m:Mono K H (upd H p o)) (t:RelO2 K (upd H p o) p u):RelH K (upd H p o) (put G p u):=fun a u' e=>by
 by_cases h:a=p
 ·subst h
  rw [Zah] at e;cases e
  exact t
 ·rw [Zat h] at e
  exact (r a _ e).mono m (Zbd h)
theorem RelH.new {G:Hw} {p:Addr} {vs:List V} {ws:List W} (r:RelH K H G) (hp:H p=none) (t:TrL K H vs ws):RelH K (upd H p (.lst vs)) (put G p (.lst ws)) :=
 r.laid (Mono.new hp _) ⟨vs,ZbX,t.mono (Mono.new hp _)⟩
theorem RelH.chg {G:Hw} {p:Addr} {xs vs:List V} {ws:List W} (r:RelH K H G) (hp:H p=some (.lst xs)) (t:TrL K H vs ws):RelH K (upd H p (.lst vs)) (put G p (.lst ws)) :=
 r.laid (Mono.lst hp _) ⟨vs,ZbX,t.mono (Mono.lst hp _)⟩
abbrev Kw:=W→Hw→Prop
abbrev GE:=Sw→Hw→Kw→Prop
abbrev GT:=Sw→Hw→(Bool→Hw→Prop)→Prop
abbrev GA:=Sw→Hw→(List W→Hw→Prop)→Prop
structure Ew where
 nx:Sw→Hw→Prop
 rt:Kw
 bk:Sw→Hw→Prop
 ct:Sw→Hw→Prop
abbrev GS:=Ew→Sw→Hw→Prop
abbrev GG:=W→Sw→Hw→(Sw→Hw→Prop)→Prop
def GE.M (g:GE):Prop:=∀ ω G (Q Q':Kw),(∀ w G',Q w G'→Q' w G')→g ω G Q→g ω G Q'
def GT.M (g:GT):Prop:=∀ ω G (Q Q':Bool→Hw→Prop),(∀ w G',Q w G'→Q' w G')→g ω G Q→g ω G Q'
def GA.M (g:GA):Prop:=∀ ω G (Q Q':List W→Hw→Prop),(∀ w G',Q w G'→Q' w G')→g ω G Q→g ω G Q'
def GS.M (g:GS):Prop:=∀ ω G (D D':Ew),(∀ a b,D.nx a b→D'.nx a b)→(∀ a b,D.rt a b→D'.rt a b)→(∀ a b,D.bk a b→D'.bk a b)→(∀ a b,D.ct a b→D'.ct a b)→g D ω G→g D' ω G
def GG.M (g:GG):Prop:=∀ w ω G (Q Q':Sw→Hw→Prop),(∀ a b,Q a b→Q' a b)→g w ω G Q→g w ω G Q'
def dn (K:PySem.W.Frag) (H:Hp) (Q:VK):Kw:=fun w G=>∀ v H',Mono K H H'→Tr K H' v w→RelH K H' G→Q v H'
def dnT (K:PySem.W.Frag) (H:Hp) (Q:Bool→Hp→Prop):Bool→Hw→Prop:=fun b G=>∀ H',Mono K H H'→RelH K H' G→Q b H'
def dnA (K:PySem.W.Frag) (H:Hp) (Q:List V→Hp→Prop):List W→Hw→Prop:=fun ws G=>∀ vs H',Mono K H H'→TrL K H' vs ws→RelH K H' G→Q vs H'
def dnS (K:PySem.W.Frag) (H:Hp) (Q:St→Hp→Prop):Sw→Hw→Prop:=fun ω G=>∀ σ H',Mono K H H'→TrSt K H' σ ω→RelH K H' G→Q σ H'
def dnD (K:PySem.W.Frag) (H:Hp) (D:Ztp):Ew:=⟨dnS K H D.nx,dn K H D.rt,dnS K H D.bk,dnS K H D.ct⟩
theorem Zc6 {Q:VK} (m:Mono K H H') {w:W} {G:Hw} (q:dn K H Q w G):dn K H' Q w G:=fun v H2 m2 t r=>q v H2 (m.trans m2) t r
theorem ZmZ {Q:Bool→Hp→Prop} (m:Mono K H H') {w:Bool} {G:Hw} (q:dnT K H Q w G):dnT K H' Q w G:=fun H2 m2 r=>q H2 (m.trans m2) r
theorem Zqt {Q:St→Hp→Prop} (m:Mono K H H') {w:Sw} {G:Hw} (q:dnS K H Q w G):dnS K H' Q w G:=fun v H2 m2 t r=>q v H2 (m.trans m2) t r
def up (K:PySem.W.Frag) (g:GE):TE:=fun σ H Q=>∃ ω G,TrSt K H σ ω∧RelH K H G∧g ω G (dn K H Q)
def upT (K:PySem.W.Frag) (g:GT):TT:=fun σ H Q=>∃ ω G,TrSt K H σ ω∧RelH K H G∧g ω G (dnT K H Q)
def upA (K:PySem.W.Frag) (g:GA):TA:=fun σ H Q=>∃ ω G,TrSt K H σ ω∧RelH K H G∧g ω G (dnA K H Q)
def upS (K:PySem.W.Frag) (B:Hp) (g:GS):TS:=fun D σ H=>∃ ω G,TrSt K H σ ω∧RelH K H G∧Mono K B H∧g (dnD K B D) ω G
theorem Zbz {X:Cx} {e:Expr} {t t':TE} (h:PE X e t) (i:∀ σ H Q,t' σ H Q→t σ H Q):PE X e t':=fun pins s σ H Q I q=>h pins s σ H Q I (i σ H Q q)
theorem Zm1 {X:Cx} {e:Expr} {t t':TT} (h:PT X e t) (i:∀ σ H Q,t' σ H Q→t σ H Q):PT X e t':=fun pins s σ H Q I q=>h pins s σ H Q I (i σ H Q q)
theorem ZrL {X:Cx} {e:List Expr} {t t':TA} (h:PA X e t) (i:∀ σ H Q,t' σ H Q→t σ H Q):PA X e t':=fun pos pins s σ H Q I q=>h pos pins s σ H Q I (i σ H Q q)
theorem ZfP {X:Cx} {e:Stmt} {t t':TS} (h:PS X e t) (i:∀ D σ H,t' D σ H→t D σ H):PS X e t':=fun pins s σ H D I q=>h pins s σ H D I (i D σ H q)
theorem ZlD {X:Cx} {e:List Stmt} {t t':TS} (h:PSs X e t) (i:∀ D σ H,t' D σ H→t D σ H):PSs X e t':=fun pins s σ H D I q=>h pins s σ H D I (i D σ H q)
section
variable {X:Cx} {a b c e:Expr} {es:List Expr} {pos:Pos} {ga gb gc:GE} {gt:GT} {gs:GA}
abbrev PEw (X:Cx) (e:Expr) (g:GE):Prop:=PE X e (up X.K g)
abbrev PTw (X:Cx) (e:Expr) (g:GT):Prop:=PT X e (upT X.K g)
abbrev PAw (X:Cx) (es:List Expr) (g:GA):Prop:=PA X es (upA X.K g)
abbrev PSw (X:Cx) (P:Hp→Prop) (st:Stmt) (g:GS):Prop:=∀ B,P B→PS X st (upS X.K B g)
abbrev ZpM (X:Cx) (P:Hp→Prop) (st:List Stmt) (g:GS):Prop:=∀ B,P B→PSs X st (upS X.K B g)
abbrev ZwQ:Hp→Prop:=fun _=>True
def gC (w:W):GE:=fun _ G Q=>Q w G
def Zag (i:Nat):GE:=fun ω G Q=>match ω[i]? with | some (some w)=>Q w G | _=>False
theorem Zue {w:W}:GE.M (gC w):=fun _ _ _ _ h q=>h _ _ q
theorem Zu4 {i:Nat}:GE.M (Zag i):=fun ω G Q Q' h q=>by
 have z:Zag i ω G Q=(match ω[i]? with | some (some w)=>Q w G | _=>False):=rfl
 have z':Zag i ω G Q'=(match ω[i]? with | some (some w)=>Q' w G | _=>False):=rfl
 rw [z] at q
 rw [z']
 cases e:ω[i]? with
 | none=>rw [e] at q;exact q
 | some o =>
  cases o with
  | none=>rw [e] at q;exact q
  | some w=>rw [e] at q;exact h _ _ q
theorem Ztz {i:Nat} {x:Str} (hN:X.N[i]?=some x) (hv:Vis X.env.scope x) (hd:(x==("__debug__":Str))=false) (hcd:(x==("__classdict__":Str))=false):PEw X (.Name x pos) (Zag i) :=
 Zbz (ZtR hN hv hd hcd) <| by
  rintro σ H Q ⟨ω,G,ts,r,q⟩
  unfold Zag at q
  split at q
  ·rename_i w z
   obtain ⟨v,e,t⟩:=ts.get i w z
   exact ⟨v,e,q v H .refl t r⟩
  ·exact q.elim
theorem ZtM {i:Int} {j}:PEw X (.Constant (.int i) j pos) (gC (.int i)):=Zbz Zvm (by rintro σ H Q ⟨ω,G,ts,r,q⟩;exact q _ H .refl (.int i) r)
theorem Zwo {i:Bool} {j}:PEw X (.Constant (.bool i) j pos) (gC (.bl i)):=Zbz ZvZ (by rintro σ H Q ⟨ω,G,ts,r,q⟩;exact q _ H .refl (.bl i) r)
theorem ZtL {i:Str} {j}:PEw X (.Constant (.str i) j pos) (gC (.str i)):=Zbz ZtO (by rintro σ H Q ⟨ω,G,ts,r,q⟩;exact q _ H .refl (.str i) r)
theorem Zpj {x:Str} {v:V} {w:W} {u:Value} (hg:Gl X x) (hm:X.mg x=some u) (rv:RelV v u) (t:∀ H,Tr X.K H v w) (hd:(x==("__debug__":Str))=false):PEw X (.Name x pos) (gC w) :=
 Zbz (ZsH hg hm rv hd) (by rintro σ H Q ⟨ω,G,ts,r,q⟩;exact q _ H .refl (t H) r)
abbrev RW2:=W→W→Hw→Kw→Prop
def RW2.M (r:RW2):Prop:=∀ x y G (Q Q':Kw),(∀ w G',Q w G'→Q' w G')→r x y G Q→r x y G Q'
def Zal (r:RW2) (ga gb:GE):GE:=fun ω G Q=>ga ω G fun x G1=>gb ω G1 fun y G2=>r x y G2 Q
theorem Zfn {r:RW2} (mr:r.M) (ma:ga.M) (mb:gb.M):GE.M (Zal r ga gb):=fun ω G Q Q' h q=>ma _ _ _ _ (fun x G1 q1=>mb _ _ _ _ (fun y G2 q2=>mr _ _ _ _ _ h q2) q1) q
theorem Zmc {r:RW2} {r2:R2} (mr:r.M) (ma:ga.M) (mb:gb.M)
  (hr:∀ (x y:W) (v u:V) (G:Hw) (H:Hp) (Q:VK),Tr K H v x→Tr K H u y→RelH K H G→r x y G (dn K H Q)→r2 v u H Q) (σ:St) (H:Hp) (Q:VK) (h:up K (Zal r ga gb) σ H Q):tOp r2 (up K ga) (up K gb) σ H Q:=by
 obtain ⟨ω,G,ts,rh,q⟩:=h
 refine ⟨ω,G,ts,rh,ma _ _ _ _ (fun x G1 q1 v H1 m1 tx r1=>?_) q⟩
 refine ⟨ω,G1,ts.mono m1,r1,mb _ _ _ _ (fun y G2 q2 u H2 m2 ty r2'=>?_) q1⟩
 exact hr x y v u G2 H2 Q (tx.mono m2) ty r2' (mr _ _ _ _ _ (fun w G' z=>Zc6 (m1.trans m2) z) q2)
theorem Zih {op:Operator} {r:RW2} {r2:R2} (ho:OpR X (binaryOp op) r2) (mr:r.M) (ma:ga.M) (mb:gb.M) (hr:∀ (x y:W) (v u:V) (G:Hw) (H:Hp) (Q:VK),Tr X.K H v x→Tr X.K H u y→RelH X.K H G→r x y G (dn X.K H Q)→r2 v u H Q)
  (ha:PEw X a ga) (hb:PEw X b gb):PEw X (.BinOp a op b pos) (Zal r ga gb):=Zbz (ZvU ho ha hb) (Zmc mr ma mb hr)
theorem Zt5 {op:CmpOp} {r:RW2} {r2:R2} (ho:OpR X (compareOp op) r2) (mr:r.M) (ma:ga.M) (mb:gb.M) (hr:∀ (x y:W) (v u:V) (G:Hw) (H:Hp) (Q:VK),Tr X.K H v x→Tr X.K H u y→RelH X.K H G→r x y G (dn X.K H Q)→r2 v u H Q)
  (ha:PEw X a ga) (hb:PEw X b gb) (hm:behindInMarks op b=false):PEw X (.Compare a [op] [b] pos) (Zal r ga gb):=Zbz (Zsf ho ha hb hm) (Zmc mr ma mb hr)
theorem Zv7 {r:RW2} {r2:R2} (ho:IxR X r2) (mr:r.M) (ma:ga.M) (mb:gb.M) (hr:∀ (x y:W) (v u:V) (G:Hw) (H:Hp) (Q:VK),Tr X.K H v x→Tr X.K H u y→RelH X.K H G→r x y G (dn X.K H Q)→r2 v u H Q)
  (ha:PEw X a ga) (hb:PEw X b gb) (hs:ZlW b):PEw X (.Subscript a b pos) (Zal r ga gb):=Zbz (Zwr ho ha hb hs) (Zmc mr ma mb hr)
end
end L3
namespace L3
open PySem PySem.Spec PyProof.Rows L2
variable {K:PySem.W.Frag} {H H' H2:Hp}
abbrev Xw:=Sw→Addr→Hw→Prop
def upX (K:PySem.W.Frag) (ex:Xw):St→XK:=fun σ Cv _ H'=>∃ C ω G,Cv=.ref C∧TrSt K H' σ ω∧RelH K H' G∧ex ω C G
abbrev ZnT (X:Cx) (ex:Xw):Prop:=Zlz (CXe X.prog X.w) X (upX X.K ex)
abbrev Spw:=List W→Hw→Kw→(Addr→Hw→Prop)→Prop
def dnX (K:PySem.W.Frag) (H:Hp) (E:XK):Addr→Hw→Prop:=fun C G'=>∀ H',Mono K H H'→RelH K H' G'→E (.ref C) none H'
def Ztq (K:PySem.W.Frag) (sp:Spw):Sp:=fun vs H Q E=>∃ ws G,TrL K H vs ws∧RelH K H G∧sp ws G (dn K H Q) (dnX K H E)
def Spw.M (sp:Spw):Prop:=∀ ws G (Q Q':Kw) (E E':Addr→Hw→Prop),(∀ w G',Q w G'→Q' w G')→(∀ w G',E w G'→E' w G')→sp ws G Q E→sp ws G Q' E'
structure Df (P:Program) (w:World) (K:PySem.W.Frag) (mg:Str→Option Value) (base:Heap) (x:Str) (k n:Nat) (sp:Spw):Prop where
 ex:∃ (f:Addr) (fd:FuncData) (ps:List Str),mg x=some (.ref f)∧PySem.W.keepIn K (.ref f)=true∧Binds K fd ps []∧ps.length=n∧FnOk P w K mg base (CXe P w) k f fd ps (Ztq K sp)
 mono:sp.M
section
variable {X:Cx} {e:Expr} {es:List Expr} {pos p:Pos} {ga gb:GE} {gs:GA} {ex:Xw}
def Zan:GA:=fun _ G Q=>Q [] G
def Zab (g:GE) (gs:GA):GA:=fun ω G Q=>g ω G fun x G1=>gs ω G1 fun xs G2=>Q (x::xs) G2
theorem Zvw:GA.M Zan:=fun _ _ _ _ h q=>h _ _ q
theorem Zsk (ma:ga.M) (ms:gs.M):GA.M (Zab ga gs):=fun ω G Q Q' h q=>ma _ _ _ _ (fun x G1 q1=>ms _ _ _ _ (fun xs G2 q2=>h _ _ q2) q1) q
theorem Zvr:PAw X [] Zan:=ZrL Zlm (by rintro σ H Q ⟨ω,G,ts,r,q⟩;exact q [] H .refl .nil r)
theorem ZrV (ma:ga.M) (ms:gs.M) (ha:PEw X e ga) (hs:PAw X es gs) (hst:starEach (e::es) X.env=(false,eval e X.env)::starEach es X.env:=by rfl):PAw X (e::es) (Zab ga gs) :=
 ZrL (Zfh ha hs hst) (by rintro σ H Q ⟨ω,G,ts,r,q⟩;exact ⟨ω,G,ts,r,ma _ _ _ _ (fun x G1 q1 v H1 m1 tx r1=>⟨ω,G1,ts.mono m1,r1,ms _ _ _ _ (fun xs G2 q2 vs H2 m2 txs r2=>q2 _ H2 (m1.trans m2) (.cons (tx.mono m2) txs) r2) q1⟩) q⟩)
def Zap (sp:Spw) (ex:Xw) (gs:GA):GE:=fun ω G Q=>gs ω G fun ws G1=>sp ws G1 Q (ex ω)
theorem Zs7 {sp:Spw} (m:sp.M) (ms:gs.M):GE.M (Zap sp ex gs):=fun ω G Q Q' h q=>ms _ _ _ _ (fun ws G1 q1=>m _ _ _ _ _ _ h (fun _ _ z=>z) q1) q
theorem ZsE {x:Str} {k n:Nat} {sp:Spw} (D:Df X.prog X.w X.K X.mg X.base x k n sp) (hr:Room k X.A) (hg:Gl X x) (hp:ZnT X ex) (ms:gs.M) (ha:PAw X (e::es) gs)
  (hdb:(x==("__debug__":Str))=false:=by decide) (he:starEach (e::es) X.env=(false,eval e X.env)::starEach es X.env:=by rfl) (hpl:(backTo pos (starEach es X.env)).any (·.1)=false:=by rfl) :
  PEw X (.Call (.Name x p) (e::es) [] pos) (Zap sp ex gs):=by
 obtain ⟨f,fd,ps,hm,hk,hb,_,F⟩:=D.ex
 refine Zbz (ZpH F hr hg hm hk hb .nil hp ha hdb he hpl) fun σ H Q zz1=>?_
 obtain ⟨ω,G,ts,r,q⟩:=zz1
 refine ⟨ω,G,ts,r,ms _ _ _ _ (fun ws G1 q1 vs H1 m1 tvs r1=>?_) q⟩
 refine ⟨ws,G1,by rw [List.append_nil];exact tvs,r1,D.mono _ _ _ _ _ _ (fun w G' z=>Zc6 m1 z) (fun C G' z H2 m2 r2=>?_) q1⟩
 exact ⟨C,ω,G',rfl,(ts.mono m1).mono m2,r2,z⟩
end
def Zcs (N:List Str) (ws:List W):Sw:=ws.map some++List.replicate (N.length - ws.length) none
theorem ZiR {N:List Str} {vs:List V} {ws:List W} (t:TrL K H vs ws):TrSt K H (L2.Zix N vs) (Zcs N ws):=by
 have hl:=t.length
 refine ⟨by simp [L2.Zix,Zcs,hl],fun i w e=>?_⟩
 unfold Zcs at e
 by_cases hi:i < ws.length
 ·rw [List.getElem?_append_left (by simpa using hi),List.getElem?_map] at e
  cases z:ws[i]? with
  | none=>rw [z] at e;cases e
  | some w' =>
   rw [z] at e
   cases e
   obtain ⟨v,e1,r⟩:=t.get z
   exact ⟨v,by unfold L2.Zix;rw [List.getElem?_append_left (by simp;omega),List.getElem?_map,e1];rfl,r⟩
 ·rw [List.getElem?_append_right (by simpa using hi),List.getElem?_replicate] at e
  split at e <;> cases e
def Sub (G G':Hw):Prop:=∀ a o,G a=some o→G' a=some o
theorem Sub.refl {G:Hw}:Sub G G:=fun _ _ h=>h
theorem Sub.trans {G G1 G2:Hw} (a:Sub G G1) (b:Sub G1 G2):Sub G G2:=fun c o h=>b c o (a c o h)
theorem Sub.put {G G':Hw} {a:Addr} {o:HW} (h:Sub G G') (hn:G a=none):Sub G (put G' a o):=fun c u z=>by
 rw [Zat (fun e=>by rw [e,hn] at z;cases z)]
 exact h c u z
theorem Sub.put2 {G G':Hw} {a:Addr} {o:HW} (h:Sub G G'):Sub (L3.put G a o) (L3.put G' a o):=fun c u z=>by
 by_cases e:c=a
 ·subst e;rw [Zah] at z ⊢;exact z
 ·rw [Zat e] at z ⊢;exact h c u z
theorem RelH.sub {G G':Hw} (r:RelH K H G') (s:Sub G G'):RelH K H G:=fun a o e=>r a o (s a o e)
def Kw.C (Q:Kw):Prop:=∀ w G G',Sub G G'→Q w G→Q w G'
def Xc (E:Addr→Hw→Prop):Prop:=∀ w G G',Sub G G'→E w G→E w G'
theorem ZwJ {Q:VK}:Kw.C (dn K H Q):=fun w G G' s q v H2 m t r=>q v H2 m t (r.sub s)
def ZaX (Q:Kw):Ew:=⟨fun _ G=>Q .non G,Q,fun _ _=>False,fun _ _=>False⟩
section
variable {P:Program} {w:World} {mg:Str→Option Value} {base:Heap}
abbrev cxW (P:Program) (w:World) (K:PySem.W.Frag) (mg:Str→Option Value) (base:Heap) (N:List Str) (qual:Str) (scope:Scope) (f:Addr) (cd:Value) (A:Around) (outer:List Env) (s:Shared) (H:Hp) (E:XK):Cx :=
 ZrT (CXe P w) P w K mg base N qual scope f cd A outer s H E
end
end L3
namespace L3
open PySem PySem.Spec PyProof.Rows L2
variable {K:PySem.W.Frag} {H H' H2:Hp}
section
variable {X:Cx} {a b c e:Expr} {st:Stmt} {sts sts':List Stmt} {pos pos':Pos} {ga gb gc:GE} {gt gu:GT} {g1 g2:GS} {ex:Xw} {P:Hp→Prop}
def Zax:GS:=fun D ω G=>D.nx ω G
def ZaB (g1 g2:GS):GS:=fun D ω G=>g1 { D with nx:=g2 D } ω G
theorem Ztd:GS.M Zax:=fun _ _ _ _ h _ _ _ q=>h _ _ q
theorem Zvu (m1:g1.M) (m2:g2.M):GS.M (ZaB g1 g2):=fun ω G D D' h1 h2 h3 h4 q=>m1 _ _ { D with nx:=g2 D } _ (fun _ _ z=>m2 _ _ _ _ h1 h2 h3 h4 z) h2 h3 h4 q
theorem Zte:ZpM X P [] Zax:=fun B hB=>ZlD Zsx (by rintro D σ H ⟨ω,G,ts,r,mb,q⟩;exact q σ H mb ts r)
theorem ZqC (m1:g1.M) (m2:g2.M) (h1:PSw X P st g1) (h2:ZpM X P sts g2):ZpM X P (st::sts) (ZaB g1 g2):=fun B hB =>
 ZlD (ZqK (h1 B hB) (h2 B hB)) (by rintro D σ H ⟨ω,G,ts,r,mb,q⟩;exact ⟨ω,G,ts,r,mb,m1 _ _ { dnD X.K B D with nx:=g2 (dnD X.K B D) } _ (fun ω' G' z σ' H' m ts' r'=>⟨ω',G',ts',r',m,z⟩) (fun _ _ z=>z) (fun _ _ z=>z) (fun _ _ z=>z) q⟩)
theorem ZrX (h1:PSw X P st g1):ZpM X P [st] g1:=fun B hB=>ZlD (Ztk (h1 B hB)) fun D σ H z=>z
def Zbh (i:Nat) (ga:GE):GS:=fun D ω G=>ga ω G fun w G1=>D.nx (ω.set i (some w)) G1
theorem Zrw {i:Nat} (ma:ga.M):GS.M (Zbh i ga):=fun ω G D D' h _ _ _ q=>ma _ _ _ _ (fun _ _ z=>h _ _ z) q
theorem Zug {i:Nat} {x:Str} (hN:X.N.Nodup) (hi:X.N[i]?=some x) (hx:Loc X.env.scope x) (ma:ga.M) (ha:PEw X e ga) (hs:swapsWith e (some (.Name x pos')) pos.line X.env=pure false) (hf:X.fn x=true∨X.env.scope.names.lookup x=some .local) :
  PSw X P (.Assign [.Name x pos'] e pos) (Zbh i ga):=fun B hB =>
 ZfP (ZtG hN hi hx ha hs hf) (by rintro D σ H ⟨ω,G,ts,r,mb,q⟩;exact ⟨ω,G,ts,r,ma _ _ _ _ (fun w G1 z v H1 m t r1=>z _ H1 (mb.trans m) ((ts.mono m).set i t) r1) q⟩)
def ZaL (ga:GE):GS:=fun D ω G=>ga ω G D.rt
theorem Zvh (ma:ga.M):GS.M (ZaL ga):=fun ω G D D' _ h _ _ q=>ma _ _ _ _ (fun _ _ z=>h _ _ z) q
theorem ZuK (ma:ga.M) (ha:PEw X e ga):PSw X P (.Return (some e) pos) (ZaL ga):=fun B hB=>ZfP (Zuk ha) (by rintro D σ H ⟨ω,G,ts,r,mb,q⟩;exact ⟨ω,G,ts,r,ma _ _ _ _ (fun w G1 z v H1 m t r1=>z v H1 (mb.trans m) t r1) q⟩)
def ZbA (ga:GE):GS:=fun D ω G=>ga ω G fun _ G1=>D.nx ω G1
theorem ZsW (ma:ga.M):GS.M (ZbA ga):=fun ω G D D' h _ _ _ q=>ma _ _ _ _ (fun _ _ z=>h _ _ z) q
theorem Zr1 (ma:ga.M) (ha:PEw X e ga) (hs:swapsWith e none pos.line X.env=pure false):PSw X P (.Expr e pos) (ZbA ga):=fun B hB =>
 ZfP (Ztb ha hs) (by rintro D σ H ⟨ω,G,ts,r,mb,q⟩;exact ⟨ω,G,ts,r,ma _ _ _ _ (fun w G1 z v H1 m t r1=>z _ H1 (mb.trans m) (ts.mono m) r1) q⟩)
def gIf (gt:GT) (g1 g2:GS):GS:=fun D ω G=>gt ω G fun b G1=>if b=true then g1 D ω G1 else g2 D ω G1
theorem Zv3 (mt:gt.M) (m1:g1.M) (m2:g2.M):GS.M (gIf gt g1 g2):=fun ω G D D' h1 h2 h3 h4 q=>mt _ _ _ _ (fun b G1 z=>by
 cases b with
 | true=>exact m1 _ _ _ _ h1 h2 h3 h4 z
 | false=>exact m2 _ _ _ _ h1 h2 h3 h4 z) q
theorem ZvT (mt:gt.M) (m1:g1.M) (m2:g2.M) (hc:PTw X c gt) (h1:ZpM X P sts g1) (h2:ZpM X P sts' g2):PSw X P (.If c sts sts' pos) (gIf gt g1 g2):=fun B hB =>
 ZfP (ZvP hc (h1 B hB) (h2 B hB)) fun D σ H ⟨ω,G,ts,r,mb,q⟩=>⟨ω,G,ts,r,mt _ _ _ _ (fun b G1 z H1 m r1=>by
  cases b with
  | true=>exact ⟨ω,G1,ts.mono m,r1,mb.trans m,z⟩
  | false=>exact ⟨ω,G1,ts.mono m,r1,mb.trans m,z⟩) q⟩
def gTB (g:GE):GT:=fun ω G Q=>g ω G fun w G1=>match w with | .bl b=>Q b G1 | _=>False
theorem ZuD (m:ga.M):GT.M (gTB ga):=fun ω G Q Q' h q=>m _ _ _ _ (fun w G1 z=>by
 cases w <;> first | exact h _ _ z | exact z) q
theorem Zl3 {v:V} {b:Bool} (t:Tr K H v (.bl b)):v=.bl b:=by cases t;rfl
theorem Zvi {v:V} {b:Int} (t:Tr K H v (.int b)):v=.int b:=by cases t;rfl
theorem ZuM {v:V} {b:Str} (t:Tr K H v (.str b)):v=.str b:=by cases t;rfl
theorem Zuj (m:ga.M) {f:Bool→Hp→Prop} {σ:St} (h:upT K (gTB ga) σ H f):up K ga σ H (fun x H1=>∃ k,x=.bl k∧f k H1):=by
 obtain ⟨ω,G,ts,r,q⟩:=h
 refine ⟨ω,G,ts,r,m _ _ _ _ (fun w G1 z v H1 m1 t r1=>?_) q⟩
 cases w with
 | bl b=>exact ⟨b,Zl3 t,z H1 m1 r1⟩
 | _=>exact z.elim
theorem ZuR {op:CmpOp} {r:RW2} {r2:R2} (ho:OpR X (compareOp op) r2) (mr:r.M) (ma:ga.M) (mb:gb.M) (hr:∀ (x y:W) (v u:V) (G:Hw) (H:Hp) (Q:VK),Tr X.K H v x→Tr X.K H u y→RelH X.K H G→r x y G (dn X.K H Q)→r2 v u H Q)
  (ha:PEw X a ga) (hb:PEw X b gb) (hm:behindInMarks op b=false):PTw X (.Compare a [op] [b] pos) (gTB (Zal r ga gb)) :=
 Zm1 (ZsG ho ha hb hm) fun σ H Q z=>Zmc mr ma mb hr σ H _ (Zuj (Zfn mr ma mb) z)
def Zhv (w:W) (G:Hw):Option Bool:=match w with
 | .non=>some false
 | .bl b=>some b
 | .int i=>some (i != 0)
 | .tup xs=>some (!xs.isEmpty)
 | .rol xs=>some (!xs.isEmpty)
 | .ref a=>match G a with | some (.lst xs)=>some (!xs.isEmpty) | _=>none
 | .str _=>none
def Zfd (g:GE):GT:=fun ω G Q=>g ω G fun w G1=>match Zhv w G1 with | some b=>Q b G1 | none=>False
theorem ZuW (m:ga.M):GT.M (Zfd ga):=fun ω G Q Q' h q=>m _ _ _ _ (fun w G1 z=>by
 cases e:Zhv w G1 with
 | none=>rw [e] at z;exact z
 | some b=>rw [e] at z;exact h _ _ z) q
theorem ZgL:∀ {vs:List V} {ws:List W},TrL K H vs ws→vs.isEmpty=ws.isEmpty
 | _,_,.nil=>rfl
 | _,_,.cons _ _=>rfl
theorem Zso {v:V} {w:W} {G:Hw} {b:Bool} (t:Tr K H v w) (r:RelH K H G) (e:Zhv w G=some b):Zwi K v H b:=by
 cases t with
 | non=>cases e;rfl
 | bl c=>cases e;rfl
 | int i=>cases e;rfl
 | str x=>cases e
 | tup h l=>cases e;exact .inr (.inl ⟨_,h,by rw [ZgL l]⟩)
 | rol h l=>cases e;exact .inl ⟨_,h.sq,by rw [ZgL l]⟩
 | ref a =>
  unfold Zhv at e
  dsimp only at e
  cases z:G a with
  | none=>rw [z] at e;cases e
  | some o =>
   rw [z] at e
   cases o with
   | exc C=>cases e
   | ins C fs=>cases e
   | dct kvs=>cases e
   | lst xs =>
    cases e
    obtain ⟨vs,e1,l⟩:=r a _ z
    exact .inl ⟨vs,SqL.of e1,by rw [ZgL l]⟩
theorem Zub (ma:ga.M) (ha:PEw X e ga) (he:∀ whole,isTrue e X.env whole=(do let v ← whole;standAt e.pos;holding [v] (truthy v)):=by intro _;rfl):PTw X e (Zfd ga) :=
 Zm1 (Zqi ha he) fun σ H Q ⟨ω,G,ts,r,q⟩=>⟨ω,G,ts,r,ma _ _ _ _ (fun w G1 z v H1 m t r1=>by
  cases e1:Zhv w G1 with
  | none=>rw [e1] at z;exact z.elim
  | some b=>rw [e1] at z;exact ⟨b,Zso t r1 e1,z H1 m r1⟩) q⟩
def gNt (g:GT):GT:=fun ω G Q=>g ω G fun b G1=>Q (!b) G1
theorem Zv2 (m:gt.M):GT.M (gNt gt):=fun ω G Q Q' h q=>m _ _ _ _ (fun w G1 z=>h _ _ z) q
theorem Zvk (ha:PTw X a gt):PTw X (.UnaryOp .Not a pos) (gNt gt):=Zm1 (ZtS ha) fun σ H Q z=>z
abbrev PWw (X:Cx) (e:Expr) (g:GT):Prop:=PW X e (upT X.K g)
theorem ZmK {e:Expr} {t t':TT} (h:PW X e t) (i:∀ σ H Q,t' σ H Q→t σ H Q):PW X e t':=fun wh pins s σ H Q I q=>h wh pins s σ H Q I (i σ H Q q)
def Zhs (g1 g2:GT):GT:=fun ω G Q=>g1 ω G fun b G1=>if b=true then g2 ω G1 Q else Q false G1
def gOr (g1 g2:GT):GT:=fun ω G Q=>g1 ω G fun b G1=>if b=true then Q true G1 else g2 ω G1 Q
theorem ZtY (m1:gt.M) (m2:gu.M):GT.M (Zhs gt gu):=fun ω G Q Q' h q=>m1 _ _ _ _ (fun b G1 z=>by
 cases b with
 | true=>exact m2 _ _ _ _ h z
 | false=>exact h _ _ z) q
theorem Zwh (m1:gt.M) (m2:gu.M):GT.M (gOr gt gu):=fun ω G Q Q' h q=>m1 _ _ _ _ (fun b G1 z=>by
 cases b with
 | true=>exact h _ _ z
 | false=>exact m2 _ _ _ _ h z) q
variable {Zcg:List Expr}
theorem Zsl (ha:PTw X a gt):PWw X (.BoolOp .And [a] pos) gt:=ZmK (Ztc ha) fun σ H Q z=>z
theorem Zvd (ha:PTw X a gt):PWw X (.BoolOp .Or [a] pos) gt:=ZmK (ZtC ha) fun σ H Q z=>z
theorem Zt3 (m1:gt.M) (m2:gu.M) (ha:PTw X a gt) (hb:PWw X (.BoolOp .And (b::Zcg) pos) gu):PWw X (.BoolOp .And (a::b::Zcg) pos) (Zhs gt gu) :=
 ZmK (ZtV ha hb) fun σ H Q ⟨ω,G,ts,r,q⟩=>⟨ω,G,ts,r,m1 _ _ _ _ (fun b G1 z H1 m r1=>by
  cases b with
  | true=>exact ⟨ω,G1,ts.mono m,r1,m2 _ _ _ _ (fun _ _ z=>ZmZ m z) z⟩
  | false=>exact z H1 m r1) q⟩
theorem Zwk (m1:gt.M) (m2:gu.M) (ha:PTw X a gt) (hb:PWw X (.BoolOp .Or (b::Zcg) pos) gu):PWw X (.BoolOp .Or (a::b::Zcg) pos) (gOr gt gu) :=
 ZmK (Zwq ha hb) fun σ H Q ⟨ω,G,ts,r,q⟩=>⟨ω,G,ts,r,m1 _ _ _ _ (fun b G1 z H1 m r1=>by
  cases b with
  | true=>exact z H1 m r1
  | false=>exact ⟨ω,G1,ts.mono m,r1,m2 _ _ _ _ (fun _ _ z=>ZmZ m z) z⟩) q⟩
theorem Zsi {op:BoolOp} {vs:List Expr} (h:PWw X (.BoolOp op vs pos) gt):PTw X (.BoolOp op vs pos) gt:=PW.pt h
def Zdx (ga gb:GE):GE:=fun ω G Q=>ga ω G fun x G1=>match x with | .bl c=>if c=true then gb ω G1 Q else Q (.bl false) G1 | _=>False
def Zht (ga gb:GE):GE:=fun ω G Q=>ga ω G fun x G1=>match x with | .bl c=>if c=true then Q (.bl true) G1 else gb ω G1 Q | _=>False
def ZeO (ga:GE):GE:=fun ω G Q=>ga ω G fun x G1=>match x with | .bl c=>Q (.bl (!c)) G1 | _=>False
def Zke (gt:GT) (ga gb:GE):GE:=fun ω G Q=>gt ω G fun c G1=>if c=true then ga ω G1 Q else gb ω G1 Q
theorem Zr7 (ma:ga.M) (mb:gb.M):GE.M (Zdx ga gb):=fun ω G Q Q' h q=>ma _ _ _ _ (fun x G1 z=>by
 cases x with
 | bl c =>
  cases c with
  | true=>exact mb _ _ _ _ h z
  | false=>exact h _ _ z
 | _=>exact z) q
theorem Zt6 (ma:ga.M) (mb:gb.M):GE.M (Zht ga gb):=fun ω G Q Q' h q=>ma _ _ _ _ (fun x G1 z=>by
 cases x with
 | bl c =>
  cases c with
  | true=>exact h _ _ z
  | false=>exact mb _ _ _ _ h z
 | _=>exact z) q
theorem Zsd (ma:ga.M):GE.M (ZeO ga):=fun ω G Q Q' h q=>ma _ _ _ _ (fun x G1 z=>by
 cases x with
 | bl c=>exact h _ _ z
 | _=>exact z) q
theorem Zvq (mt:gt.M) (ma:ga.M) (mb:gb.M):GE.M (Zke gt ga gb):=fun ω G Q Q' h q=>mt _ _ _ _ (fun c G1 z=>by
 cases c with
 | true=>exact ma _ _ _ _ h z
 | false=>exact mb _ _ _ _ h z) q
theorem ZtT {op:BoolOp} (h:PEw X a ga):PEw X (.BoolOp op [a] pos) ga:=ZuS h
theorem ZuZ (ma:ga.M) (mb:gb.M) (ha:PEw X a ga) (hb:PEw X (.BoolOp .And (b::Zcg) pos) gb):PEw X (.BoolOp .And (a::b::Zcg) pos) (Zdx ga gb) :=
 Zbz (Zul ha hb) fun σ H Q ⟨ω,G,ts,r,q⟩=>⟨ω,G,ts,r,ma _ _ _ _ (fun x G1 z v H1 m t r1=>by
  cases x with
  | bl c =>
   refine ⟨c,Zl3 t,?_⟩
   cases c with
   | true=>exact ⟨ω,G1,ts.mono m,r1,mb _ _ _ _ (fun _ _ z=>Zc6 m z) z⟩
   | false=>exact z _ H1 m (.bl false) r1
  | _=>exact z.elim) q⟩
theorem Zwt (ma:ga.M) (mb:gb.M) (ha:PEw X a ga) (hb:PEw X (.BoolOp .Or (b::Zcg) pos) gb):PEw X (.BoolOp .Or (a::b::Zcg) pos) (Zht ga gb) :=
 Zbz (Zwd ha hb) fun σ H Q ⟨ω,G,ts,r,q⟩=>⟨ω,G,ts,r,ma _ _ _ _ (fun x G1 z v H1 m t r1=>by
  cases x with
  | bl c =>
   refine ⟨c,Zl3 t,?_⟩
   cases c with
   | true=>exact z _ H1 m (.bl true) r1
   | false=>exact ⟨ω,G1,ts.mono m,r1,mb _ _ _ _ (fun _ _ z=>Zc6 m z) z⟩
  | _=>exact z.elim) q⟩
theorem Zt1 (ma:ga.M) (ha:PEw X a ga):PEw X (.UnaryOp .Not a pos) (ZeO ga) :=
 Zbz (ZtW ha) fun σ H Q ⟨ω,G,ts,r,q⟩=>⟨ω,G,ts,r,ma _ _ _ _ (fun x G1 z v H1 m t r1=>by
  cases x with
  | bl c=>exact ⟨c,Zl3 t,z _ H1 m (.bl _) r1⟩
  | _=>exact z.elim) q⟩
theorem ZuP (mt:gt.M) (ma:ga.M) (mb:gb.M) (hc:PTw X c gt) (ha:PEw X a ga) (hb:PEw X b gb):PEw X (.IfExp c a b pos) (Zke gt ga gb) :=
 Zbz (ZqH hc ha hb) fun σ H Q ⟨ω,G,ts,r,q⟩=>⟨ω,G,ts,r,mt _ _ _ _ (fun c G1 z H1 m r1=>by
  cases c with
  | true=>exact ⟨ω,G1,ts.mono m,r1,ma _ _ _ _ (fun _ _ z=>Zc6 m z) z⟩
  | false=>exact ⟨ω,G1,ts.mono m,r1,mb _ _ _ _ (fun _ _ z=>Zc6 m z) z⟩) q⟩
variable {es:List Expr} {gs:GA}
def ZaN (gs:GA):GE:=fun ω G Q=>gs ω G fun ws G1=>ws.length≤sizeLine∧Q (.tup ws) G1
def Zcr (gs:GA):GE:=fun ω G Q=>gs ω G fun ws G1=>ws.length≤sizeLine∧∀ p,G1 p=none→Q (.ref p) (put G1 p (.lst ws))
theorem Zu1 (m:gs.M):GE.M (ZaN gs):=fun ω G Q Q' h q=>m _ _ _ _ (fun ws G1 z=>⟨z.1,h _ _ z.2⟩) q
theorem Zu5 (m:gs.M):GE.M (Zcr gs):=fun ω G Q Q' h q=>m _ _ _ _ (fun ws G1 z=>⟨z.1,fun p hp=>h _ _ (z.2 p hp)⟩) q
theorem Zvl {x1} (m:gs.M) (h:PAw X es gs):PEw X (.Tuple es x1 pos) (ZaN gs) :=
 Zbz (ZrI h) fun σ H Q ⟨ω,G,ts,r,q⟩=>⟨ω,G,ts,r,m _ _ _ _ (fun ws G1 z vs H1 m1 t r1=>⟨by rw [t.length];exact z.1,fun p hp =>
  z.2 _ _ (m1.trans (Mono.new hp _)) (.tup (SqT.of ZbX) (t.mono (Mono.new hp _))) (r1.mono0 hp)⟩) q⟩
theorem ZuE (m:gs.M) (h:PAw X es gs):PEw X (.List es pos) (Zcr gs) :=
 Zbz (Zt9 h) fun σ H Q ⟨ω,G,ts,r,q⟩=>⟨ω,G,ts,r,m _ _ _ _ (fun ws G1 z vs H1 m1 t r1=>⟨by rw [t.length];exact z.1,fun p hp =>
  z.2 p (r1.no hp) _ _ (m1.trans (Mono.new hp _)) (.ref p) (r1.new hp t)⟩) q⟩
end
end L3
set_option Elab.async false
set_option linter.all false
set_option maxRecDepth 100000
set_option maxHeartbeats 4000000
namespace L3
open PySem PySem.Spec PyProof.Rows L2
variable {K:PySem.W.Frag} {H H' H2:Hp}
def Zh2 (z:Str):List V:=z.cps.toList.map fun c=>V.str ⟨#[c]⟩
def Itk (xs:List V):It:=⟨fun i _=>i < xs.length,fun i H x H'=>H'=H∧xs[i]?=some x,fun i _=>xs.length≤i⟩
theorem Znl {P:Program} {w:World} {tg:Expr} (ht:∀ it u,letOwnedTupleGo tg it u=pure ()) (it:Addr) (z:Str) (t:Tok):ZrH P w K tg (Itk (Zh2 z)) [it] it (fun i h=>h.IsStrIter it "str_ascii_iterator" z t i) where
 mem:=by simp
 obj:=fun i h st b hb=>by
  have e:b=it:=by simpa using hb
  subst e
  obtain ⟨o,e,c,d⟩:=st
  exact ⟨o,e,fun v z=>by rw [d] at z;cases z⟩
 keep:=fun i h h' st k=>by
  obtain ⟨o,e,c,d⟩:=st
  exact ⟨o,k it (by simp) o e,c,d⟩
 item:=by
  intro X hP hw hK hc i pins s σ H E I hf st hg
  subst hP hw hK
  obtain ⟨f0,f1,f2,f3,f4,f5⟩:=hf it (by simp)
  have W:=Walks.strAscii (prog:=X.prog) (w:=X.w) (I.ok.hd hc) it z t
  have hi:i < z.cps.size:=by simpa [Zh2,Itk] using hg
  refine W.item i s _ _ hi st fun v h' tk hv st' kk=>?_
  obtain ⟨c,t',hc',rfl⟩:=hv
  have I1:Inv X pins σ H { s with heap:=h',toks:=tk }:=I.turned (fun b o hb e=>kk b o (by simpa using hb) e) f0 f1 f3 f4 f5
  exact ⟨_,rfl,wpAny_of_eq (ht _ _) ⟨.str ⟨#[c]⟩,H,I1,⟨_,rfl⟩,⟨rfl,by simp [Zh2,hc']⟩,st',fun b hb=>(hf b hb).1⟩⟩
 done:=by
  intro X hP hw hK hc i pins s σ H E I hf st hg
  subst hP hw hK
  obtain ⟨f0,f1,f2,f3,f4,f5⟩:=hf it (by simp)
  have hi:z.cps.size≤i:=by simpa [Zh2,Itk] using hg
  exact wpAny_pyNext_ascii_end (I.ok.hd hc) st (by simp [hi]) fun h' eb=>⟨rfl,I.turned (t':=s.toks) (fun b o hb e=>eb b o hb e) f0 f1 f3 f4 f5⟩
 self:=fun A i s Q E st h=>wpAny_pyIter_striter_ascii st h
theorem ZoJ {P:Program} {w:World} {tg:Expr} (ht:∀ it u,letOwnedTupleGo tg it u=pure ()) (it:Addr) (z:Str) (t:Tok):ZrH P w K tg (Itk (Zh2 z)) [it] it (fun i h=>h.IsStrIter it "str_iterator" z t i) where
 mem:=by simp
 obj:=fun i h st b hb=>by
  have e:b=it:=by simpa using hb
  subst e
  obtain ⟨o,e,c,d⟩:=st
  exact ⟨o,e,fun v z=>by rw [d] at z;cases z⟩
 keep:=fun i h h' st k=>by
  obtain ⟨o,e,c,d⟩:=st
  exact ⟨o,k it (by simp) o e,c,d⟩
 item:=by
  intro X hP hw hK hc i pins s σ H E I hf st hg
  subst hP hw hK
  obtain ⟨f0,f1,f2,f3,f4,f5⟩:=hf it (by simp)
  have W:=Walks.strWide (prog:=X.prog) (w:=X.w) (I.ok.hd hc) it z t
  have hi:i < z.cps.size:=by simpa [Zh2,Itk] using hg
  refine W.item i s _ _ hi st fun v h' tk hv st' kk=>?_
  obtain ⟨c,t',hc',rfl⟩:=hv
  have I1:Inv X pins σ H { s with heap:=h',toks:=tk }:=I.turned (fun b o hb e=>kk b o (by simpa using hb) e) f0 f1 f3 f4 f5
  exact ⟨_,rfl,wpAny_of_eq (ht _ _) ⟨.str ⟨#[c]⟩,H,I1,⟨_,rfl⟩,⟨rfl,by simp [Zh2,hc']⟩,st',fun b hb=>(hf b hb).1⟩⟩
 done:=by
  intro X hP hw hK hc i pins s σ H E I hf st hg
  subst hP hw hK
  obtain ⟨f0,f1,f2,f3,f4,f5⟩:=hf it (by simp)
  have hi:z.cps.size≤i:=by simpa [Zh2,Itk] using hg
  exact wpAny_pyNext_wide_end (I.ok.hd hc) st (by simp [hi]) fun h' eb=>⟨rfl,I.turned (t':=s.toks) (fun b o hb e=>eb b o hb e) f0 f1 f3 f4 f5⟩
 self:=fun A i s Q E st h=>wpAny_pyIter_striter_wide st h
def Zxo (K:PySem.W.Frag) (tl:TE):TI:=fun σ H R=>tl σ H fun x H1=>(∃ a,x=.ref a∧(∃ xs,SqL K H1 a xs)∧R (Itl K a) H1)∨(∃ a,x=.ref a∧(∃ xs,SqT K H1 a xs)∧R (Itt K a) H1)∨(∃ z,x=.str z∧R (Itk (Zh2 z)) H1)
theorem Zun {X:Cx} {tg l:Expr} {tl:TE} (ht:∀ it u,letOwnedTupleGo tg it u=pure ()) (hl:PE X l tl):PI X tg l (Zxo X.K tl):=by
 intro pins s σ H R I h
 refine thn (hl pins s σ H _ I h) fun v s1 zz1=>?_
 obtain ⟨x,H1,I1,r1,q1⟩:=zz1
 rcases q1 with ⟨a,e,⟨xs,hq⟩,q⟩ | ⟨a,e,⟨xs,hq⟩,q⟩ | ⟨z,e,q⟩
 ·subst e
  cases r1
  obtain ⟨its,rv,p,hz⟩:=I1.list hq
  refine wpAny_pyIter_list p.isList ?_
  refine ⟨s1.heap.objs.size,[s1.heap.objs.size],_,_,H1,rfl,I1.kept (t':=s1.toks) fun b o e=>Heap.get?_push_of_some _ e,Zkr a _,⟨_,Heap.get?_push_size _ rfl,rfl,rfl⟩,fun b hb=>?_,q⟩
  have e:b=s1.heap.objs.size:=by simpa using hb
  subst e
  exact I1.fpOk (Nat.le_refl _) (I1.hok.fresh (Nat.le_refl _))
 ·subst e
  cases r1
  obtain ⟨its,rv,p,hz⟩:=I1.tuple hq
  refine wpAny_pyIter_tuple (show s1.heap.IsTuple a its.toArray from p) ?_
  refine ⟨s1.heap.objs.size,[s1.heap.objs.size],_,_,H1,rfl,I1.kept (t':=s1.toks) fun b o e=>Heap.get?_push_of_some _ e,Zjg a _,⟨_,Heap.get?_push_size _ rfl,rfl,rfl⟩,fun b hb=>?_,q⟩
  have e:b=s1.heap.objs.size:=by simpa using hb
  subst e
  exact I1.fpOk (Nat.le_refl _) (I1.hok.fresh (Nat.le_refl _))
 ·subst e
  obtain ⟨t,rfl⟩:=r1
  have fp:∀ b∈[s1.heap.objs.size],ZoU X pins H1 b:=fun b hb=>by
   have e:b=s1.heap.objs.size:=by simpa using hb
   subst e
   exact I1.fpOk (Nat.le_refl _) (I1.hok.fresh (Nat.le_refl _))
  cases ha:z.cps.all (· < 128)
  ·exact wpAny_pyIter_wide ha ⟨s1.heap.objs.size,[s1.heap.objs.size],_,_,H1,rfl,I1.kept (t':=s1.toks) fun b o e=>Heap.get?_push_of_some _ e,ZoJ ht _ z t,⟨_,Heap.get?_push_size _ rfl,rfl,rfl⟩,fp,q⟩
  ·exact wpAny_pyIter_ascii ha ⟨s1.heap.objs.size,[s1.heap.objs.size],_,_,H1,rfl,I1.kept (t':=s1.toks) fun b o e=>Heap.get?_push_of_some _ e,Znl ht _ z t,⟨_,Heap.get?_push_size _ rfl,rfl,rfl⟩,fp,q⟩
abbrev GI:=Sw→Hw→(List W→(Hw→Prop)→Hw→Prop)→Prop
def GI.M (g:GI):Prop:=∀ ω G (R R':List W→(Hw→Prop)→Hw→Prop),(∀ ws gd G',R ws gd G'→R' ws gd G')→g ω G R→g ω G R'
def ZhY (z:Str):List W:=z.cps.toList.map fun c=>W.str ⟨#[c]⟩
theorem ZoR {z:Str}:TrL K H (Zh2 z) (ZhY z):=by
 unfold Zh2 ZhY
 generalize z.cps.toList=l
 induction l with
 | nil=>exact .nil
 | cons c l ih=>exact .cons (.str _) ih
def yes:Hw→Prop:=fun _=>True
def holds (a:Addr) (ws:List W):Hw→Prop:=fun G=>G a=some (.lst ws)
def Zbv (ga:GE):GI:=fun ω G R=>ga ω G fun w G1=>match w with
 | .tup ws=>R ws yes G1
 | .rol ws=>R ws yes G1
 | .str z=>R (ZhY z) yes G1
 | .ref a=>match G1 a with | some (.lst ws)=>R ws (holds a ws) G1 | _=>False
 | _=>False
theorem Zsg {ga:GE} (m:ga.M):GI.M (Zbv ga):=fun ω G R R' h q=>m _ _ _ _ (fun w G1 z=>by
 cases w with
 | tup ws=>exact h _ _ _ z
 | rol ws=>exact h _ _ _ z
 | str x=>exact h _ _ _ z
 | ref a =>
  dsimp only at z ⊢
  cases e:G1 a with
  | none=>rw [e] at z;exact z
  | some o =>
   rw [e] at z
   cases o with
   | lst ws=>exact h _ _ _ z
   | exc C=>exact z
   | ins C fs=>exact z
   | dct kvs=>exact z
 | _=>exact z) q
structure Ztm (K:PySem.W.Frag) (H1:Hp) (J:It) (ws:List W) (gd:Hw→Prop):Prop where
 go:∀ (i:Nat) (H:Hp) (G:Hw),Mono K H1 H→RelH K H G→gd G→i < ws.length→J.go i H
 yld:∀ (i:Nat) (H:Hp) (G:Hw) (x:V) (H':Hp),Mono K H1 H→RelH K H G→gd G→J.yld i H x H'→i < ws.length→Mono K H H'∧RelH K H' G∧∃ w,ws[i]?=some w∧Tr K H' x w
 stop:∀ (H:Hp) (G:Hw),Mono K H1 H→RelH K H G→gd G→J.stop ws.length H
theorem Zka {H H':Hp} {G:Hw} {x:V} {ws:List W} {i:Nat} (r:RelH K H G) (e:H'=H) (h:∃ w,ws[i]?=some w∧Tr K H x w):Mono K H H'∧RelH K H' G∧∃ w,ws[i]?=some w∧Tr K H' x w:=by
 subst e;exact ⟨.refl,r,h⟩
theorem ZhM {a:Addr} {ws:List W} {gd:Hw→Prop} {H1:Hp} (h:∀ H G,Mono K H1 H→RelH K H G→gd G→∃ vs,SqL K H a vs∧TrL K H vs ws):Ztm K H1 (Itl K a) ws gd where
 go:=fun i H G m r g hi=>by
  obtain ⟨vs,q,t⟩:=h H G m r g
  have hl:=t.length
  exact ⟨vs,vs[i]'(by omega),q,by simp⟩
 yld:=fun i H G x H' m r g y hi=>by
  obtain ⟨vs,q,t⟩:=h H G m r g
  obtain ⟨w,e,tw⟩:=t.get' (y.2 vs q)
  exact Zka r y.1 ⟨w,e,tw⟩
 stop:=fun H G m r g=>by
  obtain ⟨vs,q,t⟩:=h H G m r g
  exact ⟨vs,q,Nat.le_of_eq t.length⟩
theorem ZmJ {a:Addr} {vs:List V} {ws:List W} {gd:Hw→Prop} {H1:Hp} (q:SqT K H1 a vs) (t:TrL K H1 vs ws):Ztm K H1 (Itt K a) ws gd where
 go:=fun i H G m r g hi=>by
  have hl:=t.length
  exact ⟨vs,vs[i]'(by omega),m.tup _ _ q,by simp⟩
 yld:=fun i H G x H' m r g y hi=>by
  obtain ⟨w,e,tw⟩:=(t.mono m).get' (y.2 vs (m.tup _ _ q))
  exact Zka r y.1 ⟨w,e,tw⟩
 stop:=fun H G m r g=>⟨vs,m.tup _ _ q,Nat.le_of_eq t.length⟩
theorem Znr {vs:List V} {ws:List W} {gd:Hw→Prop} {H1:Hp} (t:TrL K H1 vs ws):Ztm K H1 (Itk vs) ws gd where
 go:=fun i H G m r g hi=>by show i < vs.length;rw [t.length];exact hi
 yld:=fun i H G x H' m r g y hi=>by
  obtain ⟨w,e,tw⟩:=(t.mono m).get' y.2
  exact Zka r y.1 ⟨w,e,tw⟩
 stop:=fun H G m r g=>by show vs.length≤ws.length;exact Nat.le_of_eq t.length
def PIw (X:Cx) (tg l:Expr) (gi:GI):Prop:=∃ wi:TI,PI X tg l wi∧∀ (σ:St) (H:Hp) (ω:Sw) (G:Hw) (R:List W→(Hw→Prop)→Hw→Prop) (R0:It→Hp→Prop),TrSt X.K H σ ω→RelH X.K H G→gi ω G R →
 (∀ ws gd G1 H1 J,R ws gd G1→Mono X.K H H1→RelH X.K H1 G1→gd G1→Ztm X.K H1 J ws gd→R0 J H1)→wi σ H R0
theorem Zuq {X:Cx} {tg l:Expr} {ga:GE} (ht:∀ it u,letOwnedTupleGo tg it u=pure ()) (ma:ga.M) (hl:PEw X l ga):PIw X tg l (Zbv ga):=by
 refine ⟨_,Zun ht hl,fun σ H ω G R R0 ts r q k=>⟨ω,G,ts,r,ma _ _ _ _ (fun w G1 z v H1 m t r1=>?_) q⟩⟩
 cases t with
 | tup h l=>exact .inr (.inl ⟨_,rfl,⟨_,h⟩,k _ _ _ H1 _ z m r1 trivial (ZmJ h l)⟩)
 | rol h l=>exact .inl ⟨_,rfl,⟨_,h.sq⟩,k _ _ _ H1 _ z m r1 trivial (ZhM fun H2 G2 m2 _ _=>⟨_,(m2.rol _ _ h).sq,l.mono m2⟩)⟩
 | str x=>exact .inr (.inr ⟨x,rfl,k _ _ _ H1 _ z m r1 trivial (Znr ZoR)⟩)
 | ref a =>
  dsimp only at z
  cases e:G1 a with
  | none=>rw [e] at z;exact z.elim
  | some o =>
   rw [e] at z
   cases o with
   | exc C=>exact z.elim
   | ins C fs=>exact z.elim
   | dct kvs=>exact z.elim
   | lst ws =>
    obtain ⟨vs,e1,t1⟩:=r1 a _ e
    exact .inl ⟨a,rfl,⟨vs,SqL.of e1⟩,k _ _ _ H1 _ z m r1 e (ZhM fun H2 G2 m2 r2 g2=>let ⟨vs,e2,t2⟩:=r2 a _ g2;⟨vs,SqL.of e2,t2⟩)⟩
 | non=>exact z.elim
 | bl b=>exact z.elim
 | int i=>exact z.elim
structure TgW (X:Cx) (tg:Expr) (gg:GG):Prop where
 ex:∃ g:TG,PG X tg g∧∀ (x:V) (w:W) (σ:St) (ω:Sw) (H:Hp) (G:Hw) (Q:St→Hp→Prop),Tr X.K H x w→TrSt X.K H σ ω→RelH X.K H G→gg w ω G (dnS X.K H Q)→g x σ H Q
 mono:gg.M
def gNm (i:Nat):GG:=fun w ω G Q=>Q (ω.set i (some w)) G
theorem Zgc {X:Cx} {x:Str} {p:Pos} {i:Nat} (hN:X.N.Nodup) (hi:X.N[i]?=some x) (hx:Loc X.env.scope x) (hf:X.fn x=true∨X.env.scope.names.lookup x=some .local):TgW X (.Name x p) (gNm i) where
 ex:=⟨_,ZcA hN hi hx hf,fun x w σ ω H G Q t ts r q=>q _ H .refl (ts.set i t) r⟩
 mono:=fun _ _ _ _ _ h q=>h _ _ q
def ZiL (i j:Nat):GG:=fun w ω G Q=>match w with | .tup [a,b]=>Q ((ω.set i (some a)).set j (some b)) G | _=>False
theorem ZuT {X:Cx} {x y:Str} {p p' pos:Pos} {k i j:Nat} (hc:X.calm=true) (hN:X.N.Nodup) (hi:X.N[i]?=some x) (hx:Loc X.env.scope x) (hf:X.fn x=true∨X.env.scope.names.lookup x=some .local)
  (hj:X.N[j]?=some y) (hy:Loc X.env.scope y) (hfy:X.fn y=true∨X.env.scope.names.lookup y=some .local):TgW X (.Tuple [.Name x p,.Name y p'] k pos) (ZiL i j) where
 ex:=⟨_,Zld hc (Zcv (ZcA hN hi hx hf) (Zcv (ZcA hN hj hy hfy) Ziv)),fun v w σ ω H G Q t ts r q=>by
  unfold ZiL at q
  split at q
  ·rename_i a b
   cases t with
   | tup h l =>
    cases l with
    | cons ta l =>
     cases l with
     | cons tb l =>
      cases l
      exact ⟨_,_,rfl,h,rfl,_,_,rfl,_,_,rfl,rfl,q _ H .refl ((ts.set i ta).set j tb) r⟩
  ·exact q.elim⟩
 mono:=fun w ω G Q Q' h q=>by
  unfold ZiL at q ⊢
  split
  ·exact h _ _ q
  ·rename_i z
   split at q
   ·exact (z _ _ rfl).elim
   ·exact q
def Zdn (gd:Hw→Prop) (gg:GG) (gb:GS) (D:Ew):List W→Sw→Hw→Prop
 | [],ω,G=>gd G∧D.nx ω G
 | x::xs,ω,G=>gd G∧gg x ω G fun ω1 G1=>gb { nx:=Zdn gd gg gb D xs,rt:=D.rt,bk:=D.nx,ct:=Zdn gd gg gb D xs } ω1 G1
def Zgo (gi:GI) (gg:GG) (gb:GS):GS:=fun D ω G=>gi ω G fun ws gd G1=>Zdn gd gg gb D ws ω G1
theorem Zlx {gd:Hw→Prop} {gg:GG} {gb:GS} (mg:gg.M) (mb:gb.M) {D D':Ew} (h1:∀ a b,D.nx a b→D'.nx a b) (h2:∀ a b,D.rt a b→D'.rt a b):∀ (ws:List W) (ω:Sw) (G:Hw),Zdn gd gg gb D ws ω G→Zdn gd gg gb D' ws ω G
 | [],ω,G,q=>⟨q.1,h1 _ _ q.2⟩
 | x::xs,ω,G,q=>⟨q.1,mg _ _ _ _ _ (fun ω1 G1 z=>mb _ _ { nx:=Zdn gd gg gb D xs,rt:=D.rt,bk:=D.nx,ct:=Zdn gd gg gb D xs } _ (fun a b y=>Zlx mg mb h1 h2 xs a b y) h2 h1 (fun a b y=>Zlx mg mb h1 h2 xs a b y) z) q.2⟩
theorem Zu7 {gi:GI} {gg:GG} {gb:GS} (mi:gi.M) (mg:gg.M) (mb:gb.M):GS.M (Zgo gi gg gb):=fun ω G D D' h1 h2 h3 h4 q=>mi _ _ _ _ (fun ws gd G1 z=>Zlx mg mb h1 h2 ws ω G1 z) q
theorem Zp0 {gd:Hw→Prop} {gg:GG} {gb:GS} {D:Ew} {ws:List W} {ω:Sw} {G:Hw} (q:Zdn gd gg gb D ws ω G):gd G:=by
 cases ws with
 | nil=>exact q.1
 | cons w ws=>exact q.1
theorem Zu8 {X:Cx} {P:Hp→Prop} {tg iter:Expr} {body:List Stmt} {pos:Pos} {gi:GI} {gg:GG} {gb:GS} (hp:PassesOwn (model X.prog X.w) X.A X.env X.xe) (hc:X.calm=true) (mi:gi.M) (mb:gb.M) (hi:PIw X tg iter gi) (hg:TgW X tg gg) (hb:ZpM X ZwQ body gb)
  (hs:∀ x,foldedSetIterable iter X.env x=pure x:=by intro _;rfl):PSw X P (.For tg iter body [] pos) (Zgo gi gg gb):=by
 intro B hB
 obtain ⟨wi,hwi,hi⟩:=hi
 obtain ⟨g,hpg,hgg⟩:=hg.ex
 have mg:=hg.mono
 have hb':PSs X body (fun D σ H=>∃ B',upS X.K B' gb D σ H):=(by rintro pins s σ H D I ⟨B',z⟩;exact hb B' trivial pins s σ H D I z)
 refine ZfP (ZuB hp hc hwi hpg hb' hs) fun D σ H zz2=>?_
 obtain ⟨ω,G,ts,r,mb0,q⟩:=zz2
 refine hi σ H ω G _ _ ts r q fun ws gd G1 H1 J z m1 r1 hgd wk=>?_
 have mb1:=mb0.trans m1
 refine ⟨fun i m σ' H'=>m=ws.length - i∧i≤ws.length∧Mono X.K H1 H'∧∃ ω' G',TrSt X.K H' σ' ω'∧RelH X.K H' G'∧Zdn gd gg gb (dnD X.K B D) (ws.drop i) ω' G',⟨ws.length,by simp,Nat.zero_le _,.refl,ω,G1,ts.mono m1,r1,by simpa using z⟩,?_⟩
 rintro i m σ' H' ⟨rfl,hle,mm,ω',G',ts',r',q'⟩
 have hgd':=Zp0 q'
 by_cases hlt:i < ws.length
 ·refine .inr ⟨wk.go i H' G' mm r' hgd' hlt,fun σ2 H2=>Mono X.K H1 H2∧∃ ω2 G2,TrSt X.K H2 σ2 ω2∧RelH X.K H2 G2∧Zdn gd gg gb (dnD X.K B D) (ws.drop (i+1)) ω2 G2,
   (by rintro σ2 H2 ⟨y1,y2⟩;exact ⟨ws.length - (i+1),by omega,rfl,hlt,y1,y2⟩),fun x H2 y=>?_⟩
  obtain ⟨my,ry,w,ew,tw⟩:=wk.yld i H' G' x H2 mm r' hgd' y hlt
  have mm:=mm.trans my
  have ed:ws.drop i=w::ws.drop (i+1):=by
   obtain ⟨h',e'⟩:=List.getElem?_eq_some_iff.mp ew
   rw [← e'];exact List.drop_eq_getElem_cons h'
  rw [ed] at q'
  refine hgg x w σ' ω' _ G' _ tw (ts'.mono my) ry (mg _ _ _ _ _ (fun ω1 G1' z1 σ1 H3 m3 ts3 r3=>?_) q'.2)
  exact ⟨H1,ω1,G1',ts3,r3,mm.trans m3,mb _ _ _ _ (fun a b y σ4 H4 m4 ts4 r4=>⟨m4,a,b,ts4,r4,y⟩) (fun a b y=>Zc6 mb1 y) (fun a b y=>Zqt mb1 y) (fun a b y σ4 H4 m4 ts4 r4=>⟨m4,a,b,ts4,r4,y⟩) z1⟩
 ·have e:i=ws.length:=by omega
  subst e
  rw [List.drop_length] at q'
  exact .inl ⟨wk.stop H' G' mm r' hgd',q'.2 σ' H' (mb1.trans mm) ts' r'⟩
def Zb4 (gd:Hw→Prop) (gg:GG) (gt:GT) (ge:GE) (R:List W→Hw→Prop):List W→Sw→Hw→List W→Prop
 | [],_,G,ys=>gd G∧R ys G
 | x::xs,ω,G,ys=>gd G∧ys.length < sizeLine∧gg x ω G fun ω1 G1=>gt ω1 G1 fun b G2=>if b=true then ge ω1 G2 fun y G3=>Zb4 gd gg gt ge R xs ω1 G3 (ys++[y]) else Zb4 gd gg gt ge R xs ω1 G2 ys
def ZcX (gi:GI) (n:Nat) (gg:GG) (gt:GT) (ge:GE):GE:=fun ω G Q=>gi ω G fun ws gd G1=>Zb4 gd gg gt ge (fun ys G2=>∀ p,G2 p=none→Q (.ref p) (put G2 p (.lst ys))) ws (List.replicate n none) G1 []
theorem ZhB {gd:Hw→Prop} {gg:GG} {gt:GT} {ge:GE} (mg:gg.M) (mt:gt.M) (me:ge.M) {R R':List W→Hw→Prop} (h:∀ a b,R a b→R' a b):∀ (ws:List W) (ω:Sw) (G:Hw) (ys:List W),Zb4 gd gg gt ge R ws ω G ys→Zb4 gd gg gt ge R' ws ω G ys
 | [],ω,G,ys,q=>⟨q.1,h _ _ q.2⟩
 | x::xs,ω,G,ys,q=>⟨q.1,q.2.1,mg _ _ _ _ _ (fun ω1 G1 z=>mt _ _ _ _ (fun b G2 z2=>by
   cases b with
   | true=>exact me _ _ _ _ (fun y G3 z3=>ZhB mg mt me h xs ω1 G3 _ z3) z2
   | false=>exact ZhB mg mt me h xs ω1 G2 _ z2) z) q.2.2⟩
theorem Ztl {gi:GI} {n:Nat} {gg:GG} {gt:GT} {ge:GE} (mi:gi.M) (mg:gg.M) (mt:gt.M) (me:ge.M):GE.M (ZcX gi n gg gt ge):=fun ω G Q Q' h q =>
 mi _ _ _ _ (fun ws gd G1 z=>ZhB mg mt me (fun ys G2 z p hp=>h _ _ (z p hp)) _ _ _ _ z) q
theorem ZkL {gd:Hw→Prop} {gg:GG} {gt:GT} {ge:GE} {R:List W→Hw→Prop} {ws:List W} {ω:Sw} {G:Hw} {ys:List W} (q:Zb4 gd gg gt ge R ws ω G ys):gd G:=by
 cases ws with
 | nil=>exact q.1
 | cons w ws=>exact q.1
def ZgR:GT:=fun _ G Q=>Q true G
theorem ZuC:GT.M ZgR:=fun _ _ _ _ h q=>h _ _ q
abbrev PFw (X:Cx) (ifs:List Expr) (g:GT):Prop:=PF X ifs (upT X.K g)
theorem Zu6 {X:Cx}:PFw X [] ZgR:=(by rintro pins s σ H Q I ⟨ω,G,ts,r,q⟩;exact Zvo pins s σ H Q I (q H .refl r))
theorem ZtP {X:Cx} {c:Expr} {g:GT} (h:PTw X c g):PFw X [c] g:=ZtA h
theorem Zo0 {n:Nat} {σ:St} (h:σ=List.replicate n none):TrSt K H σ (List.replicate n none):=by
 subst h
 refine ⟨by simp,fun i w e=>?_⟩
 rw [List.getElem?_replicate] at e
 split at e <;> cases e
theorem Zs1 {X:Cx} {Nc:List Str} {gi:GI} {gg:GG} {gt:GT} {ge:GE} {wi:TI} {g:TG} (hwi:∀ (σ:St) (H:Hp) (ω:Sw) (G:Hw) (R:List W→(Hw→Prop)→Hw→Prop) (R0:It→Hp→Prop),TrSt X.K H σ ω→RelH X.K H G→gi ω G R →
   (∀ ws gd G1 H1 J,R ws gd G1→Mono X.K H H1→RelH X.K H1 G1→gd G1→Ztm X.K H1 J ws gd→R0 J H1)→wi σ H R0)
  (hgg:∀ (x:V) (w:W) (σ:St) (ω:Sw) (H:Hp) (G:Hw) (Q:St→Hp→Prop),Tr X.K H x w→TrSt X.K H σ ω→RelH X.K H G→gg w ω G (dnS X.K H Q)→g x σ H Q) (mg:gg.M) (mt:gt.M) (me:ge.M) (σ:St) (H:Hp) (Q:VK) (h:up X.K (ZcX gi Nc.length gg gt ge) σ H Q) :
  Zqx wi (fun _=>List.replicate Nc.length none) g (upT X.K gt) (up X.K ge) σ H Q:=by
 obtain ⟨ω,G,ts,r,q⟩:=h
 refine hwi σ H ω G _ _ ts r q fun ws gd G1 H1 J z m1 r1 hgd wk=>?_
 refine ⟨fun i m σ' H' vs=>m=ws.length - i∧i≤ws.length∧Mono X.K H1 H'∧∃ ω' G' ys,TrSt X.K H' σ' ω'∧RelH X.K H' G'∧TrL X.K H' vs ys∧Zb4 gd gg gt ge (fun ys G2=>∀ p,G2 p=none→dn X.K H Q (.ref p) (put G2 p (.lst ys))) (ws.drop i) ω' G' ys,
  ⟨ws.length,by simp,Nat.zero_le _,.refl,_,G1,[],Zo0 rfl,r1,.nil,by simpa using z⟩,?_⟩
 rintro i m σ' H' vs ⟨rfl,hle,mm,ω',G',ys,ts',r',tv,q'⟩
 have hgd':=ZkL q'
 by_cases hlt:i < ws.length
 ·have hw:∃ w,ws[i]?=some w:=⟨ws[i],by simp [hlt]⟩
  obtain ⟨w0,ew0⟩:=hw
  have ed:ws.drop i=w0::ws.drop (i+1):=by
   obtain ⟨h',e'⟩:=List.getElem?_eq_some_iff.mp ew0
   rw [← e'];exact List.drop_eq_getElem_cons h'
  rw [ed] at q'
  refine .inr ⟨wk.go i H' G' mm r' hgd' hlt,by rw [tv.length];exact q'.2.1,fun σ2 H2 vs2=>Mono X.K H1 H2∧∃ ω2 G2 ys2,TrSt X.K H2 σ2 ω2∧RelH X.K H2 G2∧TrL X.K H2 vs2 ys2∧Zb4 gd gg gt ge (fun ys G2=>∀ p,G2 p=none→dn X.K H Q (.ref p) (put G2 p (.lst ys))) (ws.drop (i+1)) ω2 G2 ys2,
   (by rintro σ2 H2 vs2 ⟨y1,y2⟩;exact ⟨ws.length - (i+1),by omega,rfl,hlt,y1,y2⟩),fun x H2 y=>?_⟩
  obtain ⟨my,ry,w,ew,tw⟩:=wk.yld i H' G' x H2 mm r' hgd' y hlt
  have mm:=mm.trans my
  have tv:=tv.mono my
  rw [ew0] at ew;cases ew
  refine hgg x _ σ' ω' _ G' _ tw (ts'.mono my) ry (mg _ _ _ _ _ (fun ω1 G1' z1 σ1 H3 m3 ts3 r3=>?_) q'.2.2)
  refine ⟨ω1,G1',ts3,r3,mt _ _ _ _ (fun b G4 z4 H4 m4 r4=>?_) z1⟩
  cases b with
  | true=>exact ⟨ω1,G4,ts3.mono m4,r4,me _ _ _ _ (fun y5 G5 z5 v5 H5 m5 t5 r5=>⟨((mm.trans m3).trans m4).trans m5,ω1,G5,_,(ts3.mono m4).mono m5,r5,(((tv.mono m3).mono m4).mono m5).append (.cons t5 .nil),z5⟩) z4⟩
  | false=>exact ⟨(mm.trans m3).trans m4,ω1,G4,_,ts3.mono m4,r4,(tv.mono m3).mono m4,z4⟩
 ·have e:i=ws.length:=by omega
  subst e
  rw [List.drop_length] at q'
  exact .inl ⟨wk.stop H' G' mm r' hgd',fun p hp=>q'.2 p (r'.no hp) _ _ ((m1.trans mm).trans (Mono.new hp _)) (.ref p) (r'.new hp tv)⟩
structure TgU (X:Cx) (Nc:List Str) (scope:Scope) (tg:Expr) (gg:GG):Prop where
 ex:∃ g:TG,(∀ C fp s H,PG (cxB X Nc scope [] C fp s H) tg g)∧∀ (x:V) (w:W) (σ:St) (ω:Sw) (H:Hp) (G:Hw) (Q:St→Hp→Prop),Tr X.K H x w→TrSt X.K H σ ω→RelH X.K H G→gg w ω G (dnS X.K H Q)→g x σ H Q
 mono:gg.M
theorem Ze2 {X:Cx} {Nc:List Str} {scope:Scope} {x:Str} {p:Pos} {i:Nat} (hN:Nc.Nodup) (hi:Nc[i]?=some x) (hx:scope.names.lookup x=some .local):TgU X Nc scope (.Name x p) (gNm i) where
 ex:=⟨Zga i,fun C fp s H=>ZcA (X:=cxB X Nc scope [] C fp s H) hN hi (.inl (lookup_relabel_local hx)) (.inr (lookup_relabel_local hx)),fun x w σ ω H G Q t ts r q=>q _ H .refl (ts.set i t) r⟩
 mono:=fun _ _ _ _ _ h q=>h _ _ q
theorem ZrC {i j:Nat}:GG.M (ZiL i j):=fun w ω G Q Q' h q=>by
 unfold ZiL at q ⊢
 split
 ·exact h _ _ q
 ·rename_i z
  split at q
  ·exact (z _ _ rfl).elim
  ·exact q
theorem Zoa {X:Cx} {Nc:List Str} {scope:Scope} {x y:Str} {p p' pos:Pos} {k i j:Nat} (hc:X.calm=true) (hN:Nc.Nodup) (hi:Nc[i]?=some x) (hx:scope.names.lookup x=some .local) (hj:Nc[j]?=some y) (hy:scope.names.lookup y=some .local) :
  TgU X Nc scope (.Tuple [.Name x p,.Name y p'] k pos) (ZiL i j) where
 ex:=⟨L2.ZaN X.K 2 (L2.Zab (Zga i) (L2.Zab (Zga j) L2.Zan)),fun C fp s H=>Zld (X:=cxB X Nc scope [] C fp s H) hc (Zcv (ZcA hN hi (.inl (lookup_relabel_local hx)) (.inr (lookup_relabel_local hx))) (Zcv (ZcA hN hj (.inl (lookup_relabel_local hy)) (.inr (lookup_relabel_local hy))) Ziv)),
  fun v w σ ω H G Q t ts r q=>by
   unfold ZiL at q
   split at q
   ·rename_i a b
    cases t with
    | tup h l =>
     cases l with
     | cons ta l =>
      cases l with
      | cons tb l =>
       cases l
       exact ⟨_,_,rfl,h,rfl,_,_,rfl,_,_,rfl,rfl,q _ H .refl ((ts.set i ta).set j tb) r⟩
   ·exact q.elim⟩
 mono:=ZrC
theorem Zr6 {X:Cx} {elt tg iter:Expr} {ifs:List Expr} {scope:Scope} {pos:Pos} {Nc:List Str} {gi:GI} {gg:GG} {gt:GT} {ge:GE} (hc:X.calm=true) (hi:PIw X tg iter gi) (B:Blk X Nc scope [] (fun _=>List.replicate Nc.length none))
  (hu:TgU X Nc scope tg gg) (mt:gt.M) (ht:∀ C fp s H,PFw (cxB X Nc scope [] C fp s H) ifs gt) (me:ge.M) (he:∀ C fp s H,PEw (cxB X Nc scope [] C fp s H) elt ge) (hs:∀ x,foldedSetIterable iter X.env x=pure x) :
  PEw X (.ListComp elt [⟨tg,iter,ifs,0⟩] scope pos) (ZcX gi Nc.length gg gt ge):=by
 obtain ⟨wi,hwi,hi⟩:=hi
 obtain ⟨g,hpg,hgg⟩:=hu.ex
 exact Zbz (Zpm hc hwi B hpg ht he hs) (Zs1 hi hgg hu.mono mt me)
end L3
namespace L3
open PySem PySem.Spec PyProof.Rows L2
variable {K:PySem.W.Frag} {H H' H2:Hp}
def Zdk (C:Int→Int→Prop) (f:Int→Int→Int):RW2:=fun x y G Q=>match x,y with
 | .int i,.int j=>C i j∧Q (.int (f i j)) G
 | _,_=>False
theorem ZfR {C:Int→Int→Prop} {f:Int→Int→Int}:RW2.M (Zdk C f):=fun x y G Q Q' h q=>by
 cases x <;> cases y <;> first | exact q | exact ⟨q.1,h _ _ q.2⟩
theorem Ziu {C:Int→Int→Prop} {f:Int→Int→Int} (x y:W) (v u:V) (G:Hw) (H:Hp) (Q:VK) (tx:Tr K H v x) (ty:Tr K H u y) (r:RelH K H G) (q:Zdk C f x y G (dn K H Q)):rI C (fun i j=>.int (f i j)) v u H Q:=by
 cases tx <;> first | exact q.elim | (cases ty <;> first | exact q.elim | exact ⟨_,_,rfl,rfl,q.1,q.2 _ H .refl (.int _) r⟩)
def ZgJ:RW2:=fun x y G Q=>match x,y with
 | .int i,.int j=>Q (.int (i+j)) G
 | .str a,.str b=>a.length+b.length≤sizeLine∧Q (.str (a++b)) G
 | .ref a,.ref b=>(match G a,G b with
  | some (.lst xs),some (.lst ys)=>xs.length+ys.length≤sizeLine∧∀ p,G p=none→Q (.ref p) (put G p (.lst (xs++ys)))
  | _,_=>False)
 | _,_=>False
theorem Zok:RW2.M ZgJ:=fun x y G Q Q' h q=>by
 cases x <;> cases y <;> first | exact q | exact h _ _ q | exact ⟨q.1,h _ _ q.2⟩ | skip
 rename_i a b
 unfold ZgJ at q ⊢
 dsimp only at q ⊢
 cases ea:G a with
 | none=>rw [ea] at q;exact q
 | some oa =>
  cases eb:G b with
  | none=>rw [ea,eb] at q;cases oa <;> exact q
  | some ob =>
   rw [ea,eb] at q
   cases oa <;> cases ob <;> first | exact q | exact ⟨q.1,fun p hp=>h _ _ (q.2 p hp)⟩
theorem ZnV {X:Cx}:OpR X (binaryOp .Add) (fun x y H Q=>(rI0 fun i j=>.int (i+j)) x y H Q∨(∃ i j,x=.str i∧y=.str j∧i.length+j.length≤sizeLine∧Q (.str (i++j)) H)∨Zvv x y H Q):=OpR.or Zua (OpR.or Znb ZtE)
theorem Zpv (x y:W) (v u:V) (G:Hw) (H:Hp) (Q:VK) (tx:Tr K H v x) (ty:Tr K H u y) (r:RelH K H G) (q:ZgJ x y G (dn K H Q)) :
  (rI0 fun i j=>.int (i+j)) v u H Q∨(∃ i j,v=.str i∧u=.str j∧i.length+j.length≤sizeLine∧Q (.str (i++j)) H)∨Zvv v u H Q:=by
 cases tx with
 | int i=>cases ty <;> first | exact q.elim | exact .inl ⟨_,_,rfl,rfl,q _ H .refl (.int _) r⟩
 | str i=>cases ty <;> first | exact q.elim | exact .inr (.inl ⟨_,_,rfl,rfl,q.1,q.2 _ H .refl (.str _) r⟩)
 | ref a =>
  cases ty <;> try exact q.elim
  rename_i b
  unfold ZgJ at q
  dsimp only at q
  cases ea:G a with
  | none=>rw [ea] at q;exact q.elim
  | some oa =>
   cases eb:G b with
   | none=>rw [ea,eb] at q;cases oa <;> exact q.elim
   | some ob =>
    rw [ea,eb] at q
    cases oa <;> cases ob <;> try exact q.elim
    obtain ⟨vs,e1,t1⟩:=r a _ ea
    obtain ⟨us,e2,t2⟩:=r b _ eb
    exact .inr (.inr ⟨a,b,vs,us,rfl,rfl,e1,e2,by rw [t1.length,t2.length];exact q.1,fun p hp=>q.2 p (r.no hp) _ _ (Mono.new hp _) (.ref p) (r.new hp (t1.append t2))⟩)
 | _=>exact q.elim
def Zhq (f:Int→Int→Bool):RW2:=fun x y G Q=>match x,y with
 | .int i,.int j=>Q (.bl (f i j)) G
 | _,_=>False
theorem ZrA {f:Int→Int→Bool}:RW2.M (Zhq f):=fun x y G Q Q' h q=>by
 cases x <;> cases y <;> first | exact q | exact h _ _ q
theorem ZnU {f:Int→Int→Bool} (x y:W) (v u:V) (G:Hw) (H:Hp) (Q:VK) (tx:Tr K H v x) (ty:Tr K H u y) (r:RelH K H G) (q:Zhq f x y G (dn K H Q)):rI0 (fun i j=>.bl (f i j)) v u H Q:=by
 cases tx <;> first | exact q.elim | (cases ty <;> first | exact q.elim | exact ⟨_,_,rfl,rfl,q _ H .refl (.bl _) r⟩)
def opt (o:Option W) (f:W→Prop):Prop:=match o with | some w=>f w | none=>False
theorem Zsb {o:Option W} {f f':W→Prop} (h:∀ w,f w→f' w) (q:opt o f):opt o f':=by
 cases o with
 | none=>exact q
 | some w=>exact h _ q
theorem ZgB {o:Option W} {f:W→Prop} (q:opt o f):∃ w,o=some w∧f w:=by
 cases o with
 | none=>exact q.elim
 | some w=>exact ⟨w,rfl,q⟩
def Zaq (f:W→W→Hw→Option W):RW2:=fun x y G Q=>opt (f x y G) fun w=>Q w G
theorem Zjn {f:W→W→Hw→Option W}:RW2.M (Zaq f):=fun x y G Q Q' h q=>Zsb (fun w z=>h _ _ z) q
def ixW (x y:W) (G:Hw):Option W:=match x,y with
 | .tup xs,.int i=>atI xs i
 | .rol xs,.int i=>atI xs i
 | .ref a,.int i=>(match G a with | some (.lst xs)=>atI xs i | _=>none)
 | .str z,.int i=>if z.length≤sizeLine then (atI z.cps.toList i).map fun c=>.str ⟨#[c]⟩ else none
 | _,_=>none
theorem Zoy {vs:List V} {ws:List W} {i:Int} {w:W} (t:TrL K H vs ws) (e:atI ws i=some w):∃ v,atI vs i=some v∧Tr K H v w:=by
 unfold atI at e ⊢
 rw [t.length]
 cases z:ixN ws.length i with
 | none=>rw [z] at e;cases e
 | some j =>
  rw [z] at e
  exact t.get e
theorem Zw7 {X:Cx}:IxR X (fun x y H Q=>ZwB X.K x y H Q∨Zwu X.K x y H Q∨ZvJ x y H Q):=IxR.or Zs5 (IxR.or ZuV Zvt)
theorem ZuF (x y:W) (v u:V) (G:Hw) (H:Hp) (Q:VK) (tx:Tr K H v x) (ty:Tr K H u y) (r:RelH K H G) (q:Zaq ixW x y G (dn K H Q)):ZwB K v u H Q∨Zwu K v u H Q∨ZvJ v u H Q:=by
 obtain ⟨w,e,q'⟩:=ZgB q
 cases ty with
 | int i =>
  cases tx with
  | tup h l =>
   obtain ⟨v',e',t'⟩:=Zoy l e
   exact .inr (.inl ⟨_,_,_,_,rfl,rfl,h,e',q' _ H .refl t' r⟩)
  | rol h l =>
   obtain ⟨v',e',t'⟩:=Zoy l e
   exact .inl ⟨_,_,_,_,rfl,rfl,h.sq,e',q' _ H .refl t' r⟩
  | str z =>
   unfold ixW at e;dsimp only at e
   split at e
   ·rename_i hz
    cases e1:atI z.cps.toList i with
    | none=>rw [e1] at e;cases e
    | some c =>
     rw [e1] at e;cases e
     exact .inr (.inr ⟨z,i,c,rfl,rfl,hz,e1,q' _ H .refl (.str _) r⟩)
   ·cases e
  | ref a =>
   unfold ixW at e;dsimp only at e
   cases eG:G a with
   | none=>rw [eG] at e;cases e
   | some o =>
    rw [eG] at e
    cases o with
    | exc C=>cases e
    | ins C fs=>cases e
    | dct kvs=>cases e
    | lst ws =>
     obtain ⟨vs,e1,l⟩:=r a _ eG
     obtain ⟨v',e',t'⟩:=Zoy l e
     exact .inl ⟨_,_,_,_,rfl,rfl,SqL.of e1,e',q' _ H .refl t' r⟩
  | _=>cases e
 | _=>cases x <;> cases e
end L3
set_option Elab.async false
set_option linter.all false
set_option maxRecDepth 100000
set_option maxHeartbeats 4000000
namespace L3
open PySem PySem.Spec PyProof.Rows L2
variable {K:PySem.W.Frag} {H H' H2:Hp}
structure Em (X:Cx) (e:Expr) (g:GE):Prop where
 p:PEw X e g
 m:g.M
structure Tm (X:Cx) (e:Expr) (g:GT):Prop where
 p:PTw X e g
 m:g.M
structure Wm (X:Cx) (e:Expr) (g:GT):Prop where
 p:PWw X e g
 m:g.M
structure Am (X:Cx) (es:List Expr) (g:GA):Prop where
 p:PAw X es g
 m:g.M
structure Sm (X:Cx) (P:Hp→Prop) (s:Stmt) (g:GS):Prop where
 p:PSw X P s g
 m:g.M
structure Ssm (X:Cx) (P:Hp→Prop) (s:List Stmt) (g:GS):Prop where
 p:ZpM X P s g
 m:g.M
structure Im (X:Cx) (tg l:Expr) (g:GI):Prop where
 p:PIw X tg l g
 m:g.M
def place (N:List Str) (x:Str):Option Nat:=N.findIdx? (·==x)
theorem Zpz {N:List Str} {x:Str} {i:Nat} (h:place N x=some i):N[i]?=some x:=by
 unfold place at h
 obtain ⟨hi,e,_⟩:=List.findIdx?_eq_some_iff_getElem.mp h
 rw [List.getElem?_eq_getElem hi,eq_of_beq e]
def ZvA (sc:Scope) (x:Str):Bool:=match sc.names.lookup x with | some .local=>true | some .cell=>true | some .free=>true | _=>false
theorem ZmL {sc:Scope} {x:Str} (h:ZvA sc x=true):Vis sc x:=by
 unfold ZvA at h
 split at h <;> first | (rename_i e;exact .inl e) | (rename_i e;exact .inr (.inl e)) | (rename_i e;exact .inr (.inr e)) | cases h
def ZkU (sc:Scope) (x:Str):Bool:=match sc.names.lookup x with | some .local=>true | _=>false
theorem ZgG {sc:Scope} {x:Str} (h:ZkU sc x=true):sc.names.lookup x=some .local:=by
 unfold ZkU at h
 split at h
 ·rename_i e;exact e
 ·cases h
section
variable {X:Cx} {a b c e f:Expr} {es Zcg:List Expr} {st:Stmt} {sts sts':List Stmt} {pos pos' p:Pos} {ga gb gc:GE} {gt gu:GT} {gs:GA} {g1 g2:GS} {ex:Xw} {P:Hp→Prop}
theorem Zae {i:Int} {j}:Em X (.Constant (.int i) j pos) (gC (.int i)):=⟨ZtM,Zue⟩
theorem Zfs {i:Bool} {j}:Em X (.Constant (.bool i) j pos) (gC (.bl i)):=⟨Zwo,Zue⟩
theorem Zar {i:Str} {j}:Em X (.Constant (.str i) j pos) (gC (.str i)):=⟨ZtL,Zue⟩
theorem ZmT (ha:Em X a ga) (hb:Em X b gb):Em X (.BinOp a .Add b pos) (Zal ZgJ ga gb):=⟨Zih ZnV Zok ha.m hb.m Zpv ha.p hb.p,Zfn Zok ha.m hb.m⟩
theorem ZhR (ha:Em X a ga) (hb:Em X b gb):Em X (.BinOp a .Sub b pos) (Zal (Zdk (fun _ _=>True) fun i j=>i - j) ga gb) :=
 ⟨Zih (r2:=rI (fun _ _=>True) fun i j=>.int (i - j)) (opI fun _ _ _ _ _ _ _ _ q=>sub_int q) ZfR ha.m hb.m Ziu ha.p hb.p,Zfn ZfR ha.m hb.m⟩
theorem ZkP (ha:Em X a ga) (hb:Em X b gb):Em X (.BinOp a .Mult b pos) (Zal (Zdk CMul fun i j=>i*j) ga gb):=⟨Zih ZuG ZfR ha.m hb.m Ziu ha.p hb.p,Zfn ZfR ha.m hb.m⟩
theorem Zoe (ha:Em X a ga) (hb:Em X b gb):Em X (.BinOp a .FloorDiv b pos) (Zal (Zdk ZvF fun i j=>i / j) ga gb):=⟨Zih Zsn ZfR ha.m hb.m Ziu ha.p hb.p,Zfn ZfR ha.m hb.m⟩
theorem Zif (ha:Em X a ga) (hb:Em X b gb):Em X (.BinOp a .Mod b pos) (Zal (Zdk (fun _ j=>0 < j) fun i j=>i % j) ga gb):=⟨Zih ZtJ ZfR ha.m hb.m Ziu ha.p hb.p,Zfn ZfR ha.m hb.m⟩
theorem Zrj (ha:Em X a ga) (hb:Em X b gb):Em X (.BinOp a .Pow b pos) (Zal (Zdk Ztu fun i j=>i ^ j.toNat) ga gb):=⟨Zih ZuJ ZfR ha.m hb.m Ziu ha.p hb.p,Zfn ZfR ha.m hb.m⟩
theorem Zas (hs:ZlW b) (ha:Em X a ga) (hb:Em X b gb):Em X (.Subscript a b pos) (Zal (Zaq ixW) ga gb):=⟨Zv7 Zw7 Zjn ha.m hb.m ZuF ha.p hb.p hs,Zfn Zjn ha.m hb.m⟩
theorem ZaE {k} (h:Am X es gs):Em X (.Tuple es k pos) (ZaN gs):=⟨Zvl h.m h.p,Zu1 h.m⟩
theorem ZbR (h:Am X es gs):Em X (.List es pos) (Zcr gs):=⟨ZuE h.m h.p,Zu5 h.m⟩
theorem Zf1 {op:BoolOp} (h:Em X a ga):Em X (.BoolOp op [a] pos) ga:=⟨ZtT h.p,h.m⟩
theorem Zkl (ha:Em X a ga) (hb:Em X (.BoolOp .And (b::Zcg) pos) gb):Em X (.BoolOp .And (a::b::Zcg) pos) (Zdx ga gb):=⟨ZuZ ha.m hb.m ha.p hb.p,Zr7 ha.m hb.m⟩
theorem Znd (ha:Em X a ga) (hb:Em X (.BoolOp .Or (b::Zcg) pos) gb):Em X (.BoolOp .Or (a::b::Zcg) pos) (Zht ga gb):=⟨Zwt ha.m hb.m ha.p hb.p,Zt6 ha.m hb.m⟩
theorem Zrk (ha:Em X a ga):Em X (.UnaryOp .Not a pos) (ZeO ga):=⟨Zt1 ha.m ha.p,Zsd ha.m⟩
theorem ZrD (hc:Tm X c gt) (ha:Em X a ga) (hb:Em X b gb):Em X (.IfExp c a b pos) (Zke gt ga gb):=⟨ZuP hc.m ha.m hb.m hc.p ha.p hb.p,Zvq hc.m ha.m hb.m⟩
theorem Zad:Am X [] Zan:=⟨Zvr,Zvw⟩
theorem Zaa (hst:starEach (e::es) X.env=(false,eval e X.env)::starEach es X.env) (ha:Em X e ga) (hs:Am X es gs):Am X (e::es) (Zab ga gs):=⟨ZrV ha.m hs.m ha.p hs.p hst,Zsk ha.m hs.m⟩
theorem Zao {x:Str} {k n:Nat} {sp:Spw} (D:Df X.prog X.w X.K X.mg X.base x k n sp) (hr:Room k X.A) (hg:Gl X x) (hp:ZnT X ex) (hdb:(x==("__debug__":Str))=false) (he:starEach (e::es) X.env=(false,eval e X.env)::starEach es X.env) (hpl:(backTo pos (starEach es X.env)).any (·.1)=false)
  (ha:Am X (e::es) gs):Em X (.Call (.Name x p) (e::es) [] pos) (Zap sp ex gs):=⟨ZsE D hr hg hp ha.m ha.p hdb he hpl,Zs7 D.mono ha.m⟩
theorem ZeN (he:∀ whole,isTrue e X.env whole=(do let v ← whole;standAt e.pos;holding [v] (truthy v))) (ha:Em X e ga):Tm X e (Zfd ga):=⟨Zub ha.m ha.p he,ZuW ha.m⟩
theorem Zfa (ha:Tm X a gt):Tm X (.UnaryOp .Not a pos) (gNt gt):=⟨Zvk ha.p,Zv2 ha.m⟩
theorem Zeo {op:BoolOp} {vs:List Expr} (h:Wm X (.BoolOp op vs pos) gt):Tm X (.BoolOp op vs pos) gt:=⟨Zsi h.p,h.m⟩
theorem Zkb (h:Tm X a gt):Wm X (.BoolOp .And [a] pos) gt:=⟨Zsl h.p,h.m⟩
theorem Zjf (h:Tm X a gt):Wm X (.BoolOp .Or [a] pos) gt:=⟨Zvd h.p,h.m⟩
theorem ZmH (ha:Tm X a gt) (hb:Wm X (.BoolOp .And (b::Zcg) pos) gu):Wm X (.BoolOp .And (a::b::Zcg) pos) (Zhs gt gu):=⟨Zt3 ha.m hb.m ha.p hb.p,ZtY ha.m hb.m⟩
theorem Zkf (ha:Tm X a gt) (hb:Wm X (.BoolOp .Or (b::Zcg) pos) gu):Wm X (.BoolOp .Or (a::b::Zcg) pos) (gOr gt gu):=⟨Zwk ha.m hb.m ha.p hb.p,Zwh ha.m hb.m⟩
theorem Zay:Ssm X P [] Zax:=⟨Zte,Ztd⟩
theorem Zak (h:Sm X P st g1):Ssm X P [st] g1:=⟨ZrX h.p,h.m⟩
theorem Zai (h1:Sm X P st g1) (h2:Ssm X P sts g2):Ssm X P (st::sts) (ZaB g1 g2):=⟨ZqC h1.m h2.m h1.p h2.p,Zvu h1.m h2.m⟩
theorem Zav (ha:Em X e ga):Sm X P (.Return (some e) pos) (ZaL ga):=⟨ZuK ha.m ha.p,Zvh ha.m⟩
theorem Zen (hs:swapsWith e none pos.line X.env=pure false) (ha:Em X e ga):Sm X P (.Expr e pos) (ZbA ga):=⟨Zr1 ha.m ha.p hs,ZsW ha.m⟩
theorem ZaZ (hc:Tm X c gt) (h1:Ssm X P sts g1) (h2:Ssm X P sts' g2):Sm X P (.If c sts sts' pos) (gIf gt g1 g2):=⟨ZvT hc.m h1.m h2.m hc.p h1.p h2.p,Zv3 hc.m h1.m h2.m⟩
theorem Zc0 {tg l:Expr} (ht:∀ it u,letOwnedTupleGo tg it u=pure ()) (hl:Em X l ga):Im X tg l (Zbv ga):=⟨Zuq ht hl.m hl.p,Zsg hl.m⟩
theorem Zhj {tg iter:Expr} {gi:GI} {gg:GG} {gb:GS} (hp:PassesOwn (model X.prog X.w) X.A X.env X.xe) (hc:X.calm=true) (hs:∀ x,foldedSetIterable iter X.env x=pure x) (hi:Im X tg iter gi) (hg:TgW X tg gg) (hb:Ssm X ZwQ sts gb):Sm X P (.For tg iter sts [] pos) (Zgo gi gg gb) :=
 ⟨Zu8 hp hc hi.m hb.m hi.p hg hb.p hs,Zu7 hi.m hg.mono hb.m⟩
end
end L3
namespace L3
open PySem PySem.Spec PyProof.Rows L2
variable {K:PySem.W.Frag} {H H' H2:Hp}
theorem Zn5 {bs:List Bool} {its:List Value} (r:Vals (bs.map V.bl) its) {i:Nat} {v:Value} (e:its.toArray[i]?=some v):v=.bool (bs.getD i false):=by
 have e':its[i]?=some v:=by simpa using e
 have hl:=r.length
 rw [List.length_map] at hl
 have hi:i < its.length:=(List.getElem?_eq_some_iff.mp e').1
 have hb:bs[i]?=some (bs[i]'(by omega)):=List.getElem?_eq_getElem _
 obtain ⟨u,e1,r1⟩:=r.get (i:=i) (x:=.bl (bs[i]'(by omega))) (by rw [List.getElem?_map,hb];rfl)
 rw [e'] at e1;cases e1
 rw [List.getD_eq_getElem?_getD,hb]
 exact r1
theorem Zol {bs:List Bool}:(List.range bs.length).all (fun i=>bs.getD i false)=bs.all id:=by
 rw [Bool.eq_iff_iff]
 simp only [List.all_eq_true,List.mem_range,id]
 constructor
 ·intro h b hb
  obtain ⟨i,hi,e⟩:=List.mem_iff_getElem.mp hb
  have:=h i hi
  rw [List.getD_eq_getElem?_getD,List.getElem?_eq_getElem hi] at this
  rw [← e];exact this
 ·intro h i hi
  rw [List.getD_eq_getElem?_getD,List.getElem?_eq_getElem hi]
  exact h _ (List.getElem_mem hi)
section
variable {X:Cx}
theorem ZoY (hc:X.calm=true):CallR X (.builtin "all") (fun xs H Q=>∃ (p:Addr) (bs:List Bool),xs=[.ref p]∧SqL X.K H p (bs.map V.bl)∧Q (.bl (bs.all id)) H):=by
 intro pins s σ H xs us Q I r h
 obtain ⟨p,bs,rfl,hq,q⟩:=h
 obtain ⟨u,rfl,rx⟩:=Zl2 r
 cases rx
 obtain ⟨its,r',pl,hz⟩:=I.list hq
 have hl:=r'.length
 rw [List.length_map] at hl
 obtain ⟨o,n,e,_⟩:=id pl
 refine call_all_walk (wpAny_pyIter_list pl.isList ⟨s.heap.objs.size,_,_,_,_,_,fun i=>bs.getD i false,rfl,Walks.list (A:=X.A.in1) (I.ok.hd hc) _ p (Nat.ne_of_lt (Heap.lt_size e)) its.toArray,
  ⟨⟨_,Heap.get?_push_size _ rfl,rfl,rfl⟩,pl.isList.push _⟩,fun i v s Q E hp hq=>by rw [Zn5 r' hp];exact wpAny_truthy_bool hq,fun h' tk k=>?_⟩)
 refine ⟨.bl (bs.all id),H,I.kept (t':=tk) fun b o e=>k b o (by simpa using Nat.ne_of_lt (Heap.lt_size e)) (Heap.get?_push_of_some _ e),?_,q⟩
 show Value.bool _=_
 rw [List.size_toArray,← hl,Zol]
end
abbrev RWc:=List W→Hw→Kw→Prop
def RWc.M (r:RWc):Prop:=∀ ws G (Q Q':Kw),(∀ w G',Q w G'→Q' w G')→r ws G Q→r ws G Q'
def gB (r:RWc) (gs:GA):GE:=fun ω G Q=>gs ω G fun ws G1=>r ws G1 Q
theorem ZwZ {r:RWc} {gs:GA} (mr:r.M) (ms:gs.M):GE.M (gB r gs):=fun ω G Q Q' h q=>ms _ _ _ _ (fun ws G1 z=>mr _ _ _ _ h z) q
theorem ZwK {r:RWc} {r1:List V→Hp→VK→Prop} {gs:GA} (mr:r.M) (ms:gs.M) (hr:∀ ws vs G H Q,TrL K H vs ws→RelH K H G→r ws G (dn K H Q)→r1 vs H Q) (σ:St) (H:Hp) (Q:VK) (h:up K (gB r gs) σ H Q):tCB r1 (upA K gs) σ H Q:=by
 obtain ⟨ω,G,ts,rh,q⟩:=h
 exact ⟨ω,G,ts,rh,ms _ _ _ _ (fun ws G1 z vs H1 m t r1'=>hr ws vs G1 H1 Q t r1' (mr _ _ _ _ (fun w G' y=>Zc6 m y) z)) q⟩
section
variable {X:Cx} {x:Str} {p pos:Pos} {e:Expr} {es:List Expr} {gs:GA} {r:RWc} {r1:List V→Hp→VK→Prop} {id T:String}
theorem Ztx (hc:CallR X (.builtin id) r1) (mr:r.M) (hr:∀ ws vs G H Q,TrL X.K H vs ws→RelH X.K H G→r ws G (dn X.K H Q)→r1 vs H Q) (hg:Gl X x) (hm:X.mg x=none) (hv:bootBuiltins x=some (.builtin id)) (hn:x≠"__name__") (hdb:(x==("__debug__":Str))=false)
  (he:starEach (e::es) X.env=(false,eval e X.env)::starEach es X.env) (hpl:(backTo pos (starEach es X.env)).any (·.1)=false) (ha:Am X (e::es) gs):Em X (.Call (.Name x p) (e::es) [] pos) (gB r gs) :=
 ⟨Zbz (Zqz hc hg hm hv ha.p hn hdb he hpl) (ZwK mr ha.m hr),ZwZ mr ha.m⟩
theorem Zva (hc:CallR X (.type T) r1) (mr:r.M) (hr:∀ ws vs G H Q,TrL X.K H vs ws→RelH X.K H G→r ws G (dn X.K H Q)→r1 vs H Q) (hg:Gl X x) (hm:X.mg x=none) (hv:bootBuiltins x=some (.type T)) (hn:x≠"__name__") (hdb:(x==("__debug__":Str))=false)
  (he:starEach (e::es) X.env=(false,eval e X.env)::starEach es X.env) (hpl:(backTo pos (starEach es X.env)).any (·.1)=false) (ha:Am X (e::es) gs):Em X (.Call (.Name x p) (e::es) [] pos) (gB r gs) :=
 ⟨Zbz (Zoo hc hg hm hv ha.p hn hdb he hpl) (ZwK mr ha.m hr),ZwZ mr ha.m⟩
end
def rF (f:List W→Hw→Option W):RWc:=fun ws G Q=>opt (f ws G) fun w=>Q w G
theorem ZvB {f:List W→Hw→Option W}:RWc.M (rF f):=fun ws G Q Q' h q=>Zsb (fun w z=>h _ _ z) q
def ZlC:List W→Option (List Bool)
 | []=>some []
 | .bl b::r=>(ZlC r).map (b::·)
 | _=>none
theorem Zmw:∀ {ws:List W} {bs:List Bool} {vs:List V},ZlC ws=some bs→TrL K H vs ws→vs=bs.map V.bl
 | [],bs,vs,e,t=>by cases e;cases t;rfl
 | w::ws,bs,vs,e,t=>by
  cases t with
  | cons tw t =>
   cases w with
   | bl b =>
    unfold ZlC at e
    cases z:ZlC ws with
    | none=>rw [z] at e;cases e
    | some bs' =>
     rw [z] at e;cases e
     rw [Zl3 tw,Zmw z t];rfl
   | _=>cases e
def ZiB (G:Hw) (w:W):Option (List W):=match w with
 | .ref a=>(match G a with | some (.lst xs)=>some xs | _=>none)
 | _=>none
theorem Zfx {G:Hw} {w:W} {xs:List W} {v:V} (r:RelH K H G) (t:Tr K H v w) (e:ZiB G w=some xs):∃ a vs,v=.ref a∧w=.ref a∧G a=some (.lst xs)∧H a=some (.lst vs)∧TrL K H vs xs:=by
 cases t with
 | ref a =>
  unfold ZiB at e;dsimp only at e
  cases z:G a with
  | none=>rw [z] at e;cases e
  | some o =>
   rw [z] at e
   cases o with
   | lst ys=>cases e;obtain ⟨vs,e1,t1⟩:=r a _ z;exact ⟨a,vs,rfl,rfl,z,e1,t1⟩
   | exc C=>cases e
   | ins C fs=>cases e
   | dct kvs=>cases e
 | _=>cases e
def Zib (ws:List W) (G:Hw):Option W:=match ws with | [w]=>(ZiB G w).bind fun xs=>(ZlC xs).map fun bs=>.bl (bs.all id) | _=>none
theorem Zsj (ws:List W) (vs:List V) (G:Hw) (H:Hp) (Q:VK) (t:TrL K H vs ws) (r:RelH K H G) (q:rF Zib ws G (dn K H Q)):∃ (p:Addr) (bs:List Bool),vs=[.ref p]∧SqL K H p (bs.map V.bl)∧Q (.bl (bs.all id)) H:=by
 obtain ⟨w,e,q'⟩:=ZgB q
 unfold Zib at e
 split at e
 ·rename_i w0
  cases t with
  | cons tw t =>
   cases t
   obtain ⟨xs,e1,e2⟩:=Option.bind_eq_some_iff.mp e
   obtain ⟨bs,e3,e4⟩:=Option.map_eq_some_iff.mp e2
   obtain ⟨a,us,rfl,rfl,_,e5,t5⟩:=Zfx r tw e1
   subst e4
   have:=Zmw e3 t5
   subst this
   exact ⟨a,bs,rfl,SqL.of e5,q' _ H .refl (.bl _) r⟩
 ·cases e
def ZkR (w:W) (G:Hw):Option W:=match w with
 | .tup xs=>some (.int xs.length)
 | .rol xs=>some (.int xs.length)
 | .str z=>if z.length≤sizeLine then some (.int z.length) else none
 | .ref a=>(match G a with | some (.lst xs)=>some (.int xs.length) | _=>none)
 | _=>none
def ZfM (ws:List W) (G:Hw):Option W:=match ws with | [w]=>ZkR w G | _=>none
theorem ZsI (ws:List W) (vs:List V) (G:Hw) (H:Hp) (Q:VK) (t:TrL K H vs ws) (r:RelH K H G) (q:rF ZfM ws G (dn K H Q)):∃ x n,vs=[x]∧ZwN K x H n∧Q (.int n) H:=by
 obtain ⟨w,e,q'⟩:=ZgB q
 unfold ZfM at e
 split at e
 ·cases t with
  | cons tw t =>
   cases t
   cases tw with
   | tup h l=>cases e;exact ⟨_,_,rfl,.inr ⟨_,h,rfl⟩,by rw [l.length];exact q' _ H .refl (.int _) r⟩
   | rol h l=>cases e;exact ⟨_,_,rfl,.inl ⟨_,h.sq,rfl⟩,by rw [l.length];exact q' _ H .refl (.int _) r⟩
   | str z =>
    unfold ZkR at e;dsimp only at e
    split at e
    ·rename_i hz;cases e;exact ⟨_,_,rfl,⟨hz,rfl⟩,q' _ H .refl (.int _) r⟩
    ·cases e
   | ref a =>
    unfold ZkR at e;dsimp only at e
    cases z:G a with
    | none=>rw [z] at e;cases e
    | some o =>
     rw [z] at e
     cases o with
     | exc C=>cases e
     | ins C fs=>cases e
     | dct kvs=>cases e
     | lst xs =>
      cases e
      obtain ⟨us,e1,t1⟩:=r a _ z
      exact ⟨_,_,rfl,.inl ⟨_,SqL.of e1,rfl⟩,by rw [t1.length];exact q' _ H .refl (.int _) r⟩
   | _=>cases e
 ·cases e
end L3
namespace L3
open PySem PySem.Spec PyProof.Rows L2
variable {K:PySem.W.Frag} {H H' H2:Hp}
mutual
def eqD:W→W→Option Bool
 | .tup xs,.tup ys=>Zio xs ys
 | .non,.non=>some true
 | .bl a,.bl b=>some (a==b)
 | .bl a,.int b=>some ((if a then 1 else 0)==b)
 | .int a,.bl b=>some (a==(if b then 1 else 0))
 | .int a,.int b=>some (a==b)
 | .str a,.str b=>some (a==b)
 | .non,.int _=>some false
 | .int _,.non=>some false
 | .int _,.str _=>some false
 | .str _,.int _=>some false
 | .bl _,.str _=>some false
 | .str _,.bl _=>some false
 | .non,.str _=>some false
 | .str _,.non=>some false
 | .non,.bl _=>some false
 | .bl _,.non=>some false
 | .tup _,.str _=>some false
 | .str _,.tup _=>some false
 | .tup _,.bl _=>some false
 | .bl _,.tup _=>some false
 | _,_=>none
def Zio:List W→List W→Option Bool
 | [],[]=>some true
 | [],_::_=>some false
 | _::_,[]=>some false
 | x::xs,y::ys=>match eqD x y,Zio xs ys with
  | some a,some b=>some (a&&b)
  | _,_=>none
end
mutual
def dpW:W→Nat
 | .tup xs=>dpL xs+1
 | _=>0
def dpL:List W→Nat
 | []=>0
 | x::xs=>max (dpW x) (dpL xs)
end
def Zod:W→Option V
 | .non=>some .non
 | .bl b=>some (.bl b)
 | .int i=>some (.int i)
 | .str x=>some (.str x)
 | _=>none
theorem Zmj {v:V} {w:W} {f:V} (t:Tr K H v w) (e:Zod w=some f):v=f∧ZiI v=true:=by
 cases t <;> first | cases e;exact ⟨rfl,rfl⟩ | cases e
theorem ZhK:∀ {xs ys:List W} {b:Bool},Zio xs ys=some b→∃ e:Nat→Bool,(∀ (i:Nat) x y,xs[i]?=some x→ys[i]?=some y→eqD x y=some (e i))∧b=((List.range (min xs.length ys.length)).all e&&xs.length==ys.length)
 | [],[],b,h=>by
  cases (show some true=some b from h)
  exact ⟨fun _=>true,fun i x y h1 h2=>by simp at h1,by simp⟩
 | [],_::_,b,h=>by
  cases (show some false=some b from h)
  exact ⟨fun _=>true,fun i x y h1 h2=>by simp at h1,by simp⟩
 | _::_,[],b,h=>by
  cases (show some false=some b from h)
  exact ⟨fun _=>true,fun i x y h1 h2=>by simp at h2,by simp⟩
 | x::xs,y::ys,b,h=>by
  have h':(match eqD x y,Zio xs ys with | some a,some b=>some (a&&b) | _,_=>none)=some b:=by rw [← h];rfl
  cases e1:eqD x y with
  | none=>rw [e1] at h';cases h'
  | some a =>
   cases e2:Zio xs ys with
   | none=>rw [e1,e2] at h';cases h'
   | some c =>
    rw [e1,e2] at h'
    cases h'
    obtain ⟨f,hf,hc⟩:=ZhK e2
    refine ⟨fun i=>match i with | 0=>a | j+1=>f j,fun i x' y' h1 h2=>?_,?_⟩
    ·cases i with
     | zero=>simp at h1 h2;subst h1;subst h2;exact e1
     | succ j=>exact hf j x' y' (by simpa using h1) (by simpa using h2)
    ·have em:min (x::xs).length (y::ys).length=min xs.length ys.length+1:=by simp only [List.length_cons];omega
     rw [em,List.range_succ_eq_map,List.all_cons,List.all_map,hc]
     have e5:((x::xs).length==(y::ys).length)=(xs.length==ys.length):=by simp
     rw [e5,Bool.and_assoc]
     rfl
theorem Zm6:∀ (xs:List W),(∀ x∈xs,eqD x x=some true∨eqD x x=none)→Zio xs xs=some true∨Zio xs xs=none
 | [],_=>.inl rfl
 | x::xs,h=>by
  have e:Zio (x::xs) (x::xs)=(match eqD x x,Zio xs xs with | some a,some b=>some (a&&b) | _,_=>none):=rfl
  rw [e]
  rcases h x List.mem_cons_self with h1 | h1
  ·rcases Zm6 xs (fun y hy=>h y (List.mem_cons_of_mem _ hy)) with h2 | h2
   ·rw [h1,h2];exact .inl rfl
   ·rw [h1,h2];exact .inr rfl
  ·rw [h1];exact .inr rfl
theorem Zo3:∀ (x:W),eqD x x=some true∨eqD x x=none
 | .non=>.inl rfl
 | .bl b=>.inl (by show some (b==b)=_;simp)
 | .int b=>.inl (by show some (b==b)=_;simp)
 | .str b=>.inl (by show some (b==b)=_;simp)
 | .tup xs=>Zm6 xs (fun x _=>Zo3 x)
 | .rol _=>.inr rfl
 | .ref _=>.inr rfl
theorem Zf5:∀ {xs:List W} {x:W},x∈xs→dpW x≤dpL xs
 | y::xs,x,h=>by
  have e:dpL (y::xs)=max (dpW y) (dpL xs):=rfl
  rw [e]
  rcases List.mem_cons.mp h with rfl | h
  ·exact Nat.le_max_left ..
  ·exact Nat.le_trans (Zf5 h) (Nat.le_max_right ..)
theorem Zni:∀ (ws:List W) (ys:List W) (vs:List V),(∀ (v:V) (w y:W),w∈ws→Tr K H v w→Tr K H v y→eqD w y≠none→w=y)→TrL K H vs ws→TrL K H vs ys→Zio ws ys≠none→ws=ys:=by
 intro ws
 induction ws with
 | nil =>
  intro ys vs _ l l' _
  cases l
  cases l'
  rfl
 | cons w ws ih =>
  intro ys vs h l l' ne
  cases l with
  | cons t l =>
   cases l' with
   | @cons _ y _ ys t' l' =>
    have e:Zio (w::ws) (y::ys)=(match eqD w y,Zio ws ys with | some a,some b=>some (a&&b) | _,_=>none):=rfl
    have h1:eqD w y≠none:=fun z=>ne (by rw [e,z])
    have h2:Zio ws ys≠none:=fun z=>ne (by rw [e,z];cases eqD w y <;> rfl)
    rw [h _ w y List.mem_cons_self t t' h1,ih ys _ (fun v w y hm=>h v w y (List.mem_cons_of_mem _ hm)) l l' h2]
theorem Zuy {X:Cx} {pins:List (Addr×Obj)} {σ:St} {H:Hp} {s:Shared} (I:Inv X pins σ H s) (n:Nat):∀ (v:V) (w y:W),dpW w < n→Tr X.K H v w→Tr X.K H v y→eqD w y≠none→w=y:=by
 induction n with
 | zero=>intro v w y h;exact absurd h (Nat.not_lt_zero _)
 | succ n ih =>
  intro v w y h tw ty ne
  cases tw with
  | tup hq l =>
   rename_i a vs ws
   generalize hv:V.ref a=vr at ty
   cases ty with
   | tup hq' l' =>
    cases hv
    have e:=I.tuple_inj hq hq'
    subst e
    have hd2:dpL ws+1 < n+1:=h
    rw [Zni ws _ _ (fun v w y hm=>ih v w y (by have:=Zf5 hm;omega)) l l' ne]
   | rol _ _=>exact absurd rfl ne
   | ref _=>exact absurd rfl ne
   | non=>cases hv
   | bl _=>cases hv
   | int _=>cases hv
   | str _=>cases hv
  | rol _ _=>exact absurd (by cases y <;> rfl) ne
  | ref _=>exact absurd (by cases y <;> rfl) ne
  | non=>cases ty;rfl
  | bl _=>cases ty;rfl
  | int _=>cases ty;rfl
  | str _=>cases ty;rfl
theorem ZnS {X:Cx} {pins:List (Addr×Obj)} {σ:St} {H:Hp} {s:Shared} (I:Inv X pins σ H s) (n:Nat):∀ (w y:W) (v u:V) (vv uu:Value) (b:Bool) (A:Around),dpW w < n→Tr X.K H v w→Tr X.K H u y→RelV v vv→RelV u uu→eqD w y=some b→A.units+n < cLine→SeqAt.EqAt A s vv uu b:=by
 induction n with
 | zero=>intro w _ _ _ _ _ _ _ h;exact absurd h (Nat.not_lt_zero _)
 | succ n ih =>
  intro w y v u vv uu b A h tw ty rv ru e hu
  cases tw with
  | tup hq l =>
   cases ty with
   | tup hq' l' =>
    rename_i a vs ws a' us ys
    cases rv
    cases ru
    by_cases haa:a=a'
    ·subst haa
     have ew:=Zuy I (dpW (.tup ws)+1) _ _ _ (Nat.lt_succ_self _) (.tup hq l) (.tup hq' l') (by rw [e];simp)
     cases ew
     rcases Zo3 (.tup ws) with z | z
     ·rw [e] at z;cases z;exact SeqAt.EqAt.same _
     ·rw [e] at z;cases z
    ·obtain ⟨its,r1,p1,_⟩:=I.tuple hq
     obtain ⟨its',r2,p2,_⟩:=I.tuple hq'
     obtain ⟨f,hf,hb⟩:=ZhK (show Zio ws ys=some b from e)
     have l1:=r1.length
     have l2:=r2.length
     have l3:=l.length
     have l4:=l'.length
     refine SeqAt.EqAt.of_refs haa ?_
     have key:=SeqAt.RcAt.tuples (A:=A) (s:=s) (e:=f) (show s.heap.IsTuple a its.toArray from p1) (show s.heap.IsTuple a' its'.toArray from p2) (by omega) (fun j h1 h2=>?_)
     ·rw [hb]
      have e1:its.toArray.size=ws.length:=by rw [List.size_toArray];omega
      have e2:its'.toArray.size=ys.length:=by rw [List.size_toArray];omega
      rw [e1,e2] at key
      exact key
     ·have j1:j < ws.length:=by rw [List.size_toArray] at h1;omega
      have j2:j < ys.length:=by rw [List.size_toArray] at h2;omega
      obtain ⟨v1,g1,t1⟩:=l.get (List.getElem?_eq_getElem j1)
      obtain ⟨v2,g2,t2⟩:=l'.get (List.getElem?_eq_getElem j2)
      obtain ⟨u1,g3,rr1⟩:=r1.get g1
      obtain ⟨u2,g4,rr2⟩:=r2.get g2
      have eu1:its.toArray[j]=u1:=by
       have z:its[j]?=some its[j]:=List.getElem?_eq_getElem (by omega)
       rw [g3] at z
       have z':=Option.some.inj z
       rw [z'];simp
      have eu2:its'.toArray[j]=u2:=by
       have z:its'[j]?=some its'[j]:=List.getElem?_eq_getElem (by omega)
       rw [g4] at z
       have z':=Option.some.inj z
       rw [z'];simp
      rw [eu1,eu2]
      have hd:dpW (ws[j])≤dpL ws:=Zf5 (List.getElem_mem j1)
      have hd2:dpL ws+1 < n+1:=h
      exact ih _ _ _ _ _ _ _ A.in1 (by omega) t1 t2 rr1 rr2 (hf j _ _ (List.getElem?_eq_getElem j1) (List.getElem?_eq_getElem j2)) (by show A.units+1+n < cLine;omega)
   | str _ =>
    cases e;cases rv;obtain ⟨t,rfl⟩:=ru
    obtain ⟨its,r1,p1,_⟩:=I.tuple hq
    exact SeqAt.EqAt.tuple_str (A:=A) _ _ p1 (by omega)
   | bl _ =>
    cases e;cases rv;cases ru
    obtain ⟨its,r1,p1,_⟩:=I.tuple hq
    exact SeqAt.EqAt.tuple_bool _ p1 (by omega)
   | _=>cases e
  | non=>cases ty <;> cases e <;> exact ZkW rv ru rfl rfl
  | bl c =>
   cases ty with
   | tup hq l =>
    cases e;cases rv;cases ru
    obtain ⟨its,r1,p1,_⟩:=I.tuple hq
    exact SeqAt.EqAt.bool_tuple _ p1 (by omega)
   | _=>cases e <;> exact ZkW rv ru rfl rfl
  | int c=>cases ty <;> cases e <;> exact ZkW rv ru rfl rfl
  | str c =>
   cases ty with
   | tup hq l =>
    cases e;cases ru;obtain ⟨t,rfl⟩:=rv
    obtain ⟨its,r1,p1,_⟩:=I.tuple hq
    exact SeqAt.EqAt.str_tuple (A:=A) _ _ p1 (by omega)
   | _=>cases e <;> exact ZkW rv ru rfl rfl
  | rol _ _=>cases y <;> cases e
  | ref _=>cases y <;> cases e
end L3
set_option Elab.async false
set_option linter.all false
set_option maxRecDepth 100000
set_option maxHeartbeats 2000000
namespace L3
open PySem PySem.Spec PyProof.Rows L2
variable {K:PySem.W.Frag} {H H' H2:Hp}
def rSq (K:PySem.W.Frag) (neg:Bool):R2:=fun v u H Q=>∃ (a b:Addr) (vs us:List V) (ws ys:List W) (c:Bool),v=.ref a∧u=.ref b∧((SqT K H a vs∧SqT K H b us)∨(SqL K H a vs∧SqL K H b us))∧TrL K H vs ws∧TrL K H us ys∧dpL ws < 90∧Zio ws ys=some c∧Q (.bl (c != neg)) H
section
variable {X:Cx} {pins:List (Addr×Obj)} {σ:St} {H:Hp} {s:Shared}
theorem ZhH (I:Inv X pins σ H s) {A:Around} {vs us:List V} {ws ys:List W} {its its':List Value} (r1:Vals vs its) (r2:Vals us its') (t1:TrL X.K H vs ws) (t2:TrL X.K H us ys) (hd:dpL ws < 90) (hu:A.units+100 < cLine) {f:Nat→Bool}
  (hf:∀ (i:Nat) x y,ws[i]?=some x→ys[i]?=some y→eqD x y=some (f i)) (j:Nat) (h1:j < its.toArray.size) (h2:j < its'.toArray.size):SeqAt.EqAt A.in1 s its.toArray[j] its'.toArray[j] (f j):=by
 have l1:=r1.length
 have l2:=r2.length
 have l3:=t1.length
 have l4:=t2.length
 have j1:j < ws.length:=by rw [List.size_toArray] at h1;omega
 have j2:j < ys.length:=by rw [List.size_toArray] at h2;omega
 obtain ⟨v1,g1,t1'⟩:=t1.get (List.getElem?_eq_getElem j1)
 obtain ⟨v2,g2,t2'⟩:=t2.get (List.getElem?_eq_getElem j2)
 obtain ⟨u1,g3,rr1⟩:=r1.get g1
 obtain ⟨u2,g4,rr2⟩:=r2.get g2
 have eu1:its.toArray[j]=u1:=by
  have z:its[j]?=some its[j]:=List.getElem?_eq_getElem (by omega)
  rw [g3] at z
  rw [Option.some.inj z];simp
 have eu2:its'.toArray[j]=u2:=by
  have z:its'[j]?=some its'[j]:=List.getElem?_eq_getElem (by omega)
  rw [g4] at z
  rw [Option.some.inj z];simp
 rw [eu1,eu2]
 exact ZnS I 99 _ _ _ _ _ _ _ A.in1 (by have:=Zf5 (List.getElem_mem j1);omega) t1' t2' rr1 rr2 (hf j _ _ (List.getElem?_eq_getElem j1) (List.getElem?_eq_getElem j2)) (by show A.units+1+99 < cLine;omega)
end
theorem ZpU {X:Cx} (hu:X.A.units+100 < cLine):OpR X (compareOp .Eq) (rSq X.K false):=by
 intro pins s σ H x y v u Q I rx ry h
 obtain ⟨a,b,vs,us,ws,ys,c,rfl,rfl,hq,t1,t2,hd,e,q⟩:=h
 cases rx
 cases ry
 obtain ⟨f,hf,hb⟩:=ZhK e
 have l3:=t1.length
 have l4:=t2.length
 have fin:∀ d:Bool,d=c→EP X pins σ Q (.bool d) s:=fun d hd=>by subst hd;exact ⟨.bl d,H,I,rfl,by simpa using q⟩
 rcases hq with ⟨h1,h2⟩ | ⟨h1,h2⟩
 ·obtain ⟨its,r1,p1,_⟩:=I.tuple h1
  obtain ⟨its',r2,p2,_⟩:=I.tuple h2
  have l1:=r1.length
  have l2:=r2.length
  refine SeqAt.eq_tupleAt (e:=f) (show s.heap.IsTuple a its.toArray from p1) (show s.heap.IsTuple b its'.toArray from p2) (by omega) (ZhH I r1 r2 t1 t2 hd hu hf) (fin _ ?_)
  have e1:its.toArray.size=ws.length:=by rw [List.size_toArray];omega
  have e2:its'.toArray.size=ys.length:=by rw [List.size_toArray];omega
  rw [e1,e2,hb]
 ·obtain ⟨its,r1,p1,_⟩:=I.list h1
  obtain ⟨its',r2,p2,_⟩:=I.list h2
  have l1:=r1.length
  have l2:=r2.length
  have e1:its.toArray.size=ws.length:=by rw [List.size_toArray];omega
  have e2:its'.toArray.size=ys.length:=by rw [List.size_toArray];omega
  by_cases hl:ws.length=ys.length
  ·refine SeqAt.eq_listAt (e:=f) p1.isList p2.isList (by omega) (by omega) (ZhH I r1 r2 t1 t2 hd hu hf) (fin _ ?_)
   rw [e1,hb,hl];simp
  ·refine SeqAt.eq_list_lengthsAt p1.isList p2.isList (by rw [e1,e2];simpa using hl) (by omega) (fin _ ?_)
   rw [hb];simp [hl]
theorem ZqI {X:Cx} (hu:X.A.units+100 < cLine):OpR X (compareOp .NotEq) (rSq X.K true):=by
 intro pins s σ H x y v u Q I rx ry h
 obtain ⟨a,b,vs,us,ws,ys,c,rfl,rfl,hq,t1,t2,hd,e,q⟩:=h
 cases rx
 cases ry
 obtain ⟨f,hf,hb⟩:=ZhK e
 have l3:=t1.length
 have l4:=t2.length
 have fin:∀ d:Bool,d=!c→EP X pins σ Q (.bool d) s:=fun d hd=>by subst hd;exact ⟨.bl _,H,I,rfl,by simpa using q⟩
 rcases hq with ⟨h1,h2⟩ | ⟨h1,h2⟩
 ·obtain ⟨its,r1,p1,_⟩:=I.tuple h1
  obtain ⟨its',r2,p2,_⟩:=I.tuple h2
  have l1:=r1.length
  have l2:=r2.length
  refine SeqAt.RcNeAt.tuples (e:=f) (show s.heap.IsTuple a its.toArray from p1) (show s.heap.IsTuple b its'.toArray from p2) (by omega) (ZhH I r1 r2 t1 t2 hd hu hf) _ _ _ _ (fin _ ?_)
  have e1:its.toArray.size=ws.length:=by rw [List.size_toArray];omega
  have e2:its'.toArray.size=ys.length:=by rw [List.size_toArray];omega
  rw [e1,e2,hb]
 ·obtain ⟨its,r1,p1,_⟩:=I.list h1
  obtain ⟨its',r2,p2,_⟩:=I.list h2
  have l1:=r1.length
  have l2:=r2.length
  have e1:its.toArray.size=ws.length:=by rw [List.size_toArray];omega
  have e2:its'.toArray.size=ys.length:=by rw [List.size_toArray];omega
  by_cases hl:ws.length=ys.length
  ·refine SeqAt.RcNeAt.lists (e:=f) p1.isList p2.isList (by omega) (by omega) (ZhH I r1 r2 t1 t2 hd hu hf) _ _ _ _ (fin _ ?_)
   rw [e1,hb,hl];simp
  ·refine SeqAt.RcNeAt.lists_lengths p1.isList p2.isList (by rw [e1,e2];simpa using hl) (by omega) _ _ _ _ (fin _ ?_)
   rw [hb];simp [hl]
def eqW (x y:W) (G:Hw):Option Bool:=match x,y with
 | .tup xs,.tup ys=>if dpL xs < 90 then Zio xs ys else none
 | .ref a,.ref b=>(match G a,G b with
  | some (.lst xs),some (.lst ys)=>if dpL xs < 90 then Zio xs ys else none
  | _,_=>none)
 | .int a,.int b=>some (a==b)
 | .bl a,.bl b=>some (a==b)
 | .str a,.str b=>some (a==b)
 | .non,.non=>some true
 | .int _,.non=>some false
 | .non,.int _=>some false
 | .int _,.str _=>some false
 | .str _,.int _=>some false
 | .bl _,.str _=>some false
 | .str _,.bl _=>some false
 | .non,.str _=>some false
 | .str _,.non=>some false
 | .non,.bl _=>some false
 | .bl _,.non=>some false
 | _,_=>none
def eqF (neg:Bool) (x y:W) (G:Hw):Option W:=(eqW x y G).map fun c=>.bl (c != neg)
theorem ZvN (c:Bool):(c != true)=!c:=by cases c <;> rfl
theorem Zq9 (neg:Bool) (x y:W) (v u:V) (G:Hw) (H:Hp) (Q:VK) (tx:Tr K H v x) (ty:Tr K H u y) (r:RelH K H G) (q:Zaq (eqF neg) x y G (dn K H Q)):(ZsK v u=true∧Q (.bl (decide (v=u) != neg)) H)∨rSq K neg v u H Q:=by
 obtain ⟨w,e,q'⟩:=ZgB q
 obtain ⟨c,e1,e2⟩:=Option.map_eq_some_iff.mp e
 subst e2
 have qq:=q' (.bl (c != neg)) H .refl (.bl _) r
 have sc:∀ {i j:V},decide (i=j)=c→ZsK i j=true→(ZsK i j=true∧Q (.bl (decide (i=j) != neg)) H)∨rSq K neg i j H Q:=fun {i j} h1 h2=>.inl ⟨h2,by rw [h1];exact qq⟩
 cases tx with
 | tup hq l =>
  cases ty with
  | tup hq' l' =>
   unfold eqW at e1;dsimp only at e1
   split at e1
   ·rename_i hd
    exact .inr ⟨_,_,_,_,_,_,c,rfl,rfl,.inl ⟨hq,hq'⟩,l,l',hd,e1,qq⟩
   ·cases e1
  | _=>cases e1
 | ref a =>
  cases ty with
  | ref b =>
   unfold eqW at e1;dsimp only at e1
   cases ea:G a with
   | none=>rw [ea] at e1;cases e1
   | some oa =>
    cases eb:G b with
    | none=>rw [ea,eb] at e1;cases oa <;> cases e1
    | some ob =>
     rw [ea,eb] at e1
     cases oa <;> cases ob <;> try cases e1
     dsimp only at e1
     split at e1
     ·rename_i hd
      obtain ⟨vs,z1,t1⟩:=r a _ ea
      obtain ⟨us,z2,t2⟩:=r b _ eb
      exact .inr ⟨_,_,_,_,_,_,c,rfl,rfl,.inr ⟨SqL.of z1,SqL.of z2⟩,t1,t2,hd,e1,qq⟩
     ·cases e1
  | _=>cases e1
 | rol _ _=>cases y <;> cases e1
 | non=>cases ty <;> cases e1 <;> exact sc (by simp) rfl
 | bl b=>cases ty <;> cases e1 <;> exact sc (by first | exact ZnG | simp) rfl
 | int b=>cases ty <;> cases e1 <;> exact sc (by first | exact Zlr | simp) rfl
 | str b=>cases ty <;> cases e1 <;> exact sc (by first | exact ZlK | simp) rfl
theorem Zt0 {X:Cx} (hu:X.A.units+100 < cLine):OpR X (compareOp .Eq) (fun x y H Q=>(ZsK x y=true∧Q (.bl (decide (x=y) != false)) H)∨rSq X.K false x y H Q):=by
 intro pins s σ H x y v u Q I rx ry h
 rcases h with ⟨h1,h2⟩ | h
 ·exact Zwm pins s σ H x y v u Q I rx ry ⟨h1,by simpa using h2⟩
 ·exact ZpU hu pins s σ H x y v u Q I rx ry h
theorem ZuX {X:Cx} (hu:X.A.units+100 < cLine):OpR X (compareOp .NotEq) (fun x y H Q=>(ZsK x y=true∧Q (.bl (decide (x=y) != true)) H)∨rSq X.K true x y H Q):=by
 intro pins s σ H x y v u Q I rx ry h
 rcases h with ⟨h1,h2⟩ | h
 ·exact ZwA pins s σ H x y v u Q I rx ry ⟨h1,by rw [← ZvN];exact h2⟩
 ·exact ZqI hu pins s σ H x y v u Q I rx ry h
section
variable {X:Cx} {a b c e:Expr} {es Zcg:List Expr} {pos pos' p:Pos} {ga gb gc:GE} {gt gu:GT} {gs:GA}
def ZlB (G:Hw) (w:W):Option (List W):=match w with
 | .tup xs=>some xs
 | .rol xs=>some xs
 | .ref a=>(match G a with | some (.lst xs)=>some xs | _=>none)
 | _=>none
theorem ZjF {G:Hw} {w:W} {xs:List W} {v:V} (r:RelH K H G) (t:Tr K H v w) (e:ZlB G w=some xs):∃ a vs,v=.ref a∧(SqL K H a vs∨SqT K H a vs)∧TrL K H vs xs:=by
 cases t with
 | tup h l=>cases e;exact ⟨_,_,rfl,.inr h,l⟩
 | rol h l=>cases e;exact ⟨_,_,rfl,.inl h.sq,l⟩
 | ref a =>
  unfold ZlB at e;dsimp only at e
  cases z:G a with
  | none=>rw [z] at e;cases e
  | some o =>
   rw [z] at e
   cases o with
   | lst ys=>cases e;obtain ⟨vs,e1,t1⟩:=r a _ z;exact ⟨a,vs,rfl,.inl (SqL.of e1),t1⟩
   | exc C=>cases e
   | ins C fs=>cases e
   | dct kvs=>cases e
 | _=>cases e
def ZlG:List W→Option (List V)
 | []=>some []
 | w::ws=>(Zod w).bind fun v=>(ZlG ws).map (v::·)
theorem Zm3:∀ {ws:List W} {vs us:List V},ZlG ws=some us→TrL K H vs ws→vs=us∧vs.all ZiI=true
 | [],vs,us,e,t=>by cases e;cases t;exact ⟨rfl,rfl⟩
 | w::ws,vs,us,e,t=>by
  cases t with
  | cons tw t =>
   obtain ⟨f,e1,e2⟩:=Option.bind_eq_some_iff.mp (show (Zod w).bind (fun v=>(ZlG ws).map (v::·))=some us from e)
   obtain ⟨fs,e3,e4⟩:=Option.map_eq_some_iff.mp e2
   obtain ⟨h1,h2⟩:=Zmj tw e1
   obtain ⟨h3,h4⟩:=Zm3 e3 t
   subst e4
   exact ⟨by rw [h1,h3],by rw [List.all_cons,h2,h4];rfl⟩
def inF (neg:Bool) (x y:W) (G:Hw):Option W:=(Zod x).bind fun v=>(ZlB G y).bind fun xs=>(ZlG xs).map fun us=>.bl (if neg then !inV v us else inV v us)
theorem ZtD (neg:Bool) (x y:W) (v u:V) (G:Hw) (H:Hp) (Q:VK) (tx:Tr K H v x) (ty:Tr K H u y) (r:RelH K H G) (q:Zaq (inF neg) x y G (dn K H Q)):rIn K neg v u H Q:=by
 obtain ⟨w,e,q'⟩:=ZgB q
 obtain ⟨f,e1,e2⟩:=Option.bind_eq_some_iff.mp e
 obtain ⟨xs,e3,e4⟩:=Option.bind_eq_some_iff.mp e2
 obtain ⟨us,e5,e6⟩:=Option.map_eq_some_iff.mp e4
 subst e6
 obtain ⟨h1,h2⟩:=Zmj tx e1
 obtain ⟨a,vs,rfl,hq,t⟩:=ZjF r ty e3
 obtain ⟨h3,h4⟩:=Zm3 e5 t
 subst h1;subst h3
 exact ⟨a,vs,rfl,hq,h2,h4,q' _ H .refl (.bl _) r⟩
end
end L3
namespace L3
open PySem PySem.Spec PyProof.Rows L2
variable {K:PySem.W.Frag} {H H' H2:Hp}
section
variable {X:Cx} {P:Hp→Prop} {a b c e o i:Expr} {sts:List Stmt} {pos pos':Pos} {ga gb gc gv go gi:GE} {gt:GT} {g:GS} {gs:GA}
def Zme (gt:GT) (g:GS):GS:=fun D ω G=>∃ W:Nat→Sw→Hw→Prop,(∃ m,W m ω G)∧∀ m ω G,W m ω G →
 gt ω G fun b G1=>if b=true then g { nx:=fun ω' G'=>∃ m',m' < m∧W m' ω' G',rt:=D.rt,bk:=D.nx,ct:=fun ω' G'=>∃ m',m' < m∧W m' ω' G' } ω G1 else D.nx ω G1
theorem Zpy (mt:gt.M) (mb:g.M):GS.M (Zme gt g):=fun ω G D D' h1 h2 h3 h4 ⟨W,w0,turn⟩=>⟨W,w0,fun m ω G w=>mt _ _ _ _ (fun b G1 z=>by
 cases b with
 | true=>exact mb _ _ { nx:=fun ω' G'=>∃ m',m' < m∧W m' ω' G',rt:=D.rt,bk:=D.nx,ct:=fun ω' G'=>∃ m',m' < m∧W m' ω' G' } _ (fun _ _ y=>y) h2 h1 (fun _ _ y=>y) z
 | false=>exact h1 _ _ z) (turn m ω G w)⟩
theorem Zp8 (hp:PassesOwn (model X.prog X.w) X.A X.env X.xe) (mt:gt.M) (mb:g.M) (hc:PTw X c gt) (hb:ZpM X P sts g):PSw X P (.While c sts [] pos) (Zme gt g):=fun B hB =>
 ZfP (ZpL hp hc (hb B hB)) <| by
  rintro D σ H ⟨ω,G,ts,r,mb0,W,⟨m0,w0⟩,turn⟩
  refine ⟨fun m σ' H'=>Mono X.K B H'∧∃ ω' G',TrSt X.K H' σ' ω'∧RelH X.K H' G'∧W m ω' G',⟨m0,mb0,ω,G,ts,r,w0⟩,?_⟩
  rintro m σ' H' ⟨mm,ω',G',ts',r',w'⟩
  refine ⟨ω',G',ts',r',mt _ _ _ _ (fun b G1 z H1 m1 r1=>?_) (turn m ω' G' w')⟩
  cases b with
  | true =>
   rw [if_pos rfl]
   refine ⟨fun σ2 H2=>∃ m',m' < m∧Mono X.K B H2∧∃ ω2 G2,TrSt X.K H2 σ2 ω2∧RelH X.K H2 G2∧W m' ω2 G2,(by rintro σ2 H2 ⟨m',h1,h2⟩;exact ⟨m',h1,h2⟩),ω',G1,ts'.mono m1,r1,mm.trans m1,?_⟩
   exact mb _ _ { nx:=fun ω' G'=>∃ m',m' < m∧W m' ω' G',rt:=(dnD X.K B D).rt,bk:=(dnD X.K B D).nx,ct:=fun ω' G'=>∃ m',m' < m∧W m' ω' G' } _
    ((by rintro a b ⟨m',h1,h2⟩ σ2 H2 m2 ts2 r2;exact ⟨m',h1,m2,a,b,ts2,r2,h2⟩)) (fun a b y=>y) (fun a b y=>y) ((by rintro a b ⟨m',h1,h2⟩ σ2 H2 m2 ts2 r2;exact ⟨m',h1,m2,a,b,ts2,r2,h2⟩)) z
  | false =>
   rw [if_neg Bool.false_ne_true]
   exact z σ' H1 (mm.trans m1) (ts'.mono m1) r1
theorem ZpC (hp:PassesOwn (model X.prog X.w) X.A X.env X.xe) (hc:Tm X c gt) (hb:Ssm X P sts g):Sm X P (.While c sts [] pos) (Zme gt g):=⟨Zp8 hp hc.m hb.m hc.p hb.p,Zpy hc.m hb.m⟩
def ZsX (ω:Sw) (i:Nat):Option W:=match ω[i]? with | some (some w)=>some w | _=>none
theorem ZrY {σ:St} {ω:Sw} {n:Nat} {w:W} (ts:TrSt K H σ ω) (e:ZsX ω n=some w):∃ v,σ[n]?=some (some v)∧Tr K H v w:=by
 unfold ZsX at e
 split at e
 ·rename_i u z
  cases e
  exact ts.get n _ z
 ·cases e
def ZkE (n:Nat) (r:RW2) (ga:GE):GS:=fun D ω G=>opt (ZsX ω n) fun x=>ga ω G fun y G1=>r x y G1 fun z G2=>D.nx (ω.set n (some z)) G2
theorem ZtQ {n:Nat} {r:RW2} (mr:r.M) (ma:ga.M):GS.M (ZkE n r ga):=fun ω G D D' h1 _ _ _ q=>Zsb (fun x q=>ma _ _ _ _ (fun y G1 z=>mr _ _ _ _ _ (fun w G2 z2=>h1 _ _ z2) z) q) q
theorem ZuQ {op:Operator} {r:RW2} {r2:R2} {n:Nat} {x:Str} (ho:OpR X (inplaceOp op) r2) (mr:r.M) (hr:∀ (x y:W) (v u:V) (G:Hw) (H:Hp) (Q:VK),Tr X.K H v x→Tr X.K H u y→RelH X.K H G→r x y G (dn X.K H Q)→r2 v u H Q)
  (hN:X.N.Nodup) (hi:X.N[n]?=some x) (hx:Loc X.env.scope x) (hf:X.fn x=true∨X.env.scope.names.lookup x=some .local) (ma:ga.M) (ha:PEw X e ga):PSw X P (.AugAssign (.Name x pos') op e pos) (ZkE n r ga):=fun B hB =>
 ZfP (Zt2 hN hi hx ha (fun pins s σ H x y v u Q I r1 r2 h=>ho pins s σ H x y v u Q I r1 r2 h) hf) <| by
  rintro D σ H ⟨ω,G,ts,rh,mb,q⟩
  obtain ⟨w,e1,q⟩:=ZgB q
  obtain ⟨v,e2,t⟩:=ZrY ts e1
  refine ⟨v,e2,ω,G,ts,rh,ma _ _ _ _ (fun y G1 z u H1 m tu r1=>?_) q⟩
  exact hr w y v u G1 H1 _ (t.mono m) tu r1 (mr _ _ _ _ _ (fun w2 G2 z2 v2 H2 m2 t2 r2=>z2 _ H2 ((mb.trans m).trans m2) (((ts.mono m).mono m2).set n t2) r2) z)
def Zfq:RW2:=fun x y G Q=>match x,y with
 | .int i,.int j=>Q (.int (i+j)) G
 | .str a,.str b=>a.length+b.length≤sizeLine∧Q (.str (a++b)) G
 | _,_=>False
theorem Zow:RW2.M Zfq:=fun x y G Q Q' h q=>by
 cases x <;> cases y <;> first | exact q | exact h _ _ q | exact ⟨q.1,h _ _ q.2⟩
theorem Zqj (x y:W) (v u:V) (G:Hw) (H:Hp) (Q:VK) (tx:Tr K H v x) (ty:Tr K H u y) (r:RelH K H G) (q:Zfq x y G (dn K H Q)) :
  (rI0 fun i j=>.int (i+j)) v u H Q∨(∃ i j,v=.str i∧u=.str j∧i.length+j.length≤sizeLine∧Q (.str (i++j)) H):=by
 cases tx with
 | int i=>cases ty <;> first | exact q.elim | exact .inl ⟨_,_,rfl,rfl,q _ H .refl (.int _) r⟩
 | str i=>cases ty <;> first | exact q.elim | exact .inr ⟨_,_,rfl,rfl,q.1,q.2 _ H .refl (.str _) r⟩
 | _=>exact q.elim
def ZiE (o k v:W) (G:Hw) (Q:Hw→Prop):Prop:=match o,k with
 | .ref a,.int j=>(match G a with
  | some (.lst xs)=>(match ixN xs.length j with | some n=>Q (put G a (.lst (xs.set n v))) | none=>False)
  | _=>False)
 | _,_=>False
theorem Zmf {o k v:W} {G:Hw} {Q:Hw→Prop} (q:ZiE o k v G Q):∃ a j xs n,o=.ref a∧k=.int j∧G a=some (.lst xs)∧ixN xs.length j=some n∧Q (put G a (.lst (xs.set n v))):=by
 unfold ZiE at q
 split at q
 ·split at q
  ·rename_i xs e
   split at q
   ·rename_i n e2;exact ⟨_,_,xs,n,rfl,rfl,e,e2,q⟩
   ·exact q.elim
  ·exact q.elim
 ·exact q.elim
theorem ZjX {v:W} {G:Hw} {Q:Hw→Prop} {a:Addr} {j:Int} {xs:List W} {n:Nat} (e:G a=some (.lst xs)) (e2:ixN xs.length j=some n) (q:Q (put G a (.lst (xs.set n v)))):ZiE (.ref a) (.int j) v G Q:=by
 unfold ZiE
 dsimp only
 rw [e]
 dsimp only
 rw [e2]
 exact q
theorem ZsT {o k v:W} {G:Hw} {Q Q':Hw→Prop} (h:∀ G,Q G→Q' G) (q:ZiE o k v G Q):ZiE o k v G Q':=by
 obtain ⟨a,j,xs,n,rfl,rfl,e,e2,q⟩:=Zmf q
 exact ZjX e e2 (h _ q)
theorem Zqo {o k v:W} {x y u:V} {G:Hw} {Pq:Hw→Prop} {R:Hp→Prop} (tx:Tr K H x v) (ty:Tr K H y o) (tu:Tr K H u k) (r:RelH K H G) (q:ZiE o k v G Pq) (f:∀ G4 H4,Mono K H H4→RelH K H4 G4→Pq G4→R H4):Zuh y u x H R:=by
 obtain ⟨a,j,xs,n,rfl,rfl,e,e2,q⟩:=Zmf q
 cases ty
 cases tu
 obtain ⟨vs,e3,t⟩:=r a _ e
 exact ⟨a,vs,j,n,rfl,rfl,e3,by rw [t.length];exact e2,f _ _ (Mono.lst e3 _) (r.chg e3 (TrL.set tx n t)) q⟩
def ZdM (gv go gi:GE):GS:=fun D ω G=>gv ω G fun v G1=>go ω G1 fun o G2=>gi ω G2 fun k G3=>ZiE o k v G3 fun G4=>D.nx ω G4
theorem Zqg (mv:gv.M) (mo:go.M) (mi:gi.M):GS.M (ZdM gv go gi):=fun ω G D D' h1 _ _ _ q =>
 mv _ _ _ _ (fun v G1 z=>mo _ _ _ _ (fun o G2 z=>mi _ _ _ _ (fun k G3 z=>ZsT (fun G4 z=>h1 _ _ z) z) z) z) q
theorem ZhN (ha:∀ v,assign (.Subscript o i pos') X.env v=(do
   let ov ← holding [v] (eval o X.env)
   let iv ← holding [v,ov] (eval i X.env)
   standAt pos'
   holding [v,ov,iv] (setItem ov iv v)
   release [v,ov,iv] [])) (hs:swapsWithSole [.Subscript o i pos'] e pos.line X.env=pure false) (hw:swappedStores [.Subscript o i pos'] e X.env=pure none)
  (h1:(assignEach [.Subscript o i pos'] X.env).map (·.2)=[assign (.Subscript o i pos') X.env]) (hv:Em X e gv) (ho:Em X o go) (hi:Em X i gi):Sm X P (.Assign [.Subscript o i pos'] e pos) (ZdM gv go gi) :=
 ⟨fun B hB=>ZfP (Zq5 hv.p (ZtI ho.p hi.p ZqO ha) hs hw h1) fun D σ H ⟨ω,G,ts,r,mb,q⟩=>⟨ω,G,ts,r,hv.m _ _ _ _ (fun v G1 z x H1 m1 tx r1 =>
  ⟨ω,G1,ts.mono m1,r1,ho.m _ _ _ _ (fun ow G2 z2 y H2 m2 ty r2 =>
   ⟨ω,G2,(ts.mono m1).mono m2,r2,hi.m _ _ _ _ (fun k G3 z3 u H3 m3 tu r3 =>
    Zqo ((tx.mono m2).mono m3) (ty.mono m3) tu r3 z3 (fun G4 H4 m4 r4 q4=>q4 σ H4 ((((mb.trans m1).trans m2).trans m3).trans m4) ((((ts.mono m1).mono m2).mono m3).mono m4) r4)) z2⟩) z⟩) q⟩,Zqg hv.m ho.m hi.m⟩
abbrev GO:=Sw→Hw→(Option Int→Hw→Prop)→Prop
def GO.M (g:GO):Prop:=∀ ω G (Q Q':Option Int→Hw→Prop),(∀ w G',Q w G'→Q' w G')→g ω G Q→g ω G Q'
def dnO (K:PySem.W.Frag) (H:Hp) (Q:Option Int→Hp→Prop):Option Int→Hw→Prop:=fun b G=>∀ H',Mono K H H'→RelH K H' G→Q b H'
def upO (K:PySem.W.Frag) (g:GO):TO:=fun σ H Q=>∃ ω G,TrSt K H σ ω∧RelH K H G∧g ω G (dnO K H Q)
structure Om (X:Cx) (e:Option Expr) (g:GO):Prop where
 p:PO X e (upO X.K g)
 m:g.M
def Zbn:GO:=fun _ G Q=>Q none G
def ZdY (ga:GE):GO:=fun ω G Q=>ga ω G fun w G1=>match w with | .int j=>Q (some j) G1 | _=>False
theorem Zh9:Om X none Zbn:=⟨(by rintro pins s σ H Q I ⟨ω,G,ts,r,q⟩;exact Zsh pins s σ H Q I (q H .refl r)),fun _ _ _ _ h q=>h _ _ q⟩
theorem Zh6 (h:Em X e ga):Om X (some e) (ZdY ga):=⟨fun pins s σ H Q I ⟨ω,G,ts,r,q⟩=>Zsq h.p pins s σ H Q I ⟨ω,G,ts,r,h.m _ _ _ _ (fun w G1 z v H1 m t r1=>by
  cases w with
  | int j=>exact ⟨j,Zvi t,z H1 m r1⟩
  | _=>exact z.elim) q⟩,fun ω G Q Q' hh q=>h.m _ _ _ _ (fun w G1 z=>by cases w <;> first | exact hh _ _ z | exact z) q⟩
def ZmI {α:Type} (xs:List α) (lo hi:Option Int):List α:=(xs.drop (HT.sIx xs.length 0 lo)).take (HT.sIx xs.length xs.length hi - HT.sIx xs.length 0 lo)
def slW (w:W) (lo hi:Option Int) (G:Hw) (Q:Kw):Prop:=match w with
 | .tup xs=>¬ (HT.sIx xs.length 0 lo=0∧HT.sIx xs.length xs.length hi=xs.length)∧Q (.tup (ZmI xs lo hi)) G
 | .rol xs=>∀ p,G p=none→Q (.ref p) (put G p (.lst (ZmI xs lo hi)))
 | .ref a=>(match G a with | some (.lst xs)=>∀ p,G p=none→Q (.ref p) (put G p (.lst (ZmI xs lo hi))) | _=>False)
 | _=>False
theorem ZqJ {w:W} {lo hi:Option Int} {G:Hw} {Q Q':Kw} (h:∀ w G',Q w G'→Q' w G') (q:slW w lo hi G Q):slW w lo hi G Q':=by
 cases w with
 | tup xs=>exact ⟨q.1,h _ _ q.2⟩
 | rol xs=>exact fun p hp=>h _ _ (q p hp)
 | ref a =>
  unfold slW at q ⊢
  dsimp only at q ⊢
  cases e:G a with
  | none=>rw [e] at q;exact q.elim
  | some ob =>
   rw [e] at q
   cases ob with
   | lst xs=>exact fun p hp=>h _ _ (q p hp)
   | exc C=>exact q.elim
   | ins C fs=>exact q.elim
   | dct kvs=>exact q.elim
 | _=>exact q.elim
theorem TrL.cut {vs:List V} {ws:List W} (t:TrL K H vs ws) (lo hi:Option Int):TrL K H (Zrz vs lo hi) (ZmI ws lo hi):=by
 unfold Zrz ZmI
 rw [t.length]
 exact (t.drop _).take _
theorem ZmR {w:W} {v:V} {lo hi:Option Int} {G:Hw} {Q:VK} (t:Tr K H v w) (r:RelH K H G) (q:slW w lo hi G (dn K H Q)):ZvK K v lo hi H Q∨Zww K v lo hi H Q:=by
 cases t with
 | tup h l =>
  refine .inl ⟨_,_,rfl,h,by rw [l.length];exact q.1,fun p hp=>?_⟩
  exact q.2 _ _ (Mono.new hp _) (.tup (SqT.of ZbX) ((l.cut lo hi).mono (Mono.new hp _))) (r.mono0 hp)
 | rol h l=>exact .inr ⟨_,_,rfl,h.sq,fun p hp=>q p (r.no hp) _ _ (Mono.new hp _) (.ref p) (r.new hp (l.cut lo hi))⟩
 | ref a =>
  unfold slW at q
  dsimp only at q
  cases e:G a with
  | none=>rw [e] at q;exact q.elim
  | some ob =>
   rw [e] at q
   cases ob with
   | lst xs =>
    obtain ⟨vs,e1,l⟩:=r a _ e
    exact .inr ⟨_,_,rfl,SqL.of e1,fun p hp=>q p (r.no hp) _ _ (Mono.new hp _) (.ref p) (r.new hp (l.cut lo hi))⟩
   | exc C=>exact q.elim
   | ins C fs=>exact q.elim
   | dct kvs=>exact q.elim
 | _=>exact q.elim
def gSl (ga:GE) (gl gh:GO):GE:=fun ω G Q=>ga ω G fun w G1=>gl ω G1 fun lo G2=>gh ω G2 fun hi G3=>slW w lo hi G3 Q
theorem Zvc {lo hi:Option Expr} {gl gh:GO} {p2:Pos} (ha:Em X e ga) (hl:Om X lo gl) (hh:Om X hi gh):Em X (.Subscript e (.Slice lo hi none p2) pos) (gSl ga gl gh) :=
 ⟨Zbz (Zm2 (SlR.or ZrM Zpq) ha.p hl.p hh.p) fun σ H Q ⟨ω,G,ts,r,q⟩=>⟨ω,G,ts,r,ha.m _ _ _ _ (fun w G1 z v H1 m1 t r1=>⟨ω,G1,ts.mono m1,r1,hl.m _ _ _ _ (fun l G2 z2 H2 m2 r2 =>
   ⟨ω,G2,(ts.mono m1).mono m2,r2,hh.m _ _ _ _ (fun h G3 z3 H3 m3 r3=>ZmR ((t.mono m2).mono m3) r3 (ZqJ (fun w G' z=>Zc6 ((m1.trans m2).trans m3) z) z3)) z2⟩) z⟩) q⟩,
  fun ω G Q Q' h q=>ha.m _ _ _ _ (fun w G1 z=>hl.m _ _ _ _ (fun l G2 z2=>hh.m _ _ _ _ (fun u G3 z3=>ZqJ h z3) z2) z) q⟩
end
end L3
set_option Elab.async false
set_option linter.all false
set_option maxRecDepth 100000
set_option maxHeartbeats 2000000
namespace L3
open PySem PySem.Spec PyProof.Rows L2
variable {K:PySem.W.Frag} {H H' H2:Hp}
abbrev UpW (K:PySem.W.Frag) (r:RW2) (r2:R2):Prop:=∀ (x y:W) (v u:V) (G:Hw) (H:Hp) (Q:VK),Tr K H v x→Tr K H u y→RelH K H G→r x y G (dn K H Q)→r2 v u H Q
structure Cop (X:Cx) (op:CmpOp) (r:RW2):Prop where
 ex:∃ r2,OpR X (compareOp op) r2∧UpW X.K r r2
 m:r.M
def Za4 (a b:Str):Bool:=decide (a.cps.toList < b.cps.toList)
def Zgk (f:Int→Int→Bool) (g:Str→Str→Bool):RW2:=fun x y G Q=>match x,y with
 | .int i,.int j=>Q (.bl (f i j)) G
 | .str i,.str j=>Q (.bl (g i j)) G
 | _,_=>False
theorem Zrv {f:Int→Int→Bool} {g:Str→Str→Bool}:RW2.M (Zgk f g):=fun x y G Q Q' h q=>by
 cases x <;> cases y <;> first | exact q | exact h _ _ q
theorem ZnF {f:Int→Int→Bool} {g:Str→Str→Bool}:UpW K (Zgk f g) (fun x y H Q=>rI0 (fun i j=>.bl (f i j)) x y H Q∨∃ i j,x=.str i∧y=.str j∧Q (.bl (g i j)) H):=fun x y v u G H Q tx ty r q=>by
 cases tx with
 | int i=>cases ty <;> first | exact q.elim | exact .inl ⟨_,_,rfl,rfl,q _ H .refl (.bl _) r⟩
 | str i=>cases ty <;> first | exact q.elim | exact .inr ⟨_,_,rfl,rfl,q _ H .refl (.bl _) r⟩
 | _=>exact q.elim
theorem ZoZ {X:Cx}:OpR X (compareOp .LtE) (fun x y H Q=>∃ i j,x=.str i∧y=.str j∧Q (.bl (!Za4 j i)) H):=by
 intro pins s σ H x y v u Q I rx ry h
 obtain ⟨i,j,rfl,rfl,q⟩:=h
 obtain ⟨t,rfl⟩:=rx
 obtain ⟨t',rfl⟩:=ry
 exact PySem.P.le_str ⟨.bl _,H,I,rfl,q⟩
theorem ZiY {X:Cx}:Cop X .Lt (Zgk (fun i j=>decide (i < j)) Za4):=⟨⟨_,OpR.or Zv9 Zpo,ZnF⟩,Zrv⟩
theorem ZmX {X:Cx}:Cop X .LtE (Zgk (fun i j=>decide (i≤j)) (fun a b=>!Za4 b a)):=⟨⟨_,OpR.or Zwj ZoZ,ZnF⟩,Zrv⟩
theorem Zkh {X:Cx}:Cop X .Gt (Zhq fun i j=>decide (j < i)):=⟨⟨_,ZvW,ZnU⟩,ZrA⟩
theorem Zu0 {X:Cx}:Cop X .GtE (Zhq fun i j=>decide (j≤i)):=⟨⟨_,Zwn,ZnU⟩,ZrA⟩
theorem ZaT {X:Cx} (hu:X.A.units+100 < cLine):Cop X .Eq (Zaq (eqF false)):=⟨⟨_,Zt0 hu,Zq9 false⟩,Zjn⟩
theorem Zd7 {X:Cx} (hu:X.A.units+100 < cLine):Cop X .NotEq (Zaq (eqF true)):=⟨⟨_,ZuX hu,Zq9 true⟩,Zjn⟩
theorem Zrt {X:Cx}:Cop X .In (Zaq (inF false)):=⟨⟨_,ZoM,ZtD false⟩,Zjn⟩
section
variable {X:Cx} {op op':CmpOp} {r r':RW2} {a b c e:Expr} {es:List Expr} {pos:Pos} {ga gb gc:GE}
theorem ZfU (C:Cop X op r) (hm:behindInMarks op b=false) (ha:Em X a ga) (hb:Em X b gb):Em X (.Compare a [op] [b] pos) (Zal r ga gb) :=
 let ⟨_,h1,h2⟩:=C.ex
 ⟨Zt5 h1 C.m ha.m hb.m h2 ha.p hb.p hm,Zfn C.m ha.m hb.m⟩
theorem ZaG (C:Cop X op r) (hm:behindInMarks op b=false) (ha:Em X a ga) (hb:Em X b gb):Tm X (.Compare a [op] [b] pos) (gTB (Zal r ga gb)) :=
 let ⟨_,h1,h2⟩:=C.ex
 ⟨ZuR h1 C.m ha.m hb.m h2 ha.p hb.p hm,ZuD (Zfn C.m ha.m hb.m)⟩
def ZcK (r r':RW2) (ga gb gc:GE):GE:=fun ω G Q=>ga ω G fun x G1=>gb ω G1 fun y G2=>r x y G2 fun z G3=>match z with
 | .bl k=>if k=true then gc ω G3 fun w G4=>r' y w G4 Q else Q (.bl false) G3
 | _=>False
theorem ZjD (mr:r.M) (mr':r'.M) (ma:ga.M) (mb:gb.M) (mc:gc.M):GE.M (ZcK r r' ga gb gc):=fun ω G Q Q' h q =>
 ma _ _ _ _ (fun x G1 z=>mb _ _ _ _ (fun y G2 z=>mr _ _ _ _ _ (fun z1 G3 z=>by
  cases z1 with
  | bl k =>
   cases k with
   | true=>exact mc _ _ _ _ (fun w G4 z=>mr' _ _ _ _ _ h z) z
   | false=>exact h _ _ z
  | _=>exact z) z) z) q
theorem ZmU {r2 r2':R2} (u:UpW K r r2) (u':UpW K r' r2') (mr:r.M) (mr':r'.M) (ma:ga.M) (mb:gb.M) (mc:gc.M) (σ:St) (H:Hp) (Q:VK) (h:up K (ZcK r r' ga gb gc) σ H Q):ZoL r2 r2' (up K ga) (up K gb) (up K gc) σ H Q:=by
 obtain ⟨ω,G,ts,rh,q⟩:=h
 refine ⟨ω,G,ts,rh,ma _ _ _ _ (fun x G1 z1 v H1 m1 tx r1=>⟨ω,G1,ts.mono m1,r1,mb _ _ _ _ (fun y G2 z2 v2 H2 m2 ty r2=>?_) z1⟩) q⟩
 refine u x y v v2 G2 H2 _ (tx.mono m2) ty r2 (mr _ _ _ _ _ (fun k G3 z3 v3 H3 m3 tk r3=>?_) z2)
 cases k with
 | bl k =>
  refine ⟨k,Zl3 tk,?_⟩
  cases k with
  | true =>
   rw [if_pos rfl]
   refine ⟨ω,G3,((ts.mono m1).mono m2).mono m3,r3,mc _ _ _ _ (fun w G4 z4 v4 H4 m4 tw r4=>?_) z3⟩
   exact u' y w v2 v4 G4 H4 Q ((ty.mono m3).mono m4) tw r4 (mr' _ _ _ _ _ (fun w5 G5 z5=>Zc6 (((m1.trans m2).trans m3).trans m4) z5) z4)
  | false =>
   rw [if_neg Bool.false_ne_true]
   exact z3 _ H3 ((m1.trans m2).trans m3) (.bl false) r3
 | _=>exact z3.elim
theorem Zqr (C:Cop X op r) (C':Cop X op' r') (hm:lastMarks [op,op'] [b,c]=false) (ha:Em X a ga) (hb:Em X b gb) (hc:Em X c gc):Em X (.Compare a [op,op'] [b,c] pos) (ZcK r r' ga gb gc) :=
 let ⟨_,h1,h2⟩:=C.ex
 let ⟨_,h3,h4⟩:=C'.ex
 ⟨Zbz (ZqN h1 h3 ha.p hb.p hc.p hm) (ZmU h2 h4 C.m C'.m ha.m hb.m hc.m),ZjD C.m C'.m ha.m hb.m hc.m⟩
theorem Zm8 (C:Cop X op r) (C':Cop X op' r') (hm:lastMarks [op,op'] [b,c]=false) (ha:Em X a ga) (hb:Em X b gb) (hc:Em X c gc):Tm X (.Compare a [op,op'] [b,c] pos) (gTB (ZcK r r' ga gb gc)) :=
 let ⟨_,h1,h2⟩:=C.ex
 let ⟨_,h3,h4⟩:=C'.ex
 ⟨Zm1 (Zqn h1 h3 ha.p hb.p hc.p hm) fun σ H Q z=>ZmU h2 h4 C.m C'.m ha.m hb.m hc.m σ H _ (Zuj (ZjD C.m C'.m ha.m hb.m hc.m) z),ZuD (ZjD C.m C'.m ha.m hb.m hc.m)⟩
end
abbrev UpC (K:PySem.W.Frag) (r:RWc) (r1:List V→Hp→VK→Prop):Prop:=∀ ws vs G H Q,TrL K H vs ws→RelH K H G→r ws G (dn K H Q)→r1 vs H Q
structure Blt (X:Cx) (f:Value) (r:RWc):Prop where
 ex:∃ r1,CallR X f r1∧UpC X.K r r1
 m:r.M
section
variable {X:Cx} {x:Str} {p pos:Pos} {e:Expr} {es:List Expr} {gs:GA} {r:RWc} {id T:String}
theorem ZfL (hv:bootBuiltins x=some (.builtin id)) (B:Blt X (.builtin id) r) (hg:Gl X x) (hm:X.mg x=none) (hn:x≠"__name__") (hdb:(x==("__debug__":Str))=false)
  (he:starEach (e::es) X.env=(false,eval e X.env)::starEach es X.env) (hpl:(backTo pos (starEach es X.env)).any (·.1)=false) (ha:Am X (e::es) gs):Em X (.Call (.Name x p) (e::es) [] pos) (gB r gs) :=
 let ⟨_,h1,h2⟩:=B.ex
 Ztx h1 B.m h2 hg hm hv hn hdb he hpl ha
theorem ZgD (hv:bootBuiltins x=some (.type T)) (B:Blt X (.type T) r) (hg:Gl X x) (hm:X.mg x=none) (hn:x≠"__name__") (hdb:(x==("__debug__":Str))=false)
  (he:starEach (e::es) X.env=(false,eval e X.env)::starEach es X.env) (hpl:(backTo pos (starEach es X.env)).any (·.1)=false) (ha:Am X (e::es) gs):Em X (.Call (.Name x p) (e::es) [] pos) (gB r gs) :=
 let ⟨_,h1,h2⟩:=B.ex
 Zva h1 B.m h2 hg hm hv hn hdb he hpl ha
end
theorem ZdV {X:Cx}:Blt X (.builtin "len") (rF ZfM):=⟨⟨_,Zp3,ZsI⟩,ZvB⟩
theorem Zim {X:Cx} (hc:X.calm=true):Blt X (.builtin "all") (rF Zib):=⟨⟨_,ZoY hc,Zsj⟩,ZvB⟩
def Znm:RWc:=fun ws G Q=>match ws with
 | [w]=>(match ZlB G w with | some xs=>∀ p,G p=none→Q (.ref p) (put G p (.lst xs)) | none=>False)
 | _=>False
theorem Zsp:RWc.M Znm:=fun ws G Q Q' h q=>by
 unfold Znm at q ⊢
 split at q
 ·split at q
  ·exact fun p hp=>h _ _ (q p hp)
  ·exact q.elim
 ·exact q.elim
theorem ZqF:UpC K Znm (fun xs H Q=>∃ p ys,xs=[.ref p]∧(SqL K H p ys∨SqT K H p ys)∧∀ l,H l=none→Q (.ref l) (upd H l (.lst ys))):=fun ws vs G H Q t r q=>by
 unfold Znm at q
 split at q
 ·rename_i w0
  split at q
  ·rename_i xs e
   cases t with
   | cons tw t =>
    cases t
    obtain ⟨a,us,rfl,hq,l⟩:=ZjF r tw e
    exact ⟨a,us,rfl,hq,fun p hp=>q p (r.no hp) _ _ (Mono.new hp _) (.ref p) (r.new hp l)⟩
  ·exact q.elim
 ·exact q.elim
theorem ZpT {X:Cx}:Blt X (.type "list") Znm:=⟨⟨_,Zki,ZqF⟩,Zsp⟩
def Zfv (ws:List W) (G:Hw):Option W:=match ws with | [w]=>(ZlB G w).map W.tup | _=>none
theorem ZsL:UpC K (rF Zfv) (fun xs H Q=>∃ p ys,xs=[.ref p]∧((SqL K H p ys∧∀ l,H l=none→Q (.ref l) (upd H l (.tup ys)))∨(SqT K H p ys∧Q (.ref p) H))):=fun ws vs G H Q t r q=>by
 obtain ⟨w,e,q'⟩:=ZgB q
 unfold Zfv at e
 split at e
 ·obtain ⟨xs,e1,e2⟩:=Option.map_eq_some_iff.mp e
  subst e2
  cases t with
  | cons tw t =>
   cases t
   obtain ⟨a,us,rfl,hq,l⟩:=ZjF r tw e1
   rcases hq with hq | hq
   ·exact ⟨a,us,rfl,.inl ⟨hq,fun p hp=>q' _ _ (Mono.new hp _) (.tup (SqT.of ZbX) (l.mono (Mono.new hp _))) (r.mono0 hp)⟩⟩
   ·exact ⟨a,us,rfl,.inr ⟨hq,q' _ H .refl (.tup hq l) r⟩⟩
 ·cases e
theorem Zdq {X:Cx}:Blt X (.type "tuple") (rF Zfv):=⟨⟨_,ZjK,ZsL⟩,ZvB⟩
def Zlq (ws:List W) (_:Hw):Option W:=match ws with | [.int i]=>some (.int i) | [.bl k]=>some (.int (if k then 1 else 0)) | _=>none
theorem Zsa:UpC K (rF Zlq) (fun xs H Q=>(∃ i,xs=[.int i]∧Q (.int i) H)∨∃ k,xs=[.bl k]∧Q (.int (if k then 1 else 0)) H):=fun ws vs G H Q t r q=>by
 obtain ⟨w,e,q'⟩:=ZgB q
 unfold Zlq at e
 split at e
 ·cases e
  cases t with
  | cons tw t=>cases t;cases tw;exact .inl ⟨_,rfl,q' _ H .refl (.int _) r⟩
 ·cases e
  cases t with
  | cons tw t=>cases t;cases tw;exact .inr ⟨_,rfl,q' _ H .refl (.int _) r⟩
 ·cases e
theorem Zh3 {X:Cx}:Blt X (.type "int") (rF Zlq):=⟨⟨_,Zog,Zsa⟩,ZvB⟩
structure Mth (X:Cx) (T:String) (name:Str) (id:String) (pre:W→Hw→Prop) (r:W→List W→Hw→Kw→Prop):Prop where
 pa:PlainAttrs T
 slot:Slot T name id
 ty:typeOf (.builtin id)=pure (.type "method_descriptor")
 ex:∃ r2,MtR X id r2∧∀ (o:W) (ws:List W) (v:V) (vs:List V) (G:Hw) (H:Hp) (Q:VK),Tr X.K H v o→TrL X.K H vs ws→RelH X.K H G→r o ws G (dn X.K H Q)→r2 v vs H Q
 pr:∀ (o:W) (v:V) (G:Hw) (H:Hp),Tr X.K H v o→RelH X.K H G→pre o G→tyV X.K T v H
 m:∀ o ws G (Q Q':Kw),(∀ w G',Q w G'→Q' w G')→r o ws G Q→r o ws G Q'
def gMt (pre:W→Hw→Prop) (r:W→List W→Hw→Kw→Prop) (go:GE) (gs:GA):GE:=fun ω G Q=>go ω G fun o G1=>pre o G1∧gs ω G1 fun ws G2=>r o ws G2 Q
section
variable {X:Cx} {o e:Expr} {es:List Expr} {go:GE} {gs:GA} {name:Str} {apos cpos:Pos} {T id:String} {pre:W→Hw→Prop} {r:W→List W→Hw→Kw→Prop}
theorem ZhT (M:Mth X T name id pre r) (hbase:attributeBase o name X.env (eval o X.env)=eval o X.env)
  (hfew:((backTo cpos (starEach (e::es) X.env)).all (fun x=>!x.1)&&(backToKw cpos (keywordEach [] X.env)).all (fun x=>x.1.isSome)&&decide ((e::es).length+([]:List Keyword).length+(if ([]:List Keyword).isEmpty then 0 else 1) < 30))=true)
  (hline:(apos.endLine==cpos.line)=true) (hs:starEach (e::es) X.env=(false,eval e X.env)::starEach es X.env) (hplain:(backTo cpos (starEach es X.env)).any (·.1)=false) (ho:Em X o go) (ha:Am X (e::es) gs) :
  Em X (.Call (.Attribute o name apos) (e::es) [] cpos) (gMt pre r go gs) :=
 let ⟨_,h1,h2⟩:=M.ex
 ⟨Zbz (ZwC M.pa M.slot M.ty h1 ho.p ha.p hbase hfew hline hs hplain) fun σ H Q ⟨ω,G,ts,rh,q⟩=>⟨ω,G,ts,rh,ho.m _ _ _ _ (fun ow G1 z v H1 m1 tv r1=>⟨M.pr ow v G1 H1 tv r1 z.1,
   ω,G1,ts.mono m1,r1,ha.m _ _ _ _ (fun ws G2 z2 vs H2 m2 tvs r2=>h2 ow ws v vs G2 H2 Q (tv.mono m2) tvs r2 (M.m _ _ _ _ _ (fun w G' y=>Zc6 (m1.trans m2) y) z2)) z.2⟩) q⟩,
  fun ω G Q Q' h q=>ho.m _ _ _ _ (fun ow G1 z=>⟨z.1,ha.m _ _ _ _ (fun ws G2 z2=>M.m _ _ _ _ _ h z2) z.2⟩) q⟩
end
def Zfc (o:W) (G:Hw):Prop:=∃ xs,ZiB G o=some xs
theorem ZmO {o:W} {v:V} {G:Hw} (t:Tr K H v o) (r:RelH K H G) (h:Zfc o G):tyV K "list" v H:=by
 obtain ⟨xs,e⟩:=h
 obtain ⟨a,vs,rfl,_,_,e1,_⟩:=Zfx r t e
 exact .inl ⟨rfl,_,SqL.of e1⟩
def ZrP (o:W) (G:Hw) (f:List W→Option (List W)) (Q:Kw):Prop:=match o with
 | .ref a=>(match G a with | some (.lst xs)=>(match f xs with | some ys=>Q .non (put G a (.lst ys)) | none=>False) | _=>False)
 | _=>False
theorem Zlv {o:W} {G:Hw} {f:List W→Option (List W)} {Q:Kw} (q:ZrP o G f Q):∃ a xs ys,o=.ref a∧G a=some (.lst xs)∧f xs=some ys∧Q .non (put G a (.lst ys)):=by
 unfold ZrP at q
 split at q
 ·split at q
  ·rename_i xs e
   split at q
   ·rename_i ys e2;exact ⟨_,xs,ys,rfl,e,e2,q⟩
   ·exact q.elim
  ·exact q.elim
 ·exact q.elim
theorem ZlH {G:Hw} {f:List W→Option (List W)} {Q:Kw} {a:Addr} {xs ys:List W} (e:G a=some (.lst xs)) (e2:f xs=some ys) (q:Q .non (put G a (.lst ys))):ZrP (.ref a) G f Q:=by
 unfold ZrP
 dsimp only
 rw [e]
 dsimp only
 rw [e2]
 exact q
theorem ZrE {o:W} {G:Hw} {f:List W→Option (List W)} {Q Q':Kw} (h:∀ w G',Q w G'→Q' w G') (q:ZrP o G f Q):ZrP o G f Q':=by
 obtain ⟨a,xs,ys,rfl,e,e2,q⟩:=Zlv q
 exact ZlH e e2 (h _ _ q)
def Zlb (o:W) (ws:List W) (G:Hw) (Q:Kw):Prop:=match ws with
 | [y]=>ZrP o G (fun xs=>if xs.length < sizeLine then some (xs++[y]) else none) Q
 | _=>False
theorem ZdH {X:Cx}:Mth X "list" "append" "list.append" Zfc Zlb where
 pa:=PySem.F.plainAttrs_list
 slot:=PySem.F.slot_list_append
 ty:=PySem.F.type_list_append
 ex:=⟨_,ZnH,fun o ws v vs G H Q tv tvs r q=>by
  unfold Zlb at q
  split at q
  ·obtain ⟨a,xs,ys,rfl,e,e2,q⟩:=Zlv q
   split at e2
   ·rename_i hlen
    cases e2
    cases tv
    cases tvs with
    | cons ty t =>
     cases t
     obtain ⟨us,e1,l⟩:=r a _ e
     exact ⟨a,us,_,rfl,rfl,e1,by rw [l.length];exact hlen,q _ _ (Mono.lst e1 _) .non (r.chg e1 (l.append (.cons ty .nil)))⟩
   ·cases e2
  ·exact q.elim⟩
 pr:=fun o v G H t r h=>ZmO t r h
 m:=fun o ws G Q Q' h q=>by
  unfold Zlb at q ⊢
  split at q
  ·exact ZrE h q
  ·exact q.elim
def Zs2 (o:W) (ws:List W) (G:Hw) (Q:Kw):Prop:=match ws with
 | [y]=>ZrP o G (fun xs=>(ZiB G y).bind fun zs=>if xs.length+zs.length≤sizeLine then some (xs++zs) else none) Q
 | _=>False
theorem Znw {X:Cx}:Mth X "list" "extend" "list.extend" Zfc Zs2 where
 pa:=PySem.F.plainAttrs_list
 slot:=PySem.F.slot_list_extend
 ty:=PySem.F.type_list_extend
 ex:=⟨_,ZnX,fun o ws v vs G H Q tv tvs r q=>by
  unfold Zs2 at q
  split at q
  ·obtain ⟨a,xs,ys,rfl,e,e2,q⟩:=Zlv q
   obtain ⟨zs,e3,e4⟩:=Option.bind_eq_some_iff.mp e2
   split at e4
   ·rename_i hlen
    cases e4
    cases tv
    cases tvs with
    | cons ty t =>
     cases t
     obtain ⟨us,e1,l⟩:=r a _ e
     obtain ⟨b,ws',rfl,_,_,e5,l5⟩:=Zfx r ty e3
     exact ⟨a,b,us,ws',rfl,rfl,e1,e5,by rw [l.length,l5.length];exact hlen,q _ _ (Mono.lst e1 _) .non (r.chg e1 (l.append l5))⟩
   ·cases e4
  ·exact q.elim⟩
 pr:=fun o v G H t r h=>ZmO t r h
 m:=fun o ws G Q Q' h q=>by
  unfold Zs2 at q ⊢
  split at q
  ·exact ZrE h q
  ·exact q.elim
end L3
namespace L3
open PySem PySem.Spec PyProof.Rows L2
variable {K:PySem.W.Frag} {H H' H2:Hp}
section
variable {P:Program} {w:World} {mg:Str→Option Value} {base:Heap} {N:List Str} {qual:Str} {scope:Scope} {f:Addr} {cd:Value} {A:Around} {outer:List Env} {s:Shared} {E:XK} {Pb:Hp→Prop}
end
section
variable {X:Cx} {e:Expr} {es:List Expr} {pos p:Pos} {gs:GA}
end
def tyN (w:W) (G:Hw):Option String:=match w with
 | .non=>some "NoneType"
 | .bl _=>some "bool"
 | .int _=>some "int"
 | .str _=>some "str"
 | .tup _=>some "tuple"
 | .rol _=>some "list"
 | .ref a=>(match G a with | some (.lst _)=>some "list" | _=>none)
def ZgP (n T:String):Bool:=n==T||(n=="bool"&&T=="int")
theorem ZeX {n T:String} (hn:n∈["NoneType","bool","int","str","tuple","list"]) (hT:T∈["tuple","list","str","int","bool","dict"]):PySem.W.kitOne K (.type n) (.type T)=some (ZgP n T):=by
 simp only [List.mem_cons,List.not_mem_nil,or_false] at hn hT
 rcases hn with rfl | rfl | rfl | rfl | rfl | rfl <;> rcases hT with rfl | rfl | rfl | rfl | rfl | rfl <;> kernel_rfl
def ZdF (T:String) (ge:GE):GE:=fun ω G Q=>ge ω G fun w G1=>match tyN w G1 with | some n=>Q (.bl (ZgP n T)) G1 | none=>False
theorem ZsB {T:String} {ge:GE} (m:ge.M):GE.M (ZdF T ge):=fun ω G Q Q' h q=>m _ _ _ _ (fun w G1 z=>by
 cases e:tyN w G1 with
 | none=>rw [e] at z;exact z
 | some n=>rw [e] at z;exact h _ _ z) q
theorem Zum {X:Cx} {pins:List (Addr×Obj)} {σ:St} {s:Shared} {v:V} {u:Value} {w:W} {G:Hw} {n T:String} {Q:Value→Shared→Prop} {E:Value→Shared→Prop} (I:Inv X pins σ H s) (rv:RelV v u) (t:Tr X.K H v w) (r:RelH X.K H G) (e:tyN w G=some n)
  (hT:T∈["tuple","list","str","int","bool","dict"]) (h:∀ tk,Q (.bool (ZgP n T)) { s with toks:=tk }):wpAny (model X.prog X.w) X.A (call (.builtin "isinstance") [u,.type T]) Q E s:=by
 cases t with
 | non=>cases e;cases (show u=Value.none from rv);exact PySem.W.kia_one PySem.W.kitx_none I.kIn True.intro (ZeX (by simp) hT) (fun z=>nomatch z) h
 | bl y=>cases e;cases (show u=Value.bool y from rv);exact PySem.W.kia_one PySem.W.kitx_bool I.kIn True.intro (ZeX (by simp) hT) (fun z=>nomatch z) h
 | int i=>cases e;obtain ⟨t,rfl⟩:=rv;exact PySem.W.kia_one PySem.W.kitx_int I.kIn True.intro (ZeX (by simp) hT) (fun z=>nomatch z) h
 | str y=>cases e;obtain ⟨t,rfl⟩:=rv;exact PySem.W.kia_one PySem.W.kitx_str I.kIn True.intro (ZeX (by simp) hT) (fun z=>nomatch z) h
 | tup hq l =>
  cases e
  cases rv
  obtain ⟨its,_,p,_⟩:=I.tuple hq
  obtain ⟨o,h1,h2,_⟩:=p
  exact PySem.W.kia_one PySem.W.kitx_tuple I.kIn ⟨o,h1,h2⟩ (ZeX (by simp) hT) (fun z=>nomatch z) h
 | rol hq l =>
  cases e
  cases rv
  obtain ⟨its,_,p,_⟩:=I.list hq.sq
  obtain ⟨o,h1,h2,_⟩:=p.isList
  exact PySem.W.kia_one PySem.W.kitx_list I.kIn ⟨o,h1,h2⟩ (ZeX (by simp) hT) (fun z=>nomatch z) h
 | ref a =>
  unfold tyN at e
  dsimp only at e
  cases ea:G a with
  | none=>rw [ea] at e;cases e
  | some o =>
   rw [ea] at e
   cases o with
   | exc C=>cases e
   | ins C fs=>cases e
   | dct kvs=>cases e
   | lst xs =>
    cases e
    cases rv
    obtain ⟨vs,e1,_⟩:=r a _ ea
    obtain ⟨its,_,p,_⟩:=I.list (SqL.of e1)
    obtain ⟨o,h1,h2,_⟩:=p.isList
    exact PySem.W.kia_one PySem.W.kitx_list I.kIn ⟨o,h1,h2⟩ (ZeX (by simp) hT) (fun z=>nomatch z) h
theorem Zmb:bootBuiltins "isinstance"=some (.builtin "isinstance"):=by decide +kernel
section
variable {X:Cx} {e:Expr} {p pc pos:Pos} {ge:GE}
theorem Zge {c:Str} {T:String} (hT:T∈["tuple","list","str","int","bool","dict"]) (hv:bootBuiltins c=some (.type T)) (hmc:X.mg c=none) (hmi:X.mg "isinstance"=none) (hgi:Gl X "isinstance") (hgc:Gl X c) (hn:c≠"__name__") (hd:(c==("__debug__":Str))=false)
  (he:starEach [e,.Name c pc] X.env=[(false,eval e X.env),(false,eval (.Name c pc) X.env)]) (he2:starEach [.Name c pc] X.env=[(false,eval (.Name c pc) X.env)]) (h:Em X e ge):Em X (.Call (.Name "isinstance" p) [e,.Name c pc] [] pos) (ZdF T ge):=by
 refine ⟨fun pins s σ H Q I zz3=>?_,ZsB h.m⟩
 obtain ⟨ω,G,ts,r,q⟩:=zz3
 have pa:PA X [e,.Name c pc] (Zla (up X.K ge) (Zla (tC (.ty T)) Zu3)):=Zfh h.p (Zfh (Zma hgc hmc hv rfl hn hd) Zlm (by rw [he2];rfl)) (by rw [he,he2])
 refine wpAny_Call_Name_kw (Ze8 I hgi hmi Zmb ?_ (by decide) (by decide))
 refine PyProof.Rows.callWith_builtin1 (thn (pa pos pins s σ H (fun vs H1=>∃ v w G1 n,vs=[v,.ty T]∧Tr X.K H1 v w∧RelH X.K H1 G1∧tyN w G1=some n∧Q (.bl (ZgP n T)) H1) I ?_) fun us s1 ⟨vs,H1,I1,r1,v,w,G1,n,e1,tv,rr,ey,qq⟩=>?_) (by rw [he,he2]) (by rw [he2];rfl)
 ·refine ⟨ω,G,ts,r,h.m _ _ _ _ (fun w G1 z v H1 m t r1=>?_) q⟩
  cases ey:tyN w G1 with
  | none=>rw [ey] at z;exact z.elim
  | some n=>rw [ey] at z;exact ⟨v,w,G1,n,rfl,t,r1,ey,z _ H1 m (.bl _) r1⟩
 ·subst e1
  obtain ⟨u,u2,rfl,rv,rt⟩:=Zo9 r1
  cases rt
  exact Zum I1 rv tv rr ey hT fun tk=>⟨.bl _,H1,I1.tok tk,rfl,qq⟩
end
structure Zxn (K:PySem.W.Frag) (C:Addr):Prop where
 ga:PySem.W.findIn K (.ref C) "__getattribute__"=some (some (.builtin "BaseException.__getattribute__"))
 gh:PySem.W.findIn K (.ref C) "__getattr__"=some none
 cl:(PySem.W.clsIn K C).isSome=true
 fc:PySem.W.findIn K (.ref C) "__class__"=some (some (.builtin "object.__class__"))
 sp:PySem.W.specialIn K (.builtin "object.__class__") "__get__"=some (some (.builtin "getset_descriptor.__get__"))
 tk:PySem.W.takesIn K (.builtin "object.__class__")=some true
 mr:PySem.W.mroIn K C (.type "object")=some true
 mb:PySem.W.mroIn K C (.type "BaseException")=some true
end L3
set_option Elab.async false
set_option linter.all false
set_option maxRecDepth 100000
set_option maxHeartbeats 2000000
namespace L3
open PySem PySem.W PySem.Spec PySem.Calls PyProof.Rows PySem.Builtin PySem.Builtin.ObjectAttr PySem.Builtin.Getset_descriptor
section
variable {prog:Program} {w:World} {A:Around} {E:Value→Shared→Prop} {s:Shared} {K:Frag} {x C:Addr} {name:Str}
end
end L3
namespace L3
open PySem PySem.Spec PyProof.Rows L2
variable {K:PySem.W.Frag} {H H' H2:Hp}
def Zxl (K:PySem.W.Frag) (cv:Value) (ge:GE):GE:=fun ω G Q=>ge ω G fun w G1=>match w with
 | .ref a=>(match G1 a with | some (.exc C)=>∃ b,Zxn K C∧PySem.W.kitOne K (.ref C) cv=some b∧Q (.bl b) G1 | _=>False)
 | _=>False
section
variable {X:Cx} {e:Expr} {p pc pos:Pos} {ge:GE}
end
def Zmo (gs:GA):GI:=fun ω G R=>gs ω G fun ws G1=>match ws with
 | [.int j]=>-(2 ^ 62)≤j∧j < 2 ^ 62∧R ((List.range j.toNat).map fun i:Nat=>W.int i) yes G1
 | _=>False
theorem Inv.turneds {X:Cx} {pins:List (Addr×Obj)} {σ:St} {s:Shared} {h':Heap} {t':Nat} {fp:List Addr} (I:Inv X pins σ H s) (hf:∀ b∈fp,ZoU X pins H b) (k:∀ b o,b∉fp→s.heap.get? b=some o→h'.get? b=some o):Inv X pins σ H { s with heap:=h',toks:=t' }:=by
 have nit:∀ b u,H b=some u→b∉fp:=fun b u e z=>by rw [(hf b z).1] at e;cases e
 refine I.step (g':=s.gens) (d':=s.drawn) (ch:=fp) (fun b hb=>⟨(hf b hb).2.2.2.1,(hf b hb).2.1,(hf b hb).2.2.2.2.1,(hf b hb).2.2.2.2.2⟩) (fun b o _ _ hc e _=>k b o hc e) (fun b o _ _ hc e _=>⟨o.slots,k b o hc e⟩) (fun _ _ _ _ n=>n)
  (fun b o hc e=>⟨o,k b o hc e⟩) (fun _ _ e=>e) (fun _ _ _ e=>e) (fun b ps e=>⟨#[],by rw [e];simp⟩) (fun m hm=>?_) (fun b u e=>?_) I.bare
 ·obtain ⟨o,es,ep,ho,r⟩:=hm
  exact ⟨o,es,ep,k _ o (fun z=>(hf _ z).2.1 rfl) ho,r⟩
 ·refine (I.hok b u e).stay (fun c v hc q=>k c v ?_ q) (fun _ q=>q) fun _ _ q=>q
  rcases hc with z | z
  ·rw [z];exact nit b u e
  ·exact nit c _ z
def Itz (K:PySem.W.Frag) (l1 l2:Addr):It :=
 ⟨fun i H=>∃ xs ys,SqL K H l1 xs∧SqL K H l2 ys∧i < xs.length∧i < ys.length,
  fun i H v H'=>∃ T x y,H T=none∧v=.ref T∧H'=upd H T (.tup [x,y])∧∀ xs ys,SqL K H l1 xs→SqL K H l2 ys→xs[i]?=some x∧ys[i]?=some y,
  fun i H=>∃ xs ys,SqL K H l1 xs∧SqL K H l2 ys∧i=min xs.length ys.length⟩
theorem Zqc {P:Program} {w:World} {elts:List Expr} {k:Nat} {tpos:Pos} {z TI TO i1 i2 l1 l2:Addr} (D:ZipApart z TI TO i1 i2 l1 l2) :
  ZrH P w K (.Tuple elts k tpos) (Itz K l1 l2) [z,TI,TO,i1,i2] z (fun i h=>IsZip h z TI TO .none∧IsPair h TI (.ref i1) (.ref i2)∧(∃ a b,IsPair h TO a b)∧h.IsListIter i1 l1 i∧h.IsListIter i2 l2 i) where
 mem:=by simp
 obj:=fun i h st b hb=>by
  obtain ⟨hz,hTI,⟨a,c,hTO⟩,⟨o1,e1,_,d1⟩,⟨o2,e2,_,d2⟩⟩:=st
  simp only [List.mem_cons,List.not_mem_nil,or_false] at hb
  rcases hb with rfl | rfl | rfl | rfl | rfl
  ·exact ⟨_,hz,fun v z=>by cases z⟩
  ·exact ⟨_,hTI,fun v z=>by cases z⟩
  ·exact ⟨_,hTO,fun v z=>by cases z⟩
  ·exact ⟨o1,e1,fun v z=>by rw [d1] at z;cases z⟩
  ·exact ⟨o2,e2,fun v z=>by rw [d2] at z;cases z⟩
 keep:=fun i h h' st kk=>by
  obtain ⟨hz,hTI,⟨a,c,hTO⟩,h1,h2⟩:=st
  exact ⟨kk z (by simp) _ hz,kk TI (by simp) _ hTI,⟨a,c,kk TO (by simp) _ hTO⟩,h1.at fun o e=>kk i1 (by simp) o e,h2.at fun o e=>kk i2 (by simp) o e⟩
 item:=by
  intro X hP hw hK hc i pins s σ H E I hf st hg
  subst hP hw hK
  obtain ⟨xs,ys,hx,hy,hix,hiy⟩:=hg
  obtain ⟨its1,r1,pl1,z1⟩:=I.list hx
  obtain ⟨its2,r2,pl2,z2⟩:=I.list hy
  have n1:=r1.length
  have n2:=r2.length
  obtain ⟨hz,hTI,hTO,h1,h2⟩:=st
  have Wk:=WalksT.zip2 (prog:=X.prog) (w:=X.w) (A:=X.A) (I.ok.hd hc) z TI TO i1 i2 l1 l2 D its1.toArray its2.toArray
  refine Wk.item i s _ _ (by simp only [List.size_toArray];omega) ⟨hz,hTI,hTO,h1,h2,pl1.isList,pl2.isList⟩ fun T vals h' tk hPt hT hTup hMid hk=>⟨.ref T,rfl,?_⟩
  refine Wk.go elts k tpos i T _ _ _ hMid fun h2' st2 hk2=>?_
  obtain ⟨v1,v2,g1,g2,rfl⟩:=hPt
  have g1':its1[i]?=some v1:=by simpa using g1
  have g2':its2[i]?=some v2:=by simpa using g2
  have gx:xs[i]?=some xs[i]:=List.getElem?_eq_getElem hix
  have gy:ys[i]?=some ys[i]:=List.getElem?_eq_getElem hiy
  obtain ⟨u1,q1,rv1⟩:=r1.get gx
  obtain ⟨u2,q2,rv2⟩:=r2.get gy
  rw [g1'] at q1;cases q1
  rw [g2'] at q2;cases q2
  have hw1:∀ b,b∉[z,TI,TO,i1,i2]→b∉[z,TO,i1,i2]:=fun b hb hc=>hb (by
   simp only [List.mem_cons,List.not_mem_nil,or_false] at hc ⊢
   rcases hc with h | h | h | h <;> simp [h])
  have I1:Inv X pins σ H { s with heap:=h2',toks:=tk }:=Inv.turneds I hf fun b o hb e=>hk2 b o (hw1 b hb) (hk b o (hw1 b hb) e)
  have hTn:H T=none:=I.hok.fresh hT
  have hTup2:IsTup h2' T #[v1,v2]:=by
   obtain ⟨o,e,c,m,d⟩:=hTup
   exact ⟨o,hk2 _ _ (Wk.apart _ _ _ hMid) e,c,m,d⟩
  have lt:∀ {b:Addr} {o:Obj},s.heap.get? b=some o→b≠T:=fun e q=>absurd (Nat.lt_of_lt_of_le (Heap.lt_size e) hT) (by rw [q];exact Nat.lt_irrefl _)
  have I2:Inv X pins σ (upd H T (.tup [xs[i],ys[i]])) { s with heap:=h2',toks:=tk }:=by
   refine I1.track hTn ?_ (fun x c e=>?_) (fun p hp=>?_) ?_ ⟨by show 2≤sizeLine;decide,[v1,v2],.cons rv1 (.cons rv2 .nil),hTup2⟩
   ·obtain ⟨m,⟨o,es,ep,ho,_⟩,_⟩:=I.loc
    exact Ne.symm (lt ho)
   ·obtain ⟨v,o,ho,_⟩:=I.cell x c e
    exact lt ho
   ·exact lt (I.pin p hp).1
   ·cases e:X.s₀.heap.get? T with
    | none=>rfl
    | some o=>exact absurd (Nat.lt_of_lt_of_le (Heap.lt_size e) (Nat.le_trans I.sz hT)) (Nat.lt_irrefl _)
  refine ⟨.ref T,_,I2,rfl,⟨T,_,_,hTn,rfl,rfl,fun xs' ys' hx' hy'=>?_⟩,⟨st2.1,st2.2.1,st2.2.2.1,st2.2.2.2.1,st2.2.2.2.2.1⟩,fun b hb=>?_⟩
  ·rw [I.list_inj hx' hx,I.list_inj hy' hy];exact ⟨gx,gy⟩
  ·have hb':=(hf b hb).1
   have:b≠T:=by
    obtain ⟨o,e,_⟩:∃ o,s.heap.get? b=some o∧True:=by
     obtain ⟨a,c,hTO'⟩:=hTO
     obtain ⟨o1,e1,_⟩:=h1
     obtain ⟨o2,e2,_⟩:=h2
     simp only [List.mem_cons,List.not_mem_nil,or_false] at hb
     rcases hb with rfl | rfl | rfl | rfl | rfl
     ·exact ⟨_,hz,trivial⟩
     ·exact ⟨_,hTI,trivial⟩
     ·exact ⟨_,hTO',trivial⟩
     ·exact ⟨_,e1,trivial⟩
     ·exact ⟨_,e2,trivial⟩
    exact lt e
   rw [Zbd this];exact hb'
 done:=by
  intro X hP hw hK hc i pins s σ H E I hf st hg
  subst hP hw hK
  obtain ⟨xs,ys,hx,hy,hi⟩:=hg
  obtain ⟨its1,r1,pl1,z1⟩:=I.list hx
  obtain ⟨its2,r2,pl2,z2⟩:=I.list hy
  have n1:=r1.length
  have n2:=r2.length
  obtain ⟨hz,hTI,hTO,h1,h2⟩:=st
  have Wk:=WalksT.zip2 (prog:=X.prog) (w:=X.w) (A:=X.A) (I.ok.hd hc) z TI TO i1 i2 l1 l2 D its1.toArray its2.toArray
  have hi':i=min its1.toArray.size its2.toArray.size:=by simp only [List.size_toArray];omega
  subst hi'
  refine Wk.done s _ _ ⟨hz,hTI,hTO,h1,h2,pl1.isList,pl2.isList⟩ fun h' tk hk=>⟨rfl,Inv.turneds I hf fun b o hb e=>hk b o (fun hc=>hb ?_) e⟩
  simp only [List.mem_cons,List.not_mem_nil,or_false] at hc ⊢
  rcases hc with h | h | h | h <;> simp [h]
 self:=fun A i s Q E st h=>wpAny_pyIter_zip st.1 h
def Zxp (K:PySem.W.Frag) (ta:TA):TI:=fun σ H R=>ta σ H fun vs H1=>∃ a b xs ys,vs=[.ref a,.ref b]∧SqL K H1 a xs∧SqL K H1 b ys∧R (Itz K a b) H1
theorem ZtN {X:Cx} {a b:Expr} {ta:TA} {p pos tpos:Pos} {elts:List Expr} {k:Nat} (hg:Gl X "zip") (hm:X.mg "zip"=none) (ha:PA X [a,b] ta) (hs:starEach [a,b] X.env=[(false,eval a X.env),(false,eval b X.env)]) (hs2:starEach [b] X.env=[(false,eval b X.env)]) :
  PI X (.Tuple elts k tpos) (.Call (.Name "zip" p) [a,b] [] pos) (Zxp X.K ta):=by
 intro pins s σ H R I h
 refine Call_ (Ze8 I hg hm boot_zip (PyProof.Rows.callWith_type1 (thn (ha pos pins s σ H _ I h) fun us s1 zz2=>?_) (by rw [hs,hs2]) (by rw [hs2];rfl)))
 obtain ⟨vs,H1,I1,r1,q1⟩:=zz2
 obtain ⟨l1,l2,xs,ys,e,hx,hy,q⟩:=q1
 subst e
 obtain ⟨u,u2,rfl,ru,ru2⟩:=Zo9 r1
 cases ru
 cases ru2
 obtain ⟨its1,_,pl1,_⟩:=I1.list hx
 obtain ⟨its2,_,pl2,_⟩:=I1.list hy
 have a1:l1 < s1.heap.objs.size:=by obtain ⟨_,e,_⟩:=pl1.isList;exact Heap.lt_size e
 have a2:l2 < s1.heap.objs.size:=by obtain ⟨_,e,_⟩:=pl2.isList;exact Heap.lt_size e
 refine call_zip_2 pl1.isList pl2.isList fun h' hz hTI hTO hi1 hi2 hsz hk=>wpAny_pyIter_zip hz ?_
 refine ⟨_,_,_,_,H1,rfl,I1.kept (t':=s1.toks) hk,Zqc (zipApart_new a1 a2),⟨hz,hTI,⟨_,_,hTO⟩,hi1,hi2⟩,fun b hb=>?_,q⟩
 have hge:s1.heap.objs.size≤b:=by
  simp only [List.mem_cons,List.not_mem_nil,or_false] at hb
  rcases hb with rfl | rfl | rfl | rfl | rfl
  ·exact Nat.le_add_right _ 4
  ·exact Nat.le_add_right _ 2
  ·exact Nat.le_add_right _ 3
  ·exact Nat.le_refl _
  ·exact Nat.le_add_right _ 1
 exact I1.fpOk hge (I1.hok.fresh hge)
def rdL (G:Hw) (w:W):Option (List W):=match w with
 | .rol xs=>some xs
 | .ref a=>(match G a with | some (.lst xs)=>some xs | _=>none)
 | _=>none
theorem Zgz {G:Hw} {w:W} {xs:List W} {v:V} (r:RelH K H G) (t:Tr K H v w) (e:rdL G w=some xs):∃ a vs,v=.ref a∧SqL K H a vs∧TrL K H vs xs:=by
 cases t with
 | rol h l=>cases e;exact ⟨_,_,rfl,h.sq,l⟩
 | ref a =>
  unfold rdL at e;dsimp only at e
  cases z:G a with
  | none=>rw [z] at e;cases e
  | some o =>
   rw [z] at e
   cases o with
   | lst ys=>cases e;obtain ⟨vs,e1,t1⟩:=r a _ z;exact ⟨a,vs,rfl,SqL.of e1,t1⟩
   | exc C=>cases e
   | ins C fs=>cases e
   | dct kvs=>cases e
 | _=>cases e
def Zlp:List W→List W→List W
 | x::xs,y::ys=>.tup [x,y]::Zlp xs ys
 | _,_=>[]
theorem ZgH:∀ (xs ys:List W),(Zlp xs ys).length=min xs.length ys.length
 | [],_=>by simp [Zlp]
 | _::_,[]=>by simp [Zlp]
 | _::xs,_::ys=>by simp only [Zlp,List.length_cons,ZgH xs ys];omega
theorem Zkc:∀ (xs ys:List W) (i:Nat) {x y:W},xs[i]?=some x→ys[i]?=some y→(Zlp xs ys)[i]?=some (.tup [x,y])
 | [],_,_,_,_,h,_=>by simp at h
 | _::_,[],_,_,_,_,h=>by simp at h
 | a::xs,b::ys,0,x,y,h,h'=>by simp at h h';subst h;subst h';rfl
 | a::xs,b::ys,i+1,x,y,h,h'=>by
  have:=Zkc xs ys i (x:=x) (y:=y) (by simpa using h) (by simpa using h')
  simpa [Zlp] using this
def ZkI (gs:GA):GI:=fun ω G R=>gs ω G fun ws G1=>match ws with
 | [x,y]=>(match rdL G1 x,rdL G1 y with
  | some xs,some ys=>R (Zlp xs ys) (fun G=>rdL G x=some xs∧rdL G y=some ys) G1
  | _,_=>False)
 | _=>False
theorem Zpr {gs:GA} {R:List W→(Hw→Prop)→Hw→Prop} {ws:List W} {G1:Hw} (z:match ws with
 | [x,y]=>(match rdL G1 x,rdL G1 y with
  | some xs,some ys=>R (Zlp xs ys) (fun G=>rdL G x=some xs∧rdL G y=some ys) G1
  | _,_=>False)
 | _=>False):∃ x y xs ys,ws=[x,y]∧rdL G1 x=some xs∧rdL G1 y=some ys∧R (Zlp xs ys) (fun G=>rdL G x=some xs∧rdL G y=some ys) G1:=by
 split at z
 ·rename_i x y
  split at z
  ·rename_i xs ys e1 e2;exact ⟨x,y,xs,ys,rfl,e1,e2,z⟩
  ·exact z.elim
 ·exact z.elim
theorem Zu2 {gs:GA} (m:gs.M):GI.M (ZkI gs):=fun ω G R R' h q=>m _ _ _ _ (fun ws G1 z=>by
 obtain ⟨x,y,xs,ys,rfl,e1,e2,z⟩:=Zpr (gs:=gs) z
 dsimp only
 rw [e1,e2]
 exact h _ _ _ z) q
theorem Zrx {X:Cx} {a b:Expr} {p pos tpos:Pos} {elts:List Expr} {k:Nat} {gs:GA} (hm:X.mg "zip"=none) (hg:Gl X "zip") (hs:starEach [a,b] X.env=[(false,eval a X.env),(false,eval b X.env)]) (hs2:starEach [b] X.env=[(false,eval b X.env)]) (ha:Am X [a,b] gs) :
  Im X (.Tuple elts k tpos) (.Call (.Name "zip" p) [a,b] [] pos) (ZkI gs):=by
 refine ⟨⟨_,ZtN hg hm ha.p hs hs2,fun σ H ω G R R0 ts r q kk=>⟨ω,G,ts,r,ha.m _ _ _ _ (fun ws G1 z vs H1 m t r1=>?_) q⟩⟩,Zu2 ha.m⟩
 obtain ⟨x,y,xs,ys,rfl,e1,e2,z⟩:=Zpr (gs:=gs) z
 cases t with
 | cons tx t =>
  cases t with
  | cons ty t =>
   cases t
   obtain ⟨a1,us1,rfl,hq1,l1⟩:=Zgz r1 tx e1
   obtain ⟨a2,us2,rfl,hq2,l2⟩:=Zgz r1 ty e2
   refine ⟨a1,a2,us1,us2,rfl,hq1,hq2,kk _ _ _ H1 _ z m r1 ⟨e1,e2⟩ ⟨fun i H3 G3 m3 r3 g3 hi=>?_,fun i H3 G3 v H4 m3 r3 g3 y3 hi=>?_,fun H3 G3 m3 r3 g3=>?_⟩⟩
   ·obtain ⟨b1,vs1,e3,h3,t3⟩:=Zgz r3 (tx.mono m3) g3.1
    obtain ⟨b2,vs2,e4,h4,t4⟩:=Zgz r3 (ty.mono m3) g3.2
    cases e3;cases e4
    rw [ZgH] at hi
    exact ⟨vs1,vs2,h3,h4,by rw [t3.length];omega,by rw [t4.length];omega⟩
   ·obtain ⟨b1,vs1,e3,h3,t3⟩:=Zgz r3 (tx.mono m3) g3.1
    obtain ⟨b2,vs2,e4,h4,t4⟩:=Zgz r3 (ty.mono m3) g3.2
    cases e3;cases e4
    obtain ⟨T,v1,v2,hT,rfl,rfl,hv⟩:=y3
    obtain ⟨g1,g2⟩:=hv _ _ h3 h4
    obtain ⟨w1,q1,tw1⟩:=t3.get' g1
    obtain ⟨w2,q2,tw2⟩:=t4.get' g2
    have mn:Mono X.K H3 (upd H3 T (.tup [v1,v2])):=Mono.new hT _
    exact ⟨mn,r3.mono0 hT,_,Zkc _ _ i q1 q2,.tup (SqT.of ZbX) (.cons (tw1.mono mn) (.cons (tw2.mono mn) .nil))⟩
   ·obtain ⟨b1,vs1,e3,h3,t3⟩:=Zgz r3 (tx.mono m3) g3.1
    obtain ⟨b2,vs2,e4,h4,t4⟩:=Zgz r3 (ty.mono m3) g3.2
    cases e3;cases e4
    exact ⟨vs1,vs2,h3,h4,by rw [ZgH,t3.length,t4.length]⟩
end L3
namespace L3
open PySem PySem.Spec PyProof.Rows L2
variable {K:PySem.W.Frag} {H H' H2:Hp}
theorem Zfp:bootBuiltins "len"=some (.builtin "len"):=by decide +kernel
theorem Zkj:bootBuiltins "all"=some (.builtin "all"):=by decide +kernel
theorem Zta:bootBuiltins "list"=some (.type "list"):=by decide +kernel
theorem Zcx:bootBuiltins "tuple"=some (.type "tuple"):=by decide +kernel
theorem Zk0:bootBuiltins "int"=some (.type "int"):=by decide +kernel
theorem Zoc:bootBuiltins "str"=some (.type "str"):=by decide +kernel
theorem Zn1:bootBuiltins "bool"=some (.type "bool"):=by decide +kernel
section
variable {X:Cx} {P:Hp→Prop} {a b c e:Expr} {es:List Expr} {pos pos' p:Pos} {ga gb ge:GE} {gt:GT}
theorem Zam {x:Str} {i:Nat} (hi:X.N[i]?=some x) (hv:ZvA X.env.scope x=true) (hd:(x==("__debug__":Str))=false) (hc:(x==("__classdict__":Str))=false):Em X (.Name x pos) (Zag i):=⟨Ztz hi (ZmL hv) hd hc,Zu4⟩
theorem Ze5 {x:Str} {i:Nat} (hN:X.N.Nodup) (hi:X.N[i]?=some x) (hx:ZkU X.env.scope x=true) (hs:swapsWith e (some (.Name x pos')) pos.line X.env=pure false) (ha:Em X e ga):Sm X P (.Assign [.Name x pos'] e pos) (Zbh i ga) :=
 ⟨Zug hN hi (.inl (ZgG hx)) ha.m ha.p hs (.inr (ZgG hx)),Zrw ha.m⟩
theorem ZwS {n:Nat} {x:Str} (hN:X.N.Nodup) (hi:X.N[n]?=some x) (hx:ZkU X.env.scope x=true) (ha:Em X e ga):Sm X P (.AugAssign (.Name x pos') .Add e pos) (ZkE n Zfq ga) :=
 ⟨ZuQ (OpR.or ZsA Zl5) Zow Zqj hN hi (.inl (ZgG hx)) (.inr (ZgG hx)) ha.m ha.p,ZtQ Zow ha.m⟩
def Glb (K:PySem.W.Frag) (mg:Str→Option Value) (x:Str) (w:W):Prop:=∃ v u,mg x=some u∧RelV v u∧∀ H,Tr K H v w
theorem Zjz {x:Str} {w:W} (h:Glb X.K X.mg x w) (hg:Gl X x) (hd:(x==("__debug__":Str))=false):Em X (.Name x pos) (gC w) :=
 let ⟨_,_,h1,h2,h3⟩:=h
 ⟨Zpj hg h1 h2 h3 hd,Zue⟩
structure Fm (X:Cx) (ifs:List Expr) (g:GT):Prop where
 p:PFw X ifs g
 m:g.M
theorem Zex:Fm X [] ZgR:=⟨Zu6,ZuC⟩
theorem Zrn (h:Tm X c gt):Fm X [c] gt:=⟨ZtP h.p,h.m⟩
theorem ZeU {elt tg iter:Expr} {ifs:List Expr} {scope:Scope} {Nc:List Str} {gi:GI} {gg:GG} (hc:X.calm=true) (B:Blk X Nc scope [] (fun _=>List.replicate Nc.length none)) (hs:∀ x,foldedSetIterable iter X.env x=pure x) (hi:Im X tg iter gi)
  (hu:TgU X Nc scope tg gg) (ht:∀ C fp s H,Fm (cxB X Nc scope [] C fp s H) ifs gt) (he:∀ C fp s H,Em (cxB X Nc scope [] C fp s H) elt ge):Em X (.ListComp elt [⟨tg,iter,ifs,0⟩] scope pos) (ZcX gi Nc.length gg gt ge) :=
 have mt:gt.M:=(ht 0 [] X.s₀ X.H₀).m
 have me:ge.M:=(he 0 [] X.s₀ X.H₀).m
 ⟨Zr6 hc hi.p B hu mt (fun C fp s H=>(ht C fp s H).p) me (fun C fp s H=>(he C fp s H).p) hs,Ztl hi.m hu.mono mt me⟩
theorem ZaD:ZnT X (fun _ _ _=>False):=(by rintro pins σ H s ev s' I ⟨e,C,H',ee,F,C',ω,G,eC,ts,r,q⟩;exact q.elim)
theorem Zfb {k:Nat} {A:Around} (hr:Room k A):A.units+100 < cLine:=by have:=hr.un;omega
end
def Zl0:List (Str×Int)→Str→W
 | [],_=>.non
 | (x,i)::D,z=>if z=x then .int i else Zl0 D z
def Zwg (mg:Str→Option Value) (base:Heap) (x:Str) (D:List (Str×Int)):Prop:=∃ d,mg x=some (.ref d)∧KTD.TextTab base d (D.map fun p=>(p.1,KTD.Dat.flat (.int p.2)))
theorem Zjc:∀ {D:List (Str×Int)} {z:Str} {d:KTD.Dat},KTD.datumAt z (D.map fun p=>(p.1,KTD.Dat.flat (.int p.2)))=some d→∃ i,d=.flat (.int i)∧Zl0 D z=.int i
 | [],_,_,h=>by cases h
 | (x,i)::D,z,d,h=>by
  have h':(if decide (z=x)=true then some (KTD.Dat.flat (.int i)) else KTD.datumAt z (D.map fun p=>(p.1,KTD.Dat.flat (.int p.2))))=some d:=h
  unfold Zl0
  by_cases hx:z=x
  ·rw [if_pos (decide_eq_true hx)] at h'
   cases h'
   exact ⟨i,rfl,if_pos hx⟩
  ·rw [if_neg (by simpa using hx)] at h'
   rw [if_neg hx]
   exact Zjc h'
theorem Zja:∀ {D:List (Str×Int)} {z:Str},KTD.datumAt z (D.map fun p=>(p.1,KTD.Dat.flat (.int p.2)))=none→Zl0 D z=.non
 | [],_,_=>rfl
 | (x,i)::D,z,h=>by
  have h':(if decide (z=x)=true then some (KTD.Dat.flat (.int i)) else KTD.datumAt z (D.map fun p=>(p.1,KTD.Dat.flat (.int p.2))))=none:=h
  unfold Zl0
  by_cases hx:z=x
  ·rw [if_pos (decide_eq_true hx)] at h';cases h'
  ·rw [if_neg (by simpa using hx)] at h'
   rw [if_neg hx]
   exact Zja h'
def ZgZ (D:List (Str×Int)) (gk:GE):GE:=fun ω G Q=>gk ω G fun w G1=>match w with | .str z=>Q (Zl0 D z) G1 | _=>False
theorem Zox {X:Cx} {x:Str} {D:List (Str×Int)} {e:Expr} {p0 apos cpos:Pos} {gk:GE} (h:Zwg X.mg X.base x D) (hg:Gl X x) (hd:(x==("__debug__":Str))=false) (hbase:attributeBase (.Name x p0) "get" X.env (eval (.Name x p0) X.env)=eval (.Name x p0) X.env)
  (hfew:((backTo cpos (starEach [e] X.env)).all (fun x=>!x.1)&&(backToKw cpos (keywordEach [] X.env)).all (fun x=>x.1.isSome)&&decide ([e].length+([]:List Keyword).length+(if ([]:List Keyword).isEmpty then 0 else 1) < 30))=true)
  (hline:(apos.endLine==cpos.line)=true) (hs:starEach [e] X.env=(false,eval e X.env)::starEach [] X.env) (hplain:(backTo cpos (starEach [] X.env)).any (·.1)=false) (hk:Em X e gk) :
  Em X (.Call (.Attribute (.Name x p0) "get" apos) [e] [] cpos) (ZgZ D gk):=by
 refine ⟨fun pins s σ H Q I ⟨ω,G,ts,r,q⟩=>?_,fun ω G Q Q' hh q=>hk.m _ _ _ _ (fun w G1 z=>by cases w <;> first | exact hh _ _ z | exact z) q⟩
 obtain ⟨d,hm,T⟩:=h
 have here:KTD.Here X.base s.heap d (D.map fun p=>(p.1,KTD.Dat.flat (.int p.2))):=⟨T,I.bk⟩
 refine wpAny_Call_method_late hbase hfew hline rfl (ZlX I hg hm ⟨"dict","dict.get",PySem.F.plainAttrs_dict,PySem.F.slot_dict_get,PySem.F.type_dict_get,here.typeIs,here.noDict,?_⟩ hd)
 have pa:PA X [e] (Zla (up X.K gk) Zu3):=Zfh hk.p Zlm hs
 have hA:=pa cpos pins s σ H (fun vs H1=>∃ z,vs=[.str z]∧∀ v,Tr X.K H1 v (Zl0 D z)→Q v H1) I ⟨ω,G,ts,r,hk.m _ _ _ _ (fun w G1 z v H1 m t r1=>by
  cases w with
  | str y=>exact ⟨y,by rw [ZuM t],fun v tv=>z v H1 m tv r1⟩
  | _=>exact z.elim) q⟩
 rw [hs] at hA ⊢
 refine Calls.callWith_builtin (by show (false||(backTo cpos (starEach [] X.env)).any (·.1))=false;rw [hplain] <;> rfl) (Calls.evalArgs_plain ?_)
 refine thn hA fun us s2 zz1=>?_
 obtain ⟨vs,H2,I2,r2,z,e1,q2⟩:=zz1
 subst e1
 obtain ⟨u,rfl,ru⟩:=Zl2 r2
 obtain ⟨t,rfl⟩:=ru
 have here2:KTD.Here X.base s2.heap d (D.map fun p=>(p.1,KTD.Dat.flat (.int p.2))):=⟨T,I2.bk⟩
 refine call_meetsIn PySem.F.slot_dict_get here2.typeIs PySem.F.entry_dict_get (PySem.F.args_dict_get_2 _ _) (KTD.meets_get1 (h₀:=X.base) (D:=D.map fun p=>(p.1,KTD.Dat.flat (.int p.2)))) ⟨here2,fun dd v ha hv=>?_,fun hn=>?_⟩
 ·obtain ⟨i,rfl,e2⟩:=Zjc ha
  obtain ⟨t2,rfl⟩:=PyProof.V.Flat.int_inv hv
  exact ⟨.int i,H2,I2.tok _,⟨_,rfl⟩,q2 _ (by rw [e2];exact .int i)⟩
 ·exact ⟨.non,H2,I2.tok _,rfl,q2 _ (by rw [Zja hn];exact .non)⟩
def Fn (K:PySem.W.Frag) (mg:Str→Option Value) (st:Stmt) (x:Str) (ps:List Str):Prop:=∃ f fd,mg x=some (.ref f)∧Fun K x x st f fd∧Binds K fd ps []
section
variable {P:Program} {w:World} {mg:Str→Option Value} {base:Heap}
theorem mk0 {x:Str} {st:Stmt} {N ps:List Str} {k n:Nat} {sp:Spw} {g:GS} (Fx:Fn K mg st x ps) (hn:ps.length=n) (S:ZaH N ps (Zac st)) (spm:sp.M) (len:∀ ws G Q E,sp ws G Q E→ws.length=n)
  (hg:∀ {f:Addr} {cdv:Value} {A:Around} {outer:List Env} {s:Shared} {H:Hp} {E:XK},Room k (A.deeper (envOfC x (Zac st) s.heap.objs.size f cdv))→Ssm (cxW P w K mg base N x (Zac st) f cdv A outer s H E).nox (fun B=>B=H) (ZaC st) g)
  (ok:∀ ws G (Q:Kw) (E:Addr→Hw→Prop),Kw.C Q→sp ws G Q E→g (ZaX Q) (Zcs N ws) G):Df P w K mg base x (k+1) n sp:=by
 obtain ⟨f,fd,h1,F,h3⟩:=Fx
 refine ⟨⟨f,fd,ps,h1,F.kp,h3,hn,?_⟩,spm⟩
 obtain ⟨oc,od,kV,doc,pm,an,cdv,ct,osl,rfl,lk,hcd⟩:=F.ex
 refine Zsz lk hcd S ((by rintro vs H Q E ⟨ws,G,t,r,q⟩;rw [t.length,hn];exact len ws G _ _ q)) fun A outer s H vs Q E hr hsp=>?_
 obtain ⟨ws,G,t,r,q⟩:=hsp
 have D:=hg (cdv:=cdv) (outer:=outer) (H:=H) (E:=E) hr
 refine ⟨_,(D.p H rfl).nox,Zcs N ws,G,ZiR t,r,.refl,?_⟩
 exact D.m _ _ (ZaX (dn K H Q)) _ (fun a b z σ H2 m ts r2=>z _ H2 m Tr.non r2) (fun a b z=>z) (fun a b z=>z.elim) (fun a b z=>z.elim) (ok ws G _ _ ZwJ q)
end
end L3
set_option Elab.async false
set_option linter.all false
set_option maxRecDepth 100000
set_option maxHeartbeats 4000000
namespace L3
open PySem PySem.Spec PyProof.Rows L2
def Zic {α:Type} (n:Nat) (js:List Nat) (l:List (Option α)):List (Option α):=List.replicate n none++js.map fun j=>(l[j]?).getD none
theorem ZjJ {α:Type} {n:Nat} {js:List Nat} {l:List (Option α)}:(Zic n js l).length=n+js.length:=by simp [Zic]
theorem ZmP {α:Type} {n i:Nat} {js:List Nat} {l:List (Option α)} {v:α} (h:(Zic n js l)[i]?=some (some v)):∃ m j,i=n+m∧js[m]?=some j∧l[j]?=some (some v):=by
 unfold Zic at h
 by_cases hi:i < n
 ·rw [List.getElem?_append_left (by simpa using hi),List.getElem?_replicate] at h
  split at h <;> cases h
 ·rw [List.getElem?_append_right (by simpa using Nat.le_of_not_lt hi),List.length_replicate,List.getElem?_map] at h
  cases hj:js[i - n]? with
  | none=>rw [hj] at h;cases h
  | some j =>
   rw [hj] at h
   refine ⟨i - n,j,by omega,hj,?_⟩
   have h':(l[j]?).getD none=some v:=Option.some.inj h
   cases e:l[j]? with
   | none=>rw [e] at h';cases h'
   | some o=>rw [e] at h';exact congrArg some h'
theorem ZqE {α:Type} {n m j:Nat} {js:List Nat} {l:List (Option α)} {v:α} (h1:js[m]?=some j) (h2:l[j]?=some (some v)):(Zic n js l)[n+m]?=some (some v):=by
 unfold Zic
 rw [List.getElem?_append_right (by simp),List.length_replicate,List.getElem?_map]
 have:n+m - n=m:=by omega
 rw [this,h1]
 show some ((l[j]?).getD none)=_
 rw [h2];rfl
theorem TrSt.cap {K:PySem.W.Frag} {H:Hp} {σ:St} {ω:Sw} (t:TrSt K H σ ω) (n:Nat) (js:List Nat):TrSt K H (Zic n js σ) (Zic n js ω):=by
 refine ⟨by rw [ZjJ,ZjJ],fun i w e=>?_⟩
 obtain ⟨m,j,rfl,h1,h2⟩:=ZmP e
 obtain ⟨v,h3,r⟩:=t.get j w h2
 exact ⟨v,ZqE h1 h3,r⟩
def ZjL (env:Env):List (Str×NameKind)→List (Str×Addr)→List (Str×Addr)
 | [],cs=>cs
 | (n,k)::r,cs=>ZjL env r (if k=.free then (n,(env.cells.lookup n).getD 0)::cs else cs)
theorem ZmV {env:Env}:∀ (l:List (Str×NameKind)) (cs:List (Str×Addr)),(∀ y∈l,y.2=.free→∃ c,env.cells.lookup y.1=some c) →
  (forIn l cs fun (x:Str×NameKind) r=>if (x.2==NameKind.free)=true then do let c ← cellOf env x.1;pure (ForInStep.yield ((x.1,c)::r)) else pure (ForInStep.yield r):Sem (List (Str×Addr)))=pure (ZjL env l cs)
 | [],cs,_=>by simp [ZjL]
 | (n,k)::r,cs,h=>by
  have ih:=fun cs=>ZmV r cs fun y hy=>h y (List.mem_cons_of_mem _ hy)
  rw [List.forIn_cons]
  by_cases hk:k=.free
  ·obtain ⟨c,hc⟩:=h (n,k) List.mem_cons_self hk
   subst hk
   have e:cellOf env n=pure c:=by unfold cellOf;rw [hc]
   simp only [beq_self_eq_true,if_true,e,pure_bind,ZjL,hc,Option.getD_some]
   exact ih _
  ·have:(k==NameKind.free)=false:=by simpa using hk
   simp only [this,Bool.false_eq_true,if_false,pure_bind,ZjL,hk]
   exact ih _
theorem ZkF {env:Env} {y:Str} {c:Addr}:∀ (l:List (Str×NameKind)) (cs:List (Str×Addr)),(ZjL env l cs).lookup y=some c→cs.lookup y=some c∨((y,NameKind.free)∈l∧c=(env.cells.lookup y).getD 0)
 | [],cs,h=>.inl h
 | (n,k)::r,cs,h=>by
  rcases ZkF r _ h with q | ⟨q1,q2⟩
  ·split at q
   ·rename_i hk
    subst hk
    rw [List.lookup_cons] at q
    split at q
    ·rename_i e
     have e':y=n:=beq_iff_eq.mp e
     subst e'
     exact .inr ⟨List.mem_cons_self,(Option.some.inj q).symm⟩
    ·exact .inl q
   ·exact .inl q
  ·exact .inr ⟨List.mem_cons_of_mem _ q1,q2⟩
theorem Zjl {env:Env} {y:Str}:∀ (l:List (Str×NameKind)) (cs:List (Str×Addr)),(∃ c,cs.lookup y=some c)→∃ c,(ZjL env l cs).lookup y=some c
 | [],cs,h=>h
 | (n,k)::r,cs,h=>Zjl r _ (by
  split
  ·rw [List.lookup_cons]
   split
   ·exact ⟨_,rfl⟩
   ·exact h
  ·exact h)
theorem Zk3 {env:Env} {y:Str}:∀ (l:List (Str×NameKind)) (cs:List (Str×Addr)),(y,NameKind.free)∈l→∃ c,(ZjL env l cs).lookup y=some c
 | [],cs,h=>by cases h
 | (n,k)::r,cs,h=>by
  rcases List.mem_cons.mp h with h | h
  ·cases h
   refine Zjl r _ ⟨(env.cells.lookup y).getD 0,?_⟩
   rw [if_pos rfl,List.lookup_cons,beq_self_eq_true]
  ·exact Zk3 r _ h
theorem Zit {scope:Scope} {env:Env} {y:Str} {k:NameKind} (nocell:∀ z∈scope.names,z.2≠.cell) (h:(relabel scope env).names.lookup y=some k) (hk:k=.cell∨k=.free):(y,NameKind.free)∈scope.names:=by
 have m:=Zgj h
 unfold relabel at m
 obtain ⟨⟨n,k0⟩,hm,e⟩:=List.mem_map.mp m
 dsimp only at e
 split at e
 ·rename_i hc
  cases e
  simp only [Bool.and_eq_true,beq_iff_eq] at hc
  rw [hc.1.1] at hm
  exact hm
 ·cases e
  rcases hk with rfl | rfl
  ·exact absurd rfl (nocell _ hm)
  ·exact hm
theorem ZdQ {env:Env} (hf:env.scope.kind=.function):∀ {names:List (Str×NameKind)} {x:Str},names.lookup x=some .free→env.kindOf x=some .cell →
  (names.map fun (n,k)=>if (k==NameKind.free&&env.scope.kind==.function&&env.kindOf n==some .cell) then (n,NameKind.cell) else (n,k)).lookup x=some .cell
 | [],_,h,_=>by cases h
 | (n,k)::r,x,h,hk=>by
  rw [List.lookup_cons] at h
  rw [List.map_cons]
  split at h
  ·rename_i e
   have e':x=n:=beq_iff_eq.mp e
   subst e'
   cases h
   have c:(NameKind.free==NameKind.free&&env.scope.kind==ScopeKind.function&&env.kindOf x==some NameKind.cell)=true:=by rw [hf,hk];rfl
   dsimp only
   rw [if_pos c,List.lookup_cons,beq_self_eq_true]
  ·rename_i e
   have ih:=ZdQ hf (names:=r) h hk
   rw [List.lookup_cons]
   have e2:(x==(if (k==NameKind.free&&env.scope.kind==ScopeKind.function&&env.kindOf n==some NameKind.cell)=true then (n,NameKind.cell) else (n,k)).1)=false:=by
    split <;> exact e
   dsimp only at e2 ⊢
   split
   ·rename_i e3;rw [e2] at e3;cases e3
   ·exact ih
theorem Zts {X:Cx} {own fr:List Str} {js:List Nat} {scope scX:Scope} {n:Nat} (kind:scope.kind=.function) (names:∀ x∈scope.names,x.2=.local→scope.names.lookup x.1=some .local) (nocell:∀ y∈scope.names,y.2≠.cell)
  (hf:∀ y∈scope.names,y.2=.free→y.1∈fr) (hk:∀ y∈fr,scope.names.lookup y=some .free) (hsc:X.env.scope=scX) (hkx:scX.kind=.function) (hce:X.env.cells=cellsFrom n scX.names []) (hx:∀ y∈fr,scX.names.lookup y=some .cell)
  (hj:js.map (fun j=>X.N[j]?)=fr.map some):Blk X (own++fr) scope (ZjL X.env scope.names []) (Zic own.length js):=by
 have cel:∀ y∈fr,∃ c,X.env.cells.lookup y=some c:=fun y hy=>by
  rw [hce]
  exact Zjv (hx y hy)
 have frl:js.length=fr.length:=by have:=congrArg List.length hj;simpa using this
 refine ⟨?_,kind,names,nocell,fun y c h=>?_,fun y h=>?_,fun σ i y v h1 h2 h3=>?_,fun σ=>by rw [ZjJ,List.length_append,frl]⟩
 ·have:=ZmV (env:=X.env) scope.names [] fun y hy hy2=>cel _ (hf y hy hy2)
  unfold closureFor
  simp only [bind_pure]
  exact this
 ·rcases ZkF _ _ h with q | ⟨q1,q2⟩
  ·cases q
  ·obtain ⟨c',e⟩:=cel y (hf _ q1 rfl)
   rw [e] at q2 ⊢
   exact congrArg some q2.symm
 ·refine Zk3 _ _ ?_
  rcases h with h | h
  ·exact Zit nocell h (.inl rfl)
  ·exact Zit nocell h (.inr rfl)
 ·obtain ⟨m,j,rfl,e1,e2⟩:=ZmP h2
  rw [List.getElem?_append_right (by omega)] at h1
  have:own.length+m - own.length=m:=by omega
  rw [this] at h1
  have hy:y∈fr:=List.mem_of_getElem? h1
  have q:=congrArg (fun l=>l[m]?) hj
  simp only [List.getElem?_map,e1,h1,Option.map_some] at q
  have l1:X.env.scope.names.lookup y=some .cell:=by rw [hsc];exact hx y hy
  refine ⟨.inl (ZdQ (by rw [hsc];exact hkx) (hk y hy) l1),.inr (.inl l1),(by rw [l1];intro z;cases z),j,Option.some.inj q,e2⟩
def Zb9 (gi:GI) (n:Nat) (js:List Nat) (gg:GG) (gt:GT) (ge:GE):GE:=fun ω G Q=>gi ω G fun ws gd G1=>Zb4 gd gg gt ge (fun ys G2=>∀ p,G2 p=none→Q (.ref p) (put G2 p (.lst ys))) ws (Zic n js ω) G1 []
theorem Zjw {gi:GI} {n:Nat} {js:List Nat} {gg:GG} {gt:GT} {ge:GE} (mi:gi.M) (mg:gg.M) (mt:gt.M) (me:ge.M):GE.M (Zb9 gi n js gg gt ge):=fun ω G Q Q' h q =>
 mi _ _ _ _ (fun ws gd G1 z=>ZhB mg mt me (fun ys G2 z p hp=>h _ _ (z p hp)) _ _ _ _ z) q
theorem ZmE {X:Cx} {n:Nat} {js:List Nat} {gi:GI} {gg:GG} {gt:GT} {ge:GE} {wi:TI} {g:TG} (hwi:∀ (σ:St) (H:Hp) (ω:Sw) (G:Hw) (R:List W→(Hw→Prop)→Hw→Prop) (R0:It→Hp→Prop),TrSt X.K H σ ω→RelH X.K H G→gi ω G R →
   (∀ ws gd G1 H1 J,R ws gd G1→Mono X.K H H1→RelH X.K H1 G1→gd G1→Ztm X.K H1 J ws gd→R0 J H1)→wi σ H R0)
  (hgg:∀ (x:V) (w:W) (σ:St) (ω:Sw) (H:Hp) (G:Hw) (Q:St→Hp→Prop),Tr X.K H x w→TrSt X.K H σ ω→RelH X.K H G→gg w ω G (dnS X.K H Q)→g x σ H Q) (mg:gg.M) (mt:gt.M) (me:ge.M) (σ:St) (H:Hp) (Q:VK) (h:up X.K (Zb9 gi n js gg gt ge) σ H Q) :
  Zqx wi (Zic n js) g (upT X.K gt) (up X.K ge) σ H Q:=by
 obtain ⟨ω,G,ts,r,q⟩:=h
 refine hwi σ H ω G _ _ ts r q fun ws gd G1 H1 J z m1 r1 hgd wk=>?_
 refine ⟨fun i m σ' H' vs=>m=ws.length - i∧i≤ws.length∧Mono X.K H1 H'∧∃ ω' G' ys,TrSt X.K H' σ' ω'∧RelH X.K H' G'∧TrL X.K H' vs ys∧Zb4 gd gg gt ge (fun ys G2=>∀ p,G2 p=none→dn X.K H Q (.ref p) (put G2 p (.lst ys))) (ws.drop i) ω' G' ys,
  ⟨ws.length,by simp,Nat.zero_le _,.refl,_,G1,[],(ts.mono m1).cap n js,r1,.nil,by simpa using z⟩,?_⟩
 rintro i m σ' H' vs ⟨rfl,hle,mm,ω',G',ys,ts',r',tv,q'⟩
 have hgd':=ZkL q'
 by_cases hlt:i < ws.length
 ·have hw:∃ w,ws[i]?=some w:=⟨ws[i],by simp [hlt]⟩
  obtain ⟨w0,ew0⟩:=hw
  have ed:ws.drop i=w0::ws.drop (i+1):=by
   obtain ⟨h',e'⟩:=List.getElem?_eq_some_iff.mp ew0
   rw [← e'];exact List.drop_eq_getElem_cons h'
  rw [ed] at q'
  refine .inr ⟨wk.go i H' G' mm r' hgd' hlt,by rw [tv.length];exact q'.2.1,fun σ2 H2 vs2=>Mono X.K H1 H2∧∃ ω2 G2 ys2,TrSt X.K H2 σ2 ω2∧RelH X.K H2 G2∧TrL X.K H2 vs2 ys2∧Zb4 gd gg gt ge (fun ys G2=>∀ p,G2 p=none→dn X.K H Q (.ref p) (put G2 p (.lst ys))) (ws.drop (i+1)) ω2 G2 ys2,
   (by rintro σ2 H2 vs2 ⟨y1,y2⟩;exact ⟨ws.length - (i+1),by omega,rfl,hlt,y1,y2⟩),fun x H2 y=>?_⟩
  obtain ⟨my,ry,w,ew,tw⟩:=wk.yld i H' G' x H2 mm r' hgd' y hlt
  have mm:=mm.trans my
  have tv:=tv.mono my
  rw [ew0] at ew;cases ew
  refine hgg x _ σ' ω' _ G' _ tw (ts'.mono my) ry (mg _ _ _ _ _ (fun ω1 G1' z1 σ1 H3 m3 ts3 r3=>?_) q'.2.2)
  refine ⟨ω1,G1',ts3,r3,mt _ _ _ _ (fun b G4 z4 H4 m4 r4=>?_) z1⟩
  cases b with
  | true=>exact ⟨ω1,G4,ts3.mono m4,r4,me _ _ _ _ (fun y5 G5 z5 v5 H5 m5 t5 r5=>⟨((mm.trans m3).trans m4).trans m5,ω1,G5,_,(ts3.mono m4).mono m5,r5,(((tv.mono m3).mono m4).mono m5).append (.cons t5 .nil),z5⟩) z4⟩
  | false=>exact ⟨(mm.trans m3).trans m4,ω1,G4,_,ts3.mono m4,r4,(tv.mono m3).mono m4,z4⟩
 ·have e:i=ws.length:=by omega
  subst e
  rw [List.drop_length] at q'
  exact .inl ⟨wk.stop H' G' mm r' hgd',fun p hp=>q'.2 p (r'.no hp) _ _ ((m1.trans mm).trans (Mono.new hp _)) (.ref p) (r'.new hp tv)⟩
structure TgC (X:Cx) (Nc:List Str) (scope:Scope) (cl:List (Str×Addr)) (tg:Expr) (gg:GG):Prop where
 ex:∃ g:TG,(∀ C fp s H,PG (cxB X Nc scope cl C fp s H) tg g)∧∀ (x:V) (w:W) (σ:St) (ω:Sw) (H:Hp) (G:Hw) (Q:St→Hp→Prop),Tr X.K H x w→TrSt X.K H σ ω→RelH X.K H G→gg w ω G (dnS X.K H Q)→g x σ H Q
 mono:gg.M
theorem ZhA {X:Cx} {Nc:List Str} {scope:Scope} {cl:List (Str×Addr)} {x:Str} {p:Pos} {i:Nat} (hN:Nc.Nodup) (hi:Nc[i]?=some x) (hx:scope.names.lookup x=some .local):TgC X Nc scope cl (.Name x p) (gNm i) where
 ex:=⟨Zga i,fun C fp s H=>ZcA (X:=cxB X Nc scope cl C fp s H) hN hi (.inl (lookup_relabel_local hx)) (.inr (lookup_relabel_local hx)),fun x w σ ω H G Q t ts r q=>q _ H .refl (ts.set i t) r⟩
 mono:=fun _ _ _ _ _ h q=>h _ _ q
theorem Zse {X:Cx} {Nc:List Str} {scope:Scope} {cl:List (Str×Addr)} {x y:Str} {p p' pos:Pos} {k i j:Nat} (hc:X.calm=true) (hN:Nc.Nodup) (hi:Nc[i]?=some x) (hx:scope.names.lookup x=some .local) (hj:Nc[j]?=some y) (hy:scope.names.lookup y=some .local) :
  TgC X Nc scope cl (.Tuple [.Name x p,.Name y p'] k pos) (ZiL i j) where
 ex:=⟨L2.ZaN X.K 2 (L2.Zab (Zga i) (L2.Zab (Zga j) L2.Zan)),fun C fp s H=>Zld (X:=cxB X Nc scope cl C fp s H) hc (Zcv (ZcA hN hi (.inl (lookup_relabel_local hx)) (.inr (lookup_relabel_local hx))) (Zcv (ZcA hN hj (.inl (lookup_relabel_local hy)) (.inr (lookup_relabel_local hy))) Ziv)),
  fun v w σ ω H G Q t ts r q=>by
   unfold ZiL at q
   split at q
   ·rename_i a b
    cases t with
    | tup h l =>
     cases l with
     | cons ta l =>
      cases l with
      | cons tb l =>
       cases l
       exact ⟨_,_,rfl,h,rfl,_,_,rfl,_,_,rfl,rfl,q _ H .refl ((ts.set i ta).set j tb) r⟩
   ·exact q.elim⟩
 mono:=ZrC
def ZnB (i j k:Nat):GG:=fun w ω G Q=>match w with
 | .tup [a,b,c]=>Q (((ω.set i (some a)).set j (some b)).set k (some c)) G
 | _=>False
theorem Zq2 {i j k:Nat}:GG.M (ZnB i j k):=fun w ω G Q Q' h q=>by
 unfold ZnB at q ⊢
 split
 ·exact h _ _ q
 ·rename_i z
  split at q
  ·exact (z _ _ _ rfl).elim
  ·exact q
theorem Zra {K:PySem.W.Frag} {i j k:Nat} (v:V) (w:W) (σ:St) (ω:Sw) (H:Hp) (G:Hw) (Q:St→Hp→Prop) (t:Tr K H v w) (ts:TrSt K H σ ω) (r:RelH K H G) (q:ZnB i j k w ω G (dnS K H Q)) :
  L2.ZaN K 3 (L2.Zab (Zga i) (L2.Zab (Zga j) (L2.Zab (Zga k) L2.Zan))) v σ H Q:=by
 unfold ZnB at q
 split at q
 ·cases t with
  | tup h l =>
   cases l with
   | cons ta l =>
    cases l with
    | cons tb l =>
     cases l with
     | cons tc l =>
      cases l
      exact ⟨_,_,rfl,h,rfl,_,_,rfl,_,_,rfl,_,_,rfl,rfl,q _ H .refl (((ts.set i ta).set j tb).set k tc) r⟩
 ·exact q.elim
theorem Zn9 {X:Cx} {Nc:List Str} {scope:Scope} {cl:List (Str×Addr)} {x y z:Str} {p p' p2 pos:Pos} {n i j k:Nat} (hc:X.calm=true) (hN:Nc.Nodup) (hi:Nc[i]?=some x) (hx:scope.names.lookup x=some .local) (hj:Nc[j]?=some y) (hy:scope.names.lookup y=some .local) (hk:Nc[k]?=some z) (hz:scope.names.lookup z=some .local) :
  TgC X Nc scope cl (.Tuple [.Name x p,.Name y p',.Name z p2] n pos) (ZnB i j k) where
 ex:=⟨L2.ZaN X.K 3 (L2.Zab (Zga i) (L2.Zab (Zga j) (L2.Zab (Zga k) L2.Zan))),fun C fp s H=>Zld (X:=cxB X Nc scope cl C fp s H) hc (Zcv (ZcA hN hi (.inl (lookup_relabel_local hx)) (.inr (lookup_relabel_local hx))) (Zcv (ZcA hN hj (.inl (lookup_relabel_local hy)) (.inr (lookup_relabel_local hy))) (Zcv (ZcA hN hk (.inl (lookup_relabel_local hz)) (.inr (lookup_relabel_local hz))) Ziv))),
  Zra⟩
 mono:=Zq2
section
variable {X:Cx} {P:Hp→Prop} {e:Expr} {pos pos':Pos} {ga ge:GE} {gt:GT}
theorem ZjZ {elt tg iter:Expr} {ifs:List Expr} {scope:Scope} {Nc:List Str} {n:Nat} {js:List Nat} {cl:List (Str×Addr)} {gi:GI} {gg:GG} (hc:X.calm=true) (B:Blk X Nc scope cl (Zic n js)) (hs:∀ x,foldedSetIterable iter X.env x=pure x) (hi:Im X tg iter gi)
  (hu:TgC X Nc scope cl tg gg) (ht:∀ C fp s H,Fm (cxB X Nc scope cl C fp s H) ifs gt) (he:∀ C fp s H,Em (cxB X Nc scope cl C fp s H) elt ge):Em X (.ListComp elt [⟨tg,iter,ifs,0⟩] scope pos) (Zb9 gi n js gg gt ge):=by
 have mt:gt.M:=(ht 0 [] X.s₀ X.H₀).m
 have me:ge.M:=(he 0 [] X.s₀ X.H₀).m
 refine ⟨?_,Zjw hi.m hu.mono mt me⟩
 obtain ⟨wi,hwi,hi⟩:=hi.p
 obtain ⟨g,hpg,hgg⟩:=hu.ex
 exact Zbz (Zpm hc hwi B hpg (fun C fp s H=>(ht C fp s H).p) (fun C fp s H=>(he C fp s H).p) hs) (ZmE hi hgg hu.mono mt me)
end
end L3
namespace L3
open PySem PySem.Spec PyProof.Rows L2
theorem ZqQ {X:Cx} {x y z:Str} {p p' p2 pos:Pos} {n i j k:Nat} (hc:X.calm=true) (hN:X.N.Nodup) (hi:X.N[i]?=some x) (hx:Loc X.env.scope x) (hf:X.fn x=true∨X.env.scope.names.lookup x=some .local)
  (hj:X.N[j]?=some y) (hy:Loc X.env.scope y) (hfy:X.fn y=true∨X.env.scope.names.lookup y=some .local) (hk:X.N[k]?=some z) (hz:Loc X.env.scope z) (hfz:X.fn z=true∨X.env.scope.names.lookup z=some .local) :
  TgW X (.Tuple [.Name x p,.Name y p',.Name z p2] n pos) (ZnB i j k) where
 ex:=⟨_,Zld hc (Zcv (ZcA hN hi hx hf) (Zcv (ZcA hN hj hy hfy) (Zcv (ZcA hN hk hz hfz) Ziv))),Zra⟩
 mono:=Zq2
section
variable {prog:Program} {w:World} {A:Around} {E:Value→Shared→Prop} {s:Shared}
theorem Zqd {t b:Addr} {ws:List Value} {Q:Value→Shared→Prop} (ht:IsTup s.heap t #[]) (hb:IsTup s.heap b ws.toArray) (h1:Q (.ref b) s):wpAny (model prog w) A (binaryOp .Add (.ref t) (.ref b)) Q E s:=by
 obtain ⟨⟨cls,dd,data,sl⟩,ho,hc,n,hd⟩:=id ht
 obtain ⟨⟨cls2,dd2,data2,sl2⟩,ho2,hc2,n2,hd2⟩:=id hb
 simp only at hc hd hc2 hd2
 subst hc hd hc2 hd2
 exact concat_meets ⟨_,ho,rfl⟩ ⟨_,ho2,rfl⟩ noFill_tuple_add seq_tuple_add PySem.F.slot_tuple_add PySem.F.entry_tuple_add (PySem.F.args_tuple_add_2 _ _) (tuple_addW0 t b #[] ws.toArray n n2 dd dd2 sl sl2 rfl) ⟨ho,ho2,h1⟩
end
def ZoX (K:PySem.W.Frag):R2:=fun x y H Q=>∃ a b ys,x=.ref a∧y=.ref b∧SqT K H a []∧SqT K H b ys∧Q (.ref b) H
theorem Zqv {X:Cx}:OpR X (binaryOp .Add) (ZoX X.K):=by
 intro pins s σ H x y v u Q I rx ry h
 obtain ⟨a,b,ys,rfl,rfl,ha,hb,q⟩:=h
 cases rx
 cases ry
 obtain ⟨its,r1,p1,_⟩:=I.tuple ha
 obtain ⟨its2,r2,p2,_⟩:=I.tuple hb
 cases r1
 exact Zqd p1 p2 ⟨.ref b,H,I,rfl,q⟩
def Zem:RW2:=fun x y G Q=>match x,y with
 | .tup xs,.tup ys=>xs.length+ys.length≤sizeLine∧Q (.tup (xs++ys)) G
 | x,y=>ZgJ x y G Q
theorem Zby {xs ys:List W} {G:Hw} {Q:Kw}:Zem (.tup xs) (.tup ys) G Q=(xs.length+ys.length≤sizeLine∧Q (.tup (xs++ys)) G):=rfl
theorem ZhI {x y:W} {G:Hw} {Q:Kw} (hb:¬((∃ xs,x=.tup xs)∧∃ ys,y=.tup ys)):Zem x y G Q=ZgJ x y G Q:=by
 cases x <;> cases y <;> first | rfl | exact absurd ⟨⟨_,rfl⟩,⟨_,rfl⟩⟩ hb
theorem ZnP:RW2.M Zem:=fun x y G Q Q' h q=>by
 by_cases hb:(∃ xs,x=.tup xs)∧∃ ys,y=.tup ys
 ·obtain ⟨⟨xs,rfl⟩,⟨ys,rfl⟩⟩:=hb
  exact ⟨q.1,h _ _ q.2⟩
 ·rw [ZhI hb] at q ⊢
  exact Zok _ _ _ _ _ h q
theorem Zs9 {X:Cx}:OpR X (binaryOp .Add) (fun x y H Q=>((rI0 fun i j=>.int (i+j)) x y H Q∨(∃ i j,x=.str i∧y=.str j∧i.length+j.length≤sizeLine∧Q (.str (i++j)) H)∨Zvv x y H Q)∨ZoX X.K x y H Q∨ZsS X.K x y H Q):=OpR.or ZnV (OpR.or Zqv Ztj)
theorem Zp1 {K:PySem.W.Frag} (x y:W) (v u:V) (G:Hw) (H:Hp) (Q:VK) (tx:Tr K H v x) (ty:Tr K H u y) (r:RelH K H G) (q:Zem x y G (dn K H Q)) :
  ((rI0 fun i j=>.int (i+j)) v u H Q∨(∃ i j,v=.str i∧u=.str j∧i.length+j.length≤sizeLine∧Q (.str (i++j)) H)∨Zvv v u H Q)∨ZoX K v u H Q∨ZsS K v u H Q:=by
 by_cases hb:(∃ xs,x=.tup xs)∧∃ ys,y=.tup ys
 ·obtain ⟨⟨xs,rfl⟩,⟨ys,rfl⟩⟩:=hb
  rw [Zby] at q
  cases tx with
  | tup sa la =>
   cases ty with
   | tup sb lb =>
    rename_i a vs b us
    cases la with
    | nil=>exact .inr (.inl ⟨a,b,us,rfl,rfl,sa,sb,by simpa using q.2 _ H .refl (.tup sb lb) r⟩)
    | cons t1 la =>
     refine .inr (.inr ⟨a,b,_,us,rfl,rfl,sa,sb,by simp,?_,fun e=>?_,fun e p hp=>?_⟩)
     ·rw [(TrL.cons t1 la).length,lb.length];exact q.1
     ·subst e
      cases lb
      have:=q.2 (.ref a) H .refl (by simpa using Tr.tup sa (.cons t1 la)) r
      exact this
     ·exact q.2 _ _ (Mono.new hp _) (.tup (SqT.of ZbX) (((TrL.cons t1 la).append lb).mono (Mono.new hp _))) (r.mono0 hp)
 ·refine .inl (Zpv x y v u G H Q tx ty r ?_)
  rwa [ZhI hb] at q
theorem Ze0 {X:Cx} {a b:Expr} {ga gb:GE} {pos:Pos} (ha:Em X a ga) (hb:Em X b gb):Em X (.BinOp a .Add b pos) (Zal Zem ga gb):=⟨Zih Zs9 ZnP ha.m hb.m Zp1 ha.p hb.p,Zfn ZnP ha.m hb.m⟩
end L3
namespace L3
open PySem PySem.Spec PyProof.Rows L2
variable {K:PySem.W.Frag} {H H' H2:Hp}
theorem TrP.lookup {α:Type} [BEq α]:∀ {vs:List (α×V)} {ws:List (α×W)} {f:α} {w:W},TrP K H vs ws→ws.lookup f=some w→∃ v,vs.lookup f=some v∧Tr K H v w
 | _,_,_,_,.nil,e=>by cases e
 | _,_,f,w,.cons (f:=g) r t,e=>by
  rw [List.lookup_cons] at e ⊢
  cases hb:f==g with
  | true=>rw [hb] at e;cases e;exact ⟨_,rfl,r⟩
  | false=>rw [hb] at e;exact t.lookup e
theorem TrP.length {α:Type}:∀ {vs:List (α×V)} {ws:List (α×W)},TrP K H vs ws→vs.length=ws.length
 | _,_,.nil=>rfl
 | _,_,.cons _ t=>congrArg (·+1) t.length
section
variable {X:Cx} {P:Hp→Prop} {o e value:Expr} {es:List Expr} {f m:Str} {C:Addr} {pos pos' tpos apos p:Pos} {ga gv:GE} {gs:GA} {ex:Xw}
theorem Mono.ins {p C dx:Addr} {xs:List (Str×V)} (hp:H p=some (.ins C dx xs)) (o:HO):Mono K H (upd H p o):=Mono.was hp _ (fun _ z=>by cases z) (fun _ _ z=>by cases z)
end
end L3
set_option Elab.async false
set_option linter.all false
set_option maxRecDepth 100000
set_option maxHeartbeats 4000000
namespace L3
open PySem PySem.Spec PyProof.Rows L2
variable {K:PySem.W.Frag} {H H' H2:Hp}
section
variable {X:Cx} {P:Hp→Prop} {o e value:Expr} {es:List Expr} {f m:Str} {C:Addr} {pos pos' tpos apos p:Pos} {ga gv:GE} {gs:GA} {ex:Xw}
end
section
variable {P:Program} {w:World} {mg:Str→Option Value} {base:Heap} {C:Addr}
end
def ZrO:GS:=fun _ _ _=>False
theorem Zql {X:Cx} {P:Hp→Prop} {st:Stmt}:Sm X P st ZrO:=⟨(by rintro B hB pins s σ H D I ⟨ω,G,ts,r,mb,q⟩;exact q.elim),fun ω G D D' _ _ _ _ q=>q⟩
end L3
namespace L3
open PySem PySem.Spec PyProof.Rows L2
variable {K:PySem.W.Frag} {H H' H2:Hp}
end L3
namespace HT
open PySem PySem.Spec PyProof.Rows
section
variable {prog:Program} {w:World} {A:Around} {E:Value→Shared→Prop} {s:Shared}
theorem getItem_tuple_whole {t sl:Addr} {items:Array Value} {vl vu:Value} {lo hi:Option Int} {Q:Value→Shared→Prop} (ht:IsTup s.heap t items) (hs:s.heap.IsSliceOf sl vl vu .none) (pl:IsPart vl lo) (pu:IsPart vu hi)
  (hw:sIx items.size 0 lo=0∧sIx items.size items.size hi=items.size) (h:Q (.ref t) s):wpAny (model prog w) A (getItem (.ref t) (.ref sl)) Q E s:=by
 obtain ⟨os,hos,hcs,hds⟩:=id hs
 have hTs:s.TypeIs (.ref sl) "slice":=⟨os,hos,hcs⟩
 unfold getItem
 try with_reducible refine wpAny_holding ?_
 first | refine wpAny_bind (wpAny_pure ?_) | skip
 refine wpAny_bind (wpAny_sequenceKey ht.typeIs (by decide) ?_)
 refine wpAny_bind (wpAny_callSpecial?_slot (name:=Str.ofString "__getitem__") ht.typeIs PyProof.Rows.slot_tuple_getitem
  (wpAny_call_entry PyProof.Rows.slot_tuple_getitem ht.typeIs entry_tuple_getitem ?_ (args_tuple_getitem _ _)))
 show wpAny _ _ (Builtin.Tuple.tupleItemsOf (.ref t) >>= _) _ _ s
 refine wpAny_bind (tupleItemsOf_ ht ?_)
 refine wpAny_bind (wpAny_typeOf hTs ?_)
 rw [if_pos (by decide)]
 refine wpAny_bind (Ze6 hs pl pu ?_)
 have hyes:(((sIx items.size 0 lo:Nat):Int)==0&&(1:Int)==1&&(sIx items.size items.size hi - sIx items.size 0 lo)==items.size)=true:=by
  rw [hw.1,hw.2]
  simp
 show wpAny _ _ (if (((sIx items.size 0 lo:Nat):Int)==0&&(1:Int)==1&&(sIx items.size items.size hi - sIx items.size 0 lo)==items.size)=true then _ else _) _ _ s
 rw [if_pos hyes]
 have hT:=ht.typeIs
 unfold Builtin.Tuple.tupleIsExact
 repeat (any_goals (first | assumption | wp_step))
 exact ⟨_,rfl,wpAny_pure h⟩
end
end HT
namespace L3
open PySem PySem.Spec PyProof.Rows L2
variable {K:PySem.W.Frag} {H H' H2:Hp}
def ZwG (K:PySem.W.Frag):V→Option Int→Option Int→Hp→VK→Prop:=fun x lo hi H Q=>∃ a xs,x=.ref a∧SqT K H a xs∧(HT.sIx xs.length 0 lo=0∧HT.sIx xs.length xs.length hi=xs.length)∧Q (.ref a) H
theorem Zs3 {X:Cx}:SlR X (ZwG X.K):=by
 intro pins s σ H x v vl vu lo hi sl Q I rx hs pl pu h
 obtain ⟨a,xs,rfl,hx,hw,q⟩:=h
 cases rx
 obtain ⟨its,r,ht,hz⟩:=I.tuple hx
 have hlen:its.toArray.size=xs.length:=by rw [List.size_toArray];exact r.length.symm
 refine ⟨"tuple",_,PyProof.Rows.slot_tuple_getitem.lookup,ht.typeIs,?_⟩
 exact HT.getItem_tuple_whole ht hs pl pu (by rw [hlen];exact hw) ⟨.ref a,H,I,rfl,q⟩
def ZwY:V→Option Int→Option Int→Hp→VK→Prop:=fun x lo hi H Q=>∃ z,x=.str z∧z.length≤sizeLine∧Q (.str (Txt.slice z lo hi)) H
theorem Zvp {X:Cx}:SlR X ZwY:=by
 intro pins s σ H x v vl vu lo hi sl Q I rx hs pl pu h
 obtain ⟨z,rfl,hz,q⟩:=h
 obtain ⟨t,rfl⟩:=rx
 obtain ⟨os,hos,hcs,hds⟩:=id hs
 refine ⟨"str",_,F.slot_str_getitem.lookup,typeIs_str _ _ _,?_⟩
 have fin:∀ t' k,EP X pins σ Q (.str (Txt.slice z lo hi) t') { s with toks:=k }:=fun t' k=>⟨.str _,H,I.tok k,⟨t',rfl⟩,q⟩
 cases pl with
 | none =>
  cases pu with
  | none=>exact wpAny_getItem_str_slice (l:=none) (u:=none) (st:=none) ⟨os,hos,hcs,hds⟩ rfl (post_val_or_str ⟨Nat.le_trans (Txt.slice_le z _ _) hz,fin⟩)
  | int j u=>exact wpAny_getItem_str_slice (l:=none) (u:=some (j,u)) (st:=none) ⟨os,hos,hcs,hds⟩ rfl (post_val_or_str ⟨Nat.le_trans (Txt.slice_le z _ _) hz,fin⟩)
 | int i u =>
  cases pu with
  | none=>exact wpAny_getItem_str_slice (l:=some (i,u)) (u:=none) (st:=none) ⟨os,hos,hcs,hds⟩ rfl (post_val_or_str ⟨Nat.le_trans (Txt.slice_le z _ _) hz,fin⟩)
  | int j u2=>exact wpAny_getItem_str_slice (l:=some (i,u)) (u:=some (j,u2)) (st:=none) ⟨os,hos,hcs,hds⟩ rfl (post_val_or_str ⟨Nat.le_trans (Txt.slice_le z _ _) hz,fin⟩)
def slA (w:W) (lo hi:Option Int) (G:Hw) (Q:Kw):Prop:=match w with
 | .tup xs=>Q (.tup (ZmI xs lo hi)) G
 | .str z=>z.length≤sizeLine∧Q (.str (Txt.slice z lo hi)) G
 | w=>slW w lo hi G Q
theorem Zuw {w:W} {lo hi:Option Int} {G:Hw} {Q Q':Kw} (h:∀ w G',Q w G'→Q' w G') (q:slA w lo hi G Q):slA w lo hi G Q':=by
 cases w with
 | tup xs=>exact h _ _ q
 | str z=>exact ⟨q.1,h _ _ q.2⟩
 | non=>exact False.elim q
 | bl b=>exact False.elim q
 | int i=>exact False.elim q
 | rol xs=>exact ZqJ (w:=.rol xs) (lo:=lo) (hi:=hi) (G:=G) h q
 | ref a=>exact ZqJ (w:=.ref a) (lo:=lo) (hi:=hi) (G:=G) h q
theorem Zvy {w:W} {v:V} {lo hi:Option Int} {G:Hw} {Q:VK} (t:Tr K H v w) (r:RelH K H G) (q:slA w lo hi G (dn K H Q)):((ZvK K v lo hi H Q∨Zww K v lo hi H Q)∨ZwG K v lo hi H Q)∨ZwY v lo hi H Q:=by
 cases t with
 | tup h l =>
  rename_i a vs ws
  by_cases hw:HT.sIx ws.length 0 lo=0∧HT.sIx ws.length ws.length hi=ws.length
  ·refine .inl (.inr ⟨a,vs,rfl,h,by rw [l.length];exact hw,?_⟩)
   refine q _ H .refl ?_ r
   have e:ZmI ws lo hi=ws:=by unfold ZmI;rw [hw.1,hw.2];simp
   rw [e]
   exact .tup h l
  ·exact .inl (.inl (ZmR (.tup h l) r ⟨hw,q⟩))
 | str z=>exact .inr ⟨z,rfl,q.1,q.2 _ H .refl (.str _) r⟩
 | non=>exact False.elim q
 | bl b=>exact False.elim q
 | int i=>exact False.elim q
 | rol h l=>exact .inl (.inl (ZmR (.rol h l) r q))
 | ref a=>exact .inl (.inl (ZmR (.ref a) r q))
section
variable {X:Cx} {a b e:Expr} {ga gb:GE} {pos:Pos}
def ZmA (ga:GE) (gl gh:GO):GE:=fun ω G Q=>ga ω G fun w G1=>gl ω G1 fun lo G2=>gh ω G2 fun hi G3=>slA w lo hi G3 Q
theorem Zo8 {lo hi:Option Expr} {gl gh:GO} {p2:Pos} (ha:Em X e ga) (hl:Om X lo gl) (hh:Om X hi gh):Em X (.Subscript e (.Slice lo hi none p2) pos) (ZmA ga gl gh) :=
 ⟨Zbz (Zm2 (SlR.or (SlR.or (SlR.or ZrM Zpq) Zs3) Zvp) ha.p hl.p hh.p) fun σ H Q ⟨ω,G,ts,r,q⟩=>⟨ω,G,ts,r,ha.m _ _ _ _ (fun w G1 z v H1 m1 t r1=>⟨ω,G1,ts.mono m1,r1,hl.m _ _ _ _ (fun l G2 z2 H2 m2 r2 =>
   ⟨ω,G2,(ts.mono m1).mono m2,r2,hh.m _ _ _ _ (fun h G3 z3 H3 m3 r3=>Zvy ((t.mono m2).mono m3) r3 (Zuw (fun w G' z=>Zc6 ((m1.trans m2).trans m3) z) z3)) z2⟩) z⟩) q⟩,
  fun ω G Q Q' h q=>ha.m _ _ _ _ (fun w G1 z=>hl.m _ _ _ _ (fun l G2 z2=>hh.m _ _ _ _ (fun u G3 z3=>Zuw h z3) z2) z) q⟩
end
end L3
namespace L3
open PySem PySem.Spec PyProof.Rows L2
variable {K:PySem.W.Frag} {H H' H2:Hp}
theorem StrsAre.len:∀ {vs:List Value} {ys:List Str},StrsAre vs ys→vs.length=ys.length
 | _,_,.nil=>rfl
 | _,_,.cons _ _ r=>congrArg (·+1) (StrsAre.len r)
section
variable {prog:Program} {w:World} {A:Around} {E:Value→Shared→Prop} {s:Shared}
end
def Zt7:RW2:=fun x y G Q=>match x,y with
 | .int i,.int j=>CMul i j∧Q (.int (i*j)) G
 | .str x,.int n=>MulOk x n∧Q (.str (Txt.mul x n)) G
 | .ref a,.int k=>(match G a with
  | some (.lst xs)=>-(2 ^ 63)≤k∧k < 2 ^ 63∧xs.length*k.toNat≤sizeLine∧∀ p,G p=none→Q (.ref p) (put G p (.lst (List.replicate k.toNat xs).flatten))
  | _=>False)
 | _,_=>False
end L3
set_option Elab.async false
set_option linter.all false
set_option maxRecDepth 100000
set_option maxHeartbeats 4000000
namespace L3
open PySem PySem.Spec PyProof.Rows L2
variable {K:PySem.W.Frag} {H H' H2:Hp}
def Zw8 (K:PySem.W.Frag) (tl:TE):TI:=fun σ H R=>tl σ H fun x H1=>(∃ a,x=.ref a∧(∃ xs,SqL K H1 a xs)∧R (Itl K a) H1)∨(∃ a,x=.ref a∧(∃ xs,SqT K H1 a xs)∧R (Itt K a) H1)
theorem Zve {X:Cx} {tg l:Expr} {tl:TE} (hl:PE X l tl):PI X tg l (Zw8 X.K tl):=by
 intro pins s σ H R I h
 refine thn (hl pins s σ H _ I h) fun v s1 zz1=>?_
 obtain ⟨x,H1,I1,r1,q1⟩:=zz1
 rcases q1 with ⟨a,e,⟨xs,hq⟩,q⟩ | ⟨a,e,⟨xs,hq⟩,q⟩
 ·subst e
  cases r1
  obtain ⟨its,rv,p,hz⟩:=I1.list hq
  refine wpAny_pyIter_list p.isList ?_
  refine ⟨s1.heap.objs.size,[s1.heap.objs.size],_,_,H1,rfl,I1.kept (t':=s1.toks) fun b o e=>Heap.get?_push_of_some _ e,Zkr a _,⟨_,Heap.get?_push_size _ rfl,rfl,rfl⟩,fun b hb=>?_,q⟩
  have e:b=s1.heap.objs.size:=by simpa using hb
  subst e
  exact I1.fpOk (Nat.le_refl _) (I1.hok.fresh (Nat.le_refl _))
 ·subst e
  cases r1
  obtain ⟨its,rv,p,hz⟩:=I1.tuple hq
  refine wpAny_pyIter_tuple (show s1.heap.IsTuple a its.toArray from p) ?_
  refine ⟨s1.heap.objs.size,[s1.heap.objs.size],_,_,H1,rfl,I1.kept (t':=s1.toks) fun b o e=>Heap.get?_push_of_some _ e,Zjg a _,⟨_,Heap.get?_push_size _ rfl,rfl,rfl⟩,fun b hb=>?_,q⟩
  have e:b=s1.heap.objs.size:=by simpa using hb
  subst e
  exact I1.fpOk (Nat.le_refl _) (I1.hok.fresh (Nat.le_refl _))
def Ze9 (ga:GE):GI:=fun ω G R=>ga ω G fun w G1=>match w with
 | .tup ws=>R ws yes G1
 | .rol ws=>R ws yes G1
 | .ref a=>match G1 a with | some (.lst ws)=>R ws (holds a ws) G1 | _=>False
 | _=>False
theorem ZqZ {ga:GE} (m:ga.M):GI.M (Ze9 ga):=fun ω G R R' h q=>m _ _ _ _ (fun w G1 z=>by
 cases w with
 | tup ws=>exact h _ _ _ z
 | rol ws=>exact h _ _ _ z
 | ref a =>
  dsimp only at z ⊢
  cases e:G1 a with
  | none=>rw [e] at z;exact z
  | some o =>
   rw [e] at z
   cases o <;> first | exact h _ _ _ z | exact z
 | _=>exact z) q
theorem Zrh {X:Cx} {tg l:Expr} {ga:GE} (hl:Em X l ga):Im X tg l (Ze9 ga):=by
 refine ⟨⟨_,Zve hl.p,fun σ H ω G R R0 ts r q k=>⟨ω,G,ts,r,hl.m _ _ _ _ (fun w G1 z v H1 m t r1=>?_) q⟩⟩,ZqZ hl.m⟩
 cases t with
 | tup h l=>exact .inr ⟨_,rfl,⟨_,h⟩,k _ _ _ H1 _ z m r1 trivial (ZmJ h l)⟩
 | rol h l=>exact .inl ⟨_,rfl,⟨_,h.sq⟩,k _ _ _ H1 _ z m r1 trivial (ZhM fun H2 G2 m2 _ _=>⟨_,(m2.rol _ _ h).sq,l.mono m2⟩)⟩
 | ref a =>
  dsimp only at z
  cases e:G1 a with
  | none=>rw [e] at z;exact z.elim
  | some o =>
   rw [e] at z
   cases o with
   | lst ws =>
    obtain ⟨vs,e1,t1⟩:=r1 a _ e
    exact .inl ⟨a,rfl,⟨vs,SqL.of e1⟩,k _ _ _ H1 _ z m r1 e (ZhM fun H2 G2 m2 r2 g2=>let ⟨vs,e2,t2⟩:=r2 a _ g2;⟨vs,SqL.of e2,t2⟩)⟩
   | _=>exact z.elim
 | _=>exact z.elim
theorem ZjY {X:Cx} {P:Hp→Prop} {elt tg iter:Expr} {ifs:List Expr} {scope:Scope} {pos pos' spos:Pos} {i:Nat} {x:Str} {Nc:List Str} {n:Nat} {js:List Nat} {cl:List (Str×Addr)} {gi:GI} {gg:GG} {gt:GT} {ge:GE} (hN:X.N.Nodup) (hix:X.N[i]?=some x) (hx:ZkU X.env.scope x=true)
  (hsw:swapsWith (.ListComp elt [⟨tg,iter,ifs,0⟩] scope pos) (some (.Name x pos')) spos.line X.env=pure true) (hc:X.calm=true) (B:Blk X Nc scope cl (Zic n js)) (hs:∀ x,foldedSetIterable iter X.env x=pure x) (hi:Im X tg iter gi)
  (hu:TgC X Nc scope cl tg gg) (ht:∀ C fp s H,Fm (cxB X Nc scope cl C fp s H) ifs gt) (he:∀ C fp s H,Em (cxB X Nc scope cl C fp s H) elt ge) :
  Sm X P (.Assign [.Name x pos'] (.ListComp elt [⟨tg,iter,ifs,0⟩] scope pos) spos) (Zbh i (Zb9 gi n js gg gt ge)):=by
 have mt:gt.M:=(ht 0 [] X.s₀ X.H₀).m
 have me:ge.M:=(he 0 [] X.s₀ X.H₀).m
 refine ⟨fun B0 hB=>?_,Zrw (Zjw hi.m hu.mono mt me)⟩
 obtain ⟨wi,hwi,hi'⟩:=hi.p
 obtain ⟨g,hpg,hgg⟩:=hu.ex
 refine ZfP (Znz (tt:=upT X.K gt) (te:=up X.K ge) hN hix (ZgG hx) hsw hc hwi B hpg (fun C fp s H=>(ht C fp s H).p) (fun C fp s H=>(he C fp s H).p) hs) fun D σ H zz2=>?_
 obtain ⟨ω,G,ts,r,mb,q⟩:=zz2
 refine ZmE hi' hgg hu.mono mt me σ H _ ⟨ω,G,ts,r,Zjw hi.m hu.mono mt me _ _ _ _ (fun w G1 z v H1 m t r1=>?_) q⟩
 exact z _ H1 (mb.trans m) ((ts.mono m).set i t) r1
end L3
namespace L3
open PySem PySem.Spec PyProof.Rows L2
variable {K:PySem.W.Frag} {H H' H2:Hp}
section
variable {X:Cx} {CX:CXT} {k:Nat} {f:Addr} {fd:FuncData} {ps:List Str} {sp:Sp} {Eσ:St→XK} {x:Str} {p pos:Pos} {e:Expr} {es:List Expr} {t:TA}
theorem Zt8 {E:Value→Shared→Prop} {pins:List (Addr×Obj)} {s:Shared} {σ:St} {H:Hp} {i:Nat} {x:Str} {v:V} {pos:Pos} {Q:Value→Shared→Prop} (I:Inv X pins σ H s) (hN:X.N[i]?=some x) (hv:Vis X.env.scope x) (e:σ[i]?=some (some v)) (hd:(x==("__debug__":Str))=false) (hcd:(x==("__classdict__":Str))=false)
  (fin:∀ u,RelV v u→Q u s):wpAny (model X.prog X.w) X.A (eval (.Name x pos) X.env) Q E s:=by
 obtain ⟨m,hn,hl⟩:=I.loc
 obtain ⟨u,r,l⟩:=hl i x v hN e hv
 rcases l with ⟨hk,hm⟩ | ⟨hk,c,hc,hcell⟩
 ·exact wpAny_Name (wpAny_loadName_local I.ok.kind hk hn hm (fin u r)) hd
 ·rcases hk with hk | hk
  ·exact wpAny_Name (wpAny_loadName_cell I.ok.kind hk hc hcell (fin u r)) hd
  ·exact wpAny_Name (wpAny_loadName_free I.ok.kind hk hc hcell (fin u r) hcd) hd
theorem ZpO {i:Nat} (F:FnOk X.prog X.w X.K X.mg X.base CX k f fd ps sp) (hr:Room k X.A) (hN:X.N[i]?=some x) (hv:Vis X.env.scope x) (hk:PySem.W.keepIn X.K (.ref f)=true) (hb:Binds X.K fd ps []) (hx:Zlz CX X Eσ)
  (ha:PA X (e::es) t) (hdb:(x==("__debug__":Str))=false) (hcd:(x==("__classdict__":Str))=false) (he:starEach (e::es) X.env=(false,eval e X.env)::starEach es X.env) (hpl:(backTo pos (starEach es X.env)).any (·.1)=false) :
  PE X (.Call (.Name x p) (e::es) [] pos) (fun σ H Q=>σ[i]?=some (some (.ref f))∧Zq8 sp [] Eσ t σ H Q):=by
 intro pins s σ H Q I ⟨hi,h⟩
 refine wpAny_Call_Name_kw (Zt8 I hN hv hi hdb hcd fun u hu=>?_)
 cases hu
 refine PySem.W.callWith_K (h₀:=X.base) I.ok.mod.kin hk (thn (ha pos pins s σ H _ I h) fun us s1 ⟨vs,H1,I1,r,q⟩=>⟨I1.kIn,?_⟩) he hpl
 have r2:Vals (vs++[]) (us++[]):=r.append .nil
 have hl:(us++[]).length=ps.length:=by rw [← r2.length];exact F.len _ _ _ _ q
 refine wpAny_call (codeAny_mono (F.run X.A X.stack s1 H1 ⟨us,[]⟩ (us++[]) (vs++[]) Q (Eσ σ) hr I1.env0 (hb s1 us I1.kIn hl) r2 q) fun r s' hq=>?_)
 cases r with
 | error e=>exact hx pins σ H1 s1 e s' I1 hq
 | ok fl =>
  cases fl with
  | ret u=>exact I1.after hq
  | next=>exact False.elim hq
  | brk=>exact False.elim hq
  | cont=>exact False.elim hq
end
def fAt (mg:Str→Option Value) (x:Str):Addr:=match mg x with | some (.ref f)=>f | _=>0
theorem ZrN {mg:Str→Option Value} {x:Str} {f:Addr} (h:mg x=some (.ref f)):fAt mg x=f:=by unfold fAt;rw [h]
section
variable {X:Cx} {e:Expr} {es:List Expr} {pos p:Pos} {ga gb:GE} {gs:GA} {ex:Xw}
def Zg7 (i:Nat) (f:Addr) (sp:Spw) (ex:Xw) (gs:GA):GE:=fun ω G Q=>ω[i]?=some (some (.ref f))∧gs ω G fun ws G1=>sp ws G1 Q (ex ω)
theorem Zqk {i:Nat} {f:Addr} {sp:Spw} (m:sp.M) (ms:gs.M):GE.M (Zg7 i f sp ex gs):=fun ω G Q Q' h q=>⟨q.1,ms _ _ _ _ (fun ws G1 q1=>m _ _ _ _ _ _ h (fun _ _ z=>z) q1) q.2⟩
theorem ZpJ {i:Nat} {x y:Str} {k n:Nat} {sp:Spw} (D:Df X.prog X.w X.K X.mg X.base y k n sp) (hr:Room k X.A) (hN:X.N[i]?=some x) (hv:Vis X.env.scope x) (hp:ZnT X ex) (ms:gs.M) (ha:PAw X (e::es) gs)
  (hdb:(x==("__debug__":Str))=false) (hcd:(x==("__classdict__":Str))=false) (he:starEach (e::es) X.env=(false,eval e X.env)::starEach es X.env) (hpl:(backTo pos (starEach es X.env)).any (·.1)=false) :
  PEw X (.Call (.Name x p) (e::es) [] pos) (Zg7 i (fAt X.mg y) sp ex gs):=by
 obtain ⟨f,fd,ps,hm,hk,hb,_,F⟩:=D.ex
 rw [ZrN hm]
 refine Zbz (ZpO F hr hN hv hk hb hp ha hdb hcd he hpl) fun σ H Q zz1=>?_
 obtain ⟨ω,G,ts,r,q0,q⟩:=zz1
 obtain ⟨v,ev,tv⟩:=ts.get i _ q0
 cases tv
 refine ⟨ev,ω,G,ts,r,ms _ _ _ _ (fun ws G1 q1 vs H1 m1 tvs r1=>?_) q⟩
 refine ⟨ws,G1,by rw [List.append_nil];exact tvs,r1,D.mono _ _ _ _ _ _ (fun w G' z=>Zc6 m1 z) (fun C G' z H2 m2 r2=>?_) q1⟩
 exact ⟨C,ω,G',rfl,(ts.mono m1).mono m2,r2,z⟩
theorem Zmh {i:Nat} {x y:Str} {k n:Nat} {sp:Spw} (D:Df X.prog X.w X.K X.mg X.base y k n sp) (hr:Room k X.A) (hi:place X.N x=some i) (hv:ZvA X.env.scope x=true) (hp:ZnT X ex) (hdb:(x==("__debug__":Str))=false) (hcd:(x==("__classdict__":Str))=false) (he:starEach (e::es) X.env=(false,eval e X.env)::starEach es X.env) (hpl:(backTo pos (starEach es X.env)).any (·.1)=false)
  (ha:Am X (e::es) gs):Em X (.Call (.Name x p) (e::es) [] pos) (Zg7 i (fAt X.mg y) sp ex gs):=⟨ZpJ D hr (Zpz hi) (ZmL hv) hp ha.m ha.p hdb hcd he hpl,Zqk D.mono ha.m⟩
theorem Zus {x:Str} {k n:Nat} {sp:Spw} (D:Df X.prog X.w X.K X.mg X.base x k n sp) (hg:Gl X x) (hd:(x==("__debug__":Str))=false):Em X (.Name x pos) (gC (.ref (fAt X.mg x))):=by
 obtain ⟨f,fd,ps,hm,hk,hb,_,F⟩:=D.ex
 rw [ZrN hm]
 exact ⟨Zpj (v:=.ref f) hg hm rfl (fun H=>.ref f) hd,Zue⟩
end
end L3
namespace L3
open PySem PySem.Spec PyProof.Rows L2
namespace Tb
def hop (M:Nat):Nat→Nat→Nat
 | 0,i=>i
 | n+1,i=>hop M n ((i*5+1) % M)
def cover (M:Nat):Bool:=(List.range M).all fun i=>(List.range M).all fun j=>(List.range M).any fun n=>hop M n i==j
theorem cover8:cover 8=true:=by decide +kernel
theorem cover16:cover 16=true:=by decide +kernel
theorem cover32:cover 32=true:=by decide +kernel
theorem cover64:cover 64=true:=by decide +kernel
theorem Zp2 {M i j:Nat} (h:cover M=true) (hi:i < M) (hj:j < M):∃ n,n < M∧hop M n i=j:=by
 unfold cover at h
 have h1:=List.all_eq_true.mp h i (List.mem_range.mpr hi)
 have h2:=List.all_eq_true.mp h1 j (List.mem_range.mpr hj)
 obtain ⟨n,hn,e⟩:=List.any_eq_true.mp h2
 exact ⟨n,List.mem_range.mp hn,by simpa using e⟩
theorem Zko {mask:Nat} {owner:Array (Option Nat)} {fuel i p:Nat} (h:SetTable.layClean.free mask owner (fuel+1) i p=none) :
  (owner.getD i (some 0)).isSome=true∧SetTable.layClean.free mask owner fuel ((i*5+1+p / 32) % (mask+1)) (p / 32)=none:=by
 unfold SetTable.layClean.free at h
 have hr:0 < SetTable.runEnd mask i+1 - i:=by unfold SetTable.runEnd;split <;> omega
 cases hf:(List.range (SetTable.runEnd mask i+1 - i)).find? fun k=>(owner.getD (i+k) (some 0)).isNone with
 | some k=>rw [hf] at h;cases h
 | none =>
  rw [hf] at h
  refine ⟨?_,h⟩
  have hz:=List.find?_eq_none.mp hf 0 (List.mem_range.mpr hr)
  rw [Nat.add_zero] at hz
  cases hg:owner.getD i (some 0) with
  | some b=>rfl
  | none=>rw [hg] at hz;exact absurd rfl hz
theorem Zk5 {mask:Nat} {owner:Array (Option Nat)}:∀ (n fuel i:Nat),SetTable.layClean.free mask owner (n+fuel) i 0=none→∀ m,m < n→(owner.getD (hop (mask+1) m i) (some 0)).isSome=true
 | 0,fuel,i,h,m,hm=>by omega
 | n+1,fuel,i,h,m,hm=>by
  rw [show n+1+fuel=(n+fuel)+1 by omega] at h
  obtain ⟨h1,h2⟩:=Zko h
  simp only [Nat.zero_div,Nat.add_zero] at h2
  cases m with
  | zero=>exact h1
  | succ m=>exact Zk5 n fuel _ h2 m (by omega)
theorem Zlo {mask:Nat} {owner:Array (Option Nat)}:∀ (n fuel i p:Nat),SetTable.layClean.free mask owner (n+fuel) i p=none→i < mask+1→∃ i',i' < mask+1∧SetTable.layClean.free mask owner fuel i' (p / 32 ^ n)=none
 | 0,fuel,i,p,h,hi=>⟨i,hi,by rw [Nat.zero_add] at h;simpa using h⟩
 | n+1,fuel,i,p,h,hi=>by
  rw [show n+1+fuel=(n+fuel)+1 by omega] at h
  obtain ⟨_,h2⟩:=Zko h
  obtain ⟨i',hi',h3⟩:=Zlo n fuel _ _ h2 (Nat.mod_lt _ (by omega))
  refine ⟨i',hi',?_⟩
  rw [Nat.div_div_eq_div_mul,show 32*32 ^ n=32 ^ (n+1) by rw [Nat.pow_succ,Nat.mul_comm]] at h3
  exact h3
theorem ZrU {mask:Nat} {owner:Array (Option Nat)} {i p:Nat} (hc:cover (mask+1)=true) (hi:i < mask+1) (hp:p < 2 ^ 64) (he:∃ j,j < mask+1∧owner.getD j (some 0)=none):(SetTable.layClean.free mask owner (SetTable.turns mask) i p).isSome=true:=by
 cases h:SetTable.layClean.free mask owner (SetTable.turns mask) i p with
 | some j=>rfl
 | none =>
  exfalso
  rw [show SetTable.turns mask=13+((mask+1)+1) by unfold SetTable.turns;omega] at h
  obtain ⟨i',hi',h2⟩:=Zlo 13 _ i p h hi
  rw [Nat.div_eq_of_lt (Nat.lt_of_lt_of_le hp (by decide))] at h2
  have h3:=Zk5 (mask+1) 1 i' h2
  obtain ⟨j,hj,e⟩:=he
  obtain ⟨n,hn,en⟩:=Zp2 hc hi' hj
  have:=h3 n hn
  rw [en,e] at this
  cases this
theorem Zoj {mask:Nat} {owner:Array (Option Nat)} (hs:owner.size=mask+1):∀ (fuel i p j:Nat),SetTable.layClean.free mask owner fuel i p=some j→i < mask+1→j < mask+1∧owner.getD j (some 0)=none
 | 0,i,p,j,h,hi=>by unfold SetTable.layClean.free at h;cases h
 | fuel+1,i,p,j,h,hi=>by
  unfold SetTable.layClean.free at h
  cases hf:(List.range (SetTable.runEnd mask i+1 - i)).find? fun k=>(owner.getD (i+k) (some 0)).isNone with
  | none =>
   rw [hf] at h
   exact Zoj hs fuel _ _ j h (Nat.mod_lt _ (by omega))
  | some k =>
   rw [hf] at h
   cases h
   have h1:=List.find?_some hf
   have h2:owner.getD (i+k) (some 0)=none:=by simpa using h1
   refine ⟨?_,h2⟩
   refine Nat.lt_of_not_le fun hge=>?_
   rw [Array.getD_eq_getD_getElem?,Array.getElem?_eq_none (by omega)] at h2
   cases h2
theorem ZjR {α:Type} (x:α):∀ {l:List (Option α)} {j:Nat},l[j]?=some none→((l.set j (some x)).filterMap id).Perm (x::l.filterMap id)
 | [],j,h=>by simp at h
 | a::l,0,h=>by
  simp only [List.getElem?_cons_zero,Option.some.injEq] at h
  subst h
  exact List.Perm.refl _
 | a::l,j+1,h=>by
  simp only [List.getElem?_cons_succ] at h
  rw [List.set_cons_succ]
  cases a with
  | none=>exact ZjR x h
  | some b =>
   show (b::(l.set j (some x)).filterMap id).Perm (x::b::l.filterMap id)
   exact ((ZjR x h).cons b).trans (List.Perm.swap x b _)
theorem Zkv:∀ {l:List (Option Nat)},(l.filterMap id).length < l.length→∃ j,j < l.length∧l[j]?=some none
 | [],h=>by simp at h
 | none::l,h=>⟨0,by simp,rfl⟩
 | some a::l,h=>by
  have h':(l.filterMap id).length+1 < l.length+1:=h
  obtain ⟨j,hj,e⟩:=Zkv (l:=l) (by omega)
  exact ⟨j+1,by simp;omega,by simpa using e⟩
structure Lay (M k:Nat) (owner:Array (Option Nat)):Prop where
 sz:owner.size=M
 pm:(owner.toList.filterMap id).Perm (List.range k)
theorem ZpP {mask k:Nat} {owner:Array (Option Nat)} (hc:cover (mask+1)=true) (L:Lay (mask+1) k owner) (hk:k < mask+1) (h:Int) :
  ∃ j,SetTable.layClean.free mask owner (SetTable.turns mask) (SetTable.bits h % (mask+1)) (SetTable.bits h)=some j∧Lay (mask+1) (k+1) (owner.setIfInBounds j (some k)):=by
 have hb:SetTable.bits h < 2 ^ 64:=by
  unfold SetTable.bits
  have:=Int.emod_lt_of_pos h (show (0:Int) < 2 ^ 64 by decide)
  have:=Int.emod_nonneg h (show (2 ^ 64:Int)≠0 by decide)
  omega
 have hl:(owner.toList.filterMap id).length=k:=by rw [L.pm.length_eq,List.length_range]
 obtain ⟨j,hj,e⟩:=Zkv (l:=owner.toList) (by rw [hl,Array.length_toList,L.sz];exact hk)
 have hj':j < mask+1:=by rw [Array.length_toList,L.sz] at hj;exact hj
 have hi:SetTable.bits h % (mask+1) < mask+1:=Nat.mod_lt _ (by omega)
 have hs:=ZrU (owner:=owner) (i:=SetTable.bits h % (mask+1)) hc hi hb ⟨j,hj',by
  rw [Array.getD_eq_getD_getElem?]
  rw [Array.getElem?_toList] at e
  rw [e];rfl⟩
 obtain ⟨j2,e2⟩:=Option.isSome_iff_exists.mp hs
 obtain ⟨h1,h2⟩:=Zoj L.sz _ _ _ _ e2 hi
 refine ⟨j2,e2,⟨by rw [Array.size_setIfInBounds];exact L.sz,?_⟩⟩
 have h3:owner.toList[j2]?=some none:=by
  rw [Array.getElem?_toList]
  rw [Array.getD_eq_getD_getElem?] at h2
  have h4:j2 < owner.size:=by rw [L.sz];exact h1
  rw [Array.getElem?_eq_getElem h4] at h2 ⊢
  exact congrArg some h2
 rw [Array.toList_setIfInBounds]
 refine (ZjR k h3).trans ?_
 rw [List.range_succ]
 exact ((L.pm.cons k).trans (List.perm_append_singleton k _).symm)
theorem Zps {mask:Nat} (hc:cover (mask+1)=true):∀ (hs:List Int) (k:Nat) (owner:Array (Option Nat)),Lay (mask+1) k owner→k+hs.length≤mask+1 →
  ∃ o',(hs.foldl (fun (acc:Option (Array (Option Nat)×Nat)) h=>do
   let (owner,k) ← acc
   let j ← SetTable.layClean.free mask owner (SetTable.turns mask) (SetTable.bits h % (mask+1)) (SetTable.bits h)
   pure (owner.setIfInBounds j (some k),k+1)) (some (owner,k)))=some (o',k+hs.length)∧Lay (mask+1) (k+hs.length) o'
 | [],k,owner,L,_=>⟨owner,rfl,L⟩
 | h::hs,k,owner,L,hk=>by
  simp only [List.length_cons] at hk
  obtain ⟨j,e,L2⟩:=ZpP hc L (by omega) h
  obtain ⟨o',e2,L3'⟩:=Zps hc hs (k+1) _ L2 (by omega)
  refine ⟨o',?_,by rw [List.length_cons,show k+(hs.length+1)=k+1+hs.length by omega];exact L3'⟩
  rw [List.foldl_cons]
  show hs.foldl _ (some (owner,k) >>= fun x=>_)=_
  rw [Option.bind_eq_bind,Option.bind_some]
  dsimp only
  rw [e]
  rw [Option.bind_eq_bind,Option.bind_some]
  rw [List.length_cons,show k+(hs.length+1)=k+1+hs.length by omega]
  exact e2
theorem Ztg (M:Nat):Lay M 0 (Array.replicate M none):=⟨by simp,by simp⟩
theorem Zqe {mask:Nat} (hc:cover (mask+1)=true) (hs:Array Int) (hn:hs.size≤mask+1):∃ o',SetTable.layClean mask hs=some o'∧Lay (mask+1) hs.size o':=by
 obtain ⟨o',e,L⟩:=Zps hc hs.toList 0 _ (Ztg (mask+1)) (by simpa using hn)
 refine ⟨o',?_,by simpa using L⟩
 unfold SetTable.layClean
 rw [← Array.foldl_toList]
 rw [e];rfl
theorem Zmg {M:Nat} {owner:Array (Option Nat)} (h:owner.size=M):(((List.range M).filterMap fun j=>(owner.getD j none).map (j,·)).map (·.2))=owner.toList.filterMap id:=by
 have e:owner.toList=(List.range M).map fun j=>owner.getD j none:=by
  apply List.ext_getElem?
  intro i
  rw [List.getElem?_map,Array.getElem?_toList]
  by_cases hi:i < M
  ·have h2:i < owner.size:=by omega
   rw [List.getElem?_range hi,Array.getElem?_eq_getElem h2,Option.map_some,Array.getD_eq_getD_getElem?,Array.getElem?_eq_getElem h2];rfl
  ·rw [Array.getElem?_eq_none (by omega),List.getElem?_eq_none (by simp;omega)];rfl
 rw [e,List.filterMap_map,List.map_filterMap]
 congr 1
 funext j
 show Option.map (·.2) (Option.map (j,·) (owner.getD j none))=owner.getD j none
 cases owner.getD j none <;> rfl
theorem Zqy {M:Nat} {owner:Array (Option Nat)} (h:owner.size=M):((List.range M).filterMap fun j=>(owner.getD j none).map (j,·)).length=(owner.toList.filterMap id).length:=by
 rw [← Zmg h,List.length_map]
theorem laid_ok {mask:Nat} (hc:cover (mask+1)=true) (f m:Nat) (l p:Bool) (hs:Array Int) (hn:hs.size≤mask+1) :
  ∃ t order,SetTable.laid mask f m l p hs=some (t,order)∧order.toList.Perm (List.range hs.size)∧t.mask=mask∧t.place.size=hs.size∧t.dummies=#[]∧t.led=l∧t.plain=p:=by
 obtain ⟨o',e,L⟩:=Zqe hc hs hn
 unfold SetTable.laid
 rw [e]
 refine ⟨_,_,rfl,?_,rfl,?_,rfl,rfl,rfl⟩
 ·rw [List.toList_toArray,Zmg L.sz];exact L.pm
 ·rw [List.size_toArray,List.length_map,Zqy L.sz,L.pm.length_eq,List.length_range]
theorem order_perm {α:Type} (es:Array α) (order:Array Nat) (h:order.toList.Perm (List.range es.size)):(order.filterMap (es[·]?)).toList.Perm es.toList:=by
 rw [Array.toList_filterMap]
 refine (h.filterMap _).trans ?_
 rw [show (List.range es.size).filterMap (fun x=>es[x]?)=es.toList from ?_]
 have:∀ (l:List α),(List.range l.length).filterMap (fun x=>l[x]?)=l:=fun l=>by
  induction l with
  | nil=>rfl
  | cons a l ih =>
   rw [List.length_cons,List.range_succ_eq_map,List.filterMap_cons]
   simp only [List.getElem?_cons_zero,List.filterMap_map]
   congr 1
 have h2:=this es.toList
 rw [Array.length_toList] at h2
 simpa only [Array.getElem?_toList] using h2
end Tb
end L3
namespace L3
open PySem PySem.Spec PyProof.Rows L2
def bt (w:World):Bool:=w.params.followText "set-order"
structure Tab (w:World) (es:Array (Int×Value)) (t:SetTable) (ks:List Str):Prop where
 el:∀ e∈es.toList,∃ x u,e=(hashStr w x,Value.str x u)
 pm:(es.toList.map fun e=>strOf e.2).Perm ks
 nd:ks.Nodup
 ft:t.fits es.size=true
 ld:bt w=false→t.led=true
 pl:t.plain=true→ks=[]
def SS (w:World) (h:Heap) (a:Addr) (ks:List Str):Prop:=∃ o es ep t,h.get? a=some o∧o.ExactSet∧o.data=.set es ep t∧Tab w es t ks
namespace Tab
variable {w:World} {es es':Array (Int×Value)} {t t':SetTable} {ks ks':List Str}
theorem len (T:Tab w es t ks):es.size=ks.length:=by
 have:=T.pm.length_eq
 rw [List.length_map,Array.length_toList] at this
 exact this
theorem elems (prog:Program) (T:Tab w es t ks):ElemsOf (strKind prog w) es.toList:=fun e he=>by
 obtain ⟨x,u,rfl⟩:=T.el e he
 exact ⟨⟨x,by show Value.isStrOf x (.str x u)=true;simp [Value.isStrOf],rfl⟩,rfl⟩
theorem perm (T:Tab w es t ks) (p:es'.toList.Perm es.toList) (f:t'.fits es'.size=true) (l:bt w=false→t'.led=true) (q:t'.plain=true→ks=[]):Tab w es' t' ks :=
 ⟨fun e he=>T.el e (p.mem_iff.mp he),(p.map _).trans T.pm,T.nd,f,l,q⟩
theorem mem (T:Tab w es t ks) (k:Str):k∈ks↔∃ e∈es.toList,Value.isStrOf k e.2=true:=by
 rw [← T.pm.mem_iff,List.mem_map]
 constructor
 ·rintro ⟨e,he,rfl⟩
  obtain ⟨x,u,rfl⟩:=T.el e he
  exact ⟨_,he,by show Value.isStrOf x (.str x u)=true;simp [Value.isStrOf]⟩
 ·rintro ⟨e,he,h⟩
  obtain ⟨x,u,rfl⟩:=T.el e he
  refine ⟨_,he,?_⟩
  obtain ⟨t,e2⟩:=Value.isStrOf_shape h
  injection e2
end Tab
theorem ZlA (t:SetTable) (n:Nat):(t.orStandIn n).led=t.led:=by
 unfold SetTable.orStandIn
 split <;> rfl
theorem ZsN (t:SetTable) (es:Array (Int×Value)) (h:Int) (x:Value):(layNew t es h x).2.1.led=t.led:=by
 unfold layNew
 split
 ·exact ZlA _ _
 ·rfl
theorem ZnM (t:SetTable) (es:Array (Int×Value)) (n:Nat):(relayAll t es n).2.1.led=t.led∧((relayAll t es n).2.1.plain=true→t.plain=true):=by
 unfold relayAll
 split
 ·rename_i t' order e
  dsimp only
  split
  ·unfold SetTable.relaid SetTable.laid at e
   simp only [Option.bind_eq_bind,Option.bind_eq_some_iff] at e
   obtain ⟨o,_,e⟩:=e
   cases e
   exact ⟨rfl,id⟩
  ·exact ⟨rfl,fun h=>by cases h⟩
 ·exact ⟨rfl,fun h=>by cases h⟩
section
variable {prog:Program} {w:World} {A:Around} {E:Value→Shared→Prop} {s:Shared}
theorem Zft {h:Heap} {a:Addr} {o:Obj} {es es':Array (Int×Value)} {ep:Nat} {t t':SetTable} {ks:List Str} (ho:h.get? a=some o) (hx:o.ExactSet) (hd:o.data=.set es ep t) (T:Tab w es' t' ks) :
  (h.update a (Obj.putSet es' t')).get? a=some { o with data:=.set es' (ep+1) t' }∧SS w (h.update a (Obj.putSet es' t')) a ks:=by
 have hg:(h.update a (Obj.putSet es' t')).get? a=some { o with data:=.set es' (ep+1) t' }:=by
  have hz:=Heap.get?_update_self (Obj.putSet es' t') ho (by rw [putSet_of es' t' hd];rfl)
  rw [putSet_of es' t' hd] at hz
  exact hz
 exact ⟨hg,_,es',ep+1,t',hg,hx,rfl,T⟩
theorem ZsP {es es1:Array (Int×Value)} {t t1:SetTable} {ks:List Str} {k:Str} {u:Tok} (T:Tab w es t ks) (hk:k∉ks) (p:es1.toList.Perm (es.toList++[(hashStr w k,Value.str k u)])) (f:t1.fits es1.size=true) (l:t1.led=t.led) (q:t1.plain=false):Tab w es1 t1 (k::ks):=by
 refine ⟨fun e he=>?_,?_,List.nodup_cons.mpr ⟨hk,T.nd⟩,f,fun h=>by rw [l];exact T.ld h,fun h=>by rw [q] at h;cases h⟩
 ·rcases List.mem_append.mp (p.mem_iff.mp he) with he | he
  ·exact T.el e he
  ·exact ⟨k,u,List.mem_singleton.mp he⟩
 ·refine (p.map _).trans ?_
  rw [List.map_append]
  exact (List.perm_append_singleton k _).trans (T.pm.cons k)
theorem ZrF {a:Addr} {ks:List Str} {k:Str} {u:Tok} {Q:Bool→Shared→Prop} (hS:SS w s.heap a ks) (hn:ks.length+1 < scanBound)
  (h:∀ h' b,Heap.SameBut a s.heap h'→SS w h' a (if k∈ks then ks else k::ks)→Q b { s with heap:=h' }):wpAny (model prog w) A (setAddHashed a (.str k u) (hashStr w k)) Q E s:=by
 obtain ⟨o,es,ep,t,ho,hx,hd,T⟩:=hS
 have hel:=T.elems prog
 have hkey:(strKind prog w).is k (.str k u)=true:=by show Value.isStrOf k (.str k u)=true;simp [Value.isStrOf]
 have hsc:(Value.str k u).scannable=true:=rfl
 have hsz:=T.len
 have hb:es.size < scanBound:=by omega
 unfold setAddHashed setAddHashedIn
 refine wpAny_holding (wpAny_bind (wpAny_setState_of ho hd T.ft ?_))
 dsimp only
 rw [byScan_of hsc hb hel,if_pos rfl]
 refine wpAny_bind ?_
 unfold setAddByScan
 refine wpAny_bind (wpAny_rule ?_)
 refine wpAny_bind (wpAny_setScan_of (knd:=strKind prog w) hkey ho hd T.ft hel ?_)
 have hgave:∀ (b:Bool) {s₁:Shared} {Q':Unit→Shared→Prop},Q' () s₁→wpAny (model prog w) A (match b with | true=>rule "set.scan.the-table-gave-way" | false=>pure ()) Q' E s₁:=fun b s₁ Q' z=>by
  cases b
  ·exact wpAny_pure z
  ·exact wpAny_rule z
 cases hr:List.findIdx? (fun e=>(strKind prog w).is k e.2) es.toList with
 | some j =>
  obtain ⟨hj,hpj,_⟩:=List.findIdx?_eq_some_iff_getElem.mp hr
  have hin:k∈ks:=(T.mem k).mpr ⟨_,List.getElem_mem hj,hpj⟩
  have hz:=h s.heap false (Heap.SameBut.refl a s.heap) (by rw [if_pos hin];exact ⟨o,es,ep,t,ho,hx,hd,T⟩)
  exact wpAny_pure (wpAny_pure hz)
 | none =>
  have hout:k∉ks:=fun hin=>by
   obtain ⟨e,he,hp⟩:=(T.mem k).mp hin
   have hz:=List.findIdx?_eq_none_iff.mp hr e he
   exact Bool.noConfusion (hz.symm.trans hp)
  have hperm:=layNew_perm t es (hashStr w k) (.str k u)
  have hfits:=layNew_fits t es (hashStr w k) (.str k u)
  have hled:=ZsN t es (hashStr w k) (.str k u)
  rw [if_neg hout] at h
  dsimp only
  show wpAny (model prog w) A _ _ E s
  have hhash:(strKind prog w).hash k=hashStr w k:=rfl
  revert hperm hfits hled
  generalize layNew t es (hashStr w k) (.str k u)=L
  obtain ⟨es1,t1,dm,gv⟩:=L
  intro hperm hfits hled
  dsimp only at hperm hfits hled ⊢
  rw [Array.toList_push] at hperm
  refine wpAny_bind (hgave _ ?_)
  have hz1:es1.size=es.size+1:=by rw [← Array.length_toList,hperm.length_eq,List.length_append,Array.length_toList];rfl
  have fin:∀ t2:SetTable,t2.fits es1.size=true→t2.led=t.led→t2.plain=false→wpAny (model prog w) A (do
    storeSet a es1 t2
    if (!dm&&t2.tooFull)=true then do
      (match (relayAll t2 es1 (SetTable.grown es1.size)).2.2 with | true=>rule "set.scan.the-table-gave-way" | false=>pure ())
      storeSet a (relayAll t2 es1 (SetTable.grown es1.size)).1 (relayAll t2 es1 (SetTable.grown es1.size)).2.1
      pure (some true)
     else pure (some true)) (fun r s'=>wpAny (model prog w) A (match r with | some added=>pure added | none=>setAddHashedIn a (.str k u) (hashStr w k) 99999) Q E s') E s:=fun t2 f2 l2 p2=>by
   have T2:Tab w es1 t2 (k::ks):=ZsP T hout hperm f2 l2 p2
   refine wpAny_bind (wpAny_storeSet_of ho hd ?_ (fits_of_scanBound (by omega)))
   obtain ⟨ho1,hS1⟩:=Zft ho hx hd T2
   have b1:=Heap.SameBut.update s.heap a (Obj.putSet es1 t2)
   split
   ·have hp:=relayAll_perm t2 es1 (SetTable.grown es1.size)
    have hf:=relayAll_fits t2 es1 (SetTable.grown es1.size)
    have hg:=ZnM t2 es1 (SetTable.grown es1.size)
    have T3:=T2.perm hp hf (fun z=>by rw [hg.1,l2];exact T.ld z) (fun z=>by rw [hg.2 z] at p2;cases p2)
    refine wpAny_bind (hgave _ ?_)
    refine wpAny_bind (wpAny_storeSet_of ho1 rfl ?_ (fits_of_scanBound (by rw [T3.len,← T2.len];omega)))
    obtain ⟨_,hS2⟩:=Zft ho1 hx rfl T3
    exact wpAny_pure (wpAny_pure (h _ _ (b1.trans (Heap.SameBut.update _ a _)) hS2))
   ·exact wpAny_pure (wpAny_pure (h _ _ b1 hS1))
  split
  ·refine wpAny_bind ?_
   rw [hashByValue_scannable 8 hsc]
   refine wpAny_pure ?_
   exact fin _ (SetTable.fits_plain_off hfits) hled rfl
  ·rename_i hpl
   refine wpAny_bind (wpAny_pure ?_)
   exact fin _ hfits hled (by simpa using hpl)
end
end L3
set_option Elab.async false
set_option linter.all false
set_option maxRecDepth 100000
set_option maxHeartbeats 4000000
namespace L3
open PySem PySem.Spec PyProof.Rows L2
section
variable {prog:Program} {w:World} {A:Around} {E:Value→Shared→Prop} {s:Shared}
theorem SS.kept {h h':Heap} {a:Addr} {ks:List Str} (S:SS w h a ks) (k:∀ o,h.get? a=some o→h'.get? a=some o):SS w h' a ks:=by
 obtain ⟨o,es,ep,t,ho,r⟩:=S
 exact ⟨o,es,ep,t,k o ho,r⟩
theorem SS.nd {h:Heap} {a:Addr} {ks:List Str} (S:SS w h a ks):ks.Nodup:=by
 obtain ⟨o,es,ep,t,ho,_,_,T⟩:=S
 exact T.nd
theorem Zmt {h:Heap} {a:Addr} (led:Bool) (hl:bt w=false→led=true) (ho:h.get? a=some { cls:=.type "set",dict:=none,data:=.set #[] 0 (.fresh 0 0 led) }):SS w h a [] :=
 ⟨_,#[],0,_,ho,⟨rfl,rfl,rfl⟩,rfl,⟨fun e he=>by simp at he,List.Perm.refl _,List.nodup_nil,rfl,hl,fun _=>rfl⟩⟩
theorem ZsU {R:Result→Shared→Prop} {I:Addr} {fp wr:List Addr} {G:Array GenState→Array GenState→Prop} {n:Nat} {P:Nat→Value→Prop} {St:Nat→Shared→Prop} (W:WalksS prog w A.in1 I fp wr G n P St) {S:Addr} (hSf:S∉fp)
  {val:Nat→Str} (hval:∀ i v,P i v→∃ t,v=.str (val i) t):∀ (k i:Nat) (s:Shared) (ks:List Str),n - i=k→i≤n→St i s→SS w s.heap S ks→ks.length+k < scanBound →
   (∀ s' ks',Moved (S::wr) G s s'→SS w s'.heap S ks'→(∀ x,x∈ks'↔x∈ks∨∃ j,i≤j∧j < n∧val j=x)→R (.ok (.ret .none)) s') →
   codeAny (model prog w) A (.builtin "set.update.loop" ⟨[.ref S,.ref I],[]⟩) R s:=by
 have hSw:S∉wr:=fun z=>hSf (W.sub _ z)
 have hsub:∀ b∈wr,b∈S::wr:=fun b z=>List.mem_cons_of_mem _ z
 intro k
 induction k with
 | zero =>
  intro i s ks hk hi hst hS _ hR
  obtain rfl:i=n:=by omega
  refine codeAny_builtin PyProof.Rows.F.entry_set_update_loop ?_
  rw [Around.under_plainId PyProof.Rows.F.plain_set_update_loop _]
  refine wpAny_bind (m:=pyNext (.ref I)) (W.done s _ _ hst fun s' hm=>?_)
  refine wpAny_pure (hR s' ks (hm.mono hsub) (hS.kept fun o e=>hm.heap S o hSw e) fun x=>⟨.inl,?_⟩)
  rintro (h | ⟨j,h1,h2,_⟩)
  ·exact h
  ·omega
 | succ k ih =>
  intro i s ks hk hi hst hS hn hR
  have hlt:i < n:=by omega
  refine codeAny_builtin PyProof.Rows.F.entry_set_update_loop ?_
  rw [Around.under_plainId PyProof.Rows.F.plain_set_update_loop _]
  refine wpAny_bind (m:=pyNext (.ref I)) (W.item i s _ _ hlt hst fun v s1 hP hst1 hm=>?_)
  obtain ⟨t,rfl⟩:=hval i v hP
  have hS1:SS w s1.heap S ks:=hS.kept fun o e=>hm.heap S o hSw e
  refine wpAny_bind (m:=holding [Value.str (val i) t] (setAdd S (.str (val i) t))) (wpAny_holding ?_)
  unfold setAdd
  refine wpAny_holding (wpAny_bind ((strKind prog w).pyHash (k:=val i) (by show Value.isStrOf (val i) (.str (val i) t)=true;simp [Value.isStrOf]) ?_))
  refine ZrF (s:={ s1 with toks:=s1.toks+1 }) hS1 (by omega) fun h' b hsb hS2=>?_
  refine wpAny_pure ⟨plainId_quiet PyProof.Rows.F.plain_set_update_loop _,ih (i+1) _ _ (by omega) hlt (W.frame _ s1 _ _ hst1 (Nat.le_succ _) fun c hc o e=>?_) hS2 ?_ fun s2 ks' hm2 hS3 hx=>?_⟩
  ·rw [hsb.2 c fun z:c=S=>hSf (by rw [← z];exact hc)];exact e
  ·split
   ·omega
   ·rw [List.length_cons];omega
  ·refine hR s2 ks' (Moved.trans W.gtrans ((hm.mono hsub).then_heap (Nat.le_succ _) fun c o hc e=>?_) hm2) hS3 fun x=>(hx x).trans ?_
   ·rw [hsb.2 c fun z:c=S=>hc (by rw [z];exact List.mem_cons_self)];exact e
   ·have hmem:x∈(if val i∈ks then ks else val i::ks)↔x∈ks∨val i=x:=by
     split
     ·rename_i hin
      exact ⟨.inl,fun z=>z.elim id fun e=>e▸hin⟩
     ·rw [List.mem_cons]
      exact ⟨fun z=>z.elim (fun e=>.inr e.symm) .inl,fun z=>z.elim .inr fun e=>.inl e.symm⟩
    rw [hmem]
    constructor
    ·rintro ((h | h) | ⟨j,h1,h2,h3⟩)
     ·exact .inl h
     ·exact .inr ⟨i,Nat.le_refl _,hlt,h⟩
     ·exact .inr ⟨j,by omega,h2,h3⟩
    ·rintro (h | ⟨j,h1,h2,h3⟩)
     ·exact .inl (.inl h)
     ·by_cases e:j=i
      ·subst e;exact .inl (.inr h3)
      ·exact .inr ⟨j,by omega,h2,h3⟩
end
end L3
namespace L3
open PySem PySem.Spec PyProof.Rows L2
abbrev Zbl (led:Bool):Obj:={ cls:=.type "set",dict:=none,data:=.set #[] 0 (.fresh 0 0 led) }
section
variable {prog:Program} {w:World} {A:Around} {E:Value→Shared→Prop} {s:Shared}
theorem ZsC {Q:Value→Shared→Prop} (h:∀ led:Bool,(bt w=false→led=true)→Q (.ref s.heap.objs.size) { s with heap:=s.heap.push (Zbl led) }):wpAny (model prog w) A (newSet (.type "set")) Q E s:=by
 unfold newSet setsByText
 refine wpAny_bind (wpAny_bind (wpAny_askSetting (wpAny_pure ?_)))
 simp only [newObj]
 refine wpAny_bind (wpAny_alloc (wpAny_pure (h _ fun z=>?_)))
 show (!(bt w))=true
 rw [z];rfl
theorem Zqq (a:Value) {Q:Value→Shared→Prop} (h:∀ led:Bool,(bt w=false→led=true)→Q (.ref s.heap.objs.size) { s with heap:=s.heap.push (Zbl led) }) :
  codeAny (model prog w) A (.call (.builtin "set.__new__") ⟨[.type "set",a],[]⟩) (wants Q E) s:=by
 refine codeAny_of_tree (?_:wpAny _ A.in1 (do checkBuiltinCall "set.__new__" ⟨[.type "set",a],[]⟩;again (.builtin "set.__new__" ⟨[.type "set",a],[]⟩)) _ _ s)
 refine wpAny_bind (wpAny_of_eq (PySem.F.newCall_set_1 a) (wpAny_pure ⟨plainId_quiet PySem.F.plain_set_new _,codeAny_builtin PySem.F.entry_set_new ?_⟩))
 rw [Around.under_plainId PySem.F.plain_set_new _];unfold Builtin.«set.__new__» Builtin.Frozenset.newClass
 have hq:=sub_set_self
 obtain ⟨hp,g,d,tk,os⟩:=s
 dsimp only
 wp_walk
 refine wpAny_askSetting (wpAny_pure ?_)
 simp only [newObj]
 refine wpAny_bind (wpAny_alloc (wpAny_pure (wpAny_pure (h _ fun z=>?_))))
 show (!(bt w))=true
 rw [z];rfl
theorem Zn7:∀ {vs:List Value} {xs:List Str},StrsAre vs xs→∀ (i:Nat) (v:Value),vs[i]?=some v→∃ t,v=.str (xs.getD i (Str.ofString "")) t
 | _,_,.nil,i,v,h=>by simp at h
 | _,_,.cons x t r,0,v,h=>⟨t,by simp at h;exact h.symm⟩
 | _,_,.cons x t r,i+1,v,h=>Zn7 r i v (by simpa using h)
set_option maxHeartbeats 3200000 in
theorem ZjW {l:Addr} {items:Array Value} {xs:List Str} {Q:Value→Shared→Prop} (hh:A.handled=none) (hl:s.heap.IsList l items) (hi:StrsAre items.toList xs) (hb:items.size < scanBound)
  (h:∀ (h':Heap) (tk:Nat) (ks:List Str),SS w h' s.heap.objs.size ks→(∀ x,x∈ks↔x∈xs)→(∀ b o,b < s.heap.objs.size→s.heap.get? b=some o→h'.get? b=some o)→Q (.ref s.heap.objs.size) { s with heap:=h',toks:=tk }) :
  wpAny (model prog w) A (call (.type "set") [.ref l]) Q E s:=by
 obtain ⟨c,tl,hmro⟩:=PySem.F.called_set.mro
 have hmade:=PySem.F.called_set.made
 have hsub:=PySem.F.called_set.sub
 refine wpAny_call (codeAny_of_tree (?_:wpAny _ _ (callAny (.type "set") _) _ _ _))
 refine wpAny_pure ⟨Code.quiet_builtin _ (by decide +kernel),codeAny_builtin PySem.F.entry_type_call ?_⟩
 rw [Around.under_plain (weight_type_call_type "set" [.ref l] []) rfl]
 have h1:=PySem.F.called_set.notType
 have h2:=PySem.F.called_set.canCreate
 have hct:=PySem.F.typeCall_set_1 (.ref l)
 (repeat (any_goals (first | assumption | wp_step)))
 refine codeAny_mono (Zqq (.ref l) (E:=E) (Q:=fun obj s₁=>∃ led:Bool,(bt w=false→led=true)∧obj=.ref s.heap.objs.size∧s₁={ s with heap:=s.heap.push (Zbl led) }) fun led z=>⟨led,z,rfl,rfl⟩) fun r s₁ hr=>?_
 match r,hr with
 | .error e,hr=>exact hr
 | .ok .next,hr=>exact hr.elim
 | .ok .brk,hr=>exact hr.elim
 | .ok .cont,hr=>exact hr.elim
 | .ok (.ret obj),hr =>
  obtain ⟨led,hled,rfl,rfl⟩:=hr
  have hS:(s.heap.push (Zbl led)).get? s.heap.objs.size=some (Zbl led):=Heap.get?_push_size _ rfl
  have hT:Shared.TypeIs { s with heap:=s.heap.push (Zbl led) } (.ref s.heap.objs.size) "set":=⟨_,hS,rfl⟩
  have hli:=PySem.F.called_set.init.lookup
  have hbi:=PySem.F.called_set.init.bind (.ref s.heap.objs.size)
  (repeat (any_goals (first | assumption | wp_step)))
  refine codeAny_mono (codeAny_call_builtin (R:=wants (fun r s₂=>r=.none∧∃ h' tk ks,s₂={ s with heap:=h',toks:=tk }∧SS w h' s.heap.objs.size ks∧(∀ x,x∈ks↔x∈xs)∧(∀ b o,b < s.heap.objs.size→s.heap.get? b=some o→h'.get? b=some o)) E) PySem.F.called_set.init.plain PySem.F.entry_set_init (check_set_init_1 hT ?_)) fun r₂ s₂ hr₂=>?_
  ·obtain ⟨ol,hol,hcl,nl,hdl⟩:=hl
   obtain ⟨ocls,odict,odata,oslots⟩:=ol
   simp only at hcl hdl
   subst hcl hdl
   have hol':(s.heap.push (Zbl led)).get? l=some { cls:=.type "list",dict:=odict,data:=.seq items nl,slots:=oslots }:=Heap.get?_push_of_some _ hol
   have hs1:=PySem.F.sub_list_set
   have hs2:=PySem.F.sub_list_frozenset
   have hne:(Value.type "list"==Value.type "dict")=false:=by decide
   have hl1:(s.heap.push (Zbl led)).IsList l items:=⟨_,hol',rfl,nl,rfl⟩
   unfold Builtin.«set.__init__» noKeywords Builtin.Frozenset.updateFrom
   generalize hPI:pyIter=PI
   wp_walk
   subst hPI
   refine wpAny_pyIter_list hl1 (wpAny_bind (wpAny_runValue ?_))
   have hlS:l < s.heap.objs.size:=Heap.lt_size hol
   have hneI:l≠(s.heap.push (Zbl led)).objs.size:=by rw [Heap.size_push];exact Nat.ne_of_lt (Nat.lt_succ_of_lt hlS)
   have hSf:s.heap.objs.size∉[(s.heap.push (Zbl led)).objs.size,l]:=by
    rw [Heap.size_push]
    simp only [List.mem_cons,List.not_mem_nil,or_false,not_or]
    exact ⟨Nat.ne_of_lt (Nat.lt_succ_self _),Nat.ne_of_gt hlS⟩
   have hval:∀ (i:Nat) (v:Value),items[i]?=some v→∃ t,v=.str (xs.getD i (Str.ofString "")) t:=fun i v hv=>Zn7 hi i v (by rw [Array.getElem?_toList];exact hv)
   have hxl:items.size=xs.length:=by rw [← Array.length_toList];exact hi.length
   refine ZsU ((Walks.list (by simp [hh]) _ l hneI items).toS) hSf hval (items.size - 0) 0 _ [] (by omega) (Nat.zero_le _) ⟨⟨_,Heap.get?_push_size _ rfl,rfl,rfl⟩,hl1.push _⟩ ?_ (by simp only [List.length_nil];omega) ?_
   ·exact Zmt led hled (Heap.get?_push_of_some _ hS)
   ·intro s' ks hm hS' hx
    obtain ⟨h',g',d',tk',os'⟩:=s'
    obtain rfl:g'=s.gens:=hm.gens
    obtain rfl:d'=s.drawn:=hm.drawn
    obtain rfl:os'=s.os:=hm.os
    refine wpAny_pure (wpAny_pure ⟨rfl,h',tk',ks,rfl,hS',fun x=>(hx x).trans ?_,fun b o hb e=>?_⟩)
    ·constructor
     ·rintro (z | ⟨j,_,hj,e⟩)
      ·cases z
      ·rw [← e]
       rw [List.getD_eq_getElem?_getD,List.getElem?_eq_getElem (by omega)]
       exact List.getElem_mem _
     ·intro hx
      obtain ⟨j,hj,e⟩:=List.getElem_of_mem hx
      refine .inr ⟨j,Nat.zero_le _,by omega,?_⟩
      rw [List.getD_eq_getElem?_getD,List.getElem?_eq_getElem hj]
      exact e
    ·refine hm.heap b o ?_ (Heap.get?_push_of_some _ (Heap.get?_push_of_some _ e))
     simp only [List.mem_cons,List.not_mem_nil,or_false,not_or]
     rw [Heap.size_push]
     exact ⟨Nat.ne_of_lt hb,Nat.ne_of_lt (Nat.lt_succ_of_lt hb)⟩
  ·match r₂,hr₂ with
   | .error e,hr₂=>exact hr₂
   | .ok .next,hr₂=>exact hr₂.elim
   | .ok .brk,hr₂=>exact hr₂.elim
   | .ok .cont,hr₂=>exact hr₂.elim
   | .ok (.ret r),hr₂ =>
    obtain ⟨rfl,h',tk,ks,rfl,hS',hx,hk'⟩:=hr₂
    (repeat (any_goals (first | assumption | wp_step)))
    exact h _ _ _ hS' hx hk'
end
end L3
namespace L3
open PySem PySem.Spec PyProof.Rows L2
theorem Zqb {n:Nat} (h:n < 64):(SetTable.sizeAbove n=8∨SetTable.sizeAbove n=16∨SetTable.sizeAbove n=32∨SetTable.sizeAbove n=64)∧n < SetTable.sizeAbove n:=by
 have:∀ m:Fin 64,(SetTable.sizeAbove m.1=8∨SetTable.sizeAbove m.1=16∨SetTable.sizeAbove m.1=32∨SetTable.sizeAbove m.1=64)∧m.1 < SetTable.sizeAbove m.1:=by decide +kernel
 exact this ⟨n,h⟩
theorem Zh1 {n:Nat} (h:n < 64):Tb.cover (SetTable.sizeAbove n - 1+1)=true∧n < SetTable.sizeAbove n∧SetTable.sizeAbove n≤64:=by
 obtain ⟨h1,h2⟩:=Zqb h
 rcases h1 with e | e | e | e <;> rw [e] at h2 ⊢
 ·exact ⟨Tb.cover8,h2,by decide⟩
 ·exact ⟨Tb.cover16,h2,by decide⟩
 ·exact ⟨Tb.cover32,h2,by decide⟩
 ·exact ⟨Tb.cover64,h2,by decide⟩
theorem Zoz {t:SetTable} {n:Nat} (h1:t.place.size=n) (h2:t.dummies=#[]) (h3:n≤t.mask):t.fits n=true:=by
 unfold SetTable.fits SetTable.fill
 rw [h2,h1]
 simp
 exact h3
section
variable {prog:Program} {w:World} {A:Around} {E:Value→Shared→Prop} {s:Shared}
theorem Zm4 {es:Array (Int×Value)} {t:SetTable} {ks:List Str} (T:Tab w es t ks) {mask f m:Nat} {l p:Bool} (hc:Tb.cover (mask+1)=true) (hn:ks.length≤mask) (hl:bt w=false→l=true) (hp:p=true→ks=[]) :
  ∃ t' order,SetTable.laid mask f m l p (es.map (·.1))=some (t',order)∧(order.filterMap (es[·]?)).size=es.size∧Tab w (order.filterMap (es[·]?)) t' ks:=by
 have hz:=T.len
 obtain ⟨t',order,e,hpm,e1,e2,e3,e4,e5⟩:=Tb.laid_ok hc f m l p (es.map (·.1)) (by rw [Array.size_map];omega)
 rw [Array.size_map] at hpm e2
 have hq:=Tb.order_perm es order hpm
 have hsz:(order.filterMap (es[·]?)).size=es.size:=by rw [← Array.length_toList,hq.length_eq,Array.length_toList]
 refine ⟨t',order,e,hsz,T.perm hq ?_ (fun z=>by rw [e4];exact hl z) fun z=>hp (by rw [← e5];exact z)⟩
 rw [hsz]
 exact Zoz e2 e3 (by rw [e1];omega)
theorem ZqA {a:Addr} {ks:List Str} {n:Nat} {Q:Unit→Shared→Prop} (hS:SS w s.heap a ks) (hn:n < 64) (hk:ks.length≤n)
  (h:∀ h',Heap.SameBut a s.heap h'→SS w h' a ks→Q () { s with heap:=h' }):wpAny (model prog w) A (setRelay a n) Q E s:=by
 obtain ⟨o,es,ep,t,ho,hx,hd,T⟩:=hS
 obtain ⟨hc,h1,h2⟩:=Zh1 hn
 have hz:=T.len
 unfold setRelay
 refine wpAny_bind (wpAny_setState_of ho hd T.ft ?_)
 dsimp only
 rw [if_neg (by have:(64:Nat)≤sizeLine:=by decide
                omega)]
 obtain ⟨t',order,e,hsz,T'⟩:=Zm4 (f:=t.finger) (m:=t.movedTo (SetTable.sizeAbove n - 1)) (l:=t.led) (p:=t.plain) T hc (by omega) T.ld T.pl
 refine wpAny_bind ?_
 unfold SetTable.relaid
 rw [e]
 show wpAny (model prog w) A (if ((order.filterMap (es[·]?)).size != es.size)=true then _ else pure (order.filterMap (es[·]?),t')) _ E s
 rw [if_neg (by rw [hsz];simp)]
 refine wpAny_pure (wpAny_storeSet_of ho hd ?_ (fits_of_scanBound (by rw [hsz];unfold scanBound;omega)))
 exact h _ (Heap.SameBut.update s.heap a _) (Zft ho hx hd T').2
theorem ZsR {a:Addr} {ks:List Str} {n:Nat} {Q:Unit→Shared→Prop} (hS:SS w s.heap a ks) (hn:ks.length+n < 32)
  (h:∀ h',Heap.SameBut a s.heap h'→SS w h' a ks→Q () { s with heap:=h' }):wpAny (model prog w) A (setRoomFor a n) Q E s:=by
 have hS':=hS
 obtain ⟨o,es,ep,t,ho,hx,hd,T⟩:=hS
 have hz:=T.len
 unfold setRoomFor
 refine wpAny_bind (wpAny_setState_of ho hd T.ft ?_)
 have hp:t.place.size=es.size:=by
  have:=T.ft
  unfold SetTable.fits at this
  simp only [Bool.and_eq_true,beq_iff_eq] at this
  exact this.1
 dsimp only
 unfold SetTable.roomFor
 split
 ·rename_i v e
  split at e
  ·cases e
   exact ZqA hS' (by omega) (by omega) h
  ·cases e
 ·exact wpAny_pure (h s.heap (Heap.SameBut.refl a s.heap) hS')
end
end L3
namespace L3
open PySem PySem.Spec PyProof.Rows L2
theorem ZgS {α:Type}:∀ (l:List α) (i:Nat) (h:i < l.length),(l[i]::l.eraseIdx i).Perm l
 | a::l,0,h=>List.Perm.refl _
 | a::l,i+1,h=>by
  have h':i < l.length:=Nat.lt_of_succ_lt_succ h
  exact (List.Perm.swap a (l[i]'h') (l.eraseIdx i)).trans ((ZgS l i h').cons a)
theorem ZnK {α:Type} (next:Nat→Nat):∀ (n k:Nat) (left:List α) (out:Array α),left.length=n→(pickOrder.go next n k left out).toList.Perm (out.toList++left)
 | 0,k,left,out,h=>by
  obtain rfl:=List.length_eq_zero_iff.mp h
  rw [List.append_nil]
  exact List.Perm.refl _
 | n+1,k,left,out,h=>by
  have hlt:next k % left.length < left.length:=Nat.mod_lt _ (by omega)
  unfold pickOrder.go
  rw [List.getElem?_eq_getElem hlt]
  dsimp only
  refine (ZnK next n (k+1) _ _ (by rw [List.length_eraseIdx_of_lt hlt];omega)).trans ?_
  rw [Array.toList_push,List.append_assoc]
  refine List.Perm.append_left _ ?_
  exact ZgS left _ hlt
theorem Zk1 {α:Type} (next:Nat→Nat) (xs:Array α):(pickOrder next xs).toList.Perm xs.toList:=by
 have:=ZnK next xs.size 0 xs.toList #[] (by simp)
 unfold pickOrder
 simpa using this
section
variable {prog:Program} {w:World} {A:Around} {E:Value→Shared→Prop} {s:Shared}
theorem ZjA {Q:Option Bool×Unit→Shared→Prop} {f:Int×Value→Option Bool×Unit→Sem (ForInStep (Option Bool×Unit))} (hf:∀ e,(∃ x u,e=(hashStr w x,Value.str x u))→f e (none,())=pure (ForInStep.yield (none,()))) :
  ∀ (l:List (Int×Value)),(∀ e∈l,∃ x u,e=(hashStr w x,Value.str x u))→Q (none,()) s→wpAny (model prog w) A (forIn l (none,()) f) Q E s
 | [],_,q=>wpAny_pure q
 | e::l,h,q=>by
  rw [List.forIn_cons,hf e (h e List.mem_cons_self)]
  exact wpAny_bind (wpAny_pure (ZjA hf l (fun x hx=>h x (List.mem_cons_of_mem _ hx)) q))
theorem Zp6 {a b:Addr} {ka kb:List Str} {Q:Bool→Shared→Prop} (ha:SS w s.heap a ka) (hb:SS w s.heap b kb) (q:Q true s):wpAny (model prog w) A (setsQuiet [a,b]) Q E s:=by
 obtain ⟨oa,ea,pa,ta,ho,hx,hd,T⟩:=ha
 obtain ⟨ob,eb,pb,tb,ho2,hx2,hd2,T2⟩:=hb
 have hyield:∀ e:Int×Value,(∃ x u,e=(hashStr w x,Value.str x u))→True:=fun _ _=>trivial
 unfold setsQuiet
 refine wpAny_bind ?_
 rw [List.forIn_cons]
 refine wpAny_bind (wpAny_bind (wpAny_setEntries_of ho hd T.ft ?_))
 rw [← Array.forIn_toList]
 refine wpAny_bind (ZjA (w:=w) (fun e he=>?_) ea.toList T.el (wpAny_pure ?_))
 ·obtain ⟨x,u,rfl⟩:=he;rfl
 dsimp only
 rw [List.forIn_cons]
 refine wpAny_bind (wpAny_bind (wpAny_setEntries_of ho2 hd2 T2.ft ?_))
 rw [← Array.forIn_toList]
 refine wpAny_bind (ZjA (w:=w) (fun e he=>?_) eb.toList T2.el (wpAny_pure ?_))
 ·obtain ⟨x,u,rfl⟩:=he;rfl
 dsimp only
 rw [List.forIn_nil]
 exact wpAny_pure (wpAny_pure q)
theorem Zs0 {o f:Addr} {ko ks:List Str} {ob:Obj} {es:Array (Int×Value)} {ep:Nat} {t:SetTable} {Q:Array (Int×Value)→Shared→Prop} (ho:s.heap.get? o=some ob) (hx:ob.ExactSet) (hd:ob.data=.set es ep t) (T:Tab w es t ko) (hf:SS w s.heap f ks) (hk:ks.length < scanBound)
  (h:∀ h' l,Heap.SameBut f s.heap h'→SS w h' f ks→l.toList.Perm es.toList→Q l { s with heap:=h' }):wpAny (model prog w) A (setWalkUnseen o [f] (some f)) Q E s:=by
 have hz:=T.len
 have hall:bt w=true∨es.size≤1→wpAny (model prog w) A (setWalk o) Q E s:=fun hw=>by
  unfold setWalk
  refine wpAny_bind (wpAny_setState_of ho hd T.ft ?_)
  dsimp only
  unfold setsByText
  refine wpAny_bind (wpAny_bind (wpAny_askSetting (wpAny_pure ?_)))
  show wpAny (model prog w) A (if bt w=true then _ else _) Q E s
  by_cases hb:bt w=true
  ·rw [if_pos hb]
   exact wpAny_bind (wpAny_askSetting (wpAny_pure (h s.heap _ (Heap.SameBut.refl _ _) hf (Zk1 _ _))))
  ·rw [if_neg hb]
   have h1:es.size≤1:=hw.resolve_left hb
   show wpAny (model prog w) A (if (!t.plain&&decide (es.size > 1))=true then _ else _) Q E s
   rw [if_neg (by have:¬ es.size > 1:=by omega
                  simp [this])]
   refine wpAny_bind ?_
   show wpAny (model prog w) A (if (!t.led&&decide (es.size > 1))=true then _ else pure ()) _ E s
   rw [if_neg (by have:¬ es.size > 1:=by omega
                  simp [this])]
   exact wpAny_pure (wpAny_pure (h s.heap _ (Heap.SameBut.refl _ _) hf (List.Perm.refl _)))
 unfold setWalkUnseen
 refine wpAny_bind (wpAny_setState_of ho hd T.ft ?_)
 dsimp only
 unfold setsByText
 refine wpAny_bind (wpAny_bind (wpAny_askSetting (wpAny_pure ?_)))
 show wpAny (model prog w) A (if (bt w||t.led&&t.plain||decide (es.size≤1))=true then _ else _) Q E s
 by_cases hc:(bt w||t.led&&t.plain||decide (es.size≤1))=true
 ·rw [if_pos hc]
  refine hall ?_
  simp only [Bool.or_eq_true,Bool.and_eq_true,decide_eq_true_eq] at hc
  rcases hc with (hc | hc) | hc
  ·exact .inl hc
  ·have:=T.pl hc.2
   subst this
   exact .inr (by rw [hz];decide)
  ·exact .inr hc
 ·rw [if_neg hc]
  simp only [Bool.or_eq_true,Bool.and_eq_true,decide_eq_true_eq,not_or] at hc
  have hb:bt w=false:=by simpa using hc.1.1
  refine wpAny_bind (Zp6 ⟨ob,es,ep,t,ho,hx,hd,T⟩ hf ?_)
  rw [if_neg (by decide)]
  refine wpAny_bind (wpAny_rule ?_)
  have hf':=hf
  obtain ⟨of,ef,pf,tf,hof,hxf,hdf,Tf⟩:=hf
  refine wpAny_bind (wpAny_setState_of hof hdf Tf.ft ?_)
  dsimp only
  split
  ·refine wpAny_bind (wpAny_storeSet_of hof hdf ?_ ?_)
   ·refine wpAny_pure (h _ _ (Heap.SameBut.update s.heap f _) (Zft hof hxf hdf (Tf.perm (List.Perm.refl _) ?_ (fun _=>?_) fun z=>?_)).2 (List.Perm.refl _))
    ·cases tf;exact Tf.ft
    ·show (tf.led&&t.led)=true
     rw [Tf.ld hb,T.ld hb];rfl
    ·refine Tf.pl ?_
     have z':(tf.plain&&t.plain)=true:=z
     simp only [Bool.and_eq_true] at z'
     exact z'.1
   ·exact fits_of_scanBound (by rw [Tf.len];exact hk)
  ·exact wpAny_pure (h _ _ (Heap.SameBut.refl _ _) hf' (List.Perm.refl _))
theorem Zpw {a o:Addr} {ob:Obj} {es:Array (Int×Value)} {ep:Nat} {t:SetTable} (hne:o≠a) (hd:ob.data=.set es ep t) (hf:t.fits es.size=true) {each:Sem Unit} (he:∀ (s':Shared) (Q':Unit→Shared→Prop),s'.heap.get? o=some ob→Q' () s'→wpAny (model prog w) A each Q' E s') {f:Int×Value→PUnit→Sem (ForInStep PUnit)}
  (hbody:∀ x u,f (hashStr w x,Value.str x u) PUnit.unit=(do let _ ← holding [Value.str x u] (setAddHashed a (Value.str x u) (hashStr w x));each;let r ← setState o;if (r.2.1 != ep)=true then (do unsupported "set.changed-during-merge";pure (ForInStep.yield PUnit.unit)) else pure (ForInStep.yield PUnit.unit))) :
  ∀ (l:List (Int×Value)) (s:Shared) (ks:List Str) (Q:PUnit→Shared→Prop),(∀ e∈l,∃ x u,e=(hashStr w x,Value.str x u))→s.heap.get? o=some ob→SS w s.heap a ks→ks.length+l.length < scanBound →
   (∀ h' ks',Heap.SameBut a s.heap h'→SS w h' a ks'→(∀ x,x∈ks'↔x∈ks∨x∈l.map fun e=>strOf e.2)→Q PUnit.unit { s with heap:=h' })→wpAny (model prog w) A (forIn l PUnit.unit f) Q E s
 | [],s,ks,Q,_,_,hS,_,h=>wpAny_pure (h s.heap ks (Heap.SameBut.refl _ _) hS fun x=>⟨.inl,fun z=>z.elim id fun z=>by cases z⟩)
 | e::l,s,ks,Q,hel,ho,hS,hn,h=>by
  obtain ⟨x,u,rfl⟩:=hel e List.mem_cons_self
  simp only [List.length_cons] at hn
  rw [List.forIn_cons,hbody x u]
  refine wpAny_bind (wpAny_bind (wpAny_holding (ZrF hS (by omega) fun h1 b hsb hS1=>?_)))
  have ho1:h1.get? o=some ob:=by rw [hsb.2 o hne];exact ho
  refine wpAny_bind (he _ _ ho1 (wpAny_bind (wpAny_setState_of ho1 hd hf ?_)))
  rw [if_neg (by simp)]
  refine wpAny_pure (Zpw hne hd hf he hbody l _ _ Q (fun y hy=>hel y (List.mem_cons_of_mem _ hy)) ho1 hS1 (by split <;> (try rw [List.length_cons]) <;> omega) fun h2 ks' hsb2 hS2 hx=>?_)
  refine h h2 ks' (hsb.trans hsb2) hS2 fun y=>(hx y).trans ?_
  rw [List.map_cons,List.mem_cons]
  show _↔y∈ks∨y=x∨_
  have hm:y∈(if x∈ks then ks else x::ks)↔y∈ks∨y=x:=by
   split
   ·rename_i hin
    exact ⟨.inl,fun z=>z.elim id fun e=>e▸hin⟩
   ·rw [List.mem_cons]
    exact ⟨fun z=>z.elim .inr .inl,fun z=>z.elim .inr .inl⟩
  rw [hm,or_assoc]
end
end L3
set_option Elab.async false
set_option linter.all false
set_option maxRecDepth 100000
set_option maxHeartbeats 4000000
namespace L3
open PySem PySem.Spec PyProof.Rows L2
section
variable {prog:Program} {w:World} {A:Around} {E:Value→Shared→Prop} {s:Shared}
structure Bare (led:Bool) (n:Nat) (t:SetTable):Prop where
 pl:t.place=#[]
 dm:t.dummies=#[]
 cv:Tb.cover (t.mask+1)=true
 rm:n≤t.mask
 ld:t.led=led
theorem Bare.fits {led:Bool} {n:Nat} {t:SetTable} (B:Bare led n t):t.fits 0=true:=Zoz (by rw [B.pl];rfl) B.dm (Nat.zero_le _)
theorem ZnE {a:Addr} {led:Bool} {n:Nat} {Q:Unit→Shared→Prop} (ha:s.heap.get? a=some (Zbl led)) (hn:n < 16)
  (h:∀ h' ep t,Heap.SameBut a s.heap h'→h'.get? a=some { Zbl led with data:=.set #[] ep t }→Bare led n t→Q () { s with heap:=h' }):wpAny (model prog w) A (setRoomFor a n) Q E s:=by
 unfold setRoomFor
 refine wpAny_bind (wpAny_setState_of ha rfl rfl ?_)
 show wpAny (model prog w) A (match (if (0+n)*5≥7*3 then some ((0+n)*2) else none) with | some v=>setRelay a v | _=>pure ()) Q E s
 by_cases hc:(0+n)*5≥7*3
 ·rw [if_pos hc]
  obtain ⟨hcv,h1,h2⟩:=Zh1 (n:=(0+n)*2) (by omega)
  dsimp only
  unfold setRelay
  refine wpAny_bind (wpAny_setState_of ha rfl rfl ?_)
  dsimp only
  rw [if_neg (by have:(64:Nat)≤sizeLine:=by decide
                 omega)]
  obtain ⟨t',order,e,hpm,e1,e2,e3,e4,e5⟩:=Tb.laid_ok hcv (SetTable.fresh 0 0 led).finger ((SetTable.fresh 0 0 led).movedTo (SetTable.sizeAbove ((0+n)*2) - 1)) (SetTable.fresh 0 0 led).led (SetTable.fresh 0 0 led).plain (Array.map (·.1) (#[]:Array (Int×Value))) (by simp)
  refine wpAny_bind ?_
  unfold SetTable.relaid
  rw [e]
  have hord:order=#[]:=by
   have:=hpm.length_eq
   simp at this
   exact this
  subst hord
  show wpAny (model prog w) A (pure ((#[]:Array Nat).filterMap ((#[]:Array (Int×Value))[·]?),t')) _ E s
  refine wpAny_pure (wpAny_storeSet_of ha rfl ?_ (Nat.zero_le _))
  refine h _ 1 t' (Heap.SameBut.update s.heap a _) ?_ ⟨?_,e3,by rw [e1];exact hcv,by rw [e1];omega,e4⟩
  ·have hz:=Heap.get?_update_self (Obj.putSet #[] t') ha (by rw [putSet_of #[] t' rfl];rfl)
   rw [putSet_of #[] t' rfl] at hz
   exact hz
  ·exact Array.eq_empty_of_size_eq_zero (by rw [e2];simp)
 ·rw [if_neg hc]
  exact wpAny_pure (h s.heap 0 _ (Heap.SameBut.refl _ _) ha ⟨rfl,rfl,Tb.cover8,by show n≤7;omega,rfl⟩)
theorem Zi6 {a o:Addr} {led:Bool} {ko:List Str} {each:Sem Unit} {Q:Unit→Shared→Prop} (hne:o≠a) (ha:s.heap.get? a=some (Zbl led)) (hl:bt w=false→led=true) (hS:SS w s.heap o ko) (hn:ko.length < 16)
  (h:∀ h',Heap.SameBut a s.heap h'→SS w h' a ko→(ko=[]→h'.get? a=some (Zbl led))→Q () { s with heap:=h' }):wpAny (model prog w) A (setMerge a o each) Q E s:=by
 obtain ⟨ob,es,ep,t,ho,hx,hd,T⟩:=hS
 have hz:=T.len
 unfold setMerge
 rw [if_neg (by simp only [beq_iff_eq];exact fun z=>hne z.symm)]
 refine wpAny_bind (wpAny_setState_of ho hd T.ft ?_)
 dsimp only
 by_cases hem:es.isEmpty=true
 ·rw [if_pos hem]
  have:ko=[]:=by
   rw [Array.isEmpty_iff] at hem
   subst hem
   exact List.length_eq_zero_iff.mp hz.symm
  subst this
  exact wpAny_pure (h s.heap (Heap.SameBut.refl _ _) (Zmt led hl ha) fun _=>ha)
 ·rw [if_neg hem]
  have hko:ko≠[]:=fun z=>by
   subst z
   exact hem (by rw [Array.isEmpty_iff];exact Array.eq_empty_of_size_eq_zero hz)
  refine wpAny_bind (ZnE ha (by omega) fun h1 ep1 t1 hsb ha1 B=>?_)
  refine wpAny_bind (wpAny_setState_of ha1 rfl B.fits ?_)
  dsimp only
  have hld:bt w=false→(t1.led&&t.led)=true:=fun z=>by rw [B.ld,hl z,T.ld z];rfl
  have hpl:(t1.plain&&t.plain)=true→ko=[]:=fun z=>by
   simp only [Bool.and_eq_true] at z
   exact T.pl z.2
  have hfill:(t1.fill != 0)=false:=by unfold SetTable.fill;rw [B.pl,B.dm];rfl
  unfold SetTable.road
  rw [hfill]
  simp only [Bool.false_eq_true,if_false]
  by_cases hr:(t1.mask==t.mask&&t.dummies.isEmpty)=true
  ·rw [if_pos hr]
   dsimp only
   refine wpAny_storeSet_of ha1 rfl ?_ (fits_of_scanBound (by unfold scanBound;omega))
   refine h _ (hsb.trans (Heap.SameBut.update h1 a _)) (Zft ha1 ⟨rfl,rfl,rfl⟩ rfl (T.perm (List.Perm.refl _) ?_ hld hpl)).2 fun z=>absurd z hko
   have:=T.ft
   cases t
   exact this
  ·rw [if_neg hr]
   dsimp only
   obtain ⟨t',order,e,hsz,T'⟩:=Zm4 (f:=t1.finger) (m:=t1.moves) T B.cv (by have:=B.rm;omega) hld hpl
   refine wpAny_bind ?_
   rw [e]
   show wpAny (model prog w) A (if ((order.filterMap (es[·]?)).size != es.size)=true then _ else pure (order.filterMap (es[·]?),t')) _ E _
   rw [if_neg (by rw [hsz];simp)]
   refine wpAny_pure (wpAny_storeSet_of ha1 rfl ?_ (fits_of_scanBound (by rw [hsz];unfold scanBound;omega)))
   exact h _ (hsb.trans (Heap.SameBut.update h1 a _)) (Zft ha1 ⟨rfl,rfl,rfl⟩ rfl T').2 fun z=>absurd z hko
theorem ZnA {a o:Addr} {ks ko:List Str} {each:Sem Unit} {Q:Unit→Shared→Prop} (hne:o≠a) (hk:ks≠[]) (hA:SS w s.heap a ks) (hS:SS w s.heap o ko) (hn:ks.length+ko.length < 32)
  (he:∀ ob,s.heap.get? o=some ob→∀ (s':Shared) (Q':Unit→Shared→Prop),s'.heap.get? o=some ob→Q' () s'→wpAny (model prog w) A each Q' E s')
  (h:∀ h' ks',Heap.SameBut a s.heap h'→SS w h' a ks'→(∀ x,x∈ks'↔x∈ks∨x∈ko)→Q () { s with heap:=h' }):wpAny (model prog w) A (setMerge a o each) Q E s:=by
 obtain ⟨ob,es,ep,t,ho,hx,hd,T⟩:=hS
 have hz:=T.len
 have he:=he ob ho
 unfold setMerge
 rw [if_neg (by simp only [beq_iff_eq];exact fun z=>hne z.symm)]
 refine wpAny_bind (wpAny_setState_of ho hd T.ft ?_)
 dsimp only
 by_cases hem:es.isEmpty=true
 ·rw [if_pos hem]
  have:ko=[]:=by
   rw [Array.isEmpty_iff] at hem
   subst hem
   exact List.length_eq_zero_iff.mp hz.symm
  subst this
  exact wpAny_pure (h s.heap ks (Heap.SameBut.refl _ _) hA fun x=>⟨.inl,fun z=>z.elim id fun z=>by cases z⟩)
 ·rw [if_neg hem]
  refine wpAny_bind (ZsR hA (by omega) fun h1 hsb hA1=>?_)
  have hA1':=hA1
  obtain ⟨oa,ea,pa,ta,hoa,hxa,hda,Ta⟩:=hA1
  refine wpAny_bind (wpAny_setState_of hoa hda Ta.ft ?_)
  dsimp only
  have hfill:(ta.fill != 0)=true:=by
   have hp:=Ta.ft
   unfold SetTable.fits at hp
   simp only [Bool.and_eq_true,beq_iff_eq] at hp
   have hl:=Ta.len
   have:ks.length≠0:=fun z=>hk (List.length_eq_zero_iff.mp z)
   unfold SetTable.fill
   simp only [bne_iff_ne,ne_eq]
   omega
  unfold SetTable.road
  rw [hfill]
  simp only [if_true]
  have ho1:h1.get? o=some ob:=by rw [hsb.2 o hne];exact ho
  refine wpAny_bind (Zs0 ho1 hx hd T hA1' (by unfold scanBound;omega) fun h2 l hsb2 hA2 hp=>?_)
  have ho2:h2.get? o=some ob:=by rw [hsb2.2 o hne];exact ho1
  rw [← Array.forIn_toList]
  refine wpAny_bind (Zpw hne hd T.ft he (fun x u=>rfl) l.toList _ ks _ (fun e hm=>T.el e (hp.mem_iff.mp hm)) ho2 hA2 ?_ fun h3 ks' hsb3 hA3 hx=>?_)
  ·have hl:l.toList.length=es.size:=hp.length_eq.trans Array.length_toList
   rw [hl];unfold scanBound;omega
  ·refine wpAny_pure (h h3 ks' ((hsb.trans hsb2).trans hsb3) hA3 fun x=>(hx x).trans ?_)
   rw [((hp.map _).trans T.pm).mem_iff]
end
end L3
namespace L3
open PySem PySem.Spec PyProof.Rows L2
theorem ZpQ:entryFor table "set.__or__"=some Builtin.«frozenset.__or__»:=entryFor_alias (id':="frozenset.__or__") (by kernel_rfl) rfl (by decide +kernel) (by kernel_rfl)
section
variable {prog:Program} {w:World} {A:Around} {E:Value→Shared→Prop} {s:Shared}
theorem SS.ty {a:Addr} {ks:List Str} (S:SS w s.heap a ks):s.TypeIs (.ref a) "set":=by
 obtain ⟨o,es,ep,t,ho,hx,_⟩:=S
 exact ⟨o,ho,hx.1⟩
theorem ZlL {a:Addr} {Q:Bool→Shared→Prop} (hT:s.TypeIs (.ref a) "set") (q:Q true s):wpAny (model prog w) A (Builtin.Frozenset.isAnySet (.ref a)) Q E s:=by
 unfold Builtin.Frozenset.isAnySet
 refine wpAny_bind (wpAny_isInstance hT sub_set_self ?_)
 exact wpAny_pure q
theorem SS.new {a:Addr} {ks:List Str} (S:SS w s.heap a ks) (o:Obj):SS w (s.heap.push o) a ks:=S.kept fun _ e=>Heap.get?_push_of_some _ e
theorem SS.lt {a:Addr} {ks:List Str} (S:SS w s.heap a ks):a < s.heap.objs.size:=by
 obtain ⟨o,es,ep,t,ho,_⟩:=S
 exact Heap.lt_size ho
theorem SS.same {h h':Heap} {a b:Addr} {ks:List Str} (S:SS w h a ks) (hne:a≠b) (hsb:Heap.SameBut b h h'):SS w h' a ks:=S.kept fun o e=>by rw [hsb.2 a hne];exact e
theorem ZvI {a b:Addr} {ka kb:List Str} {Q:Value→Shared→Prop} (hab:a≠b) (ha:SS w s.heap a ka) (hb:SS w s.heap b kb) (hna:ka.length < 16) (hnb:kb.length < 16)
  (h:∀ h' ks,SS w h' s.heap.objs.size ks→(∀ x,x∈ks↔x∈ka∨x∈kb)→(∀ c o,c < s.heap.objs.size→s.heap.get? c=some o→h'.get? c=some o)→Q (.ref s.heap.objs.size) { s with heap:=h' }) :
  wpAny (model prog w) A (binaryOp .BitOr (.ref a) (.ref b)) Q E s:=by
 refine wpAny_binaryOp_same (op:=.BitOr) (T:="set") ha.ty hb.ty PySem.F.fills_set_or PySem.F.slot_set_or (wpAny_call_entry PySem.F.slot_set_or ha.ty ZpQ ?_ (PySem.F.args_set_or_2 _ _))
 unfold Builtin.«frozenset.__or__»
 refine wpAny_bind (m:=Builtin.Frozenset.slot1 "__or__" ⟨[.ref a,.ref b],[]⟩) ?_
 unfold Builtin.Frozenset.slot1
 refine wpAny_bind (wpAny_pure (a:=(Value.ref a,[Value.ref b])) ?_)
 refine wpAny_pure ?_
 refine wpAny_bind (m:=(Builtin.Frozenset.isAnySet (.ref a) <&&> Builtin.Frozenset.isAnySet (.ref b))) ?_
 refine wpAny_bind (ZlL ha.ty (ZlL hb.ty ?_))
 rw [if_neg (by decide)]
 refine wpAny_bind (m:=Builtin.Frozenset.addrOf (.ref a)) (wpAny_pure ?_)
 refine wpAny_bind ?_
 refine wpAny_bind (m:=Builtin.Frozenset.copyOf a) ?_
 unfold Builtin.Frozenset.copyOf Builtin.Frozenset.baseOf
 refine wpAny_bind (wpAny_bind (wpAny_isInstance ha.ty sub_set_self (wpAny_pure ?_)))
 rw [if_pos rfl]
 refine wpAny_bind (ZsC fun led hled=>?_)
 refine wpAny_bind (wpAny_pure ?_)
 have hne:∀ {c:Addr},c < s.heap.objs.size→c≠s.heap.objs.size:=fun z=>Nat.ne_of_lt z
 have hfr:(s.heap.push (Zbl led)).get? s.heap.objs.size=some (Zbl led):=Heap.get?_push_size _ rfl
 refine wpAny_bind (Zi6 (s:={ s with heap:=s.heap.push (Zbl led) }) (hne ha.lt) hfr hled (ha.new _) hna fun h1 hsb hS1 hnil=>?_)
 refine wpAny_pure ?_
 show wpAny (model prog w) A.in1 (if (Value.ref b != Value.ref a)=true then _ else _) _ E _
 rw [if_pos (by simp only [bne_iff_ne,ne_eq,Value.ref.injEq];exact fun z=>hab z.symm)]
 refine wpAny_bind (m:=Builtin.Frozenset.addrOf _) (wpAny_pure ?_)
 have hb1:SS w h1 b kb:=(hb.new (Zbl led)).same (hne hb.lt) hsb
 have hT1:Shared.TypeIs { s with heap:=h1 } (.ref b) "set":=SS.ty (s:={ s with heap:=h1 }) hb1
 have keep:∀ h2,Heap.SameBut s.heap.objs.size h1 h2→∀ c o,c < s.heap.objs.size→s.heap.get? c=some o→h2.get? c=some o:=fun h2 hsb2 c o hc e=>by
  rw [hsb2.2 c (hne hc),hsb.2 c (hne hc)]
  exact Heap.get?_push_of_some _ e
 refine wpAny_bind (wpAny_holding ?_)
 unfold Builtin.Frozenset.updateFrom
 refine wpAny_bind (ZlL hT1 ?_)
 rw [if_pos rfl]
 refine wpAny_bind (m:=Builtin.Frozenset.addrOf (.ref b)) (wpAny_pure ?_)
 unfold Builtin.Frozenset.merge
 have hb1':=hb1
 obtain ⟨ob,es,ep,t,ho,hx,hd,T⟩:=hb1
 refine wpAny_bind (wpAny_setEpoch_of ho hd T.ft ?_)
 have fin:∀ h2 ks,Heap.SameBut s.heap.objs.size h1 h2→SS w h2 s.heap.objs.size ks→(∀ x,x∈ks↔x∈ka∨x∈kb)→Q (.ref s.heap.objs.size) { s with heap:=h2 }:=fun h2 ks hsb2 hS2 hx=>h h2 ks hS2 hx (keep h2 hsb2)
 by_cases hk:ka=[]
 ·subst hk
  refine Zi6 (s:={ s with heap:=h1 }) (hne hb.lt) (hnil rfl) hled hb1' hnb fun h2 hsb2 hS2 _=>?_
  refine wpAny_pure (wpAny_pure ⟨_,rfl,by simp,fin h2 kb hsb2 hS2 fun x=>⟨.inr,fun z=>z.elim (fun z=>by cases z) id⟩⟩)
 ·refine ZnA (s:={ s with heap:=h1 }) (hne hb.lt) hk hS1 hb1' (by omega) (fun ob' ho' s' Q' ho2 q'=>?_) fun h2 ks hsb2 hS2 hx=>?_
  ·have e:ob'=ob:=by
    have:=ho'.symm.trans ho
    exact Option.some.inj this
   subst e
   unfold Builtin.Frozenset.unchanged
   refine wpAny_bind (wpAny_setEpoch_of ho2 hd T.ft ?_)
   rw [if_neg (by simp)]
   exact wpAny_pure q'
  ·exact wpAny_pure (wpAny_pure ⟨_,rfl,by simp,fin h2 ks hsb2 hS2 hx⟩)
end
end L3
namespace L3
open PySem PySem.Spec PyProof.Rows L2
theorem Zf6:Slot "set_iterator" "__next__" "set_iterator.__next__":=.of (owner:="set_iterator") (n:="__next__") (by rw [typeLookup_type,builtinLookup_eq_fast];kernel_rfl) (by decide +kernel) (by decide +kernel) (by decide +kernel) (by first | exact .inl (by decide +kernel) | exact .inr (by decide +kernel)) (by rw [isSubtype_type];kernel_rfl)
theorem ZoH:Slot "set" "__iter__" "set.__iter__":=.of (owner:="set") (n:="__iter__") (by rw [typeLookup_type,builtinLookup_eq_fast];kernel_rfl) (by decide +kernel) (by decide +kernel) (by decide +kernel) (by first | exact .inl (by decide +kernel) | exact .inr (by decide +kernel)) (by rw [isSubtype_type];kernel_rfl)
theorem Zm9:entryFor table "set_iterator.__next__"=some Builtin.«set_iterator.__next__»:=entryFor_of_fast (by kernel_rfl)
theorem ZqU:entryFor table "set.__iter__"=some Builtin.«frozenset.__iter__»:=entryFor_alias (id':="frozenset.__iter__") (by kernel_rfl) rfl (by decide +kernel) (by kernel_rfl)
theorem Zpe (a:Value):argsOk "set_iterator.__next__" ⟨[a],[]⟩:=by unfold argsOk;kernel_rfl
theorem ZsQ (a:Value):argsOk "set.__iter__" ⟨[a],[]⟩:=by unfold argsOk;kernel_rfl
section
variable {prog:Program} {w:World} {A:Around} {E:Value→Shared→Prop} {s:Shared}
theorem Zv5 {src:Source} {n:Nat} {Q:Nat→Shared→Prop} (hn:n≠0) (h:∀ i d,i < n→Q i { s with drawn:=d }):wpAny (model prog w) A (choose src n) Q E s :=
 fun _ _ _=>⟨hn,h _ _ (Nat.mod_lt _ (Nat.pos_of_ne_zero hn))⟩
theorem Zoi {α:Type}:∀ (n:Nat) (xs:List α) (s:Shared) (Q:List α→Shared→Prop),xs.length=n→(∀ ys d,ys.Perm xs→Q ys { s with drawn:=d })→wpAny (model prog w) A (drawOrder n xs) Q E s
 | 0,xs,s,Q,h,q=>by
  obtain rfl:=List.length_eq_zero_iff.mp h
  exact wpAny_pure (q [] s.drawn (List.Perm.refl _))
 | n+1,[],s,Q,h,q=>by cases h
 | n+1,x::xs,s,Q,h,q=>by
  unfold drawOrder
  refine wpAny_bind (Zv5 (by simp) fun i d hi=>?_)
  rw [List.getElem?_eq_getElem hi]
  dsimp only
  refine wpAny_bind (Zoi n _ _ _ (by rw [List.length_eraseIdx_of_lt hi];simpa using h) fun ys d' hp=>?_)
  exact wpAny_pure (q _ d' ((hp.cons _).trans (ZgS _ i hi)))
abbrev Itr (first:Value) (i:Nat) (a:Addr) (n ep:Nat):Obj:={ cls:=.type "set_iterator",data:=.fields #[first,.int i 0,.ref a,.int n 0,.int ep 0] }
inductive Md (w:World) (a T:Addr) (es:Array (Int×Value)) (ep:Nat) (t:SetTable) (l:List (Int×Value)) (h:Heap):Value→Nat→Prop where
 | drawn {ps:List Nat} {oT:Obj} {c i:Nat}:h.get? T=some oT→oT.data=.seq (ps.map fun p:Nat=>rawInt p).toArray c→ps.length=l.length→(∀ (j p:Nat),ps[j]?=some p→∃ e,es[p]?=some e∧l[j]?=some e)→Md w a T es ep t l h (.ref T) i
 | text {k i:Nat}:bt w=true→l=(pickOrder (w.params.setOrder a ep) es).toList→Md w a T es ep t l h (.int k 0) i
 | few {k i:Nat}:bt w=false→t.led=true→es.size≤1→l=es.toList→(i=0→k=0)→(∀ j:Nat,i=1→t.place[0]?=some j→k=j+1)→Md w a T es ep t l h (.int k 0) i
structure Wk (w:World) (it a T:Addr) (ob:Obj) (es:Array (Int×Value)) (ep:Nat) (t:SetTable) (l:List (Int×Value)) (i:Nat) (h:Heap):Prop where
 st:∃ first,h.get? it=some (Itr first i a es.size ep)∧Md w a T es ep t l h first i
 ob:h.get? a=some ob
theorem Md.at {w:World} {a T:Addr} {es:Array (Int×Value)} {ep:Nat} {t:SetTable} {l:List (Int×Value)} {h h':Heap} {v:Value} {i:Nat} (M:Md w a T es ep t l h v i) (k:∀ o,h.get? T=some o→h'.get? T=some o):Md w a T es ep t l h' v i:=by
 cases M with
 | drawn h1 h2 h3 h4=>exact .drawn (k _ h1) h2 h3 h4
 | text h1 h2=>exact .text h1 h2
 | few h1 h2 h3 h4 h5 h6=>exact .few h1 h2 h3 h4 h5 h6
theorem Zo2 {h:Heap} {it a:Addr} {first:Value} {i n ep:Nat} (e:h.get? it=some (Itr first i a n ep)) (j:Nat):(h.update it (Obj.mapFields (·.setIfInBounds 1 (rawInt j)))).get? it=some (Itr first j a n ep):=by
 have hz:=Heap.get?_update_self (Obj.mapFields (·.setIfInBounds 1 (rawInt j))) e (Obj.isFreed_of_fields (Obj.data_mapFields rfl _))
 rw [hz];rfl
theorem ZhC {h:Heap} {it a:Addr} {first:Value} {i n ep:Nat} (e:h.get? it=some (Itr first i a n ep)) (v:Value):(h.update it (Obj.mapFields (·.setIfInBounds 0 v))).get? it=some (Itr v i a n ep):=by
 have hz:=Heap.get?_update_self (Obj.mapFields (·.setIfInBounds 0 v)) e (Obj.isFreed_of_fields (Obj.data_mapFields rfl _))
 rw [hz];rfl
end
end L3
namespace L3
open PySem PySem.Spec PyProof.Rows L2
section
variable {prog:Program} {w:World} {A:Around} {E:Value→Shared→Prop} {s:Shared}
theorem Zkm (j k:Nat):SetTable.below #[j] k=if j < k then 1 else 0:=by
 show SetTable.below.go #[j] k 1 0 1=_
 unfold SetTable.below.go
 simp only [Nat.zero_lt_one,if_true]
 show (if j < k then SetTable.below.go #[j] k 0 1 1 else SetTable.below.go #[j] k 0 0 0)=_
 rfl
theorem Zhy {α:Type} {xs:Array α} (h:xs.size≤1):xs=#[]∨∃ x,xs=#[x]:=by
 obtain ⟨l⟩:=xs
 match l,h with
 | [],_=>exact .inl rfl
 | [x],_=>exact .inr ⟨x,rfl⟩
theorem Zpt {it a T:Addr} {ob:Obj} {es:Array (Int×Value)} {ep:Nat} {t:SetTable} {ks:List Str} {l:List (Int×Value)} {i:Nat} {e:Int×Value} {Q:Option Value→Shared→Prop} (hx:ob.ExactSet) (hd:ob.data=.set es ep t) (Tb:Tab w es t ks) (hia:a≠it) (hiT:T≠it) (S:Wk w it a T ob es ep t l i s.heap) (hl:l[i]?=some e)
  (hQ:∀ h',Wk w it a T ob es ep t l (i+1) h'→Heap.SameBut it s.heap h'→Q (some e.2) { s with heap:=h' }):wpAny (model prog w) A (pyNext (.ref it)) Q E s:=by
 obtain ⟨⟨first,hi,M⟩,ho⟩:=S
 have hT:s.TypeIs (.ref it) "set_iterator":=⟨_,hi,rfl⟩
 unfold pyNext
 refine wpAny_bind (wpAny_attempt (wpAny_callSpecial?_slot (name:=Str.ofString "__next__") hT Zf6 (wpAny_call_entry Zf6 hT Zm9 ?_ (Zpe _))))
 unfold Builtin.«set_iterator.__next__»
 refine wpAny_bind (wpAny_pure (a:=(Value.ref it,([]:List Value))) ?_)
 refine wpAny_bind (wpAny_fieldsOf hi rfl ?_)
 dsimp only
 refine wpAny_bind (wpAny_setEntries_of ho hd Tb.ft ?_)
 rw [if_neg (by simp)]
 have two:∀ (v:Value),Md w a T es ep t l s.heap v (i+1)→Q (some e.2) { s with heap:=(s.heap.update it (Obj.mapFields (·.setIfInBounds 0 v))).update it (Obj.mapFields (·.setIfInBounds 1 (rawInt (i+1)))) }:=fun v M'=>by
  have sb:=(Heap.SameBut.update s.heap it (Obj.mapFields (·.setIfInBounds 0 v))).trans (Heap.SameBut.update _ it (Obj.mapFields (·.setIfInBounds 1 (rawInt (i+1)))))
  refine hQ _ ⟨⟨v,Zo2 (ZhC hi v) (i+1),M'.at fun o z=>by rw [sb.2 T hiT];exact z⟩,by rw [sb.2 a hia];exact ho⟩ sb
 cases M with
 | drawn h1 h2 h3 h4 =>
  rename_i ps oT c
  obtain ⟨p,hp⟩:∃ p,ps[i]?=some p:=by
   obtain ⟨hlt,_⟩:=List.getElem?_eq_some_iff.mp hl
   exact ⟨_,List.getElem?_eq_getElem (by omega)⟩
  obtain ⟨e',he,hl'⟩:=h4 i p hp
  obtain rfl:e'=e:=Option.some.inj (hl'.symm.trans hl)
  dsimp only
  refine wpAny_bind (wpAny_seqItems h1 h2 ?_)
  dsimp only
  have hq:(ps.map fun p:Nat=>rawInt p).toArray[(Int.ofNat i).toNat]?=some (rawInt p):=by
   simp [hp]
  have hq':(ps.map fun p:Nat=>rawInt p).toArray[((i:Int)).toNat]?=some (.int (p:Int) 0):=hq
  rw [hq']
  dsimp only
  refine wpAny_bind ?_
  unfold setNextDrawn
  refine wpAny_bind (wpAny_setState_of ho hd Tb.ft ?_)
  dsimp only
  rw [if_neg (by simp)]
  rw [show ((p:Int)).toNat=p from Int.toNat_natCast p,he]
  dsimp only
  refine wpAny_pure (wpAny_bind (wpAny_setField hi rfl (by simp) (wpAny_pure ⟨_,rfl,wpAny_pure ?_⟩)))
  have sb:=Heap.SameBut.update s.heap it (Obj.mapFields (·.setIfInBounds 1 (rawInt (i+1))))
  exact hQ _ ⟨⟨_,Zo2 hi (i+1),.drawn (by rw [sb.2 T hiT];exact h1) h2 h3 h4⟩,by rw [sb.2 a hia];exact ho⟩ sb
 | text h1 h2 =>
  rename_i k
  dsimp only
  refine wpAny_bind ?_
  unfold setNext
  refine wpAny_bind (wpAny_setState_of ho hd Tb.ft ?_)
  dsimp only
  unfold setsByText
  refine wpAny_bind (wpAny_bind (wpAny_askSetting (wpAny_pure ?_)))
  show wpAny (model prog w) _ (if bt w=true then _ else _) _ _ s
  rw [if_pos h1,if_neg (by simp)]
  unfold setWalk
  refine wpAny_bind (wpAny_bind (wpAny_setState_of ho hd Tb.ft ?_))
  dsimp only
  unfold setsByText
  refine wpAny_bind (wpAny_bind (wpAny_askSetting (wpAny_pure ?_)))
  show wpAny (model prog w) _ (if bt w=true then _ else _) _ _ s
  rw [if_pos h1]
  refine wpAny_bind (wpAny_askSetting (wpAny_pure ?_))
  subst h2
  rw [Array.getElem?_toList] at hl
  show wpAny (model prog w) _ (pure (((pickOrder (w.params.setOrder a ep) es)[((i:Int)).toNat]?).map _)) _ _ s
  rw [show ((i:Int)).toNat=i from Int.toNat_natCast i,hl]
  refine wpAny_pure ?_
  dsimp only [Option.map_some]
  refine wpAny_bind (wpAny_setField hi rfl (by simp) ?_)
  refine wpAny_bind (wpAny_setField (ZhC hi _) rfl (by simp) (wpAny_pure ⟨_,rfl,wpAny_pure ?_⟩))
  exact two _ (.text h1 rfl)
 | few h1 h2 h3 h4 h5 h6 =>
  rename_i k
  subst h4
  rw [Array.getElem?_toList] at hl
  have hft:=Tb.ft
  rcases Zhy h3 with z | ⟨x,z⟩
  ·rw [z] at hl;simp at hl
  ·rw [z] at hl
   have hi0:i=0:=by
    obtain ⟨hlt,_⟩:=Array.getElem?_eq_some_iff.mp hl
    simpa using hlt
   subst hi0
   obtain rfl:x=e:=by simpa using hl
   obtain rfl:=h5 rfl
   have hps:t.place.size=1:=by
    unfold SetTable.fits at hft
    rw [z] at hft
    simp only [Bool.and_eq_true,beq_iff_eq] at hft
    exact hft.1
   obtain ⟨j,hj⟩:∃ j,t.place=#[j]:=by
    rcases Zhy (by omega:t.place.size≤1) with q | q
    ·rw [q] at hps;cases hps
    ·exact q
   dsimp only
   refine wpAny_bind ?_
   unfold setNext
   refine wpAny_bind (wpAny_setState_of ho hd Tb.ft ?_)
   dsimp only
   unfold setsByText
   refine wpAny_bind (wpAny_bind (wpAny_askSetting (wpAny_pure ?_)))
   show wpAny (model prog w) _ (if bt w=true then _ else _) _ _ s
   rw [if_neg (by rw [h1];decide)]
   show wpAny (model prog w) _ (if (!t.plain&&decide (es.size > 1))=true then _ else _) _ _ s
   rw [if_neg (by have:¬ es.size > 1:=by omega
                  simp [this])]
   refine wpAny_bind ?_
   show wpAny (model prog w) _ (if (!t.led&&!es.isEmpty)=true then _ else pure ()) _ _ s
   rw [if_neg (by rw [h2];simp)]
   refine wpAny_pure ?_
   show wpAny (model prog w) _ (pure (match es[SetTable.below t.place 0]?,t.place[SetTable.below t.place 0]? with | some (_,x),some j=>some (x,j+1) | _,_=>none)) _ _ s
   rw [hj,Zkm,if_neg (by omega),z]
   refine wpAny_pure ?_
   refine wpAny_bind (wpAny_setField hi rfl (by simp) ?_)
   refine wpAny_bind (wpAny_setField (ZhC hi _) rfl (by simp) (wpAny_pure ⟨_,rfl,wpAny_pure ?_⟩))
   refine two _ (.few (k:=j+1) h1 h2 h3 rfl (fun q=>by cases q) fun j' _ q=>?_)
   rw [hj] at q
   have:j=j':=by simpa using q
   omega
end
end L3
set_option Elab.async false
set_option linter.all false
set_option maxRecDepth 100000
set_option maxHeartbeats 4000000
namespace L3
open PySem PySem.Spec PyProof.Rows L2
section
variable {prog:Program} {w:World} {A:Around} {E:Value→Shared→Prop} {s:Shared}
theorem Zl8 {it:Addr} {h0 h1:Heap} {R:Fin→Shared→Prop} {Q:Option Value→Shared→Prop} (hh:A.handled=none) (x:Heap.ExtBut it h0 h1) (hQ:∀ h',Heap.ExtBut it h0 h'→Q none { s with heap:=h' }) :
  wpAny (model prog w) A.in1 (do let e ← newExc (.type "StopIteration") [];raiseNew e) R (fun e s'=>wpAny (model prog w) A (do let b ← isInstance e (.type "StopIteration");if b=true then pure none else throw e) Q E s') { s with heap:=h1 }:=by
 refine wpAny_bind ?_
 simp only [newExc,newTuple]
 refine wpAny_bind (wpAny_newObj_type ?_ (by size_fits))
 refine wpAny_bind (m:=firstArgMember _ _) (wpAny_of_eq (a:=Value.none) (by first | rfl | (simp only [firstArgMember];rfl)) (wpAny_newObj_type ?_ (by size_fits)))
 simp only [raiseNew]
 refine wpAny_bind (wpAny_handled ?_)
 rw [show A.in1.handled=none from hh]
 refine wpAny_bind (wpAny_pure (wpAny_throw ?_));refine wpAny_bind (wpAny_isInstance (T:="StopIteration") (b:=true) ⟨_,Heap.get?_push_size _ rfl,rfl⟩ isSubtype_stop ?_)
 exact wpAny_pure (hQ _ ((x.push _).push _))
theorem ZoA {it a T:Addr} {ob:Obj} {es:Array (Int×Value)} {ep:Nat} {t:SetTable} {ks:List Str} {l:List (Int×Value)} {i:Nat} {Q:Option Value→Shared→Prop} (hh:A.handled=none) (hx:ob.ExactSet) (hd:ob.data=.set es ep t) (Tb:Tab w es t ks) (S:Wk w it a T ob es ep t l i s.heap) (hl:l.length=i) (hes:es.size=i)
  (hQ:∀ h',Heap.ExtBut it s.heap h'→Q none { s with heap:=h' }):wpAny (model prog w) A (pyNext (.ref it)) Q E s:=by
 obtain ⟨⟨first,hi,M⟩,ho⟩:=S
 have hT:s.TypeIs (.ref it) "set_iterator":=⟨_,hi,rfl⟩
 unfold pyNext
 refine wpAny_bind (wpAny_attempt (wpAny_callSpecial?_slot (name:=Str.ofString "__next__") hT Zf6 (wpAny_call_entry Zf6 hT Zm9 ?_ (Zpe _))))
 unfold Builtin.«set_iterator.__next__»
 refine wpAny_bind (wpAny_pure (a:=(Value.ref it,([]:List Value))) ?_)
 refine wpAny_bind (wpAny_fieldsOf hi rfl ?_)
 dsimp only
 refine wpAny_bind (wpAny_setEntries_of ho hd Tb.ft ?_)
 rw [if_neg (by simp)]
 have e1:((i:Int)).toNat=i:=Int.toNat_natCast i
 cases M with
 | drawn h1 h2 h3 h4 =>
  rename_i ps oT c
  dsimp only
  refine wpAny_bind (wpAny_seqItems h1 h2 ?_)
  dsimp only
  have hq:(ps.map fun p:Nat=>rawInt p).toArray[((i:Int)).toNat]?=none:=by
   rw [e1];simp;omega
  rw [hq]
  dsimp only
  refine wpAny_bind (wpAny_setField hi rfl (by simp) ?_)
  refine wpAny_bind (wpAny_setField (ZhC hi _) rfl (by simp) ?_)
  exact Zl8 hh ((Heap.SameBut.update s.heap it (Obj.mapFields (·.setIfInBounds 0 (rawInt 0)))).trans (Heap.SameBut.update _ it _)).extBut hQ
 | text h1 h2 =>
  rename_i k
  dsimp only
  refine wpAny_bind ?_
  unfold setNext
  refine wpAny_bind (wpAny_setState_of ho hd Tb.ft ?_)
  dsimp only
  unfold setsByText
  refine wpAny_bind (wpAny_bind (wpAny_askSetting (wpAny_pure ?_)))
  show wpAny (model prog w) _ (if bt w=true then _ else _) _ _ s
  rw [if_pos h1,if_neg (by simp)]
  unfold setWalk
  refine wpAny_bind (wpAny_bind (wpAny_setState_of ho hd Tb.ft ?_))
  dsimp only
  unfold setsByText
  refine wpAny_bind (wpAny_bind (wpAny_askSetting (wpAny_pure ?_)))
  show wpAny (model prog w) _ (if bt w=true then _ else _) _ _ s
  rw [if_pos h1]
  refine wpAny_bind (wpAny_askSetting (wpAny_pure ?_))
  show wpAny (model prog w) _ (pure (((pickOrder (w.params.setOrder a ep) es)[((i:Int)).toNat]?).map _)) _ _ s
  have hn:(pickOrder (w.params.setOrder a ep) es)[i]?=none:=by
   rw [← Array.getElem?_toList,← h2]
   exact List.getElem?_eq_none (by omega)
  rw [e1,hn]
  refine wpAny_pure ?_
  dsimp only [Option.map_none]
  refine wpAny_bind (wpAny_setField hi rfl (by simp) ?_)
  exact Zl8 hh (Heap.SameBut.update s.heap it _).extBut hQ
 | few h1 h2 h3 h4 h5 h6 =>
  rename_i k
  have hft:=Tb.ft
  have hnone:es[SetTable.below t.place k]?=none:=by
   refine Array.getElem?_eq_none ?_
   rcases Zhy h3 with z | ⟨x,z⟩
   ·rw [z];exact Nat.zero_le _
   ·have hps:t.place.size=1:=by
     unfold SetTable.fits at hft
     rw [z] at hft
     simp only [Bool.and_eq_true,beq_iff_eq] at hft
     exact hft.1
    obtain ⟨j,hj⟩:∃ j,t.place=#[j]:=by
     rcases Zhy (by omega:t.place.size≤1) with q | q
     ·rw [q] at hps;cases hps
     ·exact q
    have hi1:i=1:=by rw [← hes,z];rfl
    have:=h6 j hi1 (by rw [hj];rfl)
    rw [hj,this,Zkm,if_pos (by omega),z]
    exact Nat.le_refl _
  dsimp only
  refine wpAny_bind ?_
  unfold setNext
  refine wpAny_bind (wpAny_setState_of ho hd Tb.ft ?_)
  dsimp only
  unfold setsByText
  refine wpAny_bind (wpAny_bind (wpAny_askSetting (wpAny_pure ?_)))
  show wpAny (model prog w) _ (if bt w=true then _ else _) _ _ s
  rw [if_neg (by rw [h1];decide)]
  show wpAny (model prog w) _ (if (!t.plain&&decide (es.size > 1))=true then _ else _) _ _ s
  rw [if_neg (by have:¬ es.size > 1:=by omega
                 simp [this])]
  refine wpAny_bind ?_
  show wpAny (model prog w) _ (if (!t.led&&!es.isEmpty)=true then _ else pure ()) _ _ s
  rw [if_neg (by rw [h2];simp)]
  refine wpAny_pure ?_
  show wpAny (model prog w) _ (pure (match es[SetTable.below t.place ((k:Int)).toNat]?,t.place[SetTable.below t.place ((k:Int)).toNat]? with | some (_,x),some j=>some (x,j+1) | _,_=>none)) _ _ s
  rw [show ((k:Int)).toNat=k from Int.toNat_natCast k,hnone]
  refine wpAny_pure ?_
  refine wpAny_bind (wpAny_setField hi rfl (by simp) ?_)
  exact Zl8 hh (Heap.SameBut.update s.heap it _).extBut hQ
theorem Zn0:Slot "set_iterator" "__iter__" "set_iterator.__iter__":=.of (owner:="set_iterator") (n:="__iter__") (by rw [typeLookup_type,builtinLookup_eq_fast];kernel_rfl) (by decide +kernel) (by decide +kernel) (by decide +kernel) (by first | exact .inl (by decide +kernel) | exact .inr (by decide +kernel)) (by rw [isSubtype_type];kernel_rfl)
theorem ZqY:entryFor table "set_iterator.__iter__"=some Builtin.«dict_keyiterator.__iter__»:=entryFor_alias (id':="dict_keyiterator.__iter__") (by kernel_rfl) rfl (by decide +kernel) (by kernel_rfl)
theorem ZsD (a:Value):argsOk "set_iterator.__iter__" ⟨[a],[]⟩:=by unfold argsOk;kernel_rfl
theorem ZoE {it a T:Addr} {ob:Obj} {es:Array (Int×Value)} {ep:Nat} {t:SetTable} {ks:List Str} {l:List (Int×Value)} (hh:A.handled=none) (hx:ob.ExactSet) (hd:ob.data=.set es ep t) (Tb:Tab w es t ks) (hia:a≠it) (hiT:T≠it) (hl:l.length=es.size) :
  Walks prog w A it [it,a,T] [it] es.size (fun i v=>∃ e,l[i]?=some e∧v=e.2) (fun i h=>Wk w it a T ob es ep t l i h) where
 sub:=fun b hb=>by simp at hb;simp [hb]
 frame:=fun _ _ _ st hk=>by
  obtain ⟨⟨first,hi,M⟩,ho⟩:=st
  exact ⟨⟨first,hk it (by simp) _ hi,M.at fun o e=>hk T (by simp) o e⟩,hk a (by simp) _ ho⟩
 item:=fun i s Q E hi st hQ=>by
  obtain ⟨e,he⟩:∃ e,l[i]?=some e:=⟨_,List.getElem?_eq_getElem (by omega)⟩
  refine Zpt hx hd Tb hia hiT st he fun h' W hs'=>?_
  exact hQ _ h' s.toks ⟨e,he,rfl⟩ W (fun b o hb z=>hs'.extBut b o (fun h=>hb (by simp [h])) z)
 done:=fun s Q E st hQ=>ZoA hh hx hd Tb st hl rfl fun h' he'=>hQ h' s.toks fun b o hb e=>he' b o (fun h=>hb (by simp [h])) e
 self:=fun _ s Q E st hQ=>by
  obtain ⟨⟨first,hi,M⟩,ho⟩:=st
  have hT:s.TypeIs (.ref it) "set_iterator":=⟨_,hi,rfl⟩
  refine wpAny_pyIter_slot hT Zn0 (wpAny_call_entry Zn0 hT ZqY (wpAny_pure ⟨_,rfl,"set_iterator",_,hT,Zf6.lookup,hQ⟩) (ZsD _))
end
end L3
namespace L3
open PySem PySem.Spec PyProof.Rows L2
theorem Zq6 {α:Type} {es:Array α}:∀ {ys:List Nat},(∀ p∈ys,p < es.size)→(ys.filterMap (es[·]?)).length=ys.length∧∀ (j p:Nat),ys[j]?=some p→∃ e,es[p]?=some e∧(ys.filterMap (es[·]?))[j]?=some e
 | [],_=>⟨rfl,fun j p h=>by simp at h⟩
 | y::ys,h=>by
  have hy:es[y]?=some (es[y]'(h y List.mem_cons_self)):=Array.getElem?_eq_getElem _
  obtain ⟨h1,h2⟩:=Zq6 (ys:=ys) fun p hp=>h p (List.mem_cons_of_mem _ hp)
  rw [List.filterMap_cons,hy]
  refine ⟨by simp [h1],fun j p hj=>?_⟩
  cases j with
  | zero =>
   simp only [List.getElem?_cons_zero,Option.some.injEq] at hj
   subst hj
   exact ⟨_,hy,rfl⟩
  | succ j =>
   simp only [List.getElem?_cons_succ] at hj ⊢
   exact h2 j p hj
section
variable {prog:Program} {w:World} {A:Around} {E:Value→Shared→Prop} {s:Shared}
theorem ZqM {a:Addr} {ob:Obj} {es:Array (Int×Value)} {ep:Nat} {t:SetTable} {ks:List Str} {Q:Value→Shared→Prop} (ho:s.heap.get? a=some ob) (hx:ob.ExactSet) (hd:ob.data=.set es ep t) (Tb:Tab w es t ks) (hn:ks.length < scanBound)
  (h:∀ it T l h' d,s.heap.objs.size≤it→T≠it→(T=a∨s.heap.objs.size≤T)→(∀ c o,s.heap.get? c=some o→h'.get? c=some o)→Wk w it a T ob es ep t l 0 h'→l.Perm es.toList→T < h'.objs.size→it < h'.objs.size→Q (.ref it) { s with heap:=h',drawn:=d }):wpAny (model prog w) A (pyIter (.ref a)) Q E s:=by
 have hT:s.TypeIs (.ref a) "set":=⟨ob,ho,hx.1⟩
 have hlt:a < s.heap.objs.size:=Heap.lt_size ho
 have hz:=Tb.len
 refine wpAny_pyIter_slot hT ZoH (wpAny_call_entry ZoH hT ZqU ?_ (ZsQ _))
 unfold Builtin.«frozenset.__iter__»
 refine wpAny_bind (m:=Builtin.Frozenset.slot0 "__iter__" ⟨[.ref a],[]⟩) (wpAny_pure (a:=a) ?_)
 refine wpAny_bind (m:=Builtin.Frozenset.sizeOf a) (wpAny_bind (wpAny_setEntries_of ho hd Tb.ft (wpAny_pure ?_)))
 refine wpAny_bind ?_
 unfold setDrawn
 refine wpAny_bind (wpAny_setState_of ho hd Tb.ft ?_)
 dsimp only
 unfold setsByText
 refine wpAny_bind (wpAny_bind (wpAny_askSetting (wpAny_pure ?_)))
 show wpAny (model prog w) _ (pure (!(bt w)&&(!t.plain&&decide (es.size > 1)))) _ _ s
 refine wpAny_pure ?_
 by_cases hc:(!(bt w)&&(!t.plain&&decide (es.size > 1)))=true
 ·rw [if_pos hc]
  refine wpAny_bind (Zoi es.size (List.range es.size) s _ (List.length_range) fun ys d hp=>?_)
  have hyl:ys.length=es.size:=by rw [hp.length_eq,List.length_range]
  refine wpAny_bind (wpAny_newTuple (items:=ys.map fun i:Nat=>rawInt i) ?_ (by rw [List.length_map,hyl,hz];exact fits_of_scanBound hn))
  refine wpAny_bind (wpAny_setEpoch_of (s:={ s with heap:=s.heap.push _,drawn:=d }) (Heap.get?_push_of_some _ ho) hd Tb.ft ?_)
  simp only [newFields]
  refine wpAny_bind (wpAny_newObj_type ?_ (by show (5:Nat)≤sizeLine+2;decide))
  refine wpAny_pure ⟨_,rfl,"set_iterator",_,⟨_,Heap.get?_push_size _ rfl,rfl⟩,Zf6.lookup,?_⟩
  obtain ⟨hpl,hpj⟩:=Zq6 (es:=es) (ys:=ys) fun p z=>List.mem_range.mp (hp.mem_iff.mp z)
  have hperm:(ys.filterMap (es[·]?)).Perm es.toList:=by
   have hz2:=L3.Tb.order_perm es ys.toArray (by simpa using hp)
   simpa using hz2
  refine h _ s.heap.objs.size (ys.filterMap (es[·]?)) _ d ?_ ?_ (.inr (Nat.le_refl _)) (fun c o e=>Heap.get?_push_of_some _ (Heap.get?_push_of_some _ e)) ⟨⟨_,Heap.get?_push_size _ rfl,.drawn (Heap.get?_push_of_some _ (Heap.get?_push_size _ rfl)) rfl hpl.symm hpj⟩,Heap.get?_push_of_some _ (Heap.get?_push_of_some _ ho)⟩ hperm ?_ ?_
  ·rw [Heap.size_push];exact Nat.le_succ _
  ·rw [Heap.size_push];exact Nat.ne_of_lt (Nat.lt_succ_self _)
  ·rw [Heap.size_push,Heap.size_push];exact Nat.lt_succ_of_lt (Nat.lt_succ_self _)
  ·simp only [Heap.size_push];exact Nat.lt_succ_self _
 ·rw [if_neg hc]
  refine wpAny_bind (wpAny_pure ?_)
  refine wpAny_bind (wpAny_setEpoch_of ho hd Tb.ft ?_)
  simp only [newFields]
  refine wpAny_bind (wpAny_newObj_type ?_ (by show (5:Nat)≤sizeLine+2;decide))
  refine wpAny_pure ⟨_,rfl,"set_iterator",_,⟨_,Heap.get?_push_size _ rfl,rfl⟩,Zf6.lookup,?_⟩
  have fin:∀ l,l.Perm es.toList→Md w a a es ep t l (s.heap.push (Itr (rawInt 0) 0 a es.size ep)) (rawInt 0) 0→Q (.ref s.heap.objs.size) { s with heap:=s.heap.push (Itr (rawInt 0) 0 a es.size ep) }:=fun l hp M =>
   h _ a l _ s.drawn (Nat.le_refl _) (Nat.ne_of_lt hlt) (.inl rfl) (fun c o e=>Heap.get?_push_of_some _ e) ⟨⟨_,Heap.get?_push_size _ rfl,M⟩,Heap.get?_push_of_some _ ho⟩ hp (by rw [Heap.size_push];exact Nat.lt_succ_of_lt hlt) (by rw [Heap.size_push];exact Nat.lt_succ_self _)
  by_cases hb:bt w=true
  ·exact fin _ (Zk1 _ _) (.text (k:=0) hb rfl)
  ·have hb':bt w=false:=by simpa using hb
   have h1:es.size≤1:=by
    rw [hb'] at hc
    simp only [Bool.not_false,Bool.true_and,Bool.and_eq_true,decide_eq_true_eq,not_and] at hc
    cases hpl:t.plain with
    | true=>have:=Tb.pl hpl;subst this;rw [hz];decide
    | false=>have:=hc (by rw [hpl];rfl);omega
   exact fin es.toList (List.Perm.refl _) (.few (k:=0) hb' (Tb.ld hb') h1 rfl (fun _=>rfl) fun j z=>by cases z)
end
end L3
namespace L3
open PySem PySem.Spec PyProof.Rows L2
theorem ZpK:Slot "set" "__len__" "set.__len__":=.of (owner:="set") (n:="__len__") (by rw [typeLookup_type,builtinLookup_eq_fast];kernel_rfl) (by decide +kernel) (by decide +kernel) (by decide +kernel) (by first | exact .inl (by decide +kernel) | exact .inr (by decide +kernel)) (by rw [isSubtype_type];kernel_rfl)
section
variable {prog:Program} {w:World} {A:Around} {E:Value→Shared→Prop} {s:Shared}
theorem ZqB {a:Addr} {Q:Bool→Shared→Prop} (hT:s.TypeIs (.ref a) "set") (q:Q false s):wpAny (model prog w) A (Builtin.List.listLengthHint (.ref a)) Q E s:=by
 unfold Builtin.List.listLengthHint
 refine wpAny_bind (wpAny_specialOf hT ZpK.lookup ?_)
 have hs:splitId "set.__len__"=some ("set","__len__"):=by kernel_rfl
 dsimp only
 rw [hs]
 dsimp only
 refine wpAny_bind (wpAny_isInstance hT sub_set_self ?_)
 rw [if_neg (by decide)]
 show wpAny (model prog w) A (if _=true then _ else _) Q E s
 rw [if_pos (by decide +kernel)]
 refine wpAny_bind (wpAny_typeOf hT ?_)
 exact wpAny_pure q
theorem ZlR {a:Addr} {ks:List Str} {Q:List Value→Shared→Prop} (hh:A.handled=none) (hS:SS w s.heap a ks) (hn:ks.length < scanBound)
  (h:∀ (s':Shared) (vs:List Value) (xs:List Str),StrsAre vs xs→xs.Perm ks→(∀ c o,c < s.heap.objs.size→s.heap.get? c=some o→s'.heap.get? c=some o)→s'.gens=s.gens→s'.os=s.os→s.heap.objs.size≤s'.heap.objs.size→Q vs s'):wpAny (model prog w) A (collect (.ref a)) Q E s:=by
 have hS':=hS
 obtain ⟨ob,es,ep,t,ho,hx,hd,T⟩:=hS
 have hz:=T.len
 have hlt:a < s.heap.objs.size:=Heap.lt_size ho
 unfold collect
 refine wpAny_bind (wpAny_runValue (codeAny_builtin PySem.F.entry_proto_collect ?_));rw [Around.under_plainId PySem.F.plain_proto_collect _]
 refine wpAny_bind (m:=newList []) (wpAny_newList ?_ (Nat.zero_le _))
 refine wpAny_pure ⟨plainId_quiet PySem.F.plain_list_iadd _,codeAny_builtin PySem.F.entry_list_iadd ?_⟩;rw [Around.under_plainId PySem.F.plain_list_iadd _]
 have hne:s.heap.objs.size≠a:=Ne.symm (Nat.ne_of_lt hlt)
 have ho1:(s.heap.push (seqObj "list" #[] 0)).get? a=some ob:=Heap.get?_push_of_some _ ho
 have hT1:Shared.TypeIs { s with heap:=s.heap.push (seqObj "list" #[] 0) } (.ref a) "set":=⟨ob,ho1,hx.1⟩
 refine (?_:wpAny (model prog w) A.in1 (Builtin.List.listExtendWith (.ref s.heap.objs.size) (.ref a) (.ref s.heap.objs.size)) _ _ { s with heap:=s.heap.push (seqObj "list" #[] 0) })
 unfold Builtin.List.listExtendWith
 refine wpAny_bind (wpAny_typeOf hT1 ?_)
 have c1:Builtin.List.listSameRef (.ref s.heap.objs.size) (.ref a)=false:=by simp [Builtin.List.listSameRef,hne]
 have c2:(Value.type "set"==Value.type "list")=false:=by decide
 have c3:(Value.type "set"==Value.type "tuple")=false:=by decide
 simp only [c1,c2,c3,Bool.or_false,Bool.false_eq_true,if_false]
 refine wpAny_bind (ZqM ho1 hx hd T hn fun it Tp l h' d hit hTit hTa keep W hp hTl hil=>?_)
 obtain ⟨⟨first,hi,M⟩,hob⟩:=id W
 have hT2:Shared.TypeIs { s with heap:=h',drawn:=d } (.ref a) "set":=⟨ob,hob,hx.1⟩
 refine wpAny_bind (wpAny_holding (ZqB hT2 ?_))
 refine (?_:wpAny (model prog w) A.in1 (rule "list.extend.makes-room" >>= fun _=>Builtin.List.listTouch (.ref s.heap.objs.size) >>= fun _=>again (.builtin "list.extend.loop" ⟨[.ref s.heap.objs.size,.ref it,.ref s.heap.objs.size],[]⟩)) _ _ { s with heap:=h',drawn:=d })
 refine wpAny_bind (wpAny_rule ?_)
 have hS0:h'.get? s.heap.objs.size=some (seqObj "list" #[] 0):=keep _ _ (Heap.get?_push_size _ rfl)
 refine wpAny_bind (m:=Builtin.List.listTouch (.ref s.heap.objs.size)) (wpAny_bind (m:=updateSeq s.heap.objs.size (·.push .none)) (wpAny_updateSeq (s:={ s with heap:=h',drawn:=d }) hS0 rfl ?_))
 have hS2:=Heap.get?_update_self (Obj.mapSeq (·.push Value.none)) hS0 rfl
 refine (?_:wpAny (model prog w) A.in1 (updateSeq s.heap.objs.size (·.pop)) _ _ _)
 refine wpAny_updateSeq hS2 rfl ?_
 have hS3:=Heap.get?_update_self (Obj.mapSeq (·.pop)) hS2 rfl
 have hit0:s.heap.objs.size < it:=by rw [Heap.size_push] at hit;exact hit
 have hTs:s.heap.objs.size≠Tp:=by
  rcases hTa with e | e
  ·rw [e];exact hne
  ·rw [Heap.size_push] at e;exact Nat.ne_of_lt e
 have hSf:s.heap.objs.size∉[it,a,Tp]:=by
  simp only [List.mem_cons,List.not_mem_nil,or_false,not_or]
  exact ⟨Nat.ne_of_lt hit0,hne,hTs⟩
 have hai:a≠it:=Nat.ne_of_lt (Nat.lt_trans hlt hit0)
 have hll:l.length=es.size:=by rw [hp.length_eq,Array.length_toList]
 have WS:=(ZoE (prog:=prog) (w:=w) (A:=A.in1) (by simp [hh]) hx hd T hai hTit hll).toS
 have oth:∀ b o,b≠s.heap.objs.size→h'.get? b=some o→((h'.update s.heap.objs.size (Obj.mapSeq (·.push Value.none))).update s.heap.objs.size (Obj.mapSeq (·.pop))).get? b=some o :=
  fun b o hb e=>(Heap.get?_update_other _ _ (Ne.symm hb)).trans ((Heap.get?_update_other _ _ (Ne.symm hb)).trans e)
 refine wpAny_pure ⟨plainId_quiet PySem.F.plain_extend_loop _,codeAny_extend_loopS WS (fits_of_scanBound (by rw [hz];exact hn)) _ hSf _ es.size 0 _ _ _ rfl (Nat.zero_le _)
  ⟨⟨first,oth _ _ (Ne.symm (Nat.ne_of_lt hit0)) hi,M.at fun o e=>oth _ _ (Ne.symm hTs) e⟩,oth _ _ (Ne.symm hne) hob⟩ hS3 (ItemsOf.nil _) fun s' acc c hm hS' hacc=>?_⟩
 refine wpAny_bind (m:=load s.heap.objs.size) (wpAny_load hS' (wpAny_pure ?_))
 have hvs:acc.toList=l.map (·.2):=by
  apply List.ext_getElem?
  intro i
  rw [List.getElem?_map,Array.getElem?_toList]
  by_cases hi':i < acc.size
  ·obtain ⟨e,he,hv⟩:=hacc.2 i _ (Array.getElem?_eq_getElem hi')
   rw [Array.getElem?_eq_getElem hi',he,hv];rfl
  ·rw [Array.getElem?_eq_none (by omega),List.getElem?_eq_none (by rw [hll,← hacc.1];omega)];rfl
 have hall:∀ v∈l.map (·.2),∃ x t,v=Value.str x t:=fun v hv=>by
  obtain ⟨e,he,rfl⟩:=List.mem_map.mp hv
  obtain ⟨x,u,rfl⟩:=T.el e (hp.mem_iff.mp he)
  exact ⟨x,u,rfl⟩
 refine h s' acc.toList ((l.map (·.2)).map strOf) (by rw [hvs];exact strsAre_map _ hall) ?_ (fun b o hb e=>?_) hm.gens hm.os ?_
 ·rw [List.map_map]
  exact ((hp.map _).trans T.pm)
 ·refine hm.heap b o ?_ (oth b o (Nat.ne_of_lt hb) (keep b o (Heap.get?_push_of_some _ e)))
  simp only [List.mem_cons,List.not_mem_nil,or_false,not_or]
  exact ⟨Nat.ne_of_lt hb,Nat.ne_of_lt (Nat.lt_trans hb hit0)⟩
 ·exact Nat.le_of_lt (Heap.lt_size hS')
theorem Zji {a:Addr} {ks:List Str} {Q:Value→Shared→Prop} (hh:A.handled=none) (hS:SS w s.heap a ks) (hn:ks.length < 64)
  (h:∀ (s':Shared) (p:Addr) (vs:List Value) (xs:List Str) (e:Nat),s.heap.objs.size≤p→s'.heap.get? p=some (seqObj "list" vs.toArray e)→StrsAre vs xs→xs.Perm ks→sortedS xs=true→(∀ c o,c < s.heap.objs.size→s.heap.get? c=some o→s'.heap.get? c=some o)→s'.gens=s.gens→s'.os=s.os→Q (.ref p) s') :
  wpAny (model prog w) A (call (.builtin "sorted") [.ref a]) Q E s:=by
 refine Calls.call_function_entry kind_sorted plain_sorted entry_sorted (args_sorted1 _) ?_;unfold Builtin.«sorted»
 refine wpAny_bind (m:=checkCount "sorted" 1 1 _) (wpAny_pure ?_)
 refine wpAny_bind (ZlR (by simp [hh]) hS (by unfold scanBound;omega) fun s1 vs xs hv hp keep hg hos hsz=>?_)
 have hvl:vs.length < 64:=by rw [hv.length,hp.length_eq];exact hn
 refine wpAny_bind (wpAny_newList ?_ (by have:(64:Nat)≤sizeLine:=by decide
                                         omega))
 have hoL:(s1.heap.push (seqObj "list" vs.toArray 0)).get? s1.heap.objs.size=some (seqObj "list" vs.toArray 0):=Heap.get?_push_size _ rfl
 refine wpAny_bind (wpAny_holding (wpAny_call_entry slot_list_sort ⟨_,hoL,rfl⟩ entry_list_sort (list_sort_treeK (s:={ s1 with heap:=s1.heap.push (seqObj "list" vs.toArray 0) }) strKind_oneLt hoL hv.keysOf (fun v1 v2 r e=>keyKind_strs (by rw [← e];exact hv)) hvl fun st' a1 a2=>⟨_,rfl,?_⟩) (args_list_sort _)))
 obtain ⟨xs',hv',hp',hs'⟩:=sorted_out_str hv a1 a2
 obtain ⟨e,he⟩:=sortedHeap_at (n:=0) (vs:=vs) (out:=(arrOf st').map (·.2)) hoL
 refine wpAny_pure ⟨_,rfl,h _ _ ((arrOf st').map (·.2)).toList xs' e hsz (by rw [Array.toArray_toList];exact he) hv' (hp'.trans hp) hs' (fun c o hc z=>?_) hg hos⟩
 rw [sortedHeap_old (Nat.ne_of_lt (Nat.lt_of_lt_of_le hc hsz)) (by rw [Heap.size_push];exact Nat.lt_succ_of_lt (Nat.lt_of_lt_of_le hc hsz))]
 exact Heap.get?_push_of_some _ (keep c o hc z)
end
end L3
namespace L3
open PySem PySem.Spec PyProof.Rows L2
variable {K:PySem.W.Frag} {H H' H2:Hp}
theorem Zgw:∀ {xs:List Str} {its:List Value},Vals (xs.map V.str) its→StrsAre its xs
 | [],_,.nil=>.nil
 | x::xs,_,.cons r rs=>by
  obtain ⟨t,rfl⟩:=r
  exact .cons x t (Zgw rs)
theorem ZhX:∀ {xs:List Str} {its:List Value},StrsAre its xs→Vals (xs.map V.str) its
 | [],_,.nil=>.nil
 | x::xs,_,.cons _ t rs=>.cons ⟨t,rfl⟩ (ZhX rs)
theorem ZeC {α:Type} [BEq α] [LawfulBEq α]:∀ {ks xs:List α},ks.Nodup→(∀ x∈ks,x∈xs)→ks.length≤xs.length
 | [],xs,_,_=>Nat.zero_le _
 | k::ks,xs,hn,h=>by
  have hk:=List.nodup_cons.mp hn
  have hin:k∈xs:=h k List.mem_cons_self
  have h1:=ZeC (xs:=xs.erase k) hk.2 fun x hx=>(List.mem_erase_of_ne (fun e=>hk.1 (by rw [← e];exact hx))).mpr (h x (List.mem_cons_of_mem _ hx))
  rw [List.length_erase_of_mem hin] at h1
  have:0 < xs.length:=List.length_pos_of_mem hin
  rw [List.length_cons];omega
section
variable {X:Cx} {e eb:Expr} {p1 p2 p3 q1 q2 q3 qb:Pos} {ta tb:TE}
theorem Zh7 {A:Around} {E:Value→Shared→Prop} {s:Shared} {pos:Pos} {Q:List Value→Shared→Prop} (hs:starEach [e] X.env=(false,eval e X.env)::starEach [] X.env) (h:wpAny (model X.prog X.w) A (eval e X.env) (fun v s1=>Q [v] s1) E s):wpAny (model X.prog X.w) A (spliced (backTo pos (starEach [e] X.env))) Q E s:=by
 rw [hs]
 refine Calls.spliced_cons (wpAny_mono h (fun v s1 q=>?_) fun _ _ z=>z)
 exact Calls.spliced_nil q
def Ztv (K:PySem.W.Frag) (ta tb:TE):TE:=fun σ H Q=>ta σ H fun x H1=>∃ (p:Addr) (xs:List Str),x=.ref p∧SqL K H1 p (xs.map V.str)∧xs.length < 16∧tb σ H1 fun y H2=>∃ (q:Addr) (ys:List Str),y=.ref q∧SqL K H2 q (ys.map V.str)∧ys.length < 16 ∧
 ∀ (zs:List Str) (r:Addr),zs.Nodup→sortedS zs=true→(∀ x,x∈zs↔x∈xs∨x∈ys)→H2 r=none→Q (.ref r) (upd H2 r (.lst (zs.map V.str)))
theorem ZpV (hc:X.calm=true) (n1:X.mg "sorted"=none) (n2:X.mg "set"=none) (g1:Gl X "sorted") (g2:Gl X "set") (h1:starEach [e] X.env=(false,eval e X.env)::starEach [] X.env) (h2:starEach [eb] X.env=(false,eval eb X.env)::starEach [] X.env)
  (h3:starEach [.BinOp (.Call (.Name "set" p1) [e] [] q1) .BitOr (.Call (.Name "set" p2) [eb] [] q2) qb] X.env=(false,eval (.BinOp (.Call (.Name "set" p1) [e] [] q1) .BitOr (.Call (.Name "set" p2) [eb] [] q2) qb) X.env)::starEach [] X.env) (ha:PE X e ta) (hb:PE X eb tb) :
  PE X (.Call (.Name "sorted" p3) [.BinOp (.Call (.Name "set" p1) [e] [] q1) .BitOr (.Call (.Name "set" p2) [eb] [] q2) qb] [] q3) (Ztv X.K ta tb):=by
 intro pins s σ H Q I h
 have bS:bootBuiltins "sorted"=some (.builtin "sorted"):=by decide +kernel
 have bT:bootBuiltins "set"=some (.type "set"):=by decide +kernel
 have hh:X.A.handled=none:=I.ok.hd hc
 refine wpAny_Call_Name_kw (Ze8 I g1 n1 bS ?_)
 refine PyProof.Rows.callWith_builtin1 (Zh7 h3 ?_) h3 rfl
 refine wpAny_BinOp ?_
 refine wpAny_Call_Name_kw (Ze8 I g2 n2 bT ?_)
 refine PyProof.Rows.callWith_type1 (Zh7 h1 ?_) h1 rfl
 refine thn (ha pins s σ H _ I h) fun v s1 zz1=>?_
 obtain ⟨x,H1,I1,r1,p,xs,ex,hq,hn,q1⟩:=zz1
 subst ex
 cases r1
 obtain ⟨its,rv,pl,hz⟩:=I1.list hq
 have hil:its.length=xs.length:=by have:=rv.length;rw [List.length_map] at this;exact this.symm
 refine ZjW hh pl.isList (by simpa using Zgw rv) (by rw [List.size_toArray,hil];unfold scanBound;omega) fun h' tk ka hA hxa keep=>?_
 have hA':=hA
 obtain ⟨oa,esA,epA,tA,hoA,hxA,hdA,TA⟩:=hA
 have I2:Inv X pins σ H1 { s1 with heap:=h',toks:=tk }:=I1.kept fun b u z=>keep b u (Heap.lt_size z) z
 have I3:Inv X (pins++[(s1.heap.objs.size,oa)]) σ H1 { s1 with heap:=h',toks:=tk }:=I2.pins_of fun p hp=>by
  rcases List.mem_append.mp hp with hp | hp
  ·exact I2.pin p (List.mem_append_right _ hp)
  ·have e:=List.mem_singleton.mp hp
   subst e
   exact ⟨hoA,I1.hok.fresh (Nat.le_refl _),Ne.symm (Nat.ne_of_lt I1.lt),I1.nofs (Nat.le_refl _),fun v z=>by rw [hdA] at z;cases z⟩
 refine wpAny_Call_Name_kw (Ze8 I3 g2 n2 bT ?_)
 refine PyProof.Rows.callWith_type1 (Zh7 h2 ?_) h2 rfl
 refine thn (hb _ _ σ H1 _ I3 q1) fun v2 s2 zz2=>?_
 obtain ⟨y,H2,I4,r2,q,ys,ey,hq2,hn2,q2⟩:=zz2
 subst ey
 cases r2
 have hoA2:s2.heap.get? s1.heap.objs.size=some oa:=(I4.pin (s1.heap.objs.size,oa) (List.mem_append_right _ (List.mem_append_right _ (List.mem_singleton.mpr rfl)))).1
 have I5:Inv X pins σ H2 s2:=I4.unpinned
 obtain ⟨its2,rv2,pl2,hz2⟩:=I5.list hq2
 have hil2:its2.length=ys.length:=by have:=rv2.length;rw [List.length_map] at this;exact this.symm
 refine ZjW hh pl2.isList (by simpa using Zgw rv2) (by rw [List.size_toArray,hil2];unfold scanBound;omega) fun h'' tk2 kb hB hxb keep2=>?_
 have hA2:SS X.w h'' s1.heap.objs.size ka:=⟨oa,esA,epA,tA,keep2 _ _ (Heap.lt_size hoA2) hoA2,hxA,hdA,TA⟩
 have lka:ka.length < 16:=Nat.lt_of_le_of_lt (ZeC hA'.nd fun x hx=>(hxa x).mp hx) hn
 have lkb:kb.length < 16:=Nat.lt_of_le_of_lt (ZeC hB.nd fun x hx=>(hxb x).mp hx) hn2
 refine ZvI (s:={ s2 with heap:=h'',toks:=tk2 }) (Nat.ne_of_lt (Heap.lt_size hoA2)) hA2 hB lka lkb fun h3 kc hC hxc keep3=>?_
 have lkc:kc.length < 64:=by
  have:=ZeC (xs:=ka++kb) hC.nd fun x hx=>List.mem_append.mpr ((hxc x).mp hx)
  rw [List.length_append] at this
  omega
 refine Zji hh hC lkc fun s' r vs zs en hr hget hv hp hs keep4 hg hos=>?_
 have z1:s2.heap.objs.size < h''.objs.size:=SS.lt (s:={ s2 with heap:=h'' }) hB
 have z2:h''.objs.size < h3.objs.size:=SS.lt (s:={ s2 with heap:=h3 }) hC
 have hr2:s2.heap.objs.size≤r:=Nat.le_of_lt (Nat.lt_of_lt_of_le (Nat.lt_trans z1 z2) hr)
 have kall:∀ b u,s2.heap.get? b=some u→s'.heap.get? b=some u:=fun b u z=>by
  have y1:=keep2 b u (Heap.lt_size z) z
  have y2:=keep3 b u (Heap.lt_size y1) y1
  exact keep4 b u (Heap.lt_size y2) y2
 have hzl:zs.length≤sizeLine:=by
  have:(64:Nat)≤sizeLine:=by decide
  rw [hp.length_eq];omega
 have J:Inv X pins σ (upd H2 r (.lst (zs.map V.str))) { s2 with heap:=s'.heap,toks:=s'.toks }:=I5.laid (t':=s'.toks) kall hr2 (show ObjOk X.prog X.w _ s'.heap r (.lst (zs.map V.str)) from ⟨by rw [List.length_map];exact hzl,vs,en,ZhX hv,hget⟩)
 refine ⟨.ref r,_,⟨J.ok,by rw [hos];exact J.os,by rw [hg];exact J.bare,J.base,J.loc,J.cell,J.free,J.freeC,J.pin,J.hok,J.len⟩,rfl,q2 zs r (hp.nodup_iff.mpr hC.nd) hs (fun x=>?_) (I5.hok.fresh hr2)⟩
 rw [hp.mem_iff,hxc,hxa,hxb]
def Zgx (ga gb:GE):GE:=fun ω G Q=>ga ω G fun x G1=>∃ xs:List Str,ZiB G1 x=some (xs.map W.str)∧xs.length < 16∧gb ω G1 fun y G2=>∃ ys:List Str,ZiB G2 y=some (ys.map W.str)∧ys.length < 16 ∧
 ∀ (zs:List Str) (p:Addr),zs.Nodup→sortedS zs=true→(∀ x,x∈zs↔x∈xs∨x∈ys)→G2 p=none→Q (.ref p) (put G2 p (.lst (zs.map W.str)))
theorem ZqT {ga gb:GE} (ma:ga.M) (mb:gb.M):GE.M (Zgx ga gb):=fun ω G Q Q' h q=>ma _ _ _ _ ((by rintro x G1 ⟨xs,h1,h2,q1⟩;exact ⟨xs,h1,h2,mb _ _ _ _ ((by rintro y G2 ⟨ys,h3,h4,q2⟩;exact ⟨ys,h3,h4,fun zs p a b c d=>h _ _ (q2 zs p a b c d)⟩)) q1⟩)) q
theorem ZjH:∀ {xs:List Str} {vs:List V},TrL K H vs (xs.map W.str)→vs=xs.map V.str
 | [],_,.nil=>rfl
 | x::xs,_,.cons t ts=>by
  cases t
  rw [ZjH ts];rfl
theorem ZlJ:∀ (xs:List Str),TrL K H (xs.map V.str) (xs.map W.str)
 | []=>.nil
 | x::xs=>.cons (.str x) (ZlJ xs)
theorem ZpR {ga gb:GE} (hc:X.calm=true) (n1:X.mg "sorted"=none) (n2:X.mg "set"=none) (g1:Gl X "sorted") (g2:Gl X "set") (h1:starEach [e] X.env=(false,eval e X.env)::starEach [] X.env) (h2:starEach [eb] X.env=(false,eval eb X.env)::starEach [] X.env)
  (h3:starEach [.BinOp (.Call (.Name "set" p1) [e] [] q1) .BitOr (.Call (.Name "set" p2) [eb] [] q2) qb] X.env=(false,eval (.BinOp (.Call (.Name "set" p1) [e] [] q1) .BitOr (.Call (.Name "set" p2) [eb] [] q2) qb) X.env)::starEach [] X.env) (ha:Em X e ga) (hb:Em X eb gb) :
  Em X (.Call (.Name "sorted" p3) [.BinOp (.Call (.Name "set" p1) [e] [] q1) .BitOr (.Call (.Name "set" p2) [eb] [] q2) qb] [] q3) (Zgx ga gb):=by
 refine ⟨Zbz (ZpV hc n1 n2 g1 g2 h1 h2 h3 ha.p hb.p) fun σ H Q zz3=>?_,ZqT ha.m hb.m⟩
 obtain ⟨ω,G,ts,rh,q⟩:=zz3
 refine ⟨ω,G,ts,rh,ha.m _ _ _ _ (fun x G1 zz4 v H1 m1 tx r1=>?_) q⟩
 obtain ⟨xs,hx,hn,q1⟩:=zz4
 obtain ⟨a,vs,rfl,rfl,hG,hH,tv⟩:=Zfx r1 tx hx
 obtain rfl:=ZjH tv
 refine ⟨a,xs,rfl,.inl (.inl hH),hn,ω,G1,ts.mono m1,r1,hb.m _ _ _ _ (fun y G2 zz5 u H2 m2 ty r2=>?_) q1⟩
 obtain ⟨ys,hy,hn2,q2⟩:=zz5
 obtain ⟨b,us,rfl,rfl,hG2,hH2,tu⟩:=Zfx r2 ty hy
 obtain rfl:=ZjH tu
 refine ⟨b,ys,rfl,.inl (.inl hH2),hn2,fun zs r z1 z2 z3 z4=>?_⟩
 exact q2 zs r z1 z2 z3 (r2.no z4) _ _ (m1.trans (m2.trans (Mono.new z4 _))) (.ref r) (r2.new z4 (ZlJ zs))
end
end L3
set_option Elab.async false
set_option linter.all false
set_option maxRecDepth 100000
set_option maxHeartbeats 4000000
namespace L3
open PySem PySem.Spec PyProof.Rows L2
section
variable {prog:Program} {w:World} {A:Around} {E:Value→Shared→Prop} {s:Shared}
theorem Zlt {it l:Addr} {i:Nat} {xs:Array Value} {x:Value} {Q:Value→Shared→Prop} (u:s.heap.IsTupleIter it l i) (v:s.heap.IsTuple l xs) (hx:xs[i]?=some x) (hQ:∀ h',h'.IsTupleIter it l (i+1)→Heap.SameBut it s.heap h'→Q x { s with heap:=h' }) :
  wpAny (model prog w) A (Builtin.SmallTypes.nextOf (.ref it)) Q E s:=by
 obtain ⟨oi,ei,ci,di⟩:=id u
 obtain ⟨ol,el,_,nl,dl⟩:=v
 unfold Builtin.SmallTypes.nextOf
 refine wpAny_bind (wpAny_callSpecial?_slot (name:=Str.ofString "__next__") u.typeIs PySem.F.slot_tuple_iterator_next (wpAny_call_entry PySem.F.slot_tuple_iterator_next u.typeIs PySem.F.entry_tuple_iterator_next ?_ (PySem.F.args_tuple_iterator_next_1 _)))
 refine wpAny_bind (m:=field (.ref it) 0) (wpAny_field ei di (x:=.ref l) rfl ?_)
 show wpAny (model prog w) _ (if (Value.ref l==Value.none)=true then _ else _) _ E s
 rw [if_neg (show ¬ ((Value.ref l==Value.none)=true) from Bool.false_ne_true)];refine wpAny_bind (m:=field (.ref it) 1) (wpAny_field ei di (x:=.int i 0) rfl ?_)
 refine wpAny_bind (m:=seqItems? (.ref l)) (wpAny_seqItems el dl ?_)
 simp only [Int.toNat_natCast];rw [hx]
 refine wpAny_bind (wpAny_setField ei di (by simp) (wpAny_pure ⟨x,rfl,wpAny_pure (hQ _ ⟨_,Heap.get?_update_self _ ei (Obj.isFreed_of_fields (Obj.data_mapFields di _)),(Obj.cls_mapFields ..).trans ci,?_⟩ (Heap.SameBut.update ..))⟩))
 rw [Obj.data_mapFields di];simp [rawInt]
theorem Zre {it l:Addr} {i:Nat} {xs:Array Value} {Q:Value→Shared→Prop} (hh:A.handled=none) (u:s.heap.IsTupleIter it l i) (v:s.heap.IsTuple l xs) (hx:xs[i]?=none)
  (hE:∀ h' e,Heap.ExtBut it s.heap h'→(∃ o,h'.get? e=some o∧o.cls=.type "StopIteration")→E (.ref e) { s with heap:=h' }):wpAny (model prog w) A (Builtin.SmallTypes.nextOf (.ref it)) Q E s:=by
 obtain ⟨oi,ei,ci,di⟩:=id u
 obtain ⟨ol,el,_,nl,dl⟩:=v
 unfold Builtin.SmallTypes.nextOf
 refine wpAny_bind (wpAny_callSpecial?_slot (name:=Str.ofString "__next__") u.typeIs PySem.F.slot_tuple_iterator_next (wpAny_call_entry PySem.F.slot_tuple_iterator_next u.typeIs PySem.F.entry_tuple_iterator_next ?_ (PySem.F.args_tuple_iterator_next_1 _)))
 refine wpAny_bind (m:=field (.ref it) 0) (wpAny_field ei di (x:=.ref l) rfl ?_)
 show wpAny (model prog w) _ (if (Value.ref l==Value.none)=true then _ else _) _ E s
 rw [if_neg (show ¬ ((Value.ref l==Value.none)=true) from Bool.false_ne_true)];refine wpAny_bind (m:=field (.ref it) 1) (wpAny_field ei di (x:=.int i 0) rfl ?_)
 refine wpAny_bind (m:=seqItems? (.ref l)) (wpAny_seqItems el dl ?_)
 simp only [Int.toNat_natCast];rw [hx]
 refine wpAny_bind (wpAny_rule (wpAny_bind (wpAny_setField ei di (by simp) ?_)));refine wpAny_bind (m:=newExc (.type "StopIteration") []) ?_
 simp only [newExc,newTuple]
 refine wpAny_bind (wpAny_newObj_type ?_ (by size_fits));refine wpAny_bind (m:=firstArgMember _ _) (wpAny_of_eq (a:=Value.none) (by first | rfl | (simp only [firstArgMember];rfl)) (wpAny_newObj_type ?_ (by size_fits)))
 simp only [raiseNew]
 refine wpAny_bind (wpAny_handled ?_);rw [show A.in1.handled=none from hh]
 refine wpAny_bind (wpAny_pure (wpAny_throw ?_))
 exact hE _ _ (((Heap.SameBut.update ..).extBut.push _).push _) ⟨_,Heap.get?_push_size _ rfl,rfl⟩
theorem Zst {z TI TO i1 i2 l1 l2:Addr} {k1 k2:Nat} {xs ys:Array Value} {x y a b:Value} {Q:Value→Shared→Prop} (D:ZipApart z TI TO i1 i2 l1 l2) (hz:IsZip s.heap z TI TO .none) (hTI:IsPair s.heap TI (.ref i1) (.ref i2)) (hTO:IsPair s.heap TO a b)
  (u1:s.heap.IsTupleIter i1 l1 k1) (u2:s.heap.IsTupleIter i2 l2 k2) (v1:s.heap.IsTuple l1 xs) (v2:s.heap.IsTuple l2 ys) (hx:xs[k1]?=some x) (hy:ys[k2]?=some y)
  (hQ:∀ h',IsZip h' z TI TO (rawInt s.heap.objs.size)→IsPair h' TO x y→h'.IsTupleIter i1 l1 (k1+1)→h'.IsTupleIter i2 l2 (k2+1)→IsPair h' s.heap.objs.size x y→(∀ c o,c≠z→c≠TO→c≠i1→c≠i2→s.heap.get? c=some o→h'.get? c=some o)→Q (.ref s.heap.objs.size) { s with heap:=h' }) :
  wpAny (model prog w) A (Builtin.«zip.__next__» ⟨[.ref z],[]⟩) (fun fin s'=>∃ v,fin=.done (.ret v)∧Q v s') E s:=by
 refine wpAny_bind (m:=field (.ref z) 2) (wpAny_field hz rfl (x:=.bool false) rfl ?_)
 refine wpAny_bind (m:=field (.ref z) 3) (wpAny_field hz rfl (x:=.ref TI) rfl (wpAny_bind (m:=seqItems? (.ref TI)) (wpAny_seqItems hTI rfl ?_)))
 refine wpAny_bind (m:=Builtin.SmallTypes.ownedTupleIsFree (.ref z)) ?_
 unfold Builtin.SmallTypes.ownedTupleIsFree
 refine wpAny_bind (m:=field (.ref z) 0) (wpAny_field hz rfl (x:=.none) rfl (wpAny_pure ?_));simp only [if_true]
 refine wpAny_bind (wpAny_rule (wpAny_bind (wpAny_field hz rfl (x:=.ref TO) rfl (wpAny_bind (wpAny_setField_rec hz (by simp) fun h₁ hz₁ hs₁=>?_)))))
 replace hz₁:IsZip h₁ z TI TO .ellipsis:=hz₁
 refine wpAny_bind ?_
 simp only [List.zipIdx_cons,List.zipIdx_nil,List.forIn_cons,List.forIn_nil]
 refine wpAny_bind (wpAny_bind (wpAny_onRaise ?_));refine wpAny_bind (m:=Builtin.SmallTypes.nextOf (.ref i1)) ?_
 refine Zlt (u1.extBut hs₁.extBut D.i1z) (v1.extBut hs₁.extBut D.l1z) hx fun h₂ w1 hs₂=>wpAny_pure ?_
 have hTO₂:IsPair h₂ TO a b:=hs₂.extBut _ _ D.TOi1 (hs₁.extBut _ _ D.TOz hTO)
 refine wpAny_bind (wpAny_seqItems hTO₂ rfl (wpAny_bind (wpAny_updateSeq_pair hTO₂ fun h₃ hTO₃ hs₃=>?_)))
 replace hTO₃:IsPair h₃ TO x b:=hTO₃
 refine wpAny_bind (wpAny_letGo (wpAny_pure ?_));refine wpAny_bind (wpAny_bind (wpAny_onRaise ?_));refine wpAny_bind (m:=Builtin.SmallTypes.nextOf (.ref i2)) ?_
 refine Zlt (((u2.extBut hs₁.extBut D.i2z).extBut hs₂.extBut D.i12.symm).extBut hs₃.extBut D.TOi2.symm) (((v2.extBut hs₁.extBut D.l2z).extBut hs₂.extBut D.l2i1).extBut hs₃.extBut D.l2TO) hy fun h₄ w2 hs₄=>wpAny_pure ?_
 have hTO₄:IsPair h₄ TO x b:=hs₄.extBut _ _ D.TOi2 hTO₃
 refine wpAny_bind (wpAny_seqItems hTO₄ rfl (wpAny_bind (wpAny_updateSeq_pair hTO₄ fun h₅ hTO₅ hs₅=>?_)))
 replace hTO₅:IsPair h₅ TO x y:=hTO₅
 refine wpAny_bind (wpAny_letGo (wpAny_pure (wpAny_pure ?_)));refine wpAny_bind (wpAny_seqItems hTO₅ rfl (wpAny_bind (wpAny_newTuple ?_ (by show (2:Nat)≤sizeLine;decide))))
 have hsz:h₅.objs.size=s.heap.objs.size:=by rw [hs₅.1,hs₄.1,hs₃.1,hs₂.1,hs₁.1]
 have hz₅:IsZip h₅ z TI TO .ellipsis:=hs₅.extBut _ _ D.TOz.symm (hs₄.extBut _ _ D.i2z.symm (hs₃.extBut _ _ D.TOz.symm (hs₂.extBut _ _ D.i1z.symm hz₁)))
 have w1':h₅.IsTupleIter i1 l1 (k1+1):=((w1.extBut hs₃.extBut D.TOi1.symm).extBut hs₄.extBut D.i12).extBut hs₅.extBut D.TOi1.symm
 have w2':h₅.IsTupleIter i2 l2 (k2+1):=w2.extBut hs₅.extBut D.TOi2.symm
 refine wpAny_bind (m:=Builtin.SmallTypes.ownedTupleHandOut (.ref z) (.ref h₅.objs.size)) ?_
 unfold Builtin.SmallTypes.ownedTupleHandOut
 have hz₆:IsZip (h₅.push { cls:=.type "tuple",data:=.seq #[x,y] }) z TI TO .ellipsis:=Heap.get?_push_of_some _ hz₅
 refine wpAny_bind (wpAny_setField_rec hz₆ (by simp) fun h₇ hz₇ hs₇=>?_)
 replace hz₇:IsZip h₇ z TI TO (rawInt h₅.objs.size):=hz₇
 refine wpAny_setField_rec hz₇ (by simp) fun h₈ hz₈ hs₈=>?_
 replace hz₈:IsZip h₈ z TI TO (rawInt h₅.objs.size):=hz₈
 have zlt:h₅.objs.size≠z:=Nat.ne_of_gt (Heap.lt_size hz₅)
 have upp:∀ c o,c≠z→h₅.get? c=some o→h₈.get? c=some o:=fun c o c1 e=>hs₈.extBut _ _ c1 (hs₇.extBut _ _ c1 (Heap.get?_push_of_some _ e))
 have hT₈:IsPair h₈ h₅.objs.size x y:=hs₈.extBut _ _ zlt (hs₇.extBut _ _ zlt (Heap.get?_push_size _ rfl))
 rw [hsz] at hz₈ hT₈
 refine wpAny_pure ⟨_,rfl,(?_:Q (.ref h₅.objs.size) _)⟩
 rw [hsz]
 obtain ⟨o1,e1,r1⟩:=w1'
 obtain ⟨o2,e2,r2⟩:=w2'
 exact hQ h₈ hz₈ (upp _ _ D.TOz hTO₅) ⟨o1,upp _ _ D.i1z e1,r1⟩ ⟨o2,upp _ _ D.i2z e2,r2⟩ hT₈ fun c o c1 c2 c3 c4 e=>upp c o c1 (hs₅.extBut _ _ c2 (hs₄.extBut _ _ c4 (hs₃.extBut _ _ c2 (hs₂.extBut _ _ c3 (hs₁.extBut _ _ c1 e)))))
theorem ZtF {z TI TO i1 i2 l1 l2:Addr} {k1 k2:Nat} {xs ys:Array Value} {a b:Value} {Q:Fin→Shared→Prop} (hh:A.handled=none) (D:ZipApart z TI TO i1 i2 l1 l2) (hz:IsZip s.heap z TI TO .none) (hTI:IsPair s.heap TI (.ref i1) (.ref i2)) (hTO:IsPair s.heap TO a b)
  (u1:s.heap.IsTupleIter i1 l1 k1) (u2:s.heap.IsTupleIter i2 l2 k2) (v1:s.heap.IsTuple l1 xs) (v2:s.heap.IsTuple l2 ys) (hend:xs[k1]?=none∨ys[k2]?=none)
  (hE:∀ h' e,(∀ c o,c≠z→c≠TO→c≠i1→c≠i2→s.heap.get? c=some o→h'.get? c=some o)→(∃ o,h'.get? e=some o∧o.cls=.type "StopIteration")→E (.ref e) { s with heap:=h' }):wpAny (model prog w) A (Builtin.«zip.__next__» ⟨[.ref z],[]⟩) Q E s:=by
 refine wpAny_bind (m:=field (.ref z) 2) (wpAny_field hz rfl (x:=.bool false) rfl ?_)
 refine wpAny_bind (m:=field (.ref z) 3) (wpAny_field hz rfl (x:=.ref TI) rfl (wpAny_bind (m:=seqItems? (.ref TI)) (wpAny_seqItems hTI rfl ?_)))
 refine wpAny_bind (m:=Builtin.SmallTypes.ownedTupleIsFree (.ref z)) ?_
 unfold Builtin.SmallTypes.ownedTupleIsFree
 refine wpAny_bind (m:=field (.ref z) 0) (wpAny_field hz rfl (x:=.none) rfl (wpAny_pure ?_));simp only [if_true]
 refine wpAny_bind (wpAny_rule (wpAny_bind (wpAny_field hz rfl (x:=.ref TO) rfl (wpAny_bind (wpAny_setField_rec hz (by simp) fun h₁ hz₁ hs₁=>?_)))))
 replace hz₁:IsZip h₁ z TI TO .ellipsis:=hz₁
 refine wpAny_bind ?_
 simp only [List.zipIdx_cons,List.zipIdx_nil,List.forIn_cons,List.forIn_nil]
 refine wpAny_bind (wpAny_bind (wpAny_onRaise ?_));refine wpAny_bind (m:=Builtin.SmallTypes.nextOf (.ref i1)) ?_
 cases hx:xs[k1]? with
 | none =>
  refine Zre hh (u1.extBut hs₁.extBut D.i1z) (v1.extBut hs₁.extBut D.l1z) hx fun h₂ e hs₂ zz1=>?_
  obtain ⟨oe,hoe,hce⟩:=zz1
  have hz₂:IsZip h₂ z TI TO .ellipsis:=hs₂ _ _ D.i1z.symm hz₁
  have hez:e≠z:=fun q=>by subst q;rw [hz₂] at hoe;cases hoe;simp at hce
  exact wpAny_setField_rec hz₂ (by simp) fun h₃ _ hs₃=>hE h₃ e (fun c o c1 _ c3 _ q=>hs₃.extBut _ _ c1 (hs₂ _ _ c3 (hs₁.extBut _ _ c1 q))) ⟨oe,hs₃.extBut _ _ hez hoe,hce⟩
 | some x =>
  have hy:ys[k2]?=none:=by
   rcases hend with q | q
   ·rw [hx] at q;cases q
   ·exact q
  refine Zlt (u1.extBut hs₁.extBut D.i1z) (v1.extBut hs₁.extBut D.l1z) hx fun h₂ w1 hs₂=>wpAny_pure ?_
  have hTO₂:IsPair h₂ TO a b:=hs₂.extBut _ _ D.TOi1 (hs₁.extBut _ _ D.TOz hTO)
  refine wpAny_bind (wpAny_seqItems hTO₂ rfl (wpAny_bind (wpAny_updateSeq_pair hTO₂ fun h₃ hTO₃ hs₃=>?_)))
  refine wpAny_bind (wpAny_letGo (wpAny_pure ?_));refine wpAny_bind (wpAny_bind (wpAny_onRaise ?_));refine wpAny_bind (m:=Builtin.SmallTypes.nextOf (.ref i2)) ?_
  refine Zre hh (((u2.extBut hs₁.extBut D.i2z).extBut hs₂.extBut D.i12.symm).extBut hs₃.extBut D.TOi2.symm) (((v2.extBut hs₁.extBut D.l2z).extBut hs₂.extBut D.l2i1).extBut hs₃.extBut D.l2TO) hy fun h₄ e hs₄ zz2=>?_
  obtain ⟨oe,hoe,hce⟩:=zz2
  have hz₄:IsZip h₄ z TI TO .ellipsis:=hs₄ _ _ D.i2z.symm (hs₃.extBut _ _ D.TOz.symm (hs₂.extBut _ _ D.i1z.symm hz₁))
  have hez:e≠z:=fun q=>by subst q;rw [hz₄] at hoe;cases hoe;simp at hce
  exact wpAny_setField_rec hz₄ (by simp) fun h₅ _ hs₅=>hE h₅ e (fun c o c1 c2 c3 c4 q=>hs₅.extBut _ _ c1 (hs₄ _ _ c4 (hs₃.extBut _ _ c2 (hs₂.extBut _ _ c3 (hs₁.extBut _ _ c1 q))))) ⟨oe,hs₅.extBut _ _ hez hoe,hce⟩
end
end L3
namespace L3
open PySem PySem.Spec PyProof.Rows L2
variable {K:PySem.W.Frag} {H H' H2:Hp}
section
variable {prog:Program} {w:World} {A:Around} {E:Value→Shared→Prop} {s:Shared}
theorem tat {h h':Heap} {a t:Addr} {i:Nat} (x:h.IsTupleIter a t i) (k:∀ o,h.get? a=some o→h'.get? a=some o):h'.IsTupleIter a t i:=by
 obtain ⟨o,e,r⟩:=x
 exact ⟨o,k o e,r⟩
theorem ZvC {h h':Heap} {a:Addr} {xs:Array Value} (x:h.IsTuple a xs) (k:∀ o,h.get? a=some o→h'.get? a=some o):h'.IsTuple a xs:=by
 obtain ⟨o,e,r⟩:=x
 exact ⟨o,k o e,r⟩
theorem Zjr (hh:A.handled=none) (z TI TO i1 i2 l1 l2:Addr) (D:ZipApart z TI TO i1 i2 l1 l2) (xs ys:Array Value):WalksT prog w A z [z,TI,TO,i1,i2,l1,l2] [z,TO,i1,i2] (min xs.size ys.size) (fun i vals=>∃ x y,xs[i]?=some x∧ys[i]?=some y∧vals=#[x,y])
   (fun i h=>IsZip h z TI TO .none∧IsPair h TI (.ref i1) (.ref i2)∧(∃ a b,IsPair h TO a b)∧h.IsTupleIter i1 l1 i∧h.IsTupleIter i2 l2 i∧h.IsTuple l1 xs∧h.IsTuple l2 ys)
   (fun i T h=>IsZip h z TI TO (rawInt T)∧IsPair h TI (.ref i1) (.ref i2)∧(∃ a b,IsPair h TO a b)∧h.IsTupleIter i1 l1 (i+1)∧h.IsTupleIter i2 l2 (i+1)∧h.IsTuple l1 xs∧h.IsTuple l2 ys∧T≠z∧T≠TO∧T≠i1∧T≠i2) where
 sub:=fun c hc=>by simp at hc ⊢;rcases hc with rfl | rfl | rfl | rfl <;> simp
 frame:=fun i h h' st kk=>by
  obtain ⟨hz,hTI,⟨a,b,hTO⟩,h1,h2,g1,g2⟩:=st
  exact ⟨kk z (by simp) _ hz,kk TI (by simp) _ hTI,⟨a,b,kk TO (by simp) _ hTO⟩,tat h1 fun o e=>kk i1 (by simp) o e,tat h2 fun o e=>kk i2 (by simp) o e,ZvC g1 fun o e=>kk l1 (by simp) o e,ZvC g2 fun o e=>kk l2 (by simp) o e⟩
 item:=fun i s Q E hi st hQ=>by
  obtain ⟨hz,hTI,⟨a,b,hTO⟩,h1,h2,g1,g2⟩:=st
  have ix:i < xs.size:=Nat.lt_of_lt_of_le hi (Nat.min_le_left ..)
  have iy:i < ys.size:=Nat.lt_of_lt_of_le hi (Nat.min_le_right ..)
  have hT:s.TypeIs (.ref z) "zip":=⟨_,hz,rfl⟩
  have lt:∀ {c o},s.heap.get? c=some o→s.heap.objs.size≠c:=fun e=>Nat.ne_of_gt (Heap.lt_size e)
  unfold pyNext
  refine wpAny_bind (wpAny_attempt (wpAny_callSpecial?_slot (name:=Str.ofString "__next__") hT PySem.F.slot_zip_next (wpAny_call_entry PySem.F.slot_zip_next hT PySem.F.entry_zip_next (Zst D hz hTI hTO h1 h2 g1 g2 (Array.getElem?_eq_getElem ix) (Array.getElem?_eq_getElem iy) fun h' a1 a2 a3 a4 a5 hk=>wpAny_pure ?_) (PySem.F.args_zip_next_1 _))))
  exact hQ s.heap.objs.size #[xs[i],ys[i]] h' s.toks ⟨_,_,Array.getElem?_eq_getElem ix,Array.getElem?_eq_getElem iy,rfl⟩ (Nat.le_refl _) ⟨_,a5,rfl,_,rfl⟩ ⟨a1,hk _ _ D.TIz D.TITO D.TIi1 D.TIi2 hTI,⟨_,_,a2⟩,a3,a4,ZvC g1 fun o e=>hk _ o D.l1z D.l1TO D.l1i1 D.l1i2 e,ZvC g2 fun o e=>hk _ o D.l2z D.l2TO D.l2i1 D.l2i2 e,lt hz,lt hTO,(by obtain ⟨_,e,_⟩:=h1;exact lt e),(by obtain ⟨_,e,_⟩:=h2;exact lt e)⟩ fun c o hc e=>hk c o (fun x=>hc (by simp [x])) (fun x=>hc (by simp [x])) (fun x=>hc (by simp [x])) (fun x=>hc (by simp [x])) e
 go:=fun elts k pos i T s Q E hm hQ=>by
  obtain ⟨hz,hTI,⟨a,b,hTO⟩,h1,h2,g1,g2,_⟩:=hm
  exact wpAny_letOwnedTupleGo_zip hz fun h' hz' hs'=>hQ h' ⟨hz',hs'.extBut _ _ D.TIz hTI,⟨a,b,hs'.extBut _ _ D.TOz hTO⟩,h1.extBut hs'.extBut D.i1z,h2.extBut hs'.extBut D.i2z,g1.extBut hs'.extBut D.l1z,g2.extBut hs'.extBut D.l2z⟩ fun c o hc e=>hs'.extBut _ _ (fun x=>hc (by simp [x])) e
 apart:=fun i T h hm hT=>by
  obtain ⟨_,_,_,_,_,_,_,t1,t2,t3,t4⟩:=hm
  simp at hT
  rcases hT with e | e | e | e
  ·exact t1 e
  ·exact t2 e
  ·exact t3 e
  ·exact t4 e
 done:=fun s Q E st hQ=>by
  obtain ⟨hz,hTI,⟨a,b,hTO⟩,h1,h2,g1,g2⟩:=st
  have hend:xs[min xs.size ys.size]?=none∨ys[min xs.size ys.size]?=none:=by
   rcases Nat.le_total xs.size ys.size with q | q
   ·exact .inl (Array.getElem?_eq_none (by omega))
   ·exact .inr (Array.getElem?_eq_none (by omega))
  have hT:s.TypeIs (.ref z) "zip":=⟨_,hz,rfl⟩
  unfold pyNext
  refine wpAny_bind (wpAny_attempt (wpAny_callSpecial?_slot (name:=Str.ofString "__next__") hT PySem.F.slot_zip_next (wpAny_call_entry PySem.F.slot_zip_next hT PySem.F.entry_zip_next (ZtF hh D hz hTI hTO h1 h2 g1 g2 hend fun h' e hk he=>?_) (PySem.F.args_zip_next_1 _))))
  obtain ⟨o,ho,hc⟩:=he
  exact wpAny_bind (wpAny_isInstance (T:="StopIteration") (b:=true) ⟨o,ho,hc⟩ isSubtype_stop (wpAny_pure (hQ h' s.toks fun c o hc e=>hk c o (fun x=>hc (by simp [x])) (fun x=>hc (by simp [x])) (fun x=>hc (by simp [x])) (fun x=>hc (by simp [x])) e)))
 self:=fun i s Q E st hQ=>wpAny_pyIter_zip st.1 hQ
abbrev zT1 (h:Heap) (l1:Addr):Heap:=h.push { cls:=.type "tuple_iterator",data:=.fields #[.ref l1,.int 0 0] }
abbrev zT2 (h:Heap) (l1 l2:Addr):Heap:=(zT1 h l1).push { cls:=.type "tuple_iterator",data:=.fields #[.ref l2,.int 0 0] }
abbrev zT3 (h:Heap) (l1 l2:Addr):Heap:=(zT2 h l1 l2).push { cls:=.type "tuple",data:=.seq #[.ref h.objs.size,.ref (zT1 h l1).objs.size] }
abbrev zT4 (h:Heap) (l1 l2:Addr):Heap:=(zT3 h l1 l2).push { cls:=.type "tuple",data:=.seq #[.none,.none] }
abbrev zT5 (h:Heap) (l1 l2:Addr):Heap:=(zT4 h l1 l2).push { cls:=.type "zip",data:=.fields #[.none,.bool false,.bool false,.ref (zT2 h l1 l2).objs.size,.ref (zT3 h l1 l2).objs.size] }
theorem Zqs (l1 l2:Addr) (xs ys:Array Value):Meets (Builtin.«zip.__new__» ⟨[.type "zip",.ref l1,.ref l2],[]⟩) (fun _ R s=>s.heap.IsTuple l1 xs∧s.heap.IsTuple l2 ys∧R (.ok (.ret (.ref (zT4 s.heap l1 l2).objs.size))) { s with heap:=zT5 s.heap l1 l2 }) :=
 .of_wp fun prog w A R s h=>by
  obtain ⟨hp,g,d,tk,os⟩:=s
  obtain ⟨u1,u2,h⟩:=h
  have hsub:=sub_zip
  have hL1:Heap.IsTuple (Shared.heap ⟨hp,g,d,tk,os⟩) l1 xs:=u1
  have hL2:Heap.IsTuple (Shared.heap ⟨hp.push { cls:=.type "tuple_iterator",data:=.fields #[.ref l1,.int 0 0] },g,d,tk,os⟩) l2 ys:=Heap.IsTuple.push u2 _
  wp_walk using wpAny_pyIter_tuple hL1,wpAny_pyIter_tuple hL2
  exact ⟨_,rfl,h⟩
theorem ZoW {l1 l2:Addr} {xs ys:Array Value} {Q:Value→Shared→Prop} (u1:s.heap.IsTuple l1 xs) (u2:s.heap.IsTuple l2 ys)
  (h:∀ h',IsZip h' (s.heap.objs.size+4) (s.heap.objs.size+2) (s.heap.objs.size+3) .none→IsPair h' (s.heap.objs.size+2) (.ref s.heap.objs.size) (.ref (s.heap.objs.size+1))→IsPair h' (s.heap.objs.size+3) .none .none→h'.IsTupleIter s.heap.objs.size l1 0→h'.IsTupleIter (s.heap.objs.size+1) l2 0→h'.objs.size=s.heap.objs.size+5→(∀ c o,s.heap.get? c=some o→h'.get? c=some o)→Q (.ref (s.heap.objs.size+4)) { s with heap:=h' }) :
  wpAny (model prog w) A (call (.type "zip") [.ref l1,.ref l2]) Q E s:=by
 refine callType_new PySem.F.called_zip (by decide) (PySem.F.typeCall_zip_2 _ _) (PySem.F.newCall_zip_2 _ _) (fun obj=>PySem.F.args_object_init_3 obj _ _) PySem.F.entry_zip_new (Zqs l1 l2 xs ys) ⟨u1,u2,?_⟩
 have z1:(zT1 s.heap l1).objs.size=s.heap.objs.size+1:=Heap.size_push ..
 have z2:(zT2 s.heap l1 l2).objs.size=s.heap.objs.size+2:=by rw [Heap.size_push,z1]
 have z3:(zT3 s.heap l1 l2).objs.size=s.heap.objs.size+3:=by rw [Heap.size_push,z2]
 have z4:(zT4 s.heap l1 l2).objs.size=s.heap.objs.size+4:=by rw [Heap.size_push,z3]
 have z5:(zT5 s.heap l1 l2).objs.size=s.heap.objs.size+5:=by rw [Heap.size_push,z4]
 have g5:(zT5 s.heap l1 l2).get? (zT4 s.heap l1 l2).objs.size=some _:=Heap.get?_push_size _ rfl
 have g4:(zT5 s.heap l1 l2).get? (zT3 s.heap l1 l2).objs.size=some _:=Heap.get?_push_of_some _ (Heap.get?_push_size _ rfl)
 have g3:(zT5 s.heap l1 l2).get? (zT2 s.heap l1 l2).objs.size=some _:=Heap.get?_push_of_some _ (Heap.get?_push_of_some _ (Heap.get?_push_size _ rfl))
 have g2:(zT5 s.heap l1 l2).get? (zT1 s.heap l1).objs.size=some _:=Heap.get?_push_of_some _ (Heap.get?_push_of_some _ (Heap.get?_push_of_some _ (Heap.get?_push_size _ rfl)))
 have g1:(zT5 s.heap l1 l2).get? s.heap.objs.size=some _:=Heap.get?_push_of_some _ (Heap.get?_push_of_some _ (Heap.get?_push_of_some _ (Heap.get?_push_of_some _ (Heap.get?_push_size _ rfl))))
 rw [z2,z3,z4] at g5
 rw [z1,z2] at g3
 rw [z3] at g4
 rw [z1] at g2
 rw [z4]
 exact ⟨⟨_,g5,rfl⟩,h _ g5 g3 g4 ⟨_,g1,rfl,rfl⟩ ⟨_,g2,rfl,rfl⟩ z5 fun c o x=>Heap.get?_push_of_some _ (Heap.get?_push_of_some _ (Heap.get?_push_of_some _ (Heap.get?_push_of_some _ (Heap.get?_push_of_some _ x))))⟩
end
def Zw2 (K:PySem.W.Frag) (l1 l2:Addr):It :=
 ⟨fun i H=>∃ xs ys,SqT K H l1 xs∧SqT K H l2 ys∧i < xs.length∧i < ys.length,
  fun i H v H'=>∃ T x y,H T=none∧v=.ref T∧H'=upd H T (.tup [x,y])∧∀ xs ys,SqT K H l1 xs→SqT K H l2 ys→xs[i]?=some x∧ys[i]?=some y,
  fun i H=>∃ xs ys,SqT K H l1 xs∧SqT K H l2 ys∧i=min xs.length ys.length⟩
theorem ZoP {P:Program} {w:World} {elts:List Expr} {k:Nat} {tpos:Pos} {z TI TO i1 i2 l1 l2:Addr} (D:ZipApart z TI TO i1 i2 l1 l2) :
  ZrH P w K (.Tuple elts k tpos) (Zw2 K l1 l2) [z,TI,TO,i1,i2] z (fun i h=>IsZip h z TI TO .none∧IsPair h TI (.ref i1) (.ref i2)∧(∃ a b,IsPair h TO a b)∧h.IsTupleIter i1 l1 i∧h.IsTupleIter i2 l2 i) where
 mem:=by simp
 obj:=fun i h st b hb=>by
  obtain ⟨hz,hTI,⟨a,c,hTO⟩,⟨o1,e1,_,d1⟩,⟨o2,e2,_,d2⟩⟩:=st
  simp only [List.mem_cons,List.not_mem_nil,or_false] at hb
  rcases hb with rfl | rfl | rfl | rfl | rfl
  ·exact ⟨_,hz,fun v z=>by cases z⟩
  ·exact ⟨_,hTI,fun v z=>by cases z⟩
  ·exact ⟨_,hTO,fun v z=>by cases z⟩
  ·exact ⟨o1,e1,fun v z=>by rw [d1] at z;cases z⟩
  ·exact ⟨o2,e2,fun v z=>by rw [d2] at z;cases z⟩
 keep:=fun i h h' st kk=>by
  obtain ⟨hz,hTI,⟨a,c,hTO⟩,h1,h2⟩:=st
  exact ⟨kk z (by simp) _ hz,kk TI (by simp) _ hTI,⟨a,c,kk TO (by simp) _ hTO⟩,h1.at fun o e=>kk i1 (by simp) o e,h2.at fun o e=>kk i2 (by simp) o e⟩
 item:=by
  intro X hP hw hK hc i pins s σ H E I hf st hg
  subst hP hw hK
  obtain ⟨xs,ys,hx,hy,hix,hiy⟩:=hg
  obtain ⟨its1,r1,pl1,z1⟩:=I.tuple hx
  obtain ⟨its2,r2,pl2,z2⟩:=I.tuple hy
  have n1:=r1.length
  have n2:=r2.length
  obtain ⟨hz,hTI,hTO,h1,h2⟩:=st
  have Wk:=Zjr (prog:=X.prog) (w:=X.w) (A:=X.A) (I.ok.hd hc) z TI TO i1 i2 l1 l2 D its1.toArray its2.toArray
  refine Wk.item i s _ _ (by simp only [List.size_toArray];omega) ⟨hz,hTI,hTO,h1,h2,pl1,pl2⟩ fun T vals h' tk hPt hT hTup hMid hk=>⟨.ref T,rfl,?_⟩
  refine Wk.go elts k tpos i T _ _ _ hMid fun h2' st2 hk2=>?_
  obtain ⟨v1,v2,g1,g2,rfl⟩:=hPt
  have g1':its1[i]?=some v1:=by simpa using g1
  have g2':its2[i]?=some v2:=by simpa using g2
  have gx:xs[i]?=some xs[i]:=List.getElem?_eq_getElem hix
  have gy:ys[i]?=some ys[i]:=List.getElem?_eq_getElem hiy
  obtain ⟨u1,q1,rv1⟩:=r1.get gx
  obtain ⟨u2,q2,rv2⟩:=r2.get gy
  rw [g1'] at q1;cases q1
  rw [g2'] at q2;cases q2
  have hw1:∀ b,b∉[z,TI,TO,i1,i2]→b∉[z,TO,i1,i2]:=fun b hb hc=>hb (by
   simp only [List.mem_cons,List.not_mem_nil,or_false] at hc ⊢
   rcases hc with h | h | h | h <;> simp [h])
  have I1:Inv X pins σ H { s with heap:=h2',toks:=tk }:=Inv.turneds I hf fun b o hb e=>hk2 b o (hw1 b hb) (hk b o (hw1 b hb) e)
  have hTn:H T=none:=I.hok.fresh hT
  have hTup2:IsTup h2' T #[v1,v2]:=by
   obtain ⟨o,e,c,m,d⟩:=hTup
   exact ⟨o,hk2 _ _ (Wk.apart _ _ _ hMid) e,c,m,d⟩
  have lt:∀ {b:Addr} {o:Obj},s.heap.get? b=some o→b≠T:=fun e q=>absurd (Nat.lt_of_lt_of_le (Heap.lt_size e) hT) (by rw [q];exact Nat.lt_irrefl _)
  have I2:Inv X pins σ (upd H T (.tup [xs[i],ys[i]])) { s with heap:=h2',toks:=tk }:=by
   refine I1.track hTn ?_ (fun x c e=>?_) (fun p hp=>?_) ?_ ⟨by show 2≤sizeLine;decide,[v1,v2],.cons rv1 (.cons rv2 .nil),hTup2⟩
   ·obtain ⟨m,⟨o,es,ep,ho,_⟩,_⟩:=I.loc
    exact Ne.symm (lt ho)
   ·obtain ⟨v,o,ho,_⟩:=I.cell x c e
    exact lt ho
   ·exact lt (I.pin p hp).1
   ·cases e:X.s₀.heap.get? T with
    | none=>rfl
    | some o=>exact absurd (Nat.lt_of_lt_of_le (Heap.lt_size e) (Nat.le_trans I.sz hT)) (Nat.lt_irrefl _)
  refine ⟨.ref T,_,I2,rfl,⟨T,_,_,hTn,rfl,rfl,fun xs' ys' hx' hy'=>?_⟩,⟨st2.1,st2.2.1,st2.2.2.1,st2.2.2.2.1,st2.2.2.2.2.1⟩,fun b hb=>?_⟩
  ·rw [I.tuple_inj hx' hx,I.tuple_inj hy' hy];exact ⟨gx,gy⟩
  ·have hb':=(hf b hb).1
   have:b≠T:=by
    obtain ⟨o,e,_⟩:∃ o,s.heap.get? b=some o∧True:=by
     obtain ⟨a,c,hTO'⟩:=hTO
     obtain ⟨o1,e1,_⟩:=h1
     obtain ⟨o2,e2,_⟩:=h2
     simp only [List.mem_cons,List.not_mem_nil,or_false] at hb
     rcases hb with rfl | rfl | rfl | rfl | rfl
     ·exact ⟨_,hz,trivial⟩
     ·exact ⟨_,hTI,trivial⟩
     ·exact ⟨_,hTO',trivial⟩
     ·exact ⟨_,e1,trivial⟩
     ·exact ⟨_,e2,trivial⟩
    exact lt e
   rw [Zbd this];exact hb'
 done:=by
  intro X hP hw hK hc i pins s σ H E I hf st hg
  subst hP hw hK
  obtain ⟨xs,ys,hx,hy,hi⟩:=hg
  obtain ⟨its1,r1,pl1,z1⟩:=I.tuple hx
  obtain ⟨its2,r2,pl2,z2⟩:=I.tuple hy
  have n1:=r1.length
  have n2:=r2.length
  obtain ⟨hz,hTI,hTO,h1,h2⟩:=st
  have Wk:=Zjr (prog:=X.prog) (w:=X.w) (A:=X.A) (I.ok.hd hc) z TI TO i1 i2 l1 l2 D its1.toArray its2.toArray
  have hi':i=min its1.toArray.size its2.toArray.size:=by simp only [List.size_toArray];omega
  subst hi'
  refine Wk.done s _ _ ⟨hz,hTI,hTO,h1,h2,pl1,pl2⟩ fun h' tk hk=>⟨rfl,Inv.turneds I hf fun b o hb e=>hk b o (fun hc=>hb ?_) e⟩
  simp only [List.mem_cons,List.not_mem_nil,or_false] at hc ⊢
  rcases hc with h | h | h | h <;> simp [h]
 self:=fun A i s Q E st h=>wpAny_pyIter_zip st.1 h
def Zwb (K:PySem.W.Frag) (ta:TA):TI:=fun σ H R=>ta σ H fun vs H1=>∃ a b xs ys,vs=[.ref a,.ref b]∧SqT K H1 a xs∧SqT K H1 b ys∧R (Zw2 K a b) H1
theorem Zsw {X:Cx} {a b:Expr} {ta:TA} {p pos tpos:Pos} {elts:List Expr} {k:Nat} (hg:Gl X "zip") (hm:X.mg "zip"=none) (ha:PA X [a,b] ta) (hs:starEach [a,b] X.env=[(false,eval a X.env),(false,eval b X.env)]) (hs2:starEach [b] X.env=[(false,eval b X.env)]) :
  PI X (.Tuple elts k tpos) (.Call (.Name "zip" p) [a,b] [] pos) (Zwb X.K ta):=by
 intro pins s σ H R I h
 refine Call_ (Ze8 I hg hm boot_zip (PyProof.Rows.callWith_type1 (thn (ha pos pins s σ H _ I h) fun us s1 zz1=>?_) (by rw [hs,hs2]) (by rw [hs2];rfl)))
 obtain ⟨vs,H1,I1,r1,q1⟩:=zz1
 obtain ⟨l1,l2,xs,ys,e,hx,hy,q⟩:=q1
 subst e
 obtain ⟨u,u2,rfl,ru,ru2⟩:=Zo9 r1
 cases ru
 cases ru2
 obtain ⟨its1,_,pl1,_⟩:=I1.tuple hx
 obtain ⟨its2,_,pl2,_⟩:=I1.tuple hy
 have a1:l1 < s1.heap.objs.size:=by obtain ⟨_,e,_⟩:=pl1;exact Heap.lt_size e
 have a2:l2 < s1.heap.objs.size:=by obtain ⟨_,e,_⟩:=pl2;exact Heap.lt_size e
 refine ZoW pl1 pl2 fun h' hz hTI hTO hi1 hi2 hsz hk=>wpAny_pyIter_zip hz ?_
 refine ⟨_,_,_,_,H1,rfl,I1.kept (t':=s1.toks) hk,ZoP (zipApart_new a1 a2),⟨hz,hTI,⟨_,_,hTO⟩,hi1,hi2⟩,fun b hb=>?_,q⟩
 have hge:s1.heap.objs.size≤b:=by
  simp only [List.mem_cons,List.not_mem_nil,or_false] at hb
  rcases hb with rfl | rfl | rfl | rfl | rfl
  ·exact Nat.le_add_right _ 4
  ·exact Nat.le_add_right _ 2
  ·exact Nat.le_add_right _ 3
  ·exact Nat.le_refl _
  ·exact Nat.le_add_right _ 1
 exact I1.fpOk hge (I1.hok.fresh hge)
def Ziq (gs:GA):GI:=fun ω G R=>gs ω G fun ws G1=>∃ xs ys,ws=[.tup xs,.tup ys]∧R (Zlp xs ys) yes G1
theorem Zr5 {gs:GA} (m:gs.M):GI.M (Ziq gs):=fun ω G R R' h q=>m _ _ _ _ ((by rintro ws G1 ⟨xs,ys,e,z⟩;exact ⟨xs,ys,e,h _ _ _ z⟩)) q
theorem Zrb {v:V} {xs:List W} (t:Tr K H v (.tup xs)):∃ a vs,v=.ref a∧SqT K H a vs∧TrL K H vs xs:=by
 cases t with
 | tup h l=>exact ⟨_,_,rfl,h,l⟩
theorem Zth {X:Cx} {a b:Expr} {p pos tpos:Pos} {elts:List Expr} {k:Nat} {gs:GA} (hm:X.mg "zip"=none) (hg:Gl X "zip") (hs:starEach [a,b] X.env=[(false,eval a X.env),(false,eval b X.env)]) (hs2:starEach [b] X.env=[(false,eval b X.env)]) (ha:Am X [a,b] gs) :
  Im X (.Tuple elts k tpos) (.Call (.Name "zip" p) [a,b] [] pos) (Ziq gs):=by
 refine ⟨⟨_,Zsw hg hm ha.p hs hs2,fun σ H ω G R R0 ts r q kk=>⟨ω,G,ts,r,ha.m _ _ _ _ (fun ws G1 z vs H1 m t r1=>?_) q⟩⟩,Zr5 ha.m⟩
 obtain ⟨xs,ys,rfl,z⟩:=z
 cases t with
 | cons tx t =>
  cases t with
  | cons ty t =>
   cases t
   obtain ⟨a1,us1,rfl,hq1,l1⟩:=Zrb tx
   obtain ⟨a2,us2,rfl,hq2,l2⟩:=Zrb ty
   refine ⟨a1,a2,us1,us2,rfl,hq1,hq2,kk _ _ _ H1 _ z m r1 trivial ⟨fun i H3 G3 m3 r3 g3 hi=>?_,fun i H3 G3 v H4 m3 r3 g3 y3 hi=>?_,fun H3 G3 m3 r3 g3=>?_⟩⟩
   ·rw [ZgH] at hi
    exact ⟨us1,us2,m3.tup _ _ hq1,m3.tup _ _ hq2,by rw [l1.length];omega,by rw [l2.length];omega⟩
   ·obtain ⟨T,v1,v2,hT,rfl,rfl,hv⟩:=y3
    obtain ⟨g1,g2⟩:=hv _ _ (m3.tup _ _ hq1) (m3.tup _ _ hq2)
    obtain ⟨w1,q1,tw1⟩:=(l1.mono m3).get' g1
    obtain ⟨w2,q2,tw2⟩:=(l2.mono m3).get' g2
    have mn:Mono X.K H3 (upd H3 T (.tup [v1,v2])):=Mono.new hT _
    exact ⟨mn,r3.mono0 hT,_,Zkc _ _ i q1 q2,.tup (SqT.of ZbX) (.cons (tw1.mono mn) (.cons (tw2.mono mn) .nil))⟩
   ·exact ⟨us1,us2,m3.tup _ _ hq1,m3.tup _ _ hq2,by rw [ZgH,l1.length,l2.length]⟩
end L3
namespace L3
open PySem PySem.Spec PyProof.Rows L2
abbrev Zsu (h:Heap) (T:Addr) (a b c:Value):Prop:=h.get? T=some { cls:=.type "tuple",data:=.seq #[a,b,c] }
section
variable {prog:Program} {w:World} {A:Around} {E:Value→Shared→Prop} {s:Shared}
def St3 (n l1 l2 l3:Nat) (f0:Value) (i:Nat) (h:Heap):Prop:=IsZip h (n+5) (n+3) (n+4) f0∧Zsu h (n+3) (.ref n) (.ref (n+1)) (.ref (n+2))∧(∃ a b c,Zsu h (n+4) a b c)∧h.IsListIter n l1 i∧h.IsListIter (n+1) l2 i∧h.IsListIter (n+2) l3 i
end
end L3
set_option Elab.async false
set_option linter.all false
set_option maxRecDepth 100000
set_option maxHeartbeats 4000000
namespace L3
open PySem PySem.Spec PyProof.Rows L2
variable {K:PySem.W.Frag} {H H' H2:Hp}
section
variable {prog:Program} {w:World} {A:Around} {E:Value→Shared→Prop} {s:Shared}
theorem St3.at {n l1 l2 l3:Nat} {f0:Value} {i:Nat} {h h':Heap} (st:St3 n l1 l2 l3 f0 i h) (k:∀ (c:Nat) o,n≤c→c≤n+5→h.get? c=some o→h'.get? c=some o):St3 n l1 l2 l3 f0 i h':=by
 obtain ⟨hz,hTI,⟨a,b,c,hTO⟩,u1,u2,u3⟩:=st
 exact ⟨k _ _ (by omega) (by omega) hz,k _ _ (by omega) (by omega) hTI,⟨a,b,c,k _ _ (by omega) (by omega) hTO⟩,u1.at fun o e=>k _ o (by omega) (by omega) e,u2.at fun o e=>k _ o (by omega) (by omega) e,u3.at fun o e=>k _ o (by omega) (by omega) e⟩
end
end L3
namespace L3
open PySem PySem.Spec PyProof.Rows L2
variable {K:PySem.W.Frag} {H H' H2:Hp}
end L3
namespace L3
open PySem PySem.Spec PyProof.Rows L2
variable {K:PySem.W.Frag} {H H' H2:Hp}
def Zrr (x:W):List W→Option Bool
 | []=>some false
 | w::ws=>if dpW w < 90 then (match eqD w x,Zrr x ws with | some a,some b=>some (a||b) | _,_=>none) else none
theorem ZoD {x:W}:∀ {ws:List W} {b:Bool},Zrr x ws=some b→∃ e:Nat→Bool,(∀ (j:Nat) w,ws[j]?=some w→eqD w x=some (e j)∧dpW w < 90)∧(b=true↔∃ j,j < ws.length∧e j=true)
 | [],b,h=>by
  cases h
  exact ⟨fun _=>false,fun j w e=>by simp at e,by simp⟩
 | w::ws,b,h=>by
  unfold Zrr at h
  split at h
  ·rename_i hd
   split at h
   ·rename_i c d e1 e2
    cases h
    obtain ⟨e,h1,h2⟩:=ZoD e2
    refine ⟨fun j=>match j with | 0=>c | j+1=>e j,fun j u hu=>?_,?_⟩
    ·cases j with
     | zero=>simp only [List.getElem?_cons_zero,Option.some.injEq] at hu;subst hu;exact ⟨e1,hd⟩
     | succ j=>exact h1 j u (by simpa using hu)
    ·rw [Bool.or_eq_true,h2]
     constructor
     ·rintro (z | ⟨j,hj,z⟩)
      ·exact ⟨0,by simp,z⟩
      ·exact ⟨j+1,by simpa using hj,z⟩
     ·rintro ⟨j,hj,z⟩
      cases j with
      | zero=>exact .inl z
      | succ j=>exact .inr ⟨j,by simpa using hj,z⟩
   ·cases h
  ·cases h
def inT (x y:W) (G:Hw):Option W:=(rdL G y).bind fun ws=>(Zrr x ws).map .bl
def ZwH (K:PySem.W.Frag):R2:=fun v u H Q=>∃ p vs ws x b,u=.ref p∧SqL K H p vs∧TrL K H vs ws∧Tr K H v x∧Zrr x ws=some b∧Q (.bl b) H
open Classical in
theorem Zui {X:Cx} (hu:X.A.units+100 < cLine):OpR X (compareOp .In) (ZwH X.K):=by
 intro pins s σ H x y v u Q I rx ry h
 obtain ⟨p,vs,ws,xw,b,rfl,hq,tl,tx,e,q⟩:=h
 cases ry
 obtain ⟨its,r,pl,hz⟩:=I.list hq
 obtain ⟨f,hf,hb⟩:=ZoD e
 have l1:=r.length
 have l2:=tl.length
 have at':∀ (i:Nat) (z:Value),its[i]?=some z→SeqAt.EqAt X.A.in1 s z v (f i):=fun i z hi=>by
  have hlt:i < its.length:=by
   rcases Nat.lt_or_ge i its.length with h | h
   ·exact h
   ·rw [List.getElem?_eq_none h] at hi;cases hi
  have gv:vs[i]?=some (vs[i]'(by omega)):=List.getElem?_eq_getElem _
  obtain ⟨z',g',rz⟩:=r.get gv
  rw [hi] at g';cases g'
  obtain ⟨w,gw,tw⟩:=tl.get' gv
  obtain ⟨h1,h2⟩:=hf i w gw
  exact ZnS I 99 _ _ _ _ _ _ _ X.A.in1 (by omega) tw tx rz rx h1 (by show X.A.units+1+99 < cLine;omega)
 refine SeqAt.in_listAt (fun z=>decide (∃ i,its[i]?=some z∧f i=true)) pl.isList (fun z hz'=>?_) ⟨.bl b,H,I,?_,q⟩
 ·have hm:z∈its:=by simpa using hz'
  obtain ⟨i,hi,rfl⟩:=List.getElem_of_mem hm
  have gi:its[i]?=some its[i]:=List.getElem?_eq_getElem hi
  by_cases h:∃ j,its[j]?=some its[i]∧f j=true
  ·obtain ⟨j,g,hj⟩:=h
   have:=at' j _ g
   rw [hj] at this
   rw [decide_eq_true ⟨j,g,hj⟩];exact this
  ·have:=at' i _ gi
   rw [decide_eq_false h]
   cases hfi:f i with
   | false=>rw [hfi] at this;exact this
   | true=>exact absurd ⟨i,gi,hfi⟩ h
 ·show RelV (.bl b) (.bool _)
  have:(its.toArray.any fun z=>decide (∃ i,its[i]?=some z∧f i=true))=b:=by
   rw [Bool.eq_iff_iff,hb]
   simp only [List.any_toArray,List.any_eq_true,decide_eq_true_eq]
   constructor
   ·rintro ⟨z,hz',i,hi,hfi⟩
    refine ⟨i,?_,hfi⟩
    rcases Nat.lt_or_ge i its.length with h | h
    ·omega
    ·rw [List.getElem?_eq_none h] at hi;cases hi
   ·rintro ⟨j,hj,hfj⟩
    have hj':j < its.length:=by omega
    exact ⟨its[j],List.getElem_mem hj',j,List.getElem?_eq_getElem hj',hfj⟩
  rw [this];rfl
theorem ZuO (x y:W) (v u:V) (G:Hw) (H:Hp) (Q:VK) (tx:Tr K H v x) (ty:Tr K H u y) (r:RelH K H G) (q:Zaq inT x y G (dn K H Q)):ZwH K v u H Q:=by
 obtain ⟨w,e,q'⟩:=ZgB q
 obtain ⟨ws,e1,e2⟩:=Option.bind_eq_some_iff.mp e
 obtain ⟨b,e3,e4⟩:=Option.map_eq_some_iff.mp e2
 subst e4
 obtain ⟨a,vs,rfl,hq,t⟩:=Zgz r ty e1
 exact ⟨a,vs,ws,x,b,rfl,hq,t,tx,e3,q' _ H .refl (.bl _) r⟩
theorem Zpg {X:Cx} (hu:X.A.units+100 < cLine):Cop X .In (Zaq inT):=⟨⟨_,Zui hu,ZuO⟩,Zjn⟩
end L3
namespace L3
open PySem PySem.Spec PyProof.Rows L2
variable {K:PySem.W.Frag} {H H' H2:Hp}
end L3
set_option Elab.async false
set_option linter.all false
set_option maxRecDepth 100000
set_option maxHeartbeats 4000000
namespace L3
open PySem PySem.Spec PyProof.Rows L2
variable {K:PySem.W.Frag} {H H' H2:Hp}
section
variable {prog:Program} {w:World} {A:Around} {E:Value→Shared→Prop} {s:Shared}
def St3T (n l1 l2 l3:Nat) (f0:Value) (i:Nat) (h:Heap):Prop:=IsZip h (n+5) (n+3) (n+4) f0∧Zsu h (n+3) (.ref n) (.ref (n+1)) (.ref (n+2))∧(∃ a b c,Zsu h (n+4) a b c)∧h.IsTupleIter n l1 i∧h.IsTupleIter (n+1) l2 i∧h.IsTupleIter (n+2) l3 i
theorem St3T.at {n l1 l2 l3:Nat} {f0:Value} {i:Nat} {h h':Heap} (st:St3T n l1 l2 l3 f0 i h) (k:∀ (c:Nat) o,n≤c→c≤n+5→h.get? c=some o→h'.get? c=some o):St3T n l1 l2 l3 f0 i h':=by
 obtain ⟨hz,hTI,⟨a,b,c,hTO⟩,u1,u2,u3⟩:=st
 exact ⟨k _ _ (by omega) (by omega) hz,k _ _ (by omega) (by omega) hTI,⟨a,b,c,k _ _ (by omega) (by omega) hTO⟩,tat u1 fun o e=>k _ o (by omega) (by omega) e,tat u2 fun o e=>k _ o (by omega) (by omega) e,tat u3 fun o e=>k _ o (by omega) (by omega) e⟩
end
end L3
namespace L3
open PySem PySem.Spec PyProof.Rows L2
variable {K:PySem.W.Frag} {H H' H2:Hp}
section
variable {prog:Program} {w:World} {A:Around} {E:Value→Shared→Prop} {s:Shared}
end
end L3
namespace L3
open PySem PySem.Spec PyProof.Rows L2
abbrev Zut (h:Heap) (z TI TO:Addr) (f0:Value) (b:Bool):Prop:=h.get? z=some { cls:=.type "zip",dict:=none,data:=.fields #[f0,.bool b,.bool false,.ref TI,.ref TO],slots:=#[] }
section
variable {prog:Program} {w:World} {A:Around} {E:Value→Shared→Prop} {s:Shared}
def Hd3 (n l1 l2 l3 i:Nat) (h:Heap):Prop:=(∃ (T:Nat) (o:Obj) (b:Bool),Zut h (n+5) (n+3) (n+4) (rawInt T) b∧h.get? T=some o∧(T < n∨n+5 < T))∧Zsu h (n+3) (.ref n) (.ref (n+1)) (.ref (n+2))∧h.IsListIter n l1 i∧h.IsListIter (n+1) l2 i∧h.IsListIter (n+2) l3 i
def Cm3 (n l1 l2 l3 i:Nat) (h:Heap):Prop:=(i=0∧St3 n l1 l2 l3 .none 0 h)∨Hd3 n l1 l2 l3 i h
theorem Cm3.zip {n l1 l2 l3 i:Nat} {h:Heap} (st:Cm3 n l1 l2 l3 i h):∃ o,h.get? (n+5)=some o∧o.cls=.type "zip":=by
 rcases st with ⟨_,st⟩ | st
 ·exact ⟨_,st.1,rfl⟩
 ·obtain ⟨⟨T,o,b,hz,_⟩,_⟩:=st
  exact ⟨_,hz,rfl⟩
end
end L3
set_option Elab.async false
set_option linter.all false
set_option maxRecDepth 100000
set_option maxHeartbeats 4000000
namespace L3
open PySem PySem.Spec PyProof.Rows L2
section
variable {prog:Program} {w:World} {A:Around} {E:Value→Shared→Prop} {s:Shared}
end
end L3
namespace L3
open PySem PySem.Spec PyProof.Rows L2
variable {K:PySem.W.Frag} {H H' H2:Hp}
end L3
namespace L3
open PySem PySem.Spec PyProof.Rows L2
variable {K:PySem.W.Frag} {H H' H2:Hp}
section
variable {prog:Program} {w:World} {A:Around} {E:Value→Shared→Prop} {s:Shared}
def St3M (n l1 l2 l3:Nat) (f0:Value) (i:Nat) (h:Heap):Prop:=IsZip h (n+5) (n+3) (n+4) f0∧Zsu h (n+3) (.ref n) (.ref (n+1)) (.ref (n+2))∧(∃ a b c,Zsu h (n+4) a b c)∧h.IsListIter n l1 i∧h.IsTupleIter (n+1) l2 i∧h.IsTupleIter (n+2) l3 i
theorem St3M.at {n l1 l2 l3:Nat} {f0:Value} {i:Nat} {h h':Heap} (st:St3M n l1 l2 l3 f0 i h) (k:∀ (c:Nat) o,n≤c→c≤n+5→h.get? c=some o→h'.get? c=some o):St3M n l1 l2 l3 f0 i h':=by
 obtain ⟨hz,hTI,⟨a,b,c,hTO⟩,u1,u2,u3⟩:=st
 exact ⟨k _ _ (by omega) (by omega) hz,k _ _ (by omega) (by omega) hTI,⟨a,b,c,k _ _ (by omega) (by omega) hTO⟩,u1.at fun o e=>k _ o (by omega) (by omega) e,tat u2 fun o e=>k _ o (by omega) (by omega) e,tat u3 fun o e=>k _ o (by omega) (by omega) e⟩
end
end L3
set_option Elab.async false
set_option linter.all false
set_option maxRecDepth 100000
set_option maxHeartbeats 4000000
namespace L3
open PySem PySem.Spec PyProof.Rows L2
variable {K:PySem.W.Frag} {H H' H2:Hp}
end L3
namespace L3
open PySem PySem.Spec PyProof.Rows L2
section
variable {prog:Program} {w:World} {A:Around} {E:Value→Shared→Prop} {s:Shared}
end
end L3
namespace L3
open PySem PySem.Spec PyProof.Rows L2
section
variable {prog:Program} {w:World} {A:Around} {E:Value→Shared→Prop} {s:Shared}
end
end L3
namespace L3
open PySem PySem.Spec PyProof.Rows L2
section
variable {prog:Program} {w:World} {A:Around} {E:Value→Shared→Prop} {s:Shared}
end
end L3
namespace L3
open PySem PySem.Spec PyProof.Rows L2
end L3
namespace L3
open PySem PySem.Spec PyProof.Rows L2
end L3
set_option Elab.async false
set_option linter.all false
set_option maxRecDepth 100000
set_option maxHeartbeats 4000000
namespace L3
open PySem PySem.Spec PyProof.Rows L2
section
variable {X:Cx} {e:Expr} {p1 p3 q1 q3:Pos} {ta:TE}
def Zuu (K:PySem.W.Frag) (ta:TE):TE:=fun σ H Q=>ta σ H fun x H2=>∃ (p:Addr) (xs:List Str),x=.ref p∧SqL K H2 p (xs.map V.str)∧xs.length < 64 ∧
 ∀ (zs:List Str) (r:Addr),zs.Nodup→sortedS zs=true→(∀ x,x∈zs↔x∈xs)→H2 r=none→Q (.ref r) (upd H2 r (.lst (zs.map V.str)))
theorem ZpF (hc:X.calm=true) (n1:X.mg "sorted"=none) (n2:X.mg "set"=none) (g1:Gl X "sorted") (g2:Gl X "set") (h1:starEach [e] X.env=(false,eval e X.env)::starEach [] X.env)
  (h3:starEach [.Call (.Name "set" p1) [e] [] q1] X.env=(false,eval (.Call (.Name "set" p1) [e] [] q1) X.env)::starEach [] X.env) (ha:PE X e ta) :
  PE X (.Call (.Name "sorted" p3) [.Call (.Name "set" p1) [e] [] q1] [] q3) (Zuu X.K ta):=by
 intro pins s σ H Q I h
 have bS:bootBuiltins "sorted"=some (.builtin "sorted"):=by decide +kernel
 have bT:bootBuiltins "set"=some (.type "set"):=by decide +kernel
 have hh:X.A.handled=none:=I.ok.hd hc
 refine wpAny_Call_Name_kw (Ze8 I g1 n1 bS ?_)
 refine PyProof.Rows.callWith_builtin1 (Zh7 h3 ?_) h3 rfl
 refine wpAny_Call_Name_kw (Ze8 I g2 n2 bT ?_)
 refine PyProof.Rows.callWith_type1 (Zh7 h1 ?_) h1 rfl
 refine thn (ha pins s σ H _ I h) fun v s2 zz1=>?_
 obtain ⟨x,H2,I5,r1,p,xs,ex,hq,hn,q2⟩:=zz1
 subst ex
 cases r1
 obtain ⟨its,rv,pl,hz⟩:=I5.list hq
 have hil:its.length=xs.length:=by have:=rv.length;rw [List.length_map] at this;exact this.symm
 refine ZjW hh pl.isList (by simpa using Zgw rv) (by rw [List.size_toArray,hil];unfold scanBound;omega) fun h3 tk kc hC hxc keep3=>?_
 have lkc:kc.length < 64:=Nat.lt_of_le_of_lt (ZeC hC.nd fun x hx=>(hxc x).mp hx) hn
 refine Zji (s:={ s2 with heap:=h3,toks:=tk }) hh hC lkc fun s' r vs zs en hr hget hv hp hs keep4 hg hos=>?_
 have z2:s2.heap.objs.size < h3.objs.size:=SS.lt (s:={ s2 with heap:=h3 }) hC
 have hr2:s2.heap.objs.size≤r:=Nat.le_of_lt (Nat.lt_of_lt_of_le z2 hr)
 have kall:∀ b u,s2.heap.get? b=some u→s'.heap.get? b=some u:=fun b u z=>by
  have y2:=keep3 b u (Heap.lt_size z) z
  exact keep4 b u (Heap.lt_size y2) y2
 have hzl:zs.length≤sizeLine:=by
  have:(64:Nat)≤sizeLine:=by decide
  rw [hp.length_eq];omega
 have J:Inv X pins σ (upd H2 r (.lst (zs.map V.str))) { s2 with heap:=s'.heap,toks:=s'.toks }:=I5.laid (t':=s'.toks) kall hr2 (show ObjOk X.prog X.w _ s'.heap r (.lst (zs.map V.str)) from ⟨by rw [List.length_map];exact hzl,vs,en,ZhX hv,hget⟩)
 refine ⟨.ref r,_,⟨J.ok,by rw [hos];exact J.os,by rw [hg];exact J.bare,J.base,J.loc,J.cell,J.free,J.freeC,J.pin,J.hok,J.len⟩,rfl,q2 zs r (hp.nodup_iff.mpr hC.nd) hs (fun x=>?_) (I5.hok.fresh hr2)⟩
 rw [hp.mem_iff,hxc]
def Zid (ga:GE):GE:=fun ω G Q=>ga ω G fun y G2=>∃ ys:List Str,ZiB G2 y=some (ys.map W.str)∧ys.length < 64 ∧
 ∀ (zs:List Str) (p:Addr),zs.Nodup→sortedS zs=true→(∀ x,x∈zs↔x∈ys)→G2 p=none→Q (.ref p) (put G2 p (.lst (zs.map W.str)))
theorem ZqP {ga:GE} (ma:ga.M):GE.M (Zid ga):=fun ω G Q Q' h q=>ma _ _ _ _ ((by rintro x G1 ⟨xs,h1,h2,q1⟩;exact ⟨xs,h1,h2,fun zs p a b c d=>h _ _ (q1 zs p a b c d)⟩)) q
theorem ZqV {ga:GE} (hc:X.calm=true) (n1:X.mg "sorted"=none) (n2:X.mg "set"=none) (g1:Gl X "sorted") (g2:Gl X "set") (h1:starEach [e] X.env=(false,eval e X.env)::starEach [] X.env)
  (h3:starEach [.Call (.Name "set" p1) [e] [] q1] X.env=(false,eval (.Call (.Name "set" p1) [e] [] q1) X.env)::starEach [] X.env) (ha:Em X e ga) :
  Em X (.Call (.Name "sorted" p3) [.Call (.Name "set" p1) [e] [] q1] [] q3) (Zid ga):=by
 refine ⟨Zbz (ZpF hc n1 n2 g1 g2 h1 h3 ha.p) fun σ H Q zz2=>?_,ZqP ha.m⟩
 obtain ⟨ω,G,ts,rh,q⟩:=zz2
 refine ⟨ω,G,ts,rh,ha.m _ _ _ _ (fun x G1 zz3 v H1 m1 tx r1=>?_) q⟩
 obtain ⟨xs,hx,hn,q1⟩:=zz3
 obtain ⟨a,vs,rfl,rfl,hG,hH,tv⟩:=Zfx r1 tx hx
 obtain rfl:=ZjH tv
 refine ⟨a,xs,rfl,.inl (.inl hH),hn,fun zs r z1 z2 z3 z4=>?_⟩
 exact q1 zs r z1 z2 z3 (r1.no z4) _ _ (m1.trans (Mono.new z4 _)) (.ref r) (r1.new z4 (ZlJ zs))
end
end L3
namespace L3
open PySem PySem.Spec PyProof.Rows L2
end L3
namespace L3
open PySem PySem.Spec PyProof.Rows L2
end L3
namespace L3
open PySem PySem.Spec PyProof.Rows L2
variable {K:PySem.W.Frag} {H H' H2:Hp}
def Zv4 (gg:GG) (ga:GE):GS:=fun D ω G=>ga ω G fun w G1=>gg w ω G1 D.nx
theorem ZtH {X:Cx} {P:Hp→Prop} {tg e:Expr} {ga:GE} {gg:GG} {pos:Pos} (hs:swapsWithSole [tg] e pos.line X.env=pure false) (hw:swappedStores [tg] e X.env=pure none) (h1:(assignEach [tg] X.env).map (·.2)=[assign tg X.env]) (hg:TgW X tg gg) (ha:Em X e ga) :
  Sm X P (.Assign [tg] e pos) (Zv4 gg ga):=by
 obtain ⟨⟨g,pg,hup⟩,mg⟩:=hg
 refine ⟨fun B hB=>ZfP (Zq5 ha.p pg hs hw h1) ?_,fun ω G D D' h _ _ _ q=>ha.m _ _ _ _ (fun w G1 z=>mg _ _ _ _ _ h z) q⟩
 rintro D σ H ⟨ω,G,ts,r,mb,q⟩
 exact ⟨ω,G,ts,r,ha.m _ _ _ _ (fun w G1 z v H1 m t r1=>hup v w σ ω H1 G1 _ t (ts.mono m) r1 (mg _ _ _ _ _ (fun ω2 G2 z2 σ2 H2 m2 ts2 r2=>z2 σ2 H2 (mb.trans (m.trans m2)) ts2 r2) z)) q⟩
end L3
namespace L3
open PySem PySem.Spec PyProof.Rows L2
variable {K:PySem.W.Frag} {H H' H2:Hp}
def Zkk (T U:String) (ge:GE):GE:=fun ω G Q=>ge ω G fun w G1=>match tyN w G1 with | some n=>Q (.bl (ZgP n T||ZgP n U)) G1 | none=>False
theorem Zp5 {T U:String} {ge:GE} (m:ge.M):GE.M (Zkk T U ge):=fun ω G Q Q' h q=>m _ _ _ _ (fun w G1 z=>by
 cases e:tyN w G1 with
 | none=>rw [e] at z;exact z
 | some n=>rw [e] at z;exact h _ _ z) q
theorem Zgf {n T U:String} (hn:n∈["NoneType","bool","int","str","tuple","list"]) (hT:T∈["tuple","list","str","int","bool","dict"]) (hU:U∈["tuple","list","str","int","bool","dict"]):PySem.W.kitAny K (.type n) [.type T,.type U]=some (ZgP n T||ZgP n U):=by
 unfold PySem.W.kitAny PySem.W.kitAny PySem.W.kitAny
 rw [ZeX hn hT,ZeX hn hU]
 cases ZgP n T <;> cases ZgP n U <;> rfl
theorem Zs8 {X:Cx} {pins:List (Addr×Obj)} {σ:St} {s:Shared} {v:V} {u:Value} {w:W} {G:Hw} {n T U:String} {tp:Addr} {dd:Option Addr} {nn:Nat} {sl:Array (Option Value)} {Q:Value→Shared→Prop} {E:Value→Shared→Prop} (I:Inv X pins σ H s) (rv:RelV v u) (t:Tr X.K H v w) (r:RelH X.K H G) (e:tyN w G=some n)
  (hT:T∈["tuple","list","str","int","bool","dict"]) (hU:U∈["tuple","list","str","int","bool","dict"]) (htp:s.heap.get? tp=some ⟨.type "tuple",dd,.seq [Value.type T,.type U].toArray nn,sl⟩) (h:∀ tk,Q (.bool (ZgP n T||ZgP n U)) { s with toks:=tk }):wpAny (model X.prog X.w) X.A (call (.builtin "isinstance") [u,.ref tp]) Q E s:=by
 cases t with
 | non=>cases e;cases (show u=Value.none from rv);exact PySem.W.kia_tup PySem.W.kitx_none I.kIn True.intro htp (Zgf (by simp) hT hU) (fun z=>nomatch z) h
 | bl y=>cases e;cases (show u=Value.bool y from rv);exact PySem.W.kia_tup PySem.W.kitx_bool I.kIn True.intro htp (Zgf (by simp) hT hU) (fun z=>nomatch z) h
 | int i=>cases e;obtain ⟨t,rfl⟩:=rv;exact PySem.W.kia_tup PySem.W.kitx_int I.kIn True.intro htp (Zgf (by simp) hT hU) (fun z=>nomatch z) h
 | str y=>cases e;obtain ⟨t,rfl⟩:=rv;exact PySem.W.kia_tup PySem.W.kitx_str I.kIn True.intro htp (Zgf (by simp) hT hU) (fun z=>nomatch z) h
 | tup hq l =>
  cases e
  cases rv
  obtain ⟨its,_,p,_⟩:=I.tuple hq
  obtain ⟨o,h1,h2,_⟩:=p
  exact PySem.W.kia_tup PySem.W.kitx_tuple I.kIn ⟨o,h1,h2⟩ htp (Zgf (by simp) hT hU) (fun z=>nomatch z) h
 | rol hq l =>
  cases e
  cases rv
  obtain ⟨its,_,p,_⟩:=I.list hq.sq
  obtain ⟨o,h1,h2,_⟩:=p.isList
  exact PySem.W.kia_tup PySem.W.kitx_list I.kIn ⟨o,h1,h2⟩ htp (Zgf (by simp) hT hU) (fun z=>nomatch z) h
 | ref a =>
  unfold tyN at e
  dsimp only at e
  cases ea:G a with
  | none=>rw [ea] at e;cases e
  | some o =>
   rw [ea] at e
   cases o with
   | exc C=>cases e
   | ins C fs=>cases e
   | dct kvs=>cases e
   | lst xs =>
    cases e
    cases rv
    obtain ⟨vs,e1,_⟩:=r a _ ea
    obtain ⟨its,_,p,_⟩:=I.list (SqL.of e1)
    obtain ⟨o,h1,h2,_⟩:=p.isList
    exact PySem.W.kia_tup PySem.W.kitx_list I.kIn ⟨o,h1,h2⟩ htp (Zgf (by simp) hT hU) (fun z=>nomatch z) h
section
variable {X:Cx} {e:Expr} {p pc pd pt pos:Pos} {ge:GE}
theorem ZpW {c d:Str} {T U:String} {k1:Nat} (hT:T∈["tuple","list","str","int","bool","dict"]) (hU:U∈["tuple","list","str","int","bool","dict"]) (hv:bootBuiltins c=some (.type T)) (hw:bootBuiltins d=some (.type U)) (hmc:X.mg c=none) (hmd:X.mg d=none) (hmi:X.mg "isinstance"=none) (hgi:Gl X "isinstance") (hgc:Gl X c) (hgd:Gl X d) (hn:c≠"__name__") (hn':d≠"__name__") (hd:(c==("__debug__":Str))=false) (hd':(d==("__debug__":Str))=false)
  (he:starEach [e,.Tuple [.Name c pc,.Name d pd] k1 pt] X.env=[(false,eval e X.env),(false,eval (.Tuple [.Name c pc,.Name d pd] k1 pt) X.env)]) (he2:starEach [.Tuple [.Name c pc,.Name d pd] k1 pt] X.env=[(false,eval (.Tuple [.Name c pc,.Name d pd] k1 pt) X.env)]) (he3:starEach [.Name c pc,.Name d pd] X.env=[(false,eval (.Name c pc) X.env),(false,eval (.Name d pd) X.env)]) (he4:starEach [.Name d pd] X.env=[(false,eval (.Name d pd) X.env)]) (h:Em X e ge):Em X (.Call (.Name "isinstance" p) [e,.Tuple [.Name c pc,.Name d pd] k1 pt] [] pos) (Zkk T U ge):=by
 refine ⟨fun pins s σ H Q I zz1=>?_,Zp5 h.m⟩
 obtain ⟨ω,G,ts,r,q⟩:=zz1
 have pa:PA X [e,.Tuple [.Name c pc,.Name d pd] k1 pt] (Zla (up X.K ge) (Zla (Zw0 (Zla (tC (.ty T)) (Zla (tC (.ty U)) Zu3))) Zu3)) :=
  Zfh h.p (Zfh (ZrI (Zfh (Zma hgc hmc hv rfl hn hd) (Zfh (Zma hgd hmd hw rfl hn' hd') Zlm (by rw [he4];rfl)) (by rw [he3,he4]))) Zlm (by rw [he2];rfl)) (by rw [he,he2])
 refine wpAny_Call_Name_kw (Ze8 I hgi hmi Zmb ?_ (by decide) (by decide))
 refine PyProof.Rows.callWith_builtin1 (thn (pa pos pins s σ H (fun vs H1=>∃ v w G1 n tp,vs=[v,.ref tp]∧H1 tp=some (.tup [.ty T,.ty U])∧Tr X.K H1 v w∧RelH X.K H1 G1∧tyN w G1=some n∧Q (.bl (ZgP n T||ZgP n U)) H1) I ?_) fun us s1 ⟨vs,H1,I1,r1,v,w,G1,n,tp,e1,ht,tv,rr,ey,qq⟩=>?_) (by rw [he,he2]) (by rw [he2];rfl)
 ·refine ⟨ω,G,ts,r,h.m _ _ _ _ (fun w G1 z v H1 m t r1=>?_) q⟩
  cases ey:tyN w G1 with
  | none=>rw [ey] at z;exact z.elim
  | some n =>
   rw [ey] at z
   exact ⟨(show 2≤sizeLine by decide),fun tp hp=>⟨v,w,G1,n,tp,rfl,ZbX,t.mono (Mono.new hp _),r1.mono0 hp,ey,z _ _ (m.trans (Mono.new hp _)) (.bl _) (r1.mono0 hp)⟩⟩
 ·subst e1
  obtain ⟨u,u2,rfl,rv,rt⟩:=Zo9 r1
  cases rt
  obtain ⟨its,rl,⟨o,h1,h2,nn,h3⟩,_⟩:=I1.tuple (SqT.of ht)
  obtain ⟨t1,t2,rfl,q1,q2⟩:=Zo9 rl
  cases q1
  cases q2
  obtain ⟨oc,od,odt,osl⟩:=o
  dsimp only at h2 h3
  subst h2
  subst h3
  exact Zs8 I1 rv tv rr ey hT hU h1 fun tk=>⟨.bl _,H1,I1.tok tk,rfl,qq⟩
end
end L3
set_option maxHeartbeats 1000000
namespace L3
open PySem PySem.Spec PyProof.Rows L2
section
variable {α:Type} {x y z:α} {xs:List α}
theorem Zc9:atI (x::xs) 0=some x:=Zj6 (j:=0) (xs:=x::xs) rfl
theorem ZbZ:atI (x::y::xs) 1=some y:=Zj6 (j:=1) (xs:=x::y::xs) rfl
theorem Zc7:atI (x::y::z::xs) 2=some z:=Zj6 (j:=2) (xs:=x::y::z::xs) rfl
end
theorem Zaf {w:W} {f:W→Prop}:opt (some w) f=f w:=rfl
theorem Zbb {G:Hw} {p:Addr} {o:HW} (h:G p=none):Sub G (put G p o):=Sub.refl.put h
theorem Zcw {G G':Hw} {p:Addr} {o:HW} (s:Sub G G') (h:G' p=none):Sub G (put G' p o):=s.trans (Zbb h)
theorem Zbm {G:Hw} {p:Addr} {o o':HW}:put (put G p o) p o'=put G p o':=by
 funext b;unfold put;split <;> rfl
theorem Zeq {G:Hw} {p:Addr} {xs:List W} (h:G p=some (.lst xs)):ZiB G (.ref p)=some xs:=by unfold ZiB;dsimp only;rw [h]
theorem Zfo {G:Hw} {p:Addr} {xs:List W} (h:G p=some (.lst xs)):ZlB G (.ref p)=some xs:=by unfold ZlB;dsimp only;rw [h]
theorem Zgr {G:Hw} {p:Addr} {xs:List W} (h:G p=some (.lst xs)):rdL G (.ref p)=some xs:=by unfold rdL;dsimp only;rw [h]
theorem ZcJ {G:Hw} {p:Addr} {xs:List W} {i:Int} (h:G p=some (.lst xs)):ixW (.ref p) (.int i) G=atI xs i:=by unfold ixW;dsimp only;rw [h]
theorem ZeK:∀ bs:List Bool,ZlC (bs.map W.bl)=some bs
 | []=>rfl
 | b::bs=>by show (ZlC (bs.map W.bl)).map (b::·)=_;rw [ZeK bs];rfl
theorem ZiX:∀ bs:List Str,ZlG (bs.map W.str)=some (bs.map V.str)
 | []=>rfl
 | b::bs=>by show (Zod (.str b)).bind (fun v=>(ZlG (bs.map W.str)).map (v::·))=_;rw [ZiX bs];rfl
theorem ZmD (s:Str):∀ bs:List Str,inV (.str s) (bs.map V.str)=bs.any (·==s)
 | []=>rfl
 | b::bs=>by
  show (eqV (.str b) (.str s)||inV (.str s) (bs.map V.str))=_
  rw [ZmD s bs];rfl
theorem ZkQ {gd:Hw→Prop} {ge:GE} {R:List W→Hw→Prop} {f:W→W} {G:Hw} (hgd:gd G):∀ (ws:List W) (o:Option W) (ys:List W),(∀ x∈ws,∀ Q:Kw,Q (f x) G→ge [some x] G Q) →
  ys.length+ws.length≤sizeLine→R (ys++ws.map f) G→Zb4 gd (gNm 0) ZgR ge R ws [o] G ys
 | [],o,ys,_,_,r=>⟨hgd,by simpa using r⟩
 | x::ws,o,ys,h,hl,r=>by
  refine ⟨hgd,by simp only [List.length_cons] at hl;omega,?_⟩
  show ge [some x] G fun y G3=>Zb4 gd (gNm 0) ZgR ge R ws [some x] G3 (ys++[y])
  refine h x List.mem_cons_self _ (ZkQ hgd ws (some x) (ys++[f x]) (fun y hy=>h y (List.mem_cons_of_mem _ hy)) ?_ ?_)
  ·simp only [List.length_append,List.length_cons,List.length_nil] at hl ⊢;omega
  ·simpa [List.append_assoc] using r
theorem Ztw {gd:Hw→Prop} {ge:GE} {R:List W→Hw→Prop} {f:W→W→W} {G:Hw} (hgd:gd G):∀ (ws:List (W×W)) (o o':Option W) (ys:List W),(∀ x∈ws,∀ Q:Kw,Q (f x.1 x.2) G→ge [some x.1,some x.2] G Q) →
  ys.length+ws.length≤sizeLine→R (ys++ws.map fun x=>f x.1 x.2) G→Zb4 gd (ZiL 0 1) ZgR ge R (ws.map fun x=>W.tup [x.1,x.2]) [o,o'] G ys
 | [],o,o',ys,_,_,r=>⟨hgd,by simpa using r⟩
 | x::ws,o,o',ys,h,hl,r=>by
  refine ⟨hgd,by simp only [List.length_cons] at hl;omega,?_⟩
  show ge [some x.1,some x.2] G fun y G3=>Zb4 gd (ZiL 0 1) ZgR ge R (ws.map fun x=>W.tup [x.1,x.2]) [some x.1,some x.2] G3 (ys++[y])
  refine h x List.mem_cons_self _ (Ztw hgd ws (some x.1) (some x.2) (ys++[f x.1 x.2]) (fun y hy=>h y (List.mem_cons_of_mem _ hy)) ?_ ?_)
  ·simp only [List.length_append,List.length_cons,List.length_nil] at hl ⊢;omega
  ·simpa [List.append_assoc] using r
theorem ZhJ:∀ (xs ys:List W),Zlp xs ys=(xs.zip ys).map fun x=>W.tup [x.1,x.2]
 | [],_=>by simp [Zlp]
 | _::_,[]=>by simp [Zlp]
 | x::xs,y::ys=>by simp [Zlp,ZhJ xs ys]
def spR {α:Type} (A:α→List W→Hw→Prop) (f:α→W):Spw:=fun ws G Q _=>∃ x,A x ws G∧Q (f x) G
theorem ZcY {α:Type} {A:α→List W→Hw→Prop} {f:α→W}:Spw.M (spR A f):=(by rintro ws G Q Q' E E' h _ ⟨x,h1,q⟩;exact ⟨x,h1,h _ _ q⟩)
def spL {α:Type} (A:α→List W→Hw→Prop) (f:α→List W):Spw:=fun ws G Q _=>∃ x,A x ws G∧∀ p,G p=none→Q (.ref p) (put G p (.lst (f x)))
theorem Zs6 {α:Type} {A:α→List W→Hw→Prop} {f:α→List W}:Spw.M (spL A f):=(by rintro ws G Q Q' E E' h _ ⟨x,h1,q⟩;exact ⟨x,h1,fun p hp=>h _ _ (q p hp)⟩)
theorem Zn2 {α:Type} (xs:List α):ZmI xs (some 1) none=xs.drop 1:=by
 have e:HT.sIx xs.length 0 (some 1)=min 1 xs.length:=HT.sIx_nat xs.length 0 1
 unfold ZmI
 rw [e,HT.sIx_none]
 cases xs with
 | nil=>rfl
 | cons x xs =>
  have e1:min 1 (x::xs).length=1:=by simp only [List.length_cons];omega
  rw [e1]
  show (xs.take ((xs.length+1) - 1))=xs
  rw [Nat.add_sub_cancel,List.take_length]
theorem Zfe {α:Type} (x:α) (xs:List α):¬ (HT.sIx (x::xs).length 0 (some 1)=0∧HT.sIx (x::xs).length (x::xs).length none=(x::xs).length):=by
 have e:HT.sIx (x::xs).length 0 (some 1)=min 1 (x::xs).length:=HT.sIx_nat (x::xs).length 0 1
 intro h
 have:=h.1
 rw [e] at this
 simp only [List.length_cons] at this
 omega
theorem Ztt {G:Hw} {p:Addr} {xs:List W} {lo hi:Option Int} {Q:Kw} (h:G p=some (.lst xs)) (q:∀ p1,G p1=none→Q (.ref p1) (put G p1 (.lst (ZmI xs lo hi)))):slW (.ref p) lo hi G Q:=by
 unfold slW
 dsimp only
 rw [h]
 exact q
theorem ZaK {G:Hw} {p q:Addr} {o:HW} (h:G p=some o) (h':G q=none):p≠q:=by intro e;rw [e,h'] at h;cases h
theorem Zbq {n:Nat} (h:n≤100000):n≤sizeLine:=Nat.le_trans h (by decide)
theorem ZfH {n:Nat} (h:n≤100000):n < sizeLine:=Nat.lt_of_le_of_lt h (by decide)
end L3
set_option Elab.async false
set_option linter.all false
set_option maxRecDepth 100000
namespace L3
open PySem PySem.Spec PyProof.Rows L2
section
variable {P:Program} {w:World} {K:PySem.W.Frag} {mg:Str→Option Value} {base:Heap}
theorem ok0 {x:Str} {st:Stmt} {f:Addr} {fd:FuncData} {N ps:List Str} {k:Nat} {sp:Spw} {g:GS} (F:Fun K x x st f fd) (S:ZaH N ps (Zac st)) (len:∀ ws G Q E,sp ws G Q E→ws.length=ps.length)
  (hg:∀ {f:Addr} {cdv:Value} {A:Around} {outer:List Env} {s:Shared} {H:Hp} {E:XK},Room k (A.deeper (envOfC x (Zac st) s.heap.objs.size f cdv))→Ssm (cxW P w K mg base N x (Zac st) f cdv A outer s H E).nox (fun B=>B=H) (ZaC st) g)
  (ok:∀ ws G (Q:Kw) (E:Addr→Hw→Prop),Kw.C Q→sp ws G Q E→g (ZaX Q) (Zcs N ws) G):FnOk P w K mg base (CXe P w) (k+1) f fd ps (Ztq K sp):=by
 obtain ⟨oc,od,kV,doc,pm,an,cdv,ct,osl,rfl,lk,hcd⟩:=F.ex
 refine Zsz lk hcd S ((by rintro vs H Q E ⟨ws,G,t,r,q⟩;rw [t.length];exact len ws G _ _ q)) fun A outer s H vs Q E hr hsp=>?_
 obtain ⟨ws,G,t,r,q⟩:=hsp
 have D:=hg (cdv:=cdv) (outer:=outer) (H:=H) (E:=E) hr
 refine ⟨_,(D.p H rfl).nox,Zcs N ws,G,ZiR t,r,.refl,?_⟩
 exact D.m _ _ (ZaX (dn K H Q)) _ (fun a b z σ H2 m ts r2=>z _ H2 m Tr.non r2) (fun a b z=>z) (fun a b z=>z.elim) (fun a b z=>z.elim) (ok ws G _ _ ZwJ q)
end
def ZpI:Spw:=fun ws _ Q _=>∃ ns:List Int,ws=[.rol (ns.map W.int)]∧ns.length≤63∧∀ G',Q (.bl true) G'
theorem ZmN {K:PySem.W.Frag} {H:Hp}:∀ ns:List Int,TrL K H (ns.map V.int) (ns.map W.int)
 | []=>.nil
 | n::ns=>.cons (.int n) (ZmN ns)
theorem Zo1 {K:PySem.W.Frag} {H:Hp} {a:Addr} {ns:List Int} (hl:ns.length≤63) (hO:ZvD H) (hS:SqL K H a (ns.map V.int)):Ztq K ZpI [.ref a] H (fun v _=>v=.bl true) (fun _ _ _=>False):=by
 have ro:RoL K H a (ns.map V.int):=by
  rcases hS with (h | ⟨o,h⟩) | h
  ·rcases hO a with z | ⟨o,xs,z⟩
   ·rw [z] at h;cases h
   ·rw [z] at h;cases h
  ·exact .inl ⟨o,h⟩
  ·exact .inr h
 exact ⟨[.rol (ns.map W.int)],fun _=>none,.cons (.rol ro (ZmN ns)) .nil,(fun a o e=>by cases e),ns,rfl,hl,fun G' v H' m t r=>Zl3 t⟩
theorem Zqh {P:Program} {w:World} {H:Hp} {s:Shared} {e:Value} {s':Shared} (h:CXe P w [] H s (fun _ _ _=>False) e s'):False:=by
 obtain ⟨_,_,_,_,_,q⟩:=h
 exact q
section
variable {K:PySem.W.Frag} {h:Heap} {mg:Str→Option Value} (X:K.In h) (G:h.Ns mainGlobals mg)
include X G
theorem ZbS {x:Str} {st:Stmt} {ps:List Str} {f:Addr} {oc:Value} {od an:Option Addr} {osl:Array (Option Value)} {kV doc pm cdv ct:Value} (e1:PySem.W.nsIn K mainGlobals x=some (some (.ref f)))
  (l:K.lookup f=some ⟨oc,od,.func (PySem.W.fnOf x x (Zf8 st) (ZaC st) (Zac st) .none kV doc pm an cdv ct),osl⟩) (c:PySem.W.codeIn K cdv x=true) (k:PySem.W.keepIn K (.ref f)=true)
  (b:∀ (kV doc pm:Value) (an:Option Addr) (cdv ct:Value) (us:List Value),us.length=ps.length→bindArgs (PySem.W.fnOf x x (Zf8 st) (ZaC st) (Zac st) .none kV doc pm an cdv ct) ⟨us,[]⟩=pure (ps.zip us)):Fn K mg st x ps :=
 ⟨f,_,PySem.W.mg_of X G e1,Zq7 l c k,(Zq7 l c k).binds b⟩
theorem ZlO {x:Str} {i:Int} {t:Tok} (e:PySem.W.nsIn K mainGlobals x=some (some (.int i t))):Glb K mg x (.int i):=⟨.int i,.int i t,PySem.W.mg_of X G e,⟨t,rfl⟩,fun H=>.int i⟩
theorem Zsm {x:Str} {d:Addr} {ts:List (Str×Tok)} {dd:Option Addr} {n:Nat} {sl:Array (Option Value)} (e:PySem.W.nsIn K mainGlobals x=some (some (.ref d))) (l:K.lookup d=some ⟨.type "tuple",dd,.seq ((ts.map fun p=>Value.str p.1 p.2).toArray) n,sl⟩) (hz:ts.length≤1000) :
  Glb K mg x (.tup (ts.map fun p=>.str p.1)):=by
 have vs:∀ ts:List (Str×Tok),Vals (ts.map fun p=>V.str p.1) (ts.map fun p=>Value.str p.1 p.2):=fun ts=>by
  induction ts with
  | nil=>exact .nil
  | cons p ts ih=>exact .cons ⟨p.2,rfl⟩ ih
 have tr:∀ (H:Hp) (ts:List (Str×Tok)),TrL K H (ts.map fun p=>V.str p.1) (ts.map fun p=>W.str p.1):=fun H ts=>by
  induction ts with
  | nil=>exact .nil
  | cons p ts ih=>exact .cons (.str _) ih
 refine ⟨.ref d,.ref d,PySem.W.mg_of X G e,rfl,fun H=>.tup (.inr ⟨_,_,n,l,rfl,rfl,?_,by simpa using vs ts⟩) (tr H ts)⟩
 simp only [List.size_toArray,List.length_map]
 exact Nat.le_trans hz (by decide)
end
theorem Zuf {K:PySem.W.Frag} {h base:Heap} {mg:Str→Option Value} (X:K.In h) (G:h.Ns mainGlobals mg) (B:K.In base) {x:Str} {d:Addr} {o:Obj} {es:Array DictEntry} {ep:Nat} {D:List (Str×Int)} (e:PySem.W.nsIn K mainGlobals x=some (some (.ref d))) (l:K.lookup d=some o)
  (hd:(d==sysModules)=false) (hx:o.ExactDict) (ho:o.data=.dict es ep) (hr:KTD.Rows (KTD.Dat.At base) es.toList (D.map fun p=>(p.1,KTD.Dat.flat (.int p.2)))):Zwg mg base x D :=
 ⟨d,PySem.W.mg_of X G e,hd,o,es,ep,B _ _ l,hx,ho,hr⟩
theorem ZwD {l:PySem.W.OpenLaw} {q:Program} {loose:List Str} {XP:(Str→Option Value)→Heap→Prop} {YP:World→Heap→Prop} {d:DefRec} {K:Params→PySem.W.Frag} {k:Nat} (hr:Room k callerA) (hn:l.most=some 63) (hdf:d.params.defaults=[])
  (hY:∀ (w:World) (h:Heap),YP w h→(K w.params).In h)
  (F:∀ (w:World) (mg:Str→Option Value) (fa:Addr) (h:Heap),(K w.params).In h→h.Ns mainGlobals mg→mg d.name=some (.ref fa) →
   ∃ fd:FuncData,(∀ (s:Shared) (u:Value),BindsTo s fd ⟨[u],[]⟩ [("script",u)])∧∀ base:Heap,(K w.params).In base→base.Ns mainGlobals mg→FnOk l.prog w (K w.params) mg base (CXe l.prog w) k fa fd ["script"] (Ztq (K w.params) ZpI)) :
  PySem.W.WalkO q loose XP YP l.row.toRowW d [] (fun f vs=>PySem.call f vs) :=
 L2.Zr2 (n:=63) (k:=k) (x:="script") (CX:=fun w=>CXe l.prog w) (sp:=fun w=>Ztq (K w.params) ZpI) hn (by decide) hdf hr hY F (fun w H a ns hl hO hS=>Zo1 hl hO hS) fun w H s e s' z=>Zqh z
theorem ln0 {us:List Value} (h:us.length=0):us=[]:=List.length_eq_zero_iff.mp h
theorem ln1 {us:List Value} {n:Nat} (h:us.length=n+1):∃ a r,us=a::r∧r.length=n:=by
 cases us with
 | nil=>cases h
 | cons a r=>exact ⟨a,r,rfl,Nat.succ.inj h⟩
end L3
namespace KG
open PySem L2 L3
mutual
inductive Kd where
 | any | num | truth
 | to (a b:Kd) | box (a:Kd) | row (fs:Fs) (o:Bool)
inductive Fs where
 | nil | cons (n:Str) (m:Bool) (k:Kd) (r:Fs)
end
def Zdf (m:Bool):Str:=if m then "must" else "may"
mutual
def Kd.enc:Kd→W
 | .any=>.tup [.str "any"]
 | .num=>.tup [.str "num"]
 | .truth=>.tup [.str "truth"]
 | .to a b=>.tup [.str "to",a.enc,b.enc]
 | .box a=>.tup [.str "box",a.enc]
 | .row fs o=>.tup [.str "row",.tup fs.enc,.bl o]
def Fs.enc:Fs→List W
 | .nil=>[]
 | .cons n m k r=>.tup [.str n,.str (Zdf m),k.enc]::r.enc
end
def Fs.kinds:Fs→List Kd
 | .nil=>[]
 | .cons _ _ k r=>k::r.kinds
def Fs.names:Fs→List Str
 | .nil=>[]
 | .cons n _ _ r=>n::r.names
def Kd.kids:Kd→List Kd
 | .to a b=>[a,b]
 | .box a=>[a]
 | .row fs _=>fs.kinds
 | _=>[]
mutual
def Kd.cnt:Kd→Nat
 | .to a b=>1+(a.cnt+b.cnt)
 | .box a=>1+a.cnt
 | .row fs _=>1+fs.cnt
 | _=>1
def Fs.cnt:Fs→Nat
 | .nil=>0
 | .cons _ _ k r=>k.cnt+r.cnt
end
mutual
def Kd.dp:Kd→Nat
 | .to a b=>1+max a.dp b.dp
 | .box a=>1+a.dp
 | .row fs _=>1+fs.dp
 | _=>1
def Fs.dp:Fs→Nat
 | .nil=>0
 | .cons _ _ k r=>max k.dp r.dp
end
mutual
def Kd.all:Kd→List Kd
 | .to a b=>.to a b::(a.all++b.all)
 | .box a=>.box a::a.all
 | .row fs o=>.row fs o::fs.all
 | .any=>[.any]
 | .num=>[.num]
 | .truth=>[.truth]
def Fs.all:Fs→List Kd
 | .nil=>[]
 | .cons _ _ k r=>k.all++r.all
end
def ZhO:List Kd→Nat
 | []=>0
 | k::r=>k.cnt+ZhO r
def dpL:List Kd→Nat
 | []=>0
 | k::r=>max k.dp (dpL r)
theorem ZoO:∀ fs:Fs,fs.cnt=ZhO fs.kinds
 | .nil=>rfl
 | .cons _ _ k r=>by show k.cnt+r.cnt=k.cnt+ZhO r.kinds;rw [ZoO r]
theorem Zvb:∀ fs:Fs,fs.dp=dpL fs.kinds
 | .nil=>rfl
 | .cons _ _ k r=>by show max k.dp r.dp=max k.dp (dpL r.kinds);rw [Zvb r]
theorem ZjU (k:Kd):k.cnt=1+ZhO k.kids:=by
 cases k with
 | to a b=>show 1+(a.cnt+b.cnt)=1+(a.cnt+(b.cnt+0));omega
 | box a=>show 1+a.cnt=1+(a.cnt+0);omega
 | row fs o=>show 1+fs.cnt=1+ZhO fs.kinds;rw [ZoO]
 | _=>rfl
theorem ZjN (k:Kd):k.dp=1+dpL k.kids:=by
 cases k with
 | to a b=>show 1+max a.dp b.dp=1+max a.dp (max b.dp 0);omega
 | box a=>show 1+a.dp=1+max a.dp 0;omega
 | row fs o=>show 1+fs.dp=1+dpL fs.kinds;rw [Zvb]
 | _=>rfl
theorem Zh8:∀ (l m:List Kd),ZhO (l++m)=ZhO l+ZhO m
 | [],m=>by simp [ZhO]
 | k::l,m=>by show k.cnt+ZhO (l++m)=k.cnt+ZhO l+ZhO m;rw [Zh8 l m];omega
theorem ZiV:∀ (l m:List Kd),dpL (l++m)=max (dpL l) (dpL m)
 | [],m=>by simp [dpL]
 | k::l,m=>by show max k.dp (dpL (l++m))=max (max k.dp (dpL l)) (dpL m);rw [ZiV l m];omega
theorem Zg2 (k:Kd):1≤k.cnt:=by rw [ZjU];omega
theorem ZcZ (k:Kd):1≤k.dp:=by rw [ZjN];omega
theorem Zi0:∀ l:List Kd,ZhO l=l.length+ZhO (l.flatMap Kd.kids)
 | []=>rfl
 | k::l=>by
  show k.cnt+ZhO l=(l.length+1)+ZhO ((k::l).flatMap Kd.kids)
  rw [List.flatMap_cons,Zh8,Zi0 l,ZjU k];omega
theorem ZkT:∀ l:List Kd,l≠[]→dpL l=1+dpL (l.flatMap Kd.kids)
 | [],h=>absurd rfl h
 | [k],_=>by
  show max k.dp 0=1+dpL ([k].flatMap Kd.kids)
  rw [List.flatMap_cons,List.flatMap_nil,List.append_nil,ZjN];omega
 | k::k'::l,_=>by
  have ih:=ZkT (k'::l) (by simp)
  show max k.dp (dpL (k'::l))=1+dpL ((k::k'::l).flatMap Kd.kids)
  rw [List.flatMap_cons,ZiV,ih,ZjN k];omega
theorem Zj9:∀ l:List Kd,l.length≤ZhO l
 | []=>Nat.le_refl _
 | k::l=>by have:=Zj9 l;have:=Zg2 k;show l.length+1≤k.cnt+ZhO l;omega
theorem Zmy:∀ {l:List Kd} {k:Kd},k∈l→k.cnt≤ZhO l
 | k'::l,k,h=>by
  show k.cnt≤k'.cnt+ZhO l
  rcases List.mem_cons.mp h with rfl | h
  ·omega
  ·have:=Zmy h;omega
theorem Zf5:∀ {l:List Kd} {k:Kd},k∈l→k.dp≤dpL l
 | k'::l,k,h=>by
  show k.dp≤max k'.dp (dpL l)
  rcases List.mem_cons.mp h with rfl | h
  ·omega
  ·have:=Zf5 h;omega
theorem ZaF {k c:Kd} (h:c∈k.kids):c.dp+1≤k.dp:=by rw [ZjN k];have:=Zf5 h;omega
theorem ZpA (k:Kd):k.kids.length+1≤k.cnt:=by rw [ZjU k];have:=Zj9 k.kids;omega
theorem Zru:∀ fs:Fs,fs.enc.length=fs.kinds.length
 | .nil=>rfl
 | .cons _ _ k r=>by show r.enc.length+1=r.kinds.length+1;rw [Zru r]
def Kd.unk:Kd→Bool
 | .any=>true
 | .row _ o=>o
 | _=>false
def Kd.fb:Kd→Bool
 | .to _ _=>true
 | .box _=>true
 | _=>false
def Kd.known (k:Kd):Bool:=!(k.all.any Kd.unk)
def Kd.data (k:Kd):Bool:=!(k.all.any Kd.fb)
def Kd.hd:Kd→Str
 | .any=>"any"
 | .num=>"num"
 | .truth=>"truth"
 | .to _ _=>"to"
 | .box _=>"box"
 | .row _ _=>"row"
def Kd.own:Kd→List Str
 | .row _ o=>if o then ["row","open"] else ["row"]
 | k=>[k.hd]
def Zgl (z:Str):Bool:=!Za4 z "a"&&!Za4 "z" z
def Zdt (n:Str):Bool:=decide (1≤n.length)&&decide (n.length≤8)&&n.cps.toList.all fun c=>Zgl ⟨#[c]⟩
def Zl6:List Str→Bool
 | a::b::r=>Za4 a b&&Zl6 (b::r)
 | _=>true
mutual
def Kd.ok:Kd→Bool
 | .to a b=>a.ok&&b.ok
 | .box a=>a.ok
 | .row fs _=>Zl6 fs.names&&fs.ok
 | _=>true
def Fs.ok:Fs→Bool
 | .nil=>true
 | .cons n _ k r=>Zdt n&&k.ok&&r.ok
end
theorem Zgh:∀ {fs:Fs},fs.ok=true→∀ c∈fs.kinds,c.ok=true
 | .nil,_,c,hc=>by cases hc
 | .cons n m k r,h,c,hc=>by
  have h':(Zdt n&&k.ok&&r.ok)=true:=h
  simp only [Bool.and_eq_true] at h'
  rcases List.mem_cons.mp hc with rfl | hc
  ·exact h'.1.2
  ·exact Zgh h'.2 c hc
theorem Zpi {k:Kd} (h:k.ok=true):∀ c∈k.kids,c.ok=true:=by
 intro c hc
 cases k with
 | to a b =>
  have h':(a.ok&&b.ok)=true:=h
  simp only [Bool.and_eq_true] at h'
  have hc':c=a∨c=b:=by simpa [Kd.kids] using hc
  rcases hc' with rfl | rfl
  ·exact h'.1
  ·exact h'.2
 | box a=>have hc':c=a:=by simpa [Kd.kids] using hc
          subst hc';exact h
 | row fs o =>
  have h':(Zl6 fs.names&&fs.ok)=true:=h
  simp only [Bool.and_eq_true] at h'
  exact Zgh h'.2 c hc
 | _=>cases hc
set_option maxHeartbeats 4000000
open PySem PySem.Spec PyProof.Rows L2 L3
abbrev Za2:Stmt:=top 23
abbrev Zce:Stmt:=top 24
abbrev ZdL:Stmt:=top 22
abbrev Zc4:Stmt:=top 21
abbrev Zb5:Stmt:=top 20
abbrev Zda:Stmt:=top 19
abbrev Zbu:Stmt:=top 18
abbrev Zbs:Stmt:=top 17
abbrev ZbE:Stmt:=top 16
abbrev ZdP:Stmt:=top 15
abbrev Zb2:Stmt:=top 13
abbrev Zc5:Stmt:=top 9
abbrev Zc2:Stmt:=top 10
abbrev Zbj:Stmt:=top 11
abbrev ZbP:Stmt:=top 14
abbrev Zb6:Stmt:=top 44
abbrev Zb8:Stmt:=top 45
abbrev Zec:Stmt:=top 12
abbrev Za1:Stmt:=top 28
abbrev Zbc:Stmt:=top 27
abbrev ZdT:Stmt:=top 26
abbrev ZaQ:Stmt:=top 33
abbrev ZaY:Stmt:=top 32
abbrev ZcF:Stmt:=top 31
abbrev Ze1:Stmt:=top 30
abbrev Zbt:Stmt:=top 35
abbrev Zb7:Stmt:=top 36
abbrev ZbQ:Stmt:=top 37
abbrev Zc8:Stmt:=top 38
abbrev Zcy:Stmt:=top 39
abbrev Za3:Stmt:=top 40
abbrev ZbK:Stmt:=top 41
abbrev Zcb:Stmt:=top 42
abbrev ZcB:Stmt:=top 43
abbrev ZbM:Stmt:=top 48
abbrev ZbL:Stmt:=top 49
abbrev Zbw:Stmt:=top 50
abbrev Zkz:Stmt:=top 51
def Zh4:List (Str×Int):=[("any",1),("num",1),("truth",1),("to",3),("box",2),("row",3)]
structure Adr where
 CastError:Addr
 NoKind:Addr
structure Tx (K:PySem.W.Frag) (mg:Str→Option Value) (base:Heap) (a:Adr):Prop where
 ZiK:mg "all"=none
 Zil:mg "bool"=none
 ZiN:mg "int"=none
 ZaS:mg "isinstance"=none
 ZfK:mg "len"=none
 Zjh:mg "list"=none
 ZlN:mg "set"=none
 ZeR:mg "sorted"=none
 ZkH:mg "str"=none
 Zcf:mg "tuple"=none
 Zkg:mg "zip"=none
 Zls:mg "CastError"=some (.ref a.CastError)
 Zq1:mg "NoKind"=some (.ref a.NoKind)
 ZgM:Glb K mg "MARKS" (.tup [(.str "must"),(.str "may")])
 ZcL:Glb K mg "MOST_DEPTH" (.int 8)
 ZcI:Glb K mg "MOST_KINDS" (.int 40)
 ZbU:Glb K mg "MOST_LETTERS" (.int 8)
 Zlk:Zwg mg base "LENGTHS" Zh4
 Zco:Fn K mg Za2 "is_small_letter" ["sign"]
 Zef:Fn K mg Zce "names_rise" ["names"]
 Zgu:Fn K mg ZdL "is_name" ["thing"]
 Zfw:Fn K mg Zc4 "is_field" ["thing"]
 Zeg:Fn K mg Zb5 "are_fields" ["thing"]
 ZfB:Fn K mg Zda "has_form" ["thing"]
 Zdc:Fn K mg Zbu "kinds_within" ["kind"]
 Zdb:Fn K mg Zbs "layer_within" ["layer","things_within"]
 ZdZ:Fn K mg ZbE "is_made_of" ["thing","is_formed","things_within","most","deepest"]
 ZgI:Fn K mg ZdP "is_kind" ["thing"]
 Zd5:Fn K mg Zb2 "check_kind" ["thing"]
 ZfE:Fn K mg Zc5 "entry_of" ["row","name"]
 Zfz:Fn K mg Zc2 "names_of" ["row"]
 ZcT:Fn K mg Zbj "names_of_both" ["one","other"]
 ZdD:Fn K mg ZbP "check_kinds" ["one","other"]
 Zeb:Fn K mg Zb6 "_law_entry" ["kind","name"]
 Zd6:Fn K mg Zb8 "_law_names" ["one","other"]
 Zhx:Fn K mg Zec "row_of" ["names","entries","is_open"]
 Zcl:Fn K mg Za1 "join_of_entries" ["one","other"]
 Zde:Fn K mg Zbc "join_of_rows" ["one","other"]
 Zfg:Fn K mg ZdT "join_of" ["one","other"]
 ZbJ:Fn K mg ZaQ "either_of_entries" ["one","other"]
 Zcu:Fn K mg ZaY "either_of_rows" ["one","other"]
 ZdK:Fn K mg ZcF "either_of" ["one","other"]
 ZhF:Fn K mg Ze1 "either" ["one","other"]
 Zdi:Fn K mg Zbt "_law_cell_at" ["script","k"]
 Zee:Fn K mg Zb7 "_law_state" ["script","k"]
 Zdy:Fn K mg ZbQ "_law_choice" ["state","many"]
 ZeP:Fn K mg Zc8 "_law_row" ["state","deep","plain","known"]
 Zc3:Fn K mg Zcy "_law_kind" ["state","deep","plain","known"]
 Zcn:Fn K mg Za3 "_law_drawn_kind" ["script","k","plain","known"]
 ZdU:Fn K mg ZbK "_law_less" ["state","kind"]
 Zdo:Fn K mg Zcb "_law_other" ["state","kind"]
 ZeT:Fn K mg ZcB "_law_pair" ["script","k","plain"]
 ZcQ:Fn K mg ZbM "_law_joined" ["one","other"]
 ZcP:Fn K mg ZbL "_law_either" ["one","other"]
 ZbV:Fn K mg Zbw "_law_is_kind" ["found"]
 Zr8:Fn K mg Zkz "law" ["script"]
set_option Elab.async false
set_option linter.all false
set_option maxRecDepth 100000
section
variable {P:Program} {w:World} {K:PySem.W.Frag} {mg:Str→Option Value} {base:Heap} {a:Adr}
abbrev ZeH:List Str:=["sign"]
theorem ZgK:ZaH ZeH ["sign"] (Zac Za2):=⟨rfl,rfl,rfl,by decide +kernel,rfl,by decide +kernel,by decide +kernel⟩
def Zev:GS:=(ZaL (ZcK (Zgk (fun i j=>decide (i≤j)) (fun a b=>!Za4 b a)) (Zgk (fun i j=>decide (i≤j)) (fun a b=>!Za4 b a)) (gC (.str "a")) (Zag 0) (gC (.str "z"))))
theorem ZgN {k:Nat} (T:Tx K mg base a) {f:Addr} {cdv:Value} {A:Around} {outer:List Env} {s:Shared} {H:Hp} {E:XK} (hr:Room k (A.deeper (envOfC "is_small_letter" (Zac Za2) s.heap.objs.size f cdv))):Ssm (cxW P w K mg base ZeH "is_small_letter" (Zac Za2) f cdv A outer s H E).nox (fun B=>B=H) (ZaC Za2) (Zev) :=
 have hu:=Zfb hr
 (Zak (Zav (Zqr ZmX ZmX rfl Zar (Zam (i:=0) rfl rfl rfl rfl) Zar)))
abbrev Zhm:List Str:=["names"]
theorem Zk2:ZaH Zhm ["names"] (Zac Zce):=⟨rfl,rfl,rfl,by decide +kernel,rfl,by decide +kernel,by decide +kernel⟩
def Zg4:GS:=(ZaL (gB (rF Zib) (Zab (ZcX (ZkI (Zab (Zag 0) (Zab (gSl (Zag 0) (ZdY (gC (.int 1))) Zbn) Zan))) 2 (ZiL 0 1) ZgR (Zal (Zgk (fun i j=>decide (i < j)) Za4) (Zag 0) (Zag 1))) Zan)))
theorem Zln {k:Nat} (T:Tx K mg base a) {f:Addr} {cdv:Value} {A:Around} {outer:List Env} {s:Shared} {H:Hp} {E:XK} (hr:Room k (A.deeper (envOfC "names_rise" (Zac Zce) s.heap.objs.size f cdv))):Ssm (cxW P w K mg base Zhm "names_rise" (Zac Zce) f cdv A outer s H E).nox (fun B=>B=H) (ZaC Zce) (Zg4) :=
 have hu:=Zfb hr
 (Zak (Zav (ZfL Zkj (Zim rfl) rfl T.ZiK (by decide) rfl rfl rfl (Zaa rfl (ZeU (Nc:=["one","other"]) rfl (ZqD rfl (by decide +kernel) (by decide +kernel)) (fun _=>rfl) (Zrx T.Zkg rfl rfl rfl (Zaa rfl (Zam (i:=0) rfl rfl rfl rfl) (Zaa rfl (Zvc (Zam (i:=0) rfl rfl rfl rfl) (Zh6 Zae) Zh9) Zad))) (Zoa (i:=0) (j:=1) rfl (by decide) rfl rfl rfl rfl) (fun C fp s1 H1=>Zex) (fun C fp s1 H1=>(ZfU ZiY rfl (Zam (i:=0) rfl rfl rfl rfl) (Zam (i:=1) rfl rfl rfl rfl)))) Zad))))
abbrev ZkC:List Str:=["thing"]
theorem ZoI:ZaH ZkC ["thing"] (Zac ZdL):=⟨rfl,rfl,rfl,by decide +kernel,rfl,by decide +kernel,by decide +kernel⟩
def Zk7 (ZbW:Spw):GS:=(ZaB (gIf (gOr (gNt (Zfd (ZdF "str" (Zag 0)))) (gNt (gTB (ZcK (Zgk (fun i j=>decide (i≤j)) (fun a b=>!Za4 b a)) (Zgk (fun i j=>decide (i≤j)) (fun a b=>!Za4 b a)) (gC (.int 1)) (gB (rF ZfM) (Zab (Zag 0) Zan)) (gC (.int 8)))))) (ZaL (gC (.bl false))) Zax) (ZaL (gB (rF Zib) (Zab (ZcX (Zbv (Zag 0)) 1 (gNm 0) ZgR (Zap ZbW (fun _ _ _=>False) (Zab (Zag 0) Zan))) Zan))))
theorem Zpp {k:Nat} (T:Tx K mg base a) {Zch:Nat} {ZbW:Spw} (Zg1:Df P w K mg base "is_small_letter" Zch 1 ZbW) (ZgV:Zch≤k) {f:Addr} {cdv:Value} {A:Around} {outer:List Env} {s:Shared} {H:Hp} {E:XK} (hr:Room k (A.deeper (envOfC "is_name" (Zac ZdL) s.heap.objs.size f cdv))):Ssm (cxW P w K mg base ZkC "is_name" (Zac ZdL) f cdv A outer s H E).nox (fun B=>B=H) (ZaC ZdL) (Zk7 ZbW) :=
 have hu:=Zfb hr
 (Zai (ZaZ (Zeo (Zkf (Zfa (ZeN (fun _=>rfl) (Zge (T:="str") (by decide) Zoc T.ZkH T.ZaS rfl rfl (by decide) rfl rfl rfl (Zam (i:=0) rfl rfl rfl rfl)))) (Zjf (Zfa (Zm8 ZmX ZmX rfl Zae (ZfL Zfp (ZdV) rfl T.ZfK (by decide) rfl rfl rfl (Zaa rfl (Zam (i:=0) rfl rfl rfl rfl) Zad)) (Zjz T.ZbU rfl rfl)))))) (Zak (Zav Zfs)) Zay) (Zak (Zav (ZfL Zkj (Zim rfl) rfl T.ZiK (by decide) rfl rfl rfl (Zaa rfl (ZeU (Nc:=["sign"]) rfl (ZqD rfl (by decide +kernel) (by decide +kernel)) (fun _=>rfl) (Zc0 (fun _ _=>rfl) (Zam (i:=0) rfl rfl rfl rfl)) (Ze2 (i:=0) (by decide) rfl rfl) (fun C fp s1 H1=>Zex) (fun C fp s1 H1=>(Zao Zg1 (hr.mono ZgV) rfl ZaD rfl rfl rfl (Zaa rfl (Zam (i:=0) rfl rfl rfl rfl) Zad)))) Zad)))))
abbrev ZiU:List Str:=["thing"]
theorem Zny:ZaH ZiU ["thing"] (Zac Zc4):=⟨rfl,rfl,rfl,by decide +kernel,rfl,by decide +kernel,by decide +kernel⟩
def Zi1 (ZfD:Spw):GS:=(ZaB (gIf (gOr (gNt (Zfd (ZdF "tuple" (Zag 0)))) (gTB (Zal (Zaq (eqF true)) (gB (rF ZfM) (Zab (Zag 0) Zan)) (gC (.int 3))))) (ZaL (gC (.bl false))) Zax) (ZaL (Zdx (Zap ZfD (fun _ _ _=>False) (Zab (Zal (Zaq ixW) (Zag 0) (gC (.int 0))) Zan)) (Zal (Zaq (inF false)) (Zal (Zaq ixW) (Zag 0) (gC (.int 1))) (gC (.tup [(.str "must"),(.str "may")]))))))
theorem Znv {k:Nat} (T:Tx K mg base a) {ZgA:Nat} {ZfD:Spw} (ZnI:Df P w K mg base "is_name" ZgA 1 ZfD) (Zo4:ZgA≤k) {f:Addr} {cdv:Value} {A:Around} {outer:List Env} {s:Shared} {H:Hp} {E:XK} (hr:Room k (A.deeper (envOfC "is_field" (Zac Zc4) s.heap.objs.size f cdv))):Ssm (cxW P w K mg base ZiU "is_field" (Zac Zc4) f cdv A outer s H E).nox (fun B=>B=H) (ZaC Zc4) (Zi1 ZfD) :=
 have hu:=Zfb hr
 (Zai (ZaZ (Zeo (Zkf (Zfa (ZeN (fun _=>rfl) (Zge (T:="tuple") (by decide) Zcx T.Zcf T.ZaS rfl rfl (by decide) rfl rfl rfl (Zam (i:=0) rfl rfl rfl rfl)))) (Zjf (ZaG (Zd7 hu) rfl (ZfL Zfp (ZdV) rfl T.ZfK (by decide) rfl rfl rfl (Zaa rfl (Zam (i:=0) rfl rfl rfl rfl) Zad)) Zae)))) (Zak (Zav Zfs)) Zay) (Zak (Zav (Zkl (Zao ZnI (hr.mono Zo4) rfl ZaD rfl rfl rfl (Zaa rfl (Zas (fun _ _=>rfl) (Zam (i:=0) rfl rfl rfl rfl) Zae) Zad)) (Zf1 (ZfU Zrt rfl (Zas (fun _ _=>rfl) (Zam (i:=0) rfl rfl rfl rfl) Zae) (Zjz T.ZgM rfl rfl)))))))
abbrev Zhi:List Str:=["thing"]
theorem Zk4:ZaH Zhi ["thing"] (Zac Zb5):=⟨rfl,rfl,rfl,by decide +kernel,rfl,by decide +kernel,by decide +kernel⟩
def Zg5 (ZeW:Spw) (ZdA:Spw):GS:=(ZaB (gIf (gNt (Zfd (ZdF "tuple" (Zag 0)))) (ZaL (gC (.bl false))) Zax) (ZaL (Zdx (gB (rF Zib) (Zab (ZcX (Zbv (Zag 0)) 1 (gNm 0) ZgR (Zap ZeW (fun _ _ _=>False) (Zab (Zag 0) Zan))) Zan)) (Zap ZdA (fun _ _ _=>False) (Zab (ZcX (Zbv (Zag 0)) 1 (gNm 0) ZgR (Zal (Zaq ixW) (Zag 0) (gC (.int 0)))) Zan)))))
theorem Zlc {k:Nat} (T:Tx K mg base a) {ZfF:Nat} {ZeW:Spw} (Zna:Df P w K mg base "is_field" ZfF 1 ZeW) (Znx:ZfF≤k) {Zd4:Nat} {ZdA:Spw} (Zkt:Df P w K mg base "names_rise" Zd4 1 ZdA) (Zky:Zd4≤k) {f:Addr} {cdv:Value} {A:Around} {outer:List Env} {s:Shared} {H:Hp} {E:XK} (hr:Room k (A.deeper (envOfC "are_fields" (Zac Zb5) s.heap.objs.size f cdv))):Ssm (cxW P w K mg base Zhi "are_fields" (Zac Zb5) f cdv A outer s H E).nox (fun B=>B=H) (ZaC Zb5) (Zg5 ZeW ZdA) :=
 have hu:=Zfb hr
 (Zai (ZaZ (Zfa (ZeN (fun _=>rfl) (Zge (T:="tuple") (by decide) Zcx T.Zcf T.ZaS rfl rfl (by decide) rfl rfl rfl (Zam (i:=0) rfl rfl rfl rfl)))) (Zak (Zav Zfs)) Zay) (Zak (Zav (Zkl (ZfL Zkj (Zim rfl) rfl T.ZiK (by decide) rfl rfl rfl (Zaa rfl (ZeU (Nc:=["part"]) rfl (ZqD rfl (by decide +kernel) (by decide +kernel)) (fun _=>rfl) (Zc0 (fun _ _=>rfl) (Zam (i:=0) rfl rfl rfl rfl)) (Ze2 (i:=0) (by decide) rfl rfl) (fun C fp s1 H1=>Zex) (fun C fp s1 H1=>(Zao Zna (hr.mono Znx) rfl ZaD rfl rfl rfl (Zaa rfl (Zam (i:=0) rfl rfl rfl rfl) Zad)))) Zad)) (Zf1 (Zao Zkt (hr.mono Zky) rfl ZaD rfl rfl rfl (Zaa rfl (ZeU (Nc:=["part"]) rfl (ZqD rfl (by decide +kernel) (by decide +kernel)) (fun _=>rfl) (Zc0 (fun _ _=>rfl) (Zam (i:=0) rfl rfl rfl rfl)) (Ze2 (i:=0) (by decide) rfl rfl) (fun C fp s1 H1=>Zex) (fun C fp s1 H1=>(Zas (fun _ _=>rfl) (Zam (i:=0) rfl rfl rfl rfl) Zae))) Zad)))))))
end
set_option maxHeartbeats 1000000
variable {P:Program} {w:World} {K:PySem.W.Frag} {mg:Str→Option Value} {base:Heap} {a:Adr}
local macro_rules | `(tactic| walk_at "rd") => `(tactic| ((try dsimp only [ZaB, gIf, ZaL, Zbh, ZbA, Zax, Zag, gC, Zal, gTB, Zfd, gNt, Zhs, gOr, Zdx, Zht, ZeO, Zke, L3.ZaN, Zcr, L3.Zab, L3.Zan, Zap, gB, rF, Zaq, ZdF, gMt, ZkE, ZcK, Zgk, Zhq, Zdk, L3.ZgJ, Zfq, gSl, ZdY, Zbn, ZcX, Zbv, ZkI, ZaX, Zcs, List.map_cons, List.map_nil, List.length_cons, List.length_nil, List.cons_append, List.nil_append, List.getElem?_cons_zero, List.getElem?_cons_succ, List.set_cons_zero, List.set_cons_succ, List.replicate, Zhv, tyN, Zaf, Zc9, ZbZ, Zc7, ixW, eqF, eqW, ZfM, ZkR, Zib, List.getElem?_nil]); (try simp only [ZaB, gIf, ZaL, Zbh, ZbA, Zax, Zag, gC, Zal, gTB, Zfd, gNt, Zhs, gOr, Zdx, Zht, ZeO, Zke, L3.ZaN, Zcr, L3.Zab, L3.Zan, Zap, gB, rF, Zaq, ZdF, gMt, ZkE, ZcK, Zgk, Zhq, Zdk, L3.ZgJ, Zfq, gSl, ZdY, Zbn, ZcX, Zbv, ZkI, ZaX, Zcs, List.map_cons, List.map_nil, List.length_cons, List.length_nil, List.cons_append, List.nil_append, List.getElem?_cons_zero, List.getElem?_cons_succ, List.set_cons_zero, List.set_cons_succ, List.replicate, Zhv, tyN, Zaf, Zc9, ZbZ, Zc7, ixW, eqF, eqW, ZfM, ZkR, Zib, List.getElem?_nil])))
abbrev ZpD:Spw:=spR (fun (z:Str) ws _=>ws=[.str z]) fun z=>.bl (Zgl z)
theorem Zch (T:Tx K mg base a):Df P w K mg base "is_small_letter" 1 1 ZpD:=by
 refine mk0 T.Zco rfl ZgK ZcY ((by rintro ws G Q E ⟨z,e,_⟩;rw [e];rfl)) (ZgN T) fun ws G Q E hC q=>?_
 obtain ⟨z,rfl,q⟩:=q
 unfold Zev
 walk_at "rd"
 dsimp only at q
 unfold Zgl at q
 refine Zwz (fun h=>?_) (fun h=>?_)
 ·rw [h] at q;simpa using q
 ·rw [Bool.eq_false_iff.mpr h] at q;simpa using q
theorem ZmY:∀ ns:List Str,Zl6 ns=((ns.zip (ns.drop 1)).map fun x=>Za4 x.1 x.2).all id
 | []=>rfl
 | [_]=>rfl
 | a::b::r=>by
  show (Za4 a b&&Zl6 (b::r))=_
  rw [ZmY (b::r)];rfl
abbrev Zt4:Spw:=spR (fun (ns:List Str) ws G=>∃ p,ws=[.ref p]∧G p=some (.lst (ns.map W.str))∧ns.length≤1000) fun ns=>.bl (Zl6 ns)
def ltW (x y:W):W:=match x,y with | .str a,.str b=>.bl (Za4 a b) | _,_=>.non
theorem Zd4 (T:Tx K mg base a):Df P w K mg base "names_rise" 1 1 Zt4:=by
 refine mk0 T.Zef rfl Zk2 ZcY ((by rintro ws G Q E ⟨ns,⟨p,e,_⟩,_⟩;rw [e];rfl)) (Zln T) fun ws G Q E hC q=>?_
 obtain ⟨ns,⟨p,rfl,hp,hl⟩,q⟩:=q
 unfold Zg4
 walk_at "rd"
 refine Ztt hp fun p1 h1=>?_
 have hne:=ZaK hp h1
 have e1:rdL (put G p1 (.lst (ZmI (ns.map W.str) (some 1) none))) (.ref p)=some (ns.map W.str):=Zgr (by rw [Zat hne];exact hp)
 have e2:rdL (put G p1 (.lst (ZmI (ns.map W.str) (some 1) none))) (.ref p1)=some (ZmI (ns.map W.str) (some 1) none):=Zgr Zah
 simp only [e1,e2]
 rw [Zn2,← List.map_drop,ZhJ,List.zip_map,List.map_map]
 have e3:((fun x:W×W=>W.tup [x.1,x.2])∘Prod.map W.str W.str)=(fun x:W×W=>W.tup [x.1,x.2])∘fun x:Str×Str=>(W.str x.1,W.str x.2):=rfl
 rw [e3,← List.map_map]
 refine Ztw (f:=ltW) ⟨by rw [Zn2,← List.map_drop] at e1;exact e1,by rw [Zn2,← List.map_drop] at e2;exact e2⟩ _ none none [] (fun x hx Q' q'=>?_) ?_ ?_
 ·obtain ⟨y,hy,rfl⟩:=List.mem_map.mp hx
  exact q'
 ·rw [List.length_map,List.length_zip]
  exact Zbq (by simp only [List.length_nil];omega)
 ·intro p2 h2
  rw [List.map_map]
  have e4:((fun x:W×W=>ltW x.1 x.2)∘fun x:Str×Str=>(W.str x.1,W.str x.2))=W.bl∘fun x:Str×Str=>Za4 x.1 x.2:=rfl
  rw [e4,← List.map_map,List.nil_append]
  simp only [Zeq Zah,Option.bind_some,ZeK,Option.map_some,Zaf]
  rw [← ZmY]
  exact hC _ _ _ (Zcw (Zbb h1) h2) q
abbrev ZuL:Spw:=spR (fun (z:Str) ws _=>ws=[.str z]∧z.length≤100000) fun z=>.bl (Zdt z)
def ZwL (x:W):W:=match x with | .str z=>.bl (Zgl z) | _=>.non
theorem ZgA (T:Tx K mg base a):Df P w K mg base "is_name" 2 1 ZuL:=by
 refine mk0 T.Zgu rfl ZoI ZcY ((by rintro ws G Q E ⟨z,⟨e,_⟩,_⟩;rw [e];rfl)) (Zpp T (Zch T) (Nat.le_refl _)) fun ws G Q E hC q=>?_
 obtain ⟨z,⟨rfl,hz⟩,q⟩:=q
 unfold Zk7
 walk_at "rd"
 have hz':z.length≤sizeLine:=Zbq hz
 have b1:ZgP "str" "str"=true:=by decide
 simp only [b1,hz',if_true,Zaf,Bool.not_true,Bool.false_eq_true,if_false]
 unfold Zdt at q
 by_cases h1:1≤z.length
 ·by_cases h8:z.length≤8
  ·have d1:(1:Int)≤(z.length:Int):=by omega
   have d8:(z.length:Int)≤8:=by omega
   simp only [d1,d8,decide_true,if_true,Bool.not_true,Bool.false_eq_true,if_false]
   refine ZkQ (f:=ZwL) trivial (ZhY z) none [] (fun x hx Q' q'=>?_) ?_ ?_
   ·obtain ⟨c,hc,rfl⟩:=List.mem_map.mp hx
    exact ⟨_,rfl,q'⟩
   ·rw [ZhY,List.length_map]
    exact Zbq (by show 0+z.cps.toList.length≤100000;rw [Nat.zero_add];simpa [Str.length] using hz)
   ·intro p hp
    have e5:(ZhY z).map ZwL=(z.cps.toList.map fun c=>Zgl ⟨#[c]⟩).map W.bl:=by
     unfold ZhY;rw [List.map_map,List.map_map];rfl
    rw [List.nil_append,e5]
    simp only [Zeq Zah,Option.bind_some,ZeK,Option.map_some,Zaf]
    rw [List.all_map]
    simp only [h1,h8,decide_true,Bool.true_and] at q
    exact hC _ _ _ (Zbb hp) q
  ·have d1:(1:Int)≤(z.length:Int):=by omega
   have d8:¬ (z.length:Int)≤8:=by omega
   simp only [h1,h8,decide_true,decide_false,Bool.true_and,Bool.false_and] at q
   simp only [d1,d8,decide_true,decide_false,if_true,Bool.not_false,Bool.false_eq_true,if_false]
   exact q
 ·have d1:¬ (1:Int)≤(z.length:Int):=by omega
  simp only [h1,decide_false,Bool.false_and] at q
  simp only [d1,decide_false,if_true,Bool.not_false,Bool.false_eq_true,if_false]
  exact q
section
variable {P:Program} {w:World} {K:PySem.W.Frag} {mg:Str→Option Value} {base:Heap} {a:Adr}
abbrev Zjd:List Str:=["thing"]
theorem Znt:ZaH Zjd ["thing"] (Zac Zda):=⟨rfl,rfl,rfl,by decide +kernel,rfl,by decide +kernel,by decide +kernel⟩
def ZiW (Zdw:Spw):GS:=(ZaB (gIf (gOr (gNt (Zfd (ZdF "tuple" (Zag 0)))) (gOr (gTB (Zal (Zaq (eqF false)) (gB (rF ZfM) (Zab (Zag 0) Zan)) (gC (.int 0)))) (gNt (Zfd (ZdF "str" (Zal (Zaq ixW) (Zag 0) (gC (.int 0)))))))) (ZaL (gC (.bl false))) Zax) (ZaB (gIf (gTB (Zal (Zaq (eqF true)) (gB (rF ZfM) (Zab (Zag 0) Zan)) (ZgZ Zh4 (Zal (Zaq ixW) (Zag 0) (gC (.int 0)))))) (ZaL (gC (.bl false))) Zax) (ZaL (Zht (Zal (Zaq (eqF true)) (Zal (Zaq ixW) (Zag 0) (gC (.int 0))) (gC (.str "row"))) (Zdx (Zap Zdw (fun _ _ _=>False) (Zab (Zal (Zaq ixW) (Zag 0) (gC (.int 1))) Zan)) (ZdF "bool" (Zal (Zaq ixW) (Zag 0) (gC (.int 2)))))))))
theorem Znu {k:Nat} (T:Tx K mg base a) {Zd1:Nat} {Zdw:Spw} (Zll:Df P w K mg base "are_fields" Zd1 1 Zdw) (Zlg:Zd1≤k) {f:Addr} {cdv:Value} {A:Around} {outer:List Env} {s:Shared} {H:Hp} {E:XK} (hr:Room k (A.deeper (envOfC "has_form" (Zac Zda) s.heap.objs.size f cdv))):Ssm (cxW P w K mg base Zjd "has_form" (Zac Zda) f cdv A outer s H E).nox (fun B=>B=H) (ZaC Zda) (ZiW Zdw) :=
 have hu:=Zfb hr
 (Zai (ZaZ (Zeo (Zkf (Zfa (ZeN (fun _=>rfl) (Zge (T:="tuple") (by decide) Zcx T.Zcf T.ZaS rfl rfl (by decide) rfl rfl rfl (Zam (i:=0) rfl rfl rfl rfl)))) (Zkf (ZaG (ZaT hu) rfl (ZfL Zfp (ZdV) rfl T.ZfK (by decide) rfl rfl rfl (Zaa rfl (Zam (i:=0) rfl rfl rfl rfl) Zad)) Zae) (Zjf (Zfa (ZeN (fun _=>rfl) (Zge (T:="str") (by decide) Zoc T.ZkH T.ZaS rfl rfl (by decide) rfl rfl rfl (Zas (fun _ _=>rfl) (Zam (i:=0) rfl rfl rfl rfl) Zae)))))))) (Zak (Zav Zfs)) Zay) (Zai (ZaZ (ZaG (Zd7 hu) rfl (ZfL Zfp (ZdV) rfl T.ZfK (by decide) rfl rfl rfl (Zaa rfl (Zam (i:=0) rfl rfl rfl rfl) Zad)) (Zox T.Zlk rfl rfl rfl rfl rfl rfl rfl (Zas (fun _ _=>rfl) (Zam (i:=0) rfl rfl rfl rfl) Zae))) (Zak (Zav Zfs)) Zay) (Zak (Zav (Znd (ZfU (Zd7 hu) rfl (Zas (fun _ _=>rfl) (Zam (i:=0) rfl rfl rfl rfl) Zae) Zar) (Zf1 (Zkl (Zao Zll (hr.mono Zlg) rfl ZaD rfl rfl rfl (Zaa rfl (Zas (fun _ _=>rfl) (Zam (i:=0) rfl rfl rfl rfl) Zae) Zad)) (Zf1 (Zge (T:="bool") (by decide) Zn1 T.Zil T.ZaS rfl rfl (by decide) rfl rfl rfl (Zas (fun _ _=>rfl) (Zam (i:=0) rfl rfl rfl rfl) Zae))))))))))
abbrev ZfX:List Str:=["kind"]
theorem ZiJ:ZaH ZfX ["kind"] (Zac Zbu):=⟨rfl,rfl,rfl,by decide +kernel,rfl,by decide +kernel,by decide +kernel⟩
def Zf0:GS:=(ZaB (gIf (gTB (Zal (Zaq (eqF false)) (Zal (Zaq ixW) (Zag 0) (gC (.int 0))) (gC (.str "row")))) (ZaL (ZcX (Zbv (Zal (Zaq ixW) (Zag 0) (gC (.int 1)))) 1 (gNm 0) ZgR (Zal (Zaq ixW) (Zag 0) (gC (.int 2))))) Zax) (ZaL (gB (Znm) (Zab (gSl (Zag 0) (ZdY (gC (.int 1))) Zbn) Zan))))
theorem Ziy {k:Nat} (T:Tx K mg base a) {f:Addr} {cdv:Value} {A:Around} {outer:List Env} {s:Shared} {H:Hp} {E:XK} (hr:Room k (A.deeper (envOfC "kinds_within" (Zac Zbu) s.heap.objs.size f cdv))):Ssm (cxW P w K mg base ZfX "kinds_within" (Zac Zbu) f cdv A outer s H E).nox (fun B=>B=H) (ZaC Zbu) (Zf0) :=
 have hu:=Zfb hr
 (Zai (ZaZ (ZaG (ZaT hu) rfl (Zas (fun _ _=>rfl) (Zam (i:=0) rfl rfl rfl rfl) Zae) Zar) (Zak (Zav (ZeU (Nc:=["field"]) rfl (ZqD rfl (by decide +kernel) (by decide +kernel)) (fun _=>rfl) (Zc0 (fun _ _=>rfl) (Zas (fun _ _=>rfl) (Zam (i:=0) rfl rfl rfl rfl) Zae)) (Ze2 (i:=0) (by decide) rfl rfl) (fun C fp s1 H1=>Zex) (fun C fp s1 H1=>(Zas (fun _ _=>rfl) (Zam (i:=0) rfl rfl rfl rfl) Zae))))) Zay) (Zak (Zav (ZgD Zta (ZpT) rfl T.Zjh (by decide) rfl rfl rfl (Zaa rfl (Zvc (Zam (i:=0) rfl rfl rfl rfl) (Zh6 Zae) Zh9) Zad)))))
abbrev Zf2:List Str:=["layer","things_within","found","thing"]
theorem Zeh:ZaH Zf2 ["layer","things_within"] (Zac Zbs):=⟨rfl,rfl,rfl,by decide +kernel,rfl,by decide +kernel,by decide +kernel⟩
def ZfZ (mg:Str→Option Value) (Za7:Spw):GS:=(ZaB (Zbh 2 (Zcr Zan)) (ZaB (Zgo (Zbv (Zag 0)) (gNm 3) (ZbA (gMt Zfc Zs2 (Zag 2) (Zab (Zg7 1 (fAt mg "kinds_within") Za7 (fun _ _ _=>False) (Zab (Zag 3) Zan)) Zan)))) (ZaL (Zag 2))))
theorem ZiH {k:Nat} (T:Tx K mg base a) {Zbf:Nat} {Za7:Spw} (Zej:Df P w K mg base "kinds_within" Zbf 1 Za7) (ZfN:Zbf≤k) {f:Addr} {cdv:Value} {A:Around} {outer:List Env} {s:Shared} {H:Hp} {E:XK} (hr:Room k (A.deeper (envOfC "layer_within" (Zac Zbs) s.heap.objs.size f cdv))):Ssm (cxW P w K mg base Zf2 "layer_within" (Zac Zbs) f cdv A outer s H E).nox (fun B=>B=H) (ZaC Zbs) (ZfZ mg Za7) :=
 have hu:=Zfb hr
 (Zai (Ze5 (i:=2) Zeh.nd rfl rfl rfl (ZbR Zad)) (Zai (Zhj PassesOwn.never rfl (fun _=>rfl) (Zc0 (fun _ _=>rfl) (Zam (i:=0) rfl rfl rfl rfl)) (Zgc (i:=3) Zeh.nd rfl (.inl rfl) (.inr rfl)) (Zak (Zen rfl (ZhT Znw rfl rfl rfl rfl rfl (Zam (i:=2) rfl rfl rfl rfl) (Zaa rfl (Zmh (i:=1) Zej (hr.mono ZfN) rfl rfl ZaD rfl rfl rfl rfl (Zaa rfl (Zam (i:=3) rfl rfl rfl rfl) Zad)) Zad))))) (Zak (Zav (Zam (i:=2) rfl rfl rfl rfl)))))
abbrev Zg8:List Str:=["thing","is_formed","things_within","most","deepest","layer","count","depth"]
theorem Zb3:ZaH Zg8 ["thing","is_formed","things_within","most","deepest"] (Zac ZbE):=⟨rfl,rfl,rfl,by decide +kernel,rfl,by decide +kernel,by decide +kernel⟩
def Zhd (mg:Str→Option Value) (Zca:Spw) (ZcU:Spw):GS:=(ZaB (Zbh 5 (Zcr (Zab (Zag 0) Zan))) (ZaB (Zbh 6 (gC (.int 0))) (ZaB (Zbh 7 (gC (.int 0))) (ZaB (Zme (gTB (Zal (Zhq fun i j=>decide (j < i)) (gB (rF ZfM) (Zab (Zag 5) Zan)) (gC (.int 0)))) (ZaB (ZkE 6 Zfq (gB (rF ZfM) (Zab (Zag 5) Zan))) (ZaB (ZkE 7 Zfq (gC (.int 1))) (ZaB (gIf (gOr (gTB (Zal (Zhq fun i j=>decide (j < i)) (Zag 6) (Zag 3))) (gTB (Zal (Zhq fun i j=>decide (j < i)) (Zag 7) (Zag 4)))) (ZaL (gC (.bl false))) Zax) (ZaB (gIf (gNt (Zfd (gB (rF Zib) (Zab (Zb9 (Zbv (Zag 5)) 1 [1] (gNm 0) ZgR (Zg7 1 (fAt mg "has_form") Zca (fun _ _ _=>False) (Zab (Zag 0) Zan))) Zan)))) (ZaL (gC (.bl false))) Zax) (Zbh 5 (Zap ZcU (fun _ _ _=>False) (Zab (Zag 5) (Zab (Zag 2) Zan))))))))) (ZaL (gC (.bl true)))))))
theorem ZkM {k:Nat} (T:Tx K mg base a) {ZcM:Nat} {Zca:Spw} (ZgX:Df P w K mg base "has_form" ZcM 1 Zca) (Zi7:ZcM≤k) {Zdg:Nat} {ZcU:Spw} (ZiC:Df P w K mg base "layer_within" Zdg 2 ZcU) (ZiD:Zdg≤k) {f:Addr} {cdv:Value} {A:Around} {outer:List Env} {s:Shared} {H:Hp} {E:XK} (hr:Room k (A.deeper (envOfC "is_made_of" (Zac ZbE) s.heap.objs.size f cdv))):Ssm (cxW P w K mg base Zg8 "is_made_of" (Zac ZbE) f cdv A outer s H E).nox (fun B=>B=H) (ZaC ZbE) (Zhd mg Zca ZcU) :=
 have hu:=Zfb hr
 (Zai (Ze5 (i:=5) Zb3.nd rfl rfl rfl (ZbR (Zaa rfl (Zam (i:=0) rfl rfl rfl rfl) Zad))) (Zai (Ze5 (i:=6) Zb3.nd rfl rfl rfl Zae) (Zai (Ze5 (i:=7) Zb3.nd rfl rfl rfl Zae) (Zai (ZpC PassesOwn.never (ZaG Zkh rfl (ZfL Zfp (ZdV) rfl T.ZfK (by decide) rfl rfl rfl (Zaa rfl (Zam (i:=5) rfl rfl rfl rfl) Zad)) Zae) (Zai (ZwS (n:=6) Zb3.nd rfl rfl (ZfL Zfp (ZdV) rfl T.ZfK (by decide) rfl rfl rfl (Zaa rfl (Zam (i:=5) rfl rfl rfl rfl) Zad))) (Zai (ZwS (n:=7) Zb3.nd rfl rfl Zae) (Zai (ZaZ (Zeo (Zkf (ZaG Zkh rfl (Zam (i:=6) rfl rfl rfl rfl) (Zam (i:=3) rfl rfl rfl rfl)) (Zjf (ZaG Zkh rfl (Zam (i:=7) rfl rfl rfl rfl) (Zam (i:=4) rfl rfl rfl rfl))))) (Zak (Zav Zfs)) Zay) (Zai (ZaZ (Zfa (ZeN (fun _=>rfl) (ZfL Zkj (Zim rfl) rfl T.ZiK (by decide) rfl rfl rfl (Zaa rfl (ZjZ rfl (Zts (own:=["part"]) (fr:=["is_formed"]) (js:=[1]) (scX:=Zac ZbE) (n:=s.heap.objs.size+1) rfl (by decide +kernel) (by decide +kernel) (by decide +kernel) (by decide +kernel) rfl rfl rfl (by decide +kernel) rfl) (fun _=>rfl) (Zc0 (fun _ _=>rfl) (Zam (i:=5) rfl rfl rfl rfl)) (ZhA (i:=0) (by decide) rfl rfl) (fun C fp s1 H1=>Zex) (fun C fp s1 H1=>(Zmh (i:=1) ZgX (hr.mono Zi7) rfl rfl ZaD rfl rfl rfl rfl (Zaa rfl (Zam (i:=0) rfl rfl rfl rfl) Zad)))) Zad)))) (Zak (Zav Zfs)) Zay) (Zak (Ze5 (i:=5) Zb3.nd rfl rfl rfl (Zao ZiC (hr.mono ZiD) rfl ZaD rfl rfl rfl (Zaa rfl (Zam (i:=5) rfl rfl rfl rfl) (Zaa rfl (Zam (i:=2) rfl rfl rfl rfl) Zad)))))))))) (Zak (Zav Zfs))))))
abbrev Zks:List Str:=["thing"]
theorem Zo6:ZaH Zks ["thing"] (Zac ZdP):=⟨rfl,rfl,rfl,by decide +kernel,rfl,by decide +kernel,by decide +kernel⟩
def Zli (mg:Str→Option Value) (Zca:Spw) (Za7:Spw) (Zdz:Spw):GS:=(ZaL (Zap Zdz (fun _ _ _=>False) (Zab (Zag 0) (Zab (gC (.ref (fAt mg "has_form"))) (Zab (gC (.ref (fAt mg "kinds_within"))) (Zab (gC (.int 40)) (Zab (gC (.int 8)) Zan)))))))
theorem Zos {k:Nat} (T:Tx K mg base a) {ZcM:Nat} {Zca:Spw} (ZgX:Df P w K mg base "has_form" ZcM 1 Zca) (Zi7:ZcM≤k) {Zbf:Nat} {Za7:Spw} (Zej:Df P w K mg base "kinds_within" Zbf 1 Za7) (ZfN:Zbf≤k) {Zd0:Nat} {Zdz:Spw} (Zk9:Df P w K mg base "is_made_of" Zd0 5 Zdz) (Zk6:Zd0≤k) {f:Addr} {cdv:Value} {A:Around} {outer:List Env} {s:Shared} {H:Hp} {E:XK} (hr:Room k (A.deeper (envOfC "is_kind" (Zac ZdP) s.heap.objs.size f cdv))):Ssm (cxW P w K mg base Zks "is_kind" (Zac ZdP) f cdv A outer s H E).nox (fun B=>B=H) (ZaC ZdP) (Zli mg Zca Za7 Zdz) :=
 have hu:=Zfb hr
 (Zak (Zav (Zao Zk9 (hr.mono Zk6) rfl ZaD rfl rfl rfl (Zaa rfl (Zam (i:=0) rfl rfl rfl rfl) (Zaa rfl (Zus ZgX rfl rfl) (Zaa rfl (Zus Zej rfl rfl) (Zaa rfl (Zjz T.ZcI rfl rfl) (Zaa rfl (Zjz T.ZcL rfl rfl) Zad))))))))
abbrev Zg9:List Str:=["thing"]
theorem ZkN:ZaH Zg9 ["thing"] (Zac Zb2):=⟨rfl,rfl,rfl,by decide +kernel,rfl,by decide +kernel,by decide +kernel⟩
def Zg6 (ZfC:Spw):GS:=(gIf (gNt (Zfd (Zap ZfC (fun _ _ _=>False) (Zab (Zag 0) Zan)))) ZrO Zax)
theorem ZkD {k:Nat} (T:Tx K mg base a) {Zgm:Nat} {ZfC:Spw} (Zpl:Df P w K mg base "is_kind" Zgm 1 ZfC) (ZoK:Zgm≤k) {f:Addr} {cdv:Value} {A:Around} {outer:List Env} {s:Shared} {H:Hp} {E:XK} (hr:Room k (A.deeper (envOfC "check_kind" (Zac Zb2) s.heap.objs.size f cdv))):Ssm (cxW P w K mg base Zg9 "check_kind" (Zac Zb2) f cdv A outer s H E).nox (fun B=>B=H) (ZaC Zb2) (Zg6 ZfC) :=
 have hu:=Zfb hr
 (Zak (ZaZ (Zfa (ZeN (fun _=>rfl) (Zao Zpl (hr.mono ZoK) rfl ZaD rfl rfl rfl (Zaa rfl (Zam (i:=0) rfl rfl rfl rfl) Zad)))) (Zak Zql) Zay))
end
local macro_rules | `(tactic| walk_at "rd") => `(tactic| ((try dsimp only [ZaB, gIf, ZaL, Zbh, ZbA, Zax, Zag, gC, Zal, gTB, Zfd, gNt, Zhs, gOr, Zdx, Zht, ZeO, Zke, L3.ZaN, Zcr, L3.Zab, L3.Zan, Zap, gB, rF, Zaq, ZdF, gMt, ZkE, ZsX, ZcK, Zgk, Zhq, Zdk, L3.ZgJ, Zfq, gSl, ZdY, Zbn, ZcX, Zbv, ZkI, Zmo, Zgo, ZgZ, ZdM, ZaX, Zcs, List.map_cons, List.map_nil, List.length_cons, List.length_nil, List.cons_append, List.nil_append, List.getElem?_cons_zero, List.getElem?_cons_succ, List.set_cons_zero, List.set_cons_succ, List.replicate, Zhv, tyN, Zaf, Zc9, ZbZ, Zc7, ixW, eqF, eqW, ZfM, ZkR, Zib, Zfv, Zlq, List.getElem?_nil]); (try simp only [ZaB, gIf, ZaL, Zbh, ZbA, Zax, Zag, gC, Zal, gTB, Zfd, gNt, Zhs, gOr, Zdx, Zht, ZeO, Zke, L3.ZaN, Zcr, L3.Zab, L3.Zan, Zap, gB, rF, Zaq, ZdF, gMt, ZkE, ZsX, ZcK, Zgk, Zhq, Zdk, L3.ZgJ, Zfq, gSl, ZdY, Zbn, ZcX, Zbv, ZkI, Zmo, Zgo, ZgZ, ZdM, ZaX, Zcs, List.map_cons, List.map_nil, List.length_cons, List.length_nil, List.cons_append, List.nil_append, List.getElem?_cons_zero, List.getElem?_cons_succ, List.set_cons_zero, List.set_cons_succ, List.replicate, Zhv, tyN, Zaf, Zc9, ZbZ, Zc7, ixW, eqF, eqW, ZfM, ZkR, Zib, Zfv, Zlq, List.getElem?_nil])))
abbrev Zs4:Spw:=spR (fun (x:Str×Bool×W) ws _=>ws=[.tup [.str x.1,.str (Zdf x.2.1),x.2.2]]∧Zdt x.1=true) fun _=>.bl true
theorem Zne {n:Str} (h:Zdt n=true):n.length≤8:=by
 unfold Zdt at h
 simp only [Bool.and_eq_true,decide_eq_true_eq] at h
 exact h.1.2
theorem ZsO (b:Bool) (G:Hw):inF false (.str (Zdf b)) (.tup [.str "must",.str "may"]) G=some (.bl true):=by cases b <;> kernel_rfl
theorem ZfF (T:Tx K mg base a):Df P w K mg base "is_field" 3 1 Zs4:=by
 refine mk0 T.Zfw rfl Zny ZcY ((by rintro ws G Q E ⟨x,⟨e,_⟩,_⟩;rw [e];rfl)) (Znv T (ZgA T) (Nat.le_refl _)) fun ws G Q E hC q=>?_
 obtain ⟨⟨n,b,k⟩,⟨rfl,hn⟩,q⟩:=q
 have hl:n.length≤8:=Zne hn
 dsimp only at q hn
 unfold Zi1
 walk_at "rd"
 have b1:ZgP "tuple" "tuple"=true:=by decide
 simp only [b1,Bool.not_true,Bool.false_eq_true,if_false]
 refine ⟨n,⟨rfl,by omega⟩,?_⟩
 dsimp only
 rw [hn]
 simp only [if_true,ZsO,Zaf]
 exact q
theorem Zsv (k:Kd):∃ xs,k.enc=.tup (.str k.hd::xs):=by cases k <;> exact ⟨_,rfl⟩
abbrev Zqp:Spw:=spR (fun (fs:Fs) ws _=>ws=[.tup fs.enc]∧fs.ok=true∧Zl6 fs.names=true∧fs.cnt≤1000) fun _=>.bl true
def Zk8 (x:W):W:=match x with | .tup (n::_)=>n | _=>.non
theorem Zpx:∀ {fs:Fs} {x:W},fs.ok=true→x∈fs.enc→∃ n b k,x=.tup [.str n,.str (Zdf b),k]∧Zdt n=true
 | .nil,x,_,h=>by cases h
 | .cons n m k r,x,ho,h=>by
  have h':(Zdt n&&k.ok&&r.ok)=true:=ho
  simp only [Bool.and_eq_true] at h'
  rcases List.mem_cons.mp h with rfl | h
  ·exact ⟨n,m,k.enc,rfl,h'.1.1⟩
  ·exact Zpx h'.2 h
theorem Zfm:∀ fs:Fs,fs.enc.map Zk8=fs.names.map W.str
 | .nil=>rfl
 | .cons n m k r=>by show W.str n::r.enc.map Zk8=W.str n::r.names.map W.str;rw [Zfm r]
theorem ZcN:∀ fs:Fs,fs.names.length=fs.enc.length
 | .nil=>rfl
 | .cons n m k r=>by show r.names.length+1=r.enc.length+1;rw [ZcN r]
theorem Zjm (fs:Fs):fs.enc.length≤fs.cnt:=by rw [Zru,ZoO];exact Zj9 _
theorem Zd1 (T:Tx K mg base a):Df P w K mg base "are_fields" 4 1 Zqp:=by
 refine mk0 T.Zeg rfl Zk4 ZcY ((by rintro ws G Q E ⟨x,⟨e,_⟩,_⟩;rw [e];rfl)) (Zlc T (ZfF T) (Nat.le_refl _) (Zd4 T) (by omega)) fun ws G Q E hC q=>?_
 obtain ⟨fs,⟨rfl,ho,hr,hc⟩,q⟩:=q
 have hl:=Zjm fs
 unfold Zg5
 walk_at "rd"
 have b1:ZgP "tuple" "tuple"=true:=by decide
 simp only [b1,Bool.not_true,Bool.false_eq_true,if_false]
 refine ZkQ (f:=fun _=>.bl true) trivial fs.enc none [] (fun x hx Q' q'=>?_) (by simp only [List.length_nil];exact Zbq (by omega)) ?_
 ·obtain ⟨n,b,k,rfl,hn⟩:=Zpx ho hx
  exact ⟨⟨n,b,k⟩,⟨rfl,hn⟩,q'⟩
 ·intro p hp
  rw [List.nil_append,show (fun _:W=>W.bl true)=W.bl∘(fun _=>true) from rfl,← List.map_map]
  simp only [Zeq Zah,Option.bind_some,ZeK,Option.map_some,Zaf]
  have hall:(fs.enc.map fun _=>true).all id=true:=by simp
  rw [hall]
  simp only [if_true]
  refine ZkQ (f:=Zk8) trivial fs.enc none [] (fun x hx Q' q'=>?_) (by simp only [List.length_nil];exact Zbq (by omega)) ?_
  ·obtain ⟨n,b,k,rfl,hn⟩:=Zpx ho hx
   show Zal (Zaq ixW) (Zag 0) (gC (.int 0)) [some (W.tup [.str n,.str (Zdf b),k])] _ Q'
   walk_at "rd"
   exact q'
  ·intro p2 hp2
   rw [List.nil_append,Zfm]
   refine ⟨fs.names,⟨p2,rfl,Zah,by rw [ZcN];omega⟩,?_⟩
   dsimp only
   rw [hr]
   exact hC _ _ _ (Zcw (Zbb hp) hp2) q
abbrev Zty:Spw:=spR (fun (k:Kd) ws _=>ws=[k.enc]∧k.ok=true∧k.cnt≤1000) fun _=>.bl true
theorem ZcM (T:Tx K mg base a):Df P w K mg base "has_form" 5 1 Zty:=by
 refine mk0 T.ZfB rfl Znt ZcY ((by rintro ws G Q E ⟨x,⟨e,_⟩,_⟩;rw [e];rfl)) (Znu T (Zd1 T) (Nat.le_refl _)) fun ws G Q E hC q=>?_
 obtain ⟨k,⟨rfl,ho,hc⟩,q⟩:=q
 have b1:ZgP "tuple" "tuple"=true:=by decide
 have b2:ZgP "bool" "bool"=true:=by decide
 have b3:ZgP "str" "str"=true:=by decide
 unfold ZiW
 cases k with
 | any =>
  simp only [Kd.enc];walk_at "rd"
  simp only [b1,b3,Bool.not_true,Bool.false_eq_true,if_false]
  exact q
 | num =>
  simp only [Kd.enc];walk_at "rd"
  simp only [b1,b3,Bool.not_true,Bool.false_eq_true,if_false]
  exact q
 | truth =>
  simp only [Kd.enc];walk_at "rd"
  simp only [b1,b3,Bool.not_true,Bool.false_eq_true,if_false]
  exact q
 | to x y =>
  simp only [Kd.enc];walk_at "rd"
  simp only [b1,b3,Bool.not_true,Bool.false_eq_true,if_false]
  exact q
 | box x =>
  simp only [Kd.enc];walk_at "rd"
  simp only [b1,b3,Bool.not_true,Bool.false_eq_true,if_false]
  exact q
 | row fs o =>
  have h':(Zl6 fs.names&&fs.ok)=true:=ho
  simp only [Bool.and_eq_true] at h'
  have hc':1+fs.cnt≤1000:=hc
  simp only [Kd.enc];walk_at "rd"
  simp only [b1,b3,Bool.not_true,Bool.false_eq_true,if_false]
  refine ⟨fs,⟨rfl,h'.2,h'.1,by omega⟩,?_⟩
  simp only [if_true,b2]
  exact q
def ZlM (x:W):W:=match x with | .tup [_,_,k]=>k | _=>.non
theorem Zmq:∀ fs:Fs,fs.enc.map ZlM=fs.kinds.map Kd.enc
 | .nil=>rfl
 | .cons n m k r=>by show k.enc::r.enc.map ZlM=k.enc::r.kinds.map Kd.enc;rw [Zmq r]
theorem Zig:∀ {fs:Fs} {x:W},x∈fs.enc→∃ n b k,x=.tup [.str n,.str (Zdf b),k]
 | .nil,x,h=>by cases h
 | .cons n m k r,x,h=>by
  rcases List.mem_cons.mp h with rfl | h
  ·exact ⟨n,m,k.enc,rfl⟩
  ·exact Zig h
abbrev ZmG:Spw:=spL (fun (k:Kd) ws _=>ws=[k.enc]∧k.cnt≤20000) fun k=>k.kids.map Kd.enc
theorem Zbf (T:Tx K mg base a):Df P w K mg base "kinds_within" 1 1 ZmG:=by
 refine mk0 T.Zdc rfl ZiJ Zs6 ((by rintro ws G Q E ⟨x,⟨e,_⟩,_⟩;rw [e];rfl)) (Ziy T) fun ws G Q E hC q=>?_
 obtain ⟨k,⟨rfl,hc⟩,q⟩:=q
 unfold Zf0
 cases k with
 | row fs o =>
  have hc':1+fs.cnt≤20000:=hc
  have hl:=Zjm fs
  simp only [Kd.enc];walk_at "rd"
  refine ZkQ (f:=ZlM) trivial fs.enc none [] (fun x hx Q' q'=>?_) (by simp only [List.length_nil];exact Zbq (by omega)) ?_
  ·obtain ⟨n,b,k,rfl⟩:=Zig hx
   show Zal (Zaq ixW) (Zag 0) (gC (.int 2)) [some (W.tup [.str n,.str (Zdf b),k])] _ Q'
   walk_at "rd"
   exact q'
  ·rw [List.nil_append,Zmq]
   exact q
 | any=>simp only [Kd.enc];walk_at "rd";exact ⟨Zfe _ _,q⟩
 | num=>simp only [Kd.enc];walk_at "rd";exact ⟨Zfe _ _,q⟩
 | truth=>simp only [Kd.enc];walk_at "rd";exact ⟨Zfe _ _,q⟩
 | to x y=>simp only [Kd.enc];walk_at "rd";exact ⟨Zfe _ _,q⟩
 | box x=>simp only [Kd.enc];walk_at "rd";exact ⟨Zfe _ _,q⟩
theorem Zvf {G:Hw} {p r:Addr} {xs zs:List W} {Q:Kw} (hp:G p=some (.lst xs)) (hr:G r=some (.lst zs)) (hl:xs.length+zs.length≤sizeLine) (q:Q .non (put G p (.lst (xs++zs)))):Zs2 (.ref p) [.ref r] G Q:=by
 unfold Zs2
 refine ZlH hp ?_ q
 rw [Zeq hr,Option.bind_some,if_pos hl]
theorem Zd2 {G:Hw} {p:Addr} {xs:List W} (h:G p=some (.lst xs)):Zfc (.ref p) G:=⟨xs,Zeq h⟩
set_option Elab.async false
set_option linter.all false
set_option maxRecDepth 100000
local macro_rules | `(tactic| walk_at "rd") => `(tactic| ((try dsimp only [ZaB, gIf, ZaL, Zbh, ZbA, Zax, Zag, gC, Zal, gTB, Zfd, gNt, Zhs, gOr, Zdx, Zht, ZeO, Zke, L3.ZaN, Zcr, L3.Zab, L3.Zan, Zap, gB, rF, Zaq, ZdF, gMt, ZkE, ZsX, ZcK, Zgk, Zhq, Zdk, L3.ZgJ, Zfq, gSl, ZdY, Zbn, ZcX, Zbv, ZkI, Zmo, Zgo, ZgZ, ZdM, Zg7, Zb9, Zic, ZaX, Zcs, List.map_cons, List.map_nil, List.length_cons, List.length_nil, List.cons_append, List.nil_append, List.getElem?_cons_zero, List.getElem?_cons_succ, List.set_cons_zero, List.set_cons_succ, List.replicate, Zhv, tyN, Zaf, Zc9, ZbZ, Zc7, ixW, eqF, eqW, ZfM, ZkR, Zib, Zfv, Zlq, List.getElem?_nil]); (try simp only [ZaB, gIf, ZaL, Zbh, ZbA, Zax, Zag, gC, Zal, gTB, Zfd, gNt, Zhs, gOr, Zdx, Zht, ZeO, Zke, L3.ZaN, Zcr, L3.Zab, L3.Zan, Zap, gB, rF, Zaq, ZdF, gMt, ZkE, ZsX, ZcK, Zgk, Zhq, Zdk, L3.ZgJ, Zfq, gSl, ZdY, Zbn, ZcX, Zbv, ZkI, Zmo, Zgo, ZgZ, ZdM, Zg7, Zb9, Zic, ZaX, Zcs, List.map_cons, List.map_nil, List.length_cons, List.length_nil, List.cons_append, List.nil_append, List.getElem?_cons_zero, List.getElem?_cons_succ, List.set_cons_zero, List.set_cons_succ, List.replicate, Zhv, tyN, Zaf, Zc9, ZbZ, Zc7, ixW, eqF, eqW, ZfM, ZkR, Zib, Zfv, Zlq, List.getElem?_nil])))
abbrev Zss (mg:Str→Option Value):Spw:=spL (fun (l:List Kd) ws G=>∃ p,ws=[.ref p,.ref (fAt mg "kinds_within")]∧G p=some (.lst (l.map Kd.enc))∧ZhO l≤10000) fun l=>(l.flatMap Kd.kids).map Kd.enc
theorem ZmB {D:Ew} {p q0 fw:Addr} {items:List W}:∀ (l:List Kd) (o:Option W) (k0:W) (G:Hw) (acc:List W),acc.length+ZhO l≤20000→p≠q0→G p=some (.lst acc)→G q0=some (.lst items) →
  (∀ ω G',(∃ o',ω=[some k0,some (.ref fw),some (.ref p),o'])→G' p=some (.lst (acc++(l.flatMap Kd.kids).map Kd.enc))→(∀ b,b≠p→∀ u,G b=some u→G' b=some u)→D.nx ω G') →
  Zdn (holds q0 items) (gNm 3) (ZbA (gMt Zfc Zs2 (Zag 2) (L3.Zab (Zg7 1 fw ZmG (fun _ _ _=>False) (L3.Zab (Zag 3) L3.Zan)) L3.Zan))) D (l.map Kd.enc) [some k0,some (.ref fw),some (.ref p),o] G
 | [],o,k0,G,acc,_,hne,hp,hq,fin=>⟨hq,fin _ G ⟨o,rfl⟩ (by simpa using hp) fun _ _ _ h=>h⟩
 | c::l,o,k0,G,acc,hl,hne,hp,hq,fin=>by
  have hll:acc.length+(c.cnt+ZhO l)≤20000:=hl
  have hk:=ZpA c
  refine ⟨hq,?_⟩
  show ZbA _ _ [some k0,some (.ref fw),some (.ref p),some c.enc] G
  walk_at "rd"
  refine ⟨Zd2 hp,trivial,c,⟨rfl,by omega⟩,fun r hr=>?_⟩
  have hpr:=ZaK hp hr
  have hqr:=ZaK hq hr
  refine Zvf (by rw [Zat hpr];exact hp) Zah (by rw [List.length_map];exact Zbq (by omega)) ?_
  refine ZmB l (some c.enc) k0 _ (acc++c.kids.map Kd.enc) (by rw [List.length_append,List.length_map];omega) hne Zah ?_ ?_
  ·rw [Zat (Ne.symm hne),Zat hqr];exact hq
  ·intro ω G' hω h1 h2
   refine fin ω G' hω (by rw [h1,List.flatMap_cons,List.map_append,List.append_assoc]) fun b hb u hu=>h2 b hb u ?_
   rw [Zat hb,Zat (ZaK hu hr)];exact hu
theorem Zdg (T:Tx K mg base a):Df P w K mg base "layer_within" 2 2 (Zss mg):=by
 refine mk0 T.Zdb rfl Zeh Zs6 ((by rintro ws G Q E ⟨x,⟨p,e,_⟩,_⟩;rw [e];rfl)) (ZiH T (Zbf T) (by omega)) fun ws G Q E hC q=>?_
 obtain ⟨l,⟨q0,rfl,hq,hl⟩,q⟩:=q
 unfold ZfZ
 walk_at "rd"
 refine ⟨by decide,fun p hp=>?_⟩
 have hne:p≠q0:=Ne.symm (ZaK hq hp)
 have hq':put G p (.lst []) q0=some (.lst (l.map Kd.enc)):=by rw [Zat (Ne.symm hne)];exact hq
 simp only [hq']
 refine ZmB l none (.ref q0) _ [] (by simp only [List.length_nil];omega) hne Zah hq' ?_
 intro ω G' hω h1 h2
 obtain ⟨o',rfl⟩:=hω
 simp only [List.getElem?_cons_zero,List.getElem?_cons_succ]
 rw [List.nil_append] at h1
 have hs:Sub (put G p (.lst ((l.flatMap Kd.kids).map Kd.enc))) G':=fun b u hu=>by
  by_cases hb:b=p
  ·subst hb
   rw [Zah] at hu;cases hu
   exact h1
  ·rw [Zat hb] at hu
   exact h2 b hb u (by rw [Zat hb];exact hu)
 exact hC _ _ _ hs (q p hp)
theorem ZpZ {α:Type} {enc f:α→W} {gd:Hw→Prop} {ge:GE} {R:List W→Hw→Prop} {G:Hw} {cst:Sw} (hgd:gd G):∀ (l:List α) (o:Option W) (ys:List W),(∀ x∈l,∀ Q:Kw,Q (f x) G→ge (some (enc x)::cst) G Q) →
  ys.length+l.length≤sizeLine→R (ys++l.map f) G→Zb4 gd (gNm 0) ZgR ge R (l.map enc) (o::cst) G ys
 | [],o,ys,_,_,r=>⟨hgd,by simpa using r⟩
 | x::l,o,ys,h,hl,r=>by
  refine ⟨hgd,by simp only [List.length_cons] at hl;omega,?_⟩
  show ge (some (enc x)::cst) G fun y G3=>Zb4 gd (gNm 0) ZgR ge R (l.map enc) (some (enc x)::cst) G3 (ys++[y])
  refine h x List.mem_cons_self _ (ZpZ hgd l (some (enc x)) (ys++[f x]) (fun y hy=>h y (List.mem_cons_of_mem _ hy)) ?_ ?_)
  ·simp only [List.length_append,List.length_cons,List.length_nil] at hl ⊢;omega
  ·simpa [List.append_assoc] using r
def Zmn (k:Kd):Bool:=decide (k.cnt≤40∧k.dp≤8)
abbrev Zud (mg:Str→Option Value):Spw:=spR (fun (k:Kd) ws _=>ws=[k.enc,.ref (fAt mg "has_form"),.ref (fAt mg "kinds_within"),.int 40,.int 8]∧k.ok=true∧k.cnt≤1000) fun k=>.bl (Zmn k)
theorem Zd0 (T:Tx K mg base a):Df P w K mg base "is_made_of" 6 5 (Zud mg):=by
 refine mk0 T.ZdZ rfl Zb3 ZcY ((by rintro ws G Q E ⟨x,⟨e,_⟩,_⟩;rw [e];rfl)) (ZkM T (ZcM T) (Nat.le_refl _) (Zdg T) (by omega)) fun ws G Q E hC q=>?_
 obtain ⟨k,⟨rfl,ho,hc⟩,q⟩:=q
 unfold Zhd
 walk_at "rd"
 refine ⟨by decide,fun p hp=>?_⟩
 refine ⟨fun m ω G'=>∃ (l:List Kd) (p:Addr) (c d:Nat),ω=[some k.enc,some (.ref (fAt mg "has_form")),some (.ref (fAt mg "kinds_within")),some (.int 40),some (.int 8),some (.ref p),some (.int c),some (.int d)]∧G' p=some (.lst (l.map Kd.enc))∧Sub G G'∧c+ZhO l=k.cnt∧d+dpL l=k.dp∧(∀ x∈l,x.ok=true)∧c≤40∧d≤8∧m=9 - d,⟨9,[k],p,0,0,rfl,Zah,Zbb hp,?_,?_,?_,by omega,by omega,rfl⟩,?_⟩
 ·show 0+(k.cnt+0)=k.cnt;omega
 ·show 0+max k.dp 0=k.dp;omega
 ·intro x hx;rw [List.mem_singleton.mp hx];exact ho
 rintro m ω G1 ⟨l,p,c,d,rfl,hl,hs,e1,e2,hok,h40,h8,rfl⟩
 have hlen:(l.map Kd.enc).length=l.length:=List.length_map _
 walk_at "rd"
 simp only [hl,Zaf,hlen]
 cases l with
 | nil =>
  have d0:¬ ((0:Int) < ((([]:List Kd).length:Nat):Int)):=by simp
  simp only [d0,decide_false,Bool.false_eq_true,if_false]
  have hg:Zmn k=true:=by
   unfold Zmn
   have z1:c+0=k.cnt:=e1
   have z2:d+0=k.dp:=e2
   simp only [decide_eq_true_eq]
   omega
  dsimp only at q
  rw [hg] at q
  exact hC _ _ _ hs q
 | cons x l =>
  have hx1:=Zi0 (x::l)
  have hx2:=ZkT (x::l) (by simp)
  have d0:(0:Int) < (((x::l).length:Nat):Int):=by simp only [List.length_cons];omega
  simp only [d0,decide_true,if_true,hl,Zaf,hlen]
  have b40:decide ((40:Int) < (c:Int)+(((x::l).length:Nat):Int))=decide (40 < c+(x::l).length):=by
   rw [decide_eq_decide];omega
  have b8:decide ((8:Int) < (d:Int)+1)=decide (8 < d+1):=by
   rw [decide_eq_decide];omega
  rw [b40,b8]
  by_cases g40:40 < c+(x::l).length
  ·have hg:Zmn k=false:=by
    unfold Zmn
    simp only [decide_eq_false_iff_not]
    omega
   dsimp only at q
   rw [hg] at q
   simp only [g40,decide_true,if_true]
   exact hC _ _ _ hs q
  ·by_cases g8:8 < d+1
   ·have hg:Zmn k=false:=by
     unfold Zmn
     simp only [decide_eq_false_iff_not]
     omega
    dsimp only at q
    rw [hg] at q
    simp only [g40,g8,decide_true,decide_false,if_true,Bool.false_eq_true,if_false]
    exact hC _ _ _ hs q
   ·simp only [g40,g8,decide_false,Bool.false_eq_true,if_false]
    refine ZpZ (f:=fun _=>.bl true) (cst:=[some (.ref (fAt mg "has_form"))]) hl (x::l) none [] (fun z hz Q' q'=>?_) (by exact Zbq (by simp only [List.length_nil];omega)) ?_
    ·have hz2:=Zmy hz
     exact ⟨rfl,z,⟨rfl,hok z hz,by omega⟩,q'⟩
    ·intro p1 hp1
     rw [List.nil_append,show (fun _:Kd=>W.bl true)=W.bl∘(fun _=>true) from rfl,← List.map_map]
     simp only [Zeq Zah,Option.bind_some,ZeK,Option.map_some,Zaf]
     have hall:((x::l).map fun _=>true).all id=true:=by simp
     rw [hall]
     simp only [Bool.not_true,Bool.false_eq_true,if_false]
     refine ⟨x::l,⟨p,rfl,by rw [Zat (ZaK hl hp1)];exact hl,by omega⟩,fun p2 hp2=>?_⟩
     refine ⟨9 - (d+1),by omega,(x::l).flatMap Kd.kids,p2,c+(x::l).length,d+1,?_,Zah,?_,by omega,by omega,?_,by omega,by omega,rfl⟩
     ·simp only [Int.natCast_add,Int.natCast_one]
     ·exact Zcw (Zcw hs hp1) hp2
     ·intro y hy
      obtain ⟨z,hz,hy⟩:=List.mem_flatMap.mp hy
      exact Zpi (hok z hz) y hy
abbrev ZtX:Spw:=spR (fun (k:Kd) ws _=>ws=[k.enc]∧k.ok=true∧k.cnt≤1000) fun k=>.bl (Zmn k)
theorem Zgm (T:Tx K mg base a):Df P w K mg base "is_kind" 7 1 ZtX:=by
 refine mk0 T.ZgI rfl Zo6 ZcY ((by rintro ws G Q E ⟨x,⟨e,_⟩,_⟩;rw [e];rfl)) (Zos T (ZcM T) (by omega) (Zbf T) (by omega) (Zd0 T) (Nat.le_refl _)) fun ws G Q E hC q=>?_
 obtain ⟨k,⟨rfl,ho,hc⟩,q⟩:=q
 unfold Zli
 walk_at "rd"
 exact ⟨k,⟨rfl,ho,hc⟩,q⟩
abbrev Zv0:Spw:=spR (fun (k:Kd) ws _=>ws=[k.enc]∧k.ok=true∧k.cnt≤1000∧Zmn k=true) fun _=>.non
theorem Zed (T:Tx K mg base a):Df P w K mg base "check_kind" 8 1 Zv0:=by
 refine mk0 T.Zd5 rfl ZkN ZcY ((by rintro ws G Q E ⟨x,⟨e,_⟩,_⟩;rw [e];rfl)) (ZkD T (Zgm T) (Nat.le_refl _)) fun ws G Q E hC q=>?_
 obtain ⟨k,⟨rfl,ho,hc,hg⟩,q⟩:=q
 unfold Zg6
 walk_at "rd"
 refine ⟨k,⟨rfl,ho,hc⟩,?_⟩
 simp only [hg,Bool.not_true,Bool.false_eq_true,if_false]
 exact q
set_option maxHeartbeats 4000000
section
variable {P:Program} {w:World} {K:PySem.W.Frag} {mg:Str→Option Value} {base:Heap} {a:Adr}
abbrev ZfV:List Str:=["script","k"]
theorem ZiA:ZaH ZfV ["script","k"] (Zac Zbt):=⟨rfl,rfl,rfl,by decide +kernel,rfl,by decide +kernel,by decide +kernel⟩
def ZfY:GS:=(ZaB (gIf (gTB (Zal (Zgk (fun i j=>decide (i < j)) Za4) (Zag 1) (gB (rF ZfM) (Zab (Zag 0) Zan)))) (ZaL (Zal (Zaq ixW) (Zag 0) (Zag 1))) Zax) (ZaL (gC (.int 0))))
theorem Ziz {k:Nat} (T:Tx K mg base a) {f:Addr} {cdv:Value} {A:Around} {outer:List Env} {s:Shared} {H:Hp} {E:XK} (hr:Room k (A.deeper (envOfC "_law_cell_at" (Zac Zbt) s.heap.objs.size f cdv))):Ssm (cxW P w K mg base ZfV "_law_cell_at" (Zac Zbt) f cdv A outer s H E).nox (fun B=>B=H) (ZaC Zbt) (ZfY) :=
 have hu:=Zfb hr
 (Zai (ZaZ (ZaG ZiY rfl (Zam (i:=1) rfl rfl rfl rfl) (ZfL Zfp (ZdV) rfl T.ZfK (by decide) rfl rfl rfl (Zaa rfl (Zam (i:=0) rfl rfl rfl rfl) Zad))) (Zak (Zav (Zas (fun _ _=>rfl) (Zam (i:=0) rfl rfl rfl rfl) (Zam (i:=1) rfl rfl rfl rfl)))) Zay) (Zak (Zav Zae)))
abbrev Zhb:List Str:=["script","k","cell"]
theorem Zhf:ZaH Zhb ["script","k"] (Zac Zb7):=⟨rfl,rfl,rfl,by decide +kernel,rfl,by decide +kernel,by decide +kernel⟩
def Zhc (ZcV:Spw):GS:=(ZaB (Zbh 2 (Zap ZcV (fun _ _ _=>False) (Zab (Zag 0) (Zab (Zag 1) Zan)))) (ZaB (gIf (gTB (Zal (Zhq fun i j=>decide (j≤i)) (Zag 2) (Zal (Zdk Ztu fun i j=>i ^ j.toNat) (gC (.int 10)) (gC (.int 18))))) (ZaL (Zcr (Zab (Zal (Zdk (fun _ _=>True) fun i j=>i - j) (Zag 2) (Zal (Zdk Ztu fun i j=>i ^ j.toNat) (gC (.int 10)) (gC (.int 18)))) (Zab (gC (.bl true)) Zan)))) Zax) (ZaL (Zcr (Zab (Zal (Zdk (fun _ j=>0 < j) fun i j=>i % j) (Zag 2) (gC (.int 2147483647))) (Zab (gC (.bl false)) Zan))))))
theorem ZkA {k:Nat} (T:Tx K mg base a) {Zdj:Nat} {ZcV:Spw} (ZiO:Df P w K mg base "_law_cell_at" Zdj 2 ZcV) (ZiM:Zdj≤k) {f:Addr} {cdv:Value} {A:Around} {outer:List Env} {s:Shared} {H:Hp} {E:XK} (hr:Room k (A.deeper (envOfC "_law_state" (Zac Zb7) s.heap.objs.size f cdv))):Ssm (cxW P w K mg base Zhb "_law_state" (Zac Zb7) f cdv A outer s H E).nox (fun B=>B=H) (ZaC Zb7) (Zhc ZcV) :=
 have hu:=Zfb hr
 (Zai (Ze5 (i:=2) Zhf.nd rfl rfl rfl (Zao ZiO (hr.mono ZiM) rfl ZaD rfl rfl rfl (Zaa rfl (Zam (i:=0) rfl rfl rfl rfl) (Zaa rfl (Zam (i:=1) rfl rfl rfl rfl) Zad)))) (Zai (ZaZ (ZaG Zu0 rfl (Zam (i:=2) rfl rfl rfl rfl) (Zrj Zae Zae)) (Zak (Zav (ZbR (Zaa rfl (ZhR (Zam (i:=2) rfl rfl rfl rfl) (Zrj Zae Zae)) (Zaa rfl Zfs Zad))))) Zay) (Zak (Zav (ZbR (Zaa rfl (Zif (Zam (i:=2) rfl rfl rfl rfl) Zae) (Zaa rfl Zfs Zad)))))))
abbrev Zgt:List Str:=["state","many","mixed","found"]
theorem ZdG:ZaH Zgt ["state","many"] (Zac ZbQ):=⟨rfl,rfl,rfl,by decide +kernel,rfl,by decide +kernel,by decide +kernel⟩
def ZgE:GS:=(ZaB (gIf (Zfd (Zal (Zaq ixW) (Zag 0) (gC (.int 1)))) (ZaB (Zbh 3 (Zal (Zdk (fun _ j=>0 < j) fun i j=>i % j) (Zal (Zaq ixW) (Zag 0) (gC (.int 0))) (Zag 1))) (ZaB (ZdM (Zal (Zdk ZvF fun i j=>i / j) (Zal (Zaq ixW) (Zag 0) (gC (.int 0))) (Zag 1)) (Zag 0) (gC (.int 0))) (ZaL (Zag 3)))) Zax) (ZaB (ZdM (Zal (Zdk (fun _ j=>0 < j) fun i j=>i % j) (Zal (ZgJ) (Zal (Zdk CMul fun i j=>i*j) (Zal (Zaq ixW) (Zag 0) (gC (.int 0))) (gC (.int 48271))) (gC (.int 29))) (gC (.int 2147483647))) (Zag 0) (gC (.int 0))) (ZaB (Zbh 2 (Zal (Zdk (fun _ j=>0 < j) fun i j=>i % j) (Zal (ZgJ) (Zal (ZgJ) (Zal (Zdk CMul fun i j=>i*j) (Zal (Zaq ixW) (Zag 0) (gC (.int 0))) (Zal (Zaq ixW) (Zag 0) (gC (.int 0)))) (Zal (Zdk CMul fun i j=>i*j) (gC (.int 39373)) (Zal (Zaq ixW) (Zag 0) (gC (.int 0))))) (gC (.int 7))) (gC (.int 2147483629)))) (ZaB (Zbh 2 (Zal (Zdk (fun _ j=>0 < j) fun i j=>i % j) (Zal (ZgJ) (Zal (Zdk CMul fun i j=>i*j) (Zag 2) (Zag 2)) (Zal (Zdk CMul fun i j=>i*j) (gC (.int 16807)) (Zag 2))) (gC (.int 2147483587)))) (ZaL (Zal (Zdk (fun _ j=>0 < j) fun i j=>i % j) (Zal (Zdk ZvF fun i j=>i / j) (Zag 2) (gC (.int 8))) (Zag 1)))))))
theorem ZjV {k:Nat} (T:Tx K mg base a) {f:Addr} {cdv:Value} {A:Around} {outer:List Env} {s:Shared} {H:Hp} {E:XK} (hr:Room k (A.deeper (envOfC "_law_choice" (Zac ZbQ) s.heap.objs.size f cdv))):Ssm (cxW P w K mg base Zgt "_law_choice" (Zac ZbQ) f cdv A outer s H E).nox (fun B=>B=H) (ZaC ZbQ) (ZgE) :=
 have hu:=Zfb hr
 (Zai (ZaZ (ZeN (fun _=>rfl) (Zas (fun _ _=>rfl) (Zam (i:=0) rfl rfl rfl rfl) Zae)) (Zai (Ze5 (i:=3) ZdG.nd rfl rfl rfl (Zif (Zas (fun _ _=>rfl) (Zam (i:=0) rfl rfl rfl rfl) Zae) (Zam (i:=1) rfl rfl rfl rfl))) (Zai (ZhN (fun _=>rfl) rfl rfl rfl (Zoe (Zas (fun _ _=>rfl) (Zam (i:=0) rfl rfl rfl rfl) Zae) (Zam (i:=1) rfl rfl rfl rfl)) (Zam (i:=0) rfl rfl rfl rfl) Zae) (Zak (Zav (Zam (i:=3) rfl rfl rfl rfl))))) Zay) (Zai (ZhN (fun _=>rfl) rfl rfl rfl (Zif (ZmT (ZkP (Zas (fun _ _=>rfl) (Zam (i:=0) rfl rfl rfl rfl) Zae) Zae) Zae) Zae) (Zam (i:=0) rfl rfl rfl rfl) Zae) (Zai (Ze5 (i:=2) ZdG.nd rfl rfl rfl (Zif (ZmT (ZmT (ZkP (Zas (fun _ _=>rfl) (Zam (i:=0) rfl rfl rfl rfl) Zae) (Zas (fun _ _=>rfl) (Zam (i:=0) rfl rfl rfl rfl) Zae)) (ZkP Zae (Zas (fun _ _=>rfl) (Zam (i:=0) rfl rfl rfl rfl) Zae))) Zae) Zae)) (Zai (Ze5 (i:=2) ZdG.nd rfl rfl rfl (Zif (ZmT (ZkP (Zam (i:=2) rfl rfl rfl rfl) (Zam (i:=2) rfl rfl rfl rfl)) (ZkP Zae (Zam (i:=2) rfl rfl rfl rfl))) Zae)) (Zak (Zav (Zif (Zoe (Zam (i:=2) rfl rfl rfl rfl) Zae) (Zam (i:=1) rfl rfl rfl rfl))))))))
end
set_option maxHeartbeats 1000000
local macro_rules | `(tactic| walk_at "rd") => `(tactic| ((try dsimp only [Zid, ZmA, Zb9, Ze9, Ziq, Zgx, Zby, Zic, ZaB, gIf, ZaL, Zbh, ZbA, Zax, Zag, gC, Zal, gTB, Zfd, gNt, Zhs, gOr, Zdx, Zht, ZeO, Zke, L3.ZaN, Zcr, L3.Zab, L3.Zan, Zap, gB, rF, Zaq, ZdF, gMt, ZkE, ZcK, Zgk, Zhq, Zdk, L3.ZgJ, Zfq, gSl, ZdY, Zbn, ZcX, Zbv, ZkI, Zgo, ZaX, Zcs, List.map_cons, List.map_nil, List.length_cons, List.length_nil, List.cons_append, List.nil_append, List.getElem?_cons_zero, List.getElem?_cons_succ, List.set_cons_zero, List.set_cons_succ, List.replicate, Zhv, tyN, Zaf, Zc9, ZbZ, Zc7, ixW, eqF, eqW, ZfM, ZkR, Zib, List.getElem?_nil]); (try simp only [Zid, ZmA, Zb9, Ze9, Ziq, Zgx, Zby, Zic, ZaB, gIf, ZaL, Zbh, ZbA, Zax, Zag, gC, Zal, gTB, Zfd, gNt, Zhs, gOr, Zdx, Zht, ZeO, Zke, L3.ZaN, Zcr, L3.Zab, L3.Zan, Zap, gB, rF, Zaq, ZdF, gMt, ZkE, ZcK, Zgk, Zhq, Zdk, L3.ZgJ, Zfq, gSl, ZdY, Zbn, ZcX, Zbv, ZkI, Zgo, ZaX, Zcs, List.map_cons, List.map_nil, List.length_cons, List.length_nil, List.cons_append, List.nil_append, List.getElem?_cons_zero, List.getElem?_cons_succ, List.set_cons_zero, List.set_cons_succ, List.replicate, Zhv, tyN, Zaf, Zc9, ZbZ, Zc7, ixW, eqF, eqW, ZfM, ZkR, Zib, List.getElem?_nil])))
theorem Zp9 {ns:List Int} {k:Int} (h0:0≤k) (h:k < (ns.length:Int)):∃ v:Int,atI (ns.map W.int) k=some (.int v):=by
 have hk:k.toNat < ns.length:=by omega
 have ek:k=((k.toNat:Nat):Int):=by omega
 refine ⟨ns[k.toNat],?_⟩
 have q:atI (ns.map W.int) ((k.toNat:Nat):Int)=some (.int ns[k.toNat]):=Zj6 (by rw [List.getElem?_map,List.getElem?_eq_getElem hk] <;> rfl)
 rw [← ek] at q
 exact q
def ZrG:Spw:=fun ws G Q _=>∃ (ns:List Int) (k:Int),ws=[.rol (ns.map W.int),.int k]∧0≤k∧∀ v:Int,Q (.int v) G
theorem Zqf:Spw.M ZrG:=(by rintro ws G Q Q' E E' h _ ⟨ns,k,h1,h2,q⟩;exact ⟨ns,k,h1,h2,fun v=>h _ _ (q v)⟩)
theorem Zdj (T:Tx K mg base a):Df P w K mg base "_law_cell_at" 1 2 ZrG:=by
 refine mk0 T.Zdi rfl ZiA Zqf ((by rintro ws G Q E ⟨ns,k,e,_⟩;rw [e];rfl)) (Ziz T) fun ws G Q E hC q=>?_
 obtain ⟨ns,k,rfl,h0,q⟩:=q
 unfold ZfY
 show ZaB _ _ (ZaX Q) [some (.rol (ns.map W.int)),some (.int k)] G
 by_cases hk:k < ((ns.map W.int).length:Int)
 ·obtain ⟨v,e⟩:=Zp9 h0 (by simpa using hk)
  simp only [ZaB,gIf,gTB,Zal,Zgk,gB,rF,ZfM,ZkR,L3.Zab,L3.Zan,Zag,List.getElem?_cons_zero,List.getElem?_cons_succ,Zaf,hk,decide_true,if_true,Zaq,ixW,e,ZaL]
  exact q v
 ·simp only [ZaB,gIf,gTB,Zal,Zgk,gB,rF,ZfM,ZkR,L3.Zab,L3.Zan,Zag,List.getElem?_cons_zero,List.getElem?_cons_succ,Zaf,hk,decide_false,Bool.false_eq_true,if_false,Zax,ZaL,gC]
  exact q 0
def Zop:Spw:=fun ws G Q _=>∃ (ns:List Int) (k:Int),ws=[.rol (ns.map W.int),.int k]∧0≤k∧∀ p (x:Int) (b:Bool),G p=none→Q (.ref p) (put G p (.lst [.int x,.bl b]))
theorem ZnY:Spw.M Zop:=(by rintro ws G Q Q' E E' h _ ⟨ns,k,h1,h2,q⟩;exact ⟨ns,k,h1,h2,fun p x y hp=>h _ _ (q p x y hp)⟩)
theorem ZrJ:Ztu 10 18:=⟨by decide,by decide,by decide⟩
theorem ZbB (T:Tx K mg base a):Df P w K mg base "_law_state" 2 2 Zop:=by
 refine mk0 (k:=1) T.Zee rfl Zhf ZnY ((by rintro ws G Q E ⟨ns,k,e,_⟩;rw [e];rfl)) (ZkA T (Zdj T) (Nat.le_refl _)) fun ws G Q E hC q=>?_
 obtain ⟨ns,k,rfl,h0,q⟩:=q
 unfold Zhc
 show ZaB _ _ (ZaX Q) [some (.rol (ns.map W.int)),some (.int k),none] G
 refine ⟨ns,k,rfl,h0,fun v=>?_⟩
 walk_at "rd"
 refine ⟨ZrJ,?_⟩
 refine Zwz (fun h=>?_) (fun h=>?_)
 ·exact ⟨ZrJ,trivial,by decide,fun p hp=>q p _ _ hp⟩
 ·exact ⟨by decide,by decide,fun p hp=>q p _ _ hp⟩
def Ze7:Spw:=fun ws G Q _=>∃ (s:Addr) (m x:Int) (b:Bool) (l:List W),ws=[.ref s,.int m]∧0 < m∧m < 1073741824∧G s=some (.lst (.int x::.bl b::l))∧∀ r x':Int,0≤r→r < m→Q (.int r) (put G s (.lst (.int x'::.bl b::l)))
theorem ZpY:Spw.M Ze7:=(by rintro ws G Q Q' E E' h _ ⟨s,m,x,b,l,h1,h2,h3,h4,q⟩;exact ⟨s,m,x,b,l,h1,h2,h3,h4,fun r x' z1 z2=>h _ _ (q r x' z1 z2)⟩)
theorem Zwl (n:Nat):ixN (n+1) 0=some 0:=by unfold ixN;rw [if_pos (Int.le_refl 0),if_pos (by omega)];rfl
theorem ZwE (n:Nat):ixN (n+3) 2=some 2:=by unfold ixN;rw [if_pos (by decide),if_pos (by omega)];rfl
theorem Zn6 {G:Hw} {s:Addr} {x v:W} {l:List W} {Q:Hw→Prop} (h:G s=some (.lst (x::l))) (q:Q (put G s (.lst (v::l)))):ZiE (.ref s) (.int 0) v G Q:=ZjX h (Zwl l.length) q
theorem Zoh {G:Hw} {s:Addr} {x y z v:W} {Q:Hw→Prop} (h:G s=some (.lst [x,y,z])) (q:Q (put G s (.lst [x,y,v]))):ZiE (.ref s) (.int 2) v G Q:=ZjX h (ZwE 0) q
theorem ix0 {G:Hw} {s:Addr} {x:W} {l:List W} (h:G s=some (.lst (x::l))):ixW (.ref s) (.int 0) G=some x:=by rw [ZcJ h];exact Zc9
theorem ix1 {G:Hw} {s:Addr} {x y:W} {l:List W} (h:G s=some (.lst (x::y::l))):ixW (.ref s) (.int 1) G=some y:=by rw [ZcJ h];exact ZbZ
theorem ix2 {G:Hw} {s:Addr} {x y z:W} {l:List W} (h:G s=some (.lst (x::y::z::l))):ixW (.ref s) (.int 2) G=some z:=by rw [ZcJ h];exact Zc7
theorem Zpk {x m:Int} (h0:0≤x) (h1:x < m) (hm:m≤2147483647):-(2 ^ 64) < x∧x < 2 ^ 64:=by
 have:(2:Int) ^ 64=18446744073709551616:=by decide
 rw [this];omega
theorem Zau (T:Tx K mg base a):Df P w K mg base "_law_choice" 1 2 Ze7:=by
 refine mk0 T.Zdy rfl ZdG ZpY ((by rintro ws G Q E ⟨s,m,x,b,l,e,_⟩;rw [e];rfl)) (ZjV T) fun ws G Q E hC q=>?_
 obtain ⟨s,m,x,b,l,rfl,hm0,hm1,hs,q⟩:=q
 unfold ZgE
 show ZaB (gIf _ _ Zax) _ (ZaX Q) [some (.ref s),some (.int m),none,none] G
 simp only [ZaB,gIf,Zfd,Zal,Zaq,Zag,gC,List.getElem?_cons_zero,List.getElem?_cons_succ,ix1 hs,Zaf,Zhv]
 cases b with
 | true =>
  simp only [if_true,ZaB,Zbh,ZdM,Zal,Zdk,Zaq,Zag,gC,ZaL,ZaX,List.getElem?_cons_zero,List.getElem?_cons_succ,List.set_cons_zero,List.set_cons_succ,ix0 hs,Zaf]
  refine ⟨hm0,?_⟩
  refine ⟨⟨hm0,hm1⟩,?_⟩
  refine Zn6 hs ?_
  exact q _ _ (Int.emod_nonneg _ (by omega)) (Int.emod_lt_of_pos _ hm0)
 | false =>
  simp only [Bool.false_eq_true,if_false,Zax,ZaB,ZdM,Zal,Zdk,Zaq,gC,Zag,List.getElem?_cons_zero,List.getElem?_cons_succ,ix0 hs,Zaf,Zt7,Zem,L3.ZgJ]
  refine ⟨.inr ⟨by decide,by decide⟩,by decide,?_⟩
  refine Zn6 hs ?_
  generalize hx2:(x*48271+29) % 2147483647=x2
  have b0:0≤x2:=by rw [← hx2];exact Int.emod_nonneg _ (by decide)
  have b1:x2 < 2147483647:=by rw [← hx2];exact Int.emod_lt_of_pos _ (by decide)
  have h2:put G s (.lst (.int x2::.bl false::l)) s=some (.lst (.int x2::.bl false::l)):=Zah
  simp only [Zbh,Zal,Zdk,Zaq,gC,Zag,List.getElem?_cons_zero,List.getElem?_cons_succ,List.set_cons_zero,List.set_cons_succ,ix0 h2,Zaf,ZaL,ZaX,Zt7,Zem,L3.ZgJ]
  refine ⟨.inl (Zpk b0 b1 (by decide)),.inl ⟨by decide,by decide⟩,by decide,?_⟩
  generalize hx3:(x2*x2+39373*x2+7) % 2147483629=x3
  have c0:0≤x3:=by rw [← hx3];exact Int.emod_nonneg _ (by decide)
  have c1:x3 < 2147483629:=by rw [← hx3];exact Int.emod_lt_of_pos _ (by decide)
  refine ⟨.inl (Zpk c0 c1 (by decide)),.inl ⟨by decide,by decide⟩,(show (0:Int) < 2147483587 by decide),?_⟩
  refine ⟨⟨by decide,by decide⟩,hm0,?_⟩
  exact q _ _ (Int.emod_nonneg _ (by omega)) (Int.emod_lt_of_pos _ hm0)
theorem Zj1 {x:Str} {st:Stmt} {ps:List Str} {k:Nat} {sp:Spw} (Fx:Fn K mg st x ps) (m:sp.M) (no:∀ ws G Q E,¬ sp ws G Q E):Df P w K mg base x k ps.length sp:=by
 obtain ⟨f,fd,h1,F,h3⟩:=Fx
 exact ⟨⟨f,fd,_,h1,F.kp,h3,rfl,⟨(by rintro vs H Q E ⟨ws,G,t,r,q⟩;exact absurd q (no _ _ _ _)),(by rintro A outer s H args us vs Q E _ _ _ _ ⟨ws,G,t,r,q⟩;exact absurd q (no _ _ _ _))⟩⟩,m⟩
def ZvG:Spw:=fun _ _ _ _=>False
theorem Zo5:Spw.M ZvG:=fun _ _ _ _ _ _ _ _ q=>q
theorem Zh5 {G:Hw} {p:Addr} {xs:List W} {y:W} {Q:Kw} (hp:G p=some (.lst xs)) (hl:xs.length < sizeLine) (q:Q .non (put G p (.lst (xs++[y])))):Zlb (.ref p) [y] G Q:=by
 unfold Zlb
 refine ZlH hp ?_ q
 rw [if_pos hl]
mutual
def Kd.thr:Kd→Bool
 | .to a b=>a.thr&&b.thr
 | .box a=>a.thr
 | .row fs _=>decide (fs.names.length≤5)&&fs.thr
 | _=>true
def Fs.thr:Fs→Bool
 | .nil=>true
 | .cons _ _ k r=>k.thr&&r.thr
end
def wf (k:Kd):Prop:=k.ok=true∧k.thr=true
def ZbT (x:Str×Bool×Kd):W:=.tup [.str x.1,.str (Zdf x.2.1),x.2.2.enc]
def ofL:List (Str×Bool×Kd)→Fs
 | []=>.nil
 | x::l=>.cons x.1 x.2.1 x.2.2 (ofL l)
theorem Zer:∀ l,(ofL l).enc=l.map ZbT
 | []=>rfl
 | x::l=>by show ZbT x::(ofL l).enc=ZbT x::l.map ZbT;rw [Zer l]
theorem ZcO:∀ l,(ofL l).names=l.map (·.1)
 | []=>rfl
 | x::l=>by show x.1::(ofL l).names=x.1::l.map (·.1);rw [ZcO l]
theorem Zkn {n:Nat}:∀ l:List (Str×Bool×Kd),(∀ y∈l,y.2.2.dp≤n)→(ofL l).dp≤n
 | [],_=>Nat.zero_le _
 | x::l,h=>by
  have h1:=h x List.mem_cons_self
  have h2:=Zkn l fun y hy=>h y (List.mem_cons_of_mem _ hy)
  show max x.2.2.dp (ofL l).dp≤n;omega
theorem Zry:∀ l:List (Str×Bool×Kd),(∀ y∈l,Zdt y.1=true∧wf y.2.2)→(ofL l).ok=true∧(ofL l).thr=true
 | [],_=>⟨rfl,rfl⟩
 | x::l,h=>by
  obtain ⟨h1,h2,h3⟩:=h x List.mem_cons_self
  obtain ⟨i1,i2⟩:=Zry l fun y hy=>h y (List.mem_cons_of_mem _ hy)
  constructor
  ·show (Zdt x.1&&x.2.2.ok&&(ofL l).ok)=true
   rw [h1,h2,i1];rfl
  ·show (x.2.2.thr&&(ofL l).thr)=true
   rw [h3,i2];rfl
theorem Zom:∀ (l l2:List (Str×Bool×Kd)),(ofL (l++l2)).cnt=(ofL l).cnt+(ofL l2).cnt
 | [],l2=>by show (ofL l2).cnt=0+(ofL l2).cnt;omega
 | x::l,l2=>by show x.2.2.cnt+(ofL (l++l2)).cnt=x.2.2.cnt+(ofL l).cnt+(ofL l2).cnt;rw [Zom l l2];omega
theorem Zov:∀ {ns:List Str},ns.Pairwise (fun x y=>Za4 x y=true)→Zl6 ns=true
 | [],_=>rfl
 | [_],_=>rfl
 | x::y::r,h=>by
  show (Za4 x y&&Zl6 (y::r))=true
  cases h with
  | cons h1 h2=>rw [h1 y List.mem_cons_self,Zov h2];rfl
theorem Zrm {l:List (Str×Bool×Kd)} {o:Bool} (h1:(l.map (·.1)).Pairwise (fun x y=>Za4 x y=true)) (h2:l.length≤5) (h3:∀ y∈l,Zdt y.1=true∧wf y.2.2):wf (.row (ofL l) o):=by
 obtain ⟨i1,i2⟩:=Zry l h3
 constructor
 ·show (Zl6 (ofL l).names&&(ofL l).ok)=true
  rw [ZcO,Zov h1,i1];rfl
 ·show (decide ((ofL l).names.length≤5)&&(ofL l).thr)=true
  rw [ZcO,List.length_map,decide_eq_true h2,i2];rfl
theorem ZrW {x y:Kd} (hx:wf x) (hy:wf y):wf (.to x y):=⟨by show (x.ok&&y.ok)=true;rw [hx.1,hy.1];rfl,by show (x.thr&&y.thr)=true;rw [hx.2,hy.2];rfl⟩
theorem Zot {x:Kd} (hx:wf x):wf (.box x):=⟨hx.1,hx.2⟩
def gk (d c:Int) (k:Kd):Prop:=wf k∧(k.dp:Int)≤d∧(k.cnt:Int)≤max c 1+(d - 1)∧(c≤2→k.cnt=1)
def ZjI (n:Nat):Spw:=fun ws G Q _=>∃ (s:Addr) (x d c:Int) (b pl kn:Bool),ws=[.ref s,.int d,.bl pl,.bl kn]∧1≤d∧d≤(n:Int)+1∧G s=some (.lst [.int x,.bl b,.int c])∧∀ (k:Kd) (x':Int),gk d c k→Q k.enc (put G s (.lst [.int x',.bl b,.int (c - k.cnt)]))
theorem ZnO {n:Nat}:Spw.M (ZjI n):=(by rintro ws G Q Q' E E' h _ ⟨s,x,d,c,b,pl,kn,h1,h2,h3,h4,q⟩;exact ⟨s,x,d,c,b,pl,kn,h1,h2,h3,h4,fun k x' g=>h _ _ (q k x' g)⟩)
def Zti (n:Nat):Spw:=fun ws G Q _=>∃ (s:Addr) (x d c:Int) (b pl kn:Bool),ws=[.ref s,.int d,.bl pl,.bl kn]∧2≤d∧d≤(n:Int)+2∧2≤c∧G s=some (.lst [.int x,.bl b,.int c])∧∀ (k:Kd) (x':Int),wf k→(k.dp:Int)≤d→1≤k.cnt→(k.cnt:Int)≤c+d - 1→Q k.enc (put G s (.lst [.int x',.bl b,.int (c+1 - k.cnt)]))
theorem ZrR {n:Nat}:Spw.M (Zti n):=(by rintro ws G Q Q' E E' h _ ⟨s,x,d,c,b,pl,kn,h1,h2,h3,h4,h5,q⟩;exact ⟨s,x,d,c,b,pl,kn,h1,h2,h3,h4,h5,fun k x' g1 g2 g3 g4=>h _ _ (q k x' g1 g2 g3 g4)⟩)
def ZpG (xs:List Str):Prop:=xs.Pairwise (fun x y=>Za4 x y=true)∧(∀ x∈xs,Zdt x=true)∧xs.length≤5
abbrev gRB (sp:Spw):GS:=(gIf (Zhs (gTB (Zal (Zaq (eqF false)) (Zap Ze7 (fun _ _ _=>False) (L3.Zab (Zag 0) (L3.Zab (gC (.int 2)) L3.Zan))) (gC (.int 1)))) (gTB (Zal (Zhq fun i j=>decide (j < i)) (Zal (Zaq ixW) (Zag 0) (gC (.int 2))) (gC (.int 0))))) (ZaB (Zbh 7 (Zal (Zaq ixW) (Zcr (L3.Zab (gC (.str "must")) (L3.Zab (gC (.str "may")) L3.Zan))) (Zap Ze7 (fun _ _ _=>False) (L3.Zab (Zag 0) (L3.Zab (gC (.int 2)) L3.Zan))))) (ZbA (gMt Zfc Zlb (Zag 4) (L3.Zab (L3.ZaN (L3.Zab (Zag 6) (L3.Zab (Zag 7) (L3.Zab (Zap sp (fun _ _ _=>False) (L3.Zab (Zag 0) (L3.Zab (Zal (Zdk (fun _ _=>True) fun i j=>i - j) (Zag 1) (gC (.int 1))) (L3.Zab (Zag 2) (L3.Zab (Zag 3) L3.Zan))))) L3.Zan)))) L3.Zan)))) Zax)
theorem Zpn {r:Int} (h0:0≤r) (h2:r < 2):∃ b:Bool,atI [W.str "must",W.str "may"] r=some (.str (Zdf b)):=by
 have:r=0∨r=1:=by omega
 rcases this with e | e
 ·exact ⟨true,by rw [e];exact Zc9⟩
 ·exact ⟨false,by rw [e];exact ZbZ⟩
theorem Zj0 {n:Nat} {D:Ew} {s p q0:Addr} {d c:Int} {b pl kn:Bool} {items:List W} {w5:Option W} (hd1:2≤d) (hd2:d≤(n:Int)+2) (hc:2≤c):∀ (xs:List Str) (o6 o7:Option W) (G:Hw) (l:List (Str×Bool×Kd)) (x c0:Int),G s=some (.lst [.int x,.bl b,.int c0])→G p=some (.lst (l.map ZbT))→G q0=some (.lst items)→p≠s→q0≠s→q0≠p→l.length+xs.length≤100→c0=c - (ofL l).cnt→((ofL l).cnt:Int)≤c+d - 2 →
  (∀ ω G' l2 x',(∃ u v,ω=[some (.ref s),some (.int d),some (.bl pl),some (.bl kn),some (.ref p),w5,u,v])→G' s=some (.lst [.int x',.bl b,.int (c - (ofL (l++l2)).cnt)])→((ofL (l++l2)).cnt:Int)≤c+d - 2→G' p=some (.lst ((l++l2).map ZbT))→(∀ b,b≠s→b≠p→∀ u,G b=some u→G' b=some u)→(l2.map (·.1)).Sublist xs→(∀ z∈l2,wf z.2.2∧(z.2.2.dp:Int)≤d - 1)→D.nx ω G') →
  Zdn (holds q0 items) (gNm 6) (gRB (ZjI n)) D (xs.map W.str) [some (.ref s),some (.int d),some (.bl pl),some (.bl kn),some (.ref p),w5,o6,o7] G
 | [],o6,o7,G,l,x,c0,hs,hp,hq,_,_,_,_,e0,e1,fin=>⟨hq,fin _ G [] x ⟨o6,o7,rfl⟩ (by rw [List.append_nil,← e0];exact hs) (by rw [List.append_nil];exact e1) (by rw [List.append_nil];exact hp) (fun b _ _ u h=>h) (.refl _) (by intro z hz;cases hz)⟩
 | nm::xs,o6,o7,G,l,x,c0,hs,hp,hq,nps,nqs,nqp,hl,e0,e1,fin=>by
  refine ⟨hq,?_⟩
  show gRB (ZjI n) _ [some (.ref s),some (.int d),some (.bl pl),some (.bl kn),some (.ref p),w5,some (.str nm),o7] G
  have hlx:l.length+(xs.length+1)≤100:=hl
  simp only [gIf,Zhs,gTB,Zal,Zap,L3.Zab,L3.Zan,Zag,gC,Zaq,List.getElem?_cons_zero,List.getElem?_cons_succ]
  refine ⟨s,2,x,b,[.int c0],rfl,by decide,by decide,hs,fun r x1 r0 r1=>?_⟩
  have g1s:put G s (.lst [.int x1,.bl b,.int c0]) s=some (.lst [.int x1,.bl b,.int c0]):=Zah
  have g1p:put G s (.lst [.int x1,.bl b,.int c0]) p=some (.lst (l.map ZbT)):=by rw [Zat nps];exact hp
  have g1q:put G s (.lst [.int x1,.bl b,.int c0]) q0=some (.lst items):=by rw [Zat nqs];exact hq
  have skip:∀ o7,Zdn (holds q0 items) (gNm 6) (gRB (ZjI n)) D (xs.map W.str) [some (.ref s),some (.int d),some (.bl pl),some (.bl kn),some (.ref p),w5,some (.str nm),o7] (put G s (.lst [.int x1,.bl b,.int c0])):=fun o7=>by
   refine Zj0 hd1 hd2 hc xs _ _ _ l x1 c0 g1s g1p g1q nps nqs nqp (by omega) e0 e1 ?_
   intro ω G' l2 x' hω f1 f1' f2 f3 f4 f5
   exact fin ω G' l2 x' hω f1 f1' f2 (fun c c1 c2 u hu=>f3 c c1 c2 u (by rw [Zat c1];exact hu)) (f4.cons nm) f5
  show opt (eqF false (.int r) (.int 1) (put G s (.lst [.int x1,.bl b,.int c0]))) _
  rw [show eqF false (.int r) (.int 1) (put G s (.lst [.int x1,.bl b,.int c0]))=some (.bl (r==1)) by unfold eqF eqW;show some (W.bl ((r==1) != false))=_;cases (r==1) <;> rfl,Zaf]
  dsimp only
  cases (r==1) with
  | false=>exact skip _
  | true =>
   rw [if_pos rfl,ix2 g1s,Zaf]
   show if decide (0 < c0)=true then _ else _
   by_cases h0:0 < c0
   ·rw [if_pos (decide_eq_true h0)]
    simp only [ZaB,Zbh,Zal,Zcr,Zap,L3.Zab,L3.Zan,Zag,gC,Zaq,List.getElem?_cons_zero,List.getElem?_cons_succ]
    refine ⟨(show 2≤sizeLine by decide),fun p2 hp2=>?_⟩
    have n2:s≠p2:=ZaK g1s hp2
    have n3:p≠p2:=ZaK g1p hp2
    have n4:q0≠p2:=ZaK g1q hp2
    refine ⟨s,2,x1,b,[.int c0],rfl,by decide,by decide,by rw [Zat n2];exact g1s,fun r2 x2 r20 r21=>?_⟩
    obtain ⟨m,em⟩:=Zpn r20 r21
    have fm:ixW (.ref p2) (.int r2) (put (put (put G s (.lst [.int x1,.bl b,.int c0])) p2 (.lst [.str "must",.str "may"])) s (.lst [.int x2,.bl b,.int c0]))=some (.str (Zdf m)):=by
     rw [ZcJ (by rw [Zat (Ne.symm n2)];exact Zah)];exact em
    rw [fm,Zaf]
    simp only [ZbA,gMt,L3.ZaN,Zal,Zap,Zdk,L3.Zab,L3.Zan,Zag,gC,List.set_cons_zero,List.set_cons_succ,List.getElem?_cons_zero,List.getElem?_cons_succ]
    have g3p:put (put (put G s (.lst [.int x1,.bl b,.int c0])) p2 (.lst [.str "must",.str "may"])) s (.lst [.int x2,.bl b,.int c0]) p=some (.lst (l.map ZbT)):=by rw [Zat nps,Zat n3];exact g1p
    refine ⟨Zd2 g3p,trivial,s,x2,d - 1,c0,b,pl,kn,rfl,by omega,by omega,Zah,fun k x3 hk=>?_⟩
    refine ⟨(show 3≤sizeLine by decide),?_⟩
    refine Zh5 (by rw [Zat nps];exact g3p) (by rw [List.length_map];exact ZfH (by omega)) ?_
    have ee:l.map ZbT++[W.tup [.str nm,.str (Zdf m),k.enc]]=(l++[(nm,m,k)]).map ZbT:=by rw [List.map_append];rfl
    rw [ee]
    have ec:(ofL (l++[(nm,m,k)])).cnt=(ofL l).cnt+k.cnt:=by rw [Zom];rfl
    have hk3:=hk.2.2.1
    refine Zj0 hd1 hd2 hc xs _ _ _ (l++[(nm,m,k)]) x3 (c0 - k.cnt) (by rw [Zat (Ne.symm nps)];exact Zah) Zah ?_ nps nqs nqp (by rw [List.length_append];simp only [List.length_cons,List.length_nil];omega) (by rw [ec];omega) (by rw [ec];omega) ?_
    ·rw [Zat nqp,Zat nqs,Zat nqs,Zat n4];exact g1q
    ·intro ω G' l2 x' hω f1 f1' f2 f3 f4 f5
     rw [List.append_assoc] at f1 f1' f2
     refine fin ω G' ((nm,m,k)::l2) x' hω f1 f1' f2 (fun c c1 c2 u hu=>f3 c c1 c2 u ?_) (f4.cons_cons nm) ?_
     ·have hc:put G s (.lst [.int x1,.bl b,.int c0]) c=some u:=by rw [Zat c1];exact hu
      rw [Zat c2,Zat c1,Zat c1,Zat (ZaK hc hp2)];exact hc
     ·intro z hz
      rcases List.mem_cons.mp hz with rfl | hz
      ·exact ⟨hk.1,hk.2.1⟩
      ·exact f5 z hz
   ·rw [if_neg (by simpa using h0)]
    exact skip _
set_option Elab.async false
set_option linter.all false
set_option maxRecDepth 100000
section
variable {P:Program} {w:World} {K:PySem.W.Frag} {mg:Str→Option Value} {base:Heap} {a:Adr}
abbrev Zi5:List Str:=["state","deep","plain","known","fields","some","name","mark"]
theorem Zeu:ZaH Zi5 ["state","deep","plain","known"] (Zac Zc8):=⟨rfl,rfl,rfl,by decide +kernel,rfl,by decide +kernel,by decide +kernel⟩
def Zjq (Zaj:Spw) (ZaJ:Spw):GS:=(ZaB (Zbh 4 (Zcr Zan)) (ZaB (Zbh 5 (Zcr (Zab (Zcr (Zab (gC (.str "a")) (Zab (gC (.str "ab")) (Zab (gC (.str "b")) (Zab (gC (.str "cab")) (Zab (gC (.str "zzzzzzzz")) Zan)))))) (Zab (Zcr (Zab (gC (.str "any")) (Zab (gC (.str "in")) (Zab (gC (.str "inside")) (Zab (gC (.str "num")) (Zab (gC (.str "out")) Zan)))))) Zan)))) (ZaB (ZbA (gMt Zfc Zlb (Zag 5) (Zab (Zcr (Zab (gC (.str "aa")) (Zab (gC (.str "new")) (Zab (gC (.str "other")) (Zab (gC (.str "x")) (Zab (gC (.str "zz")) Zan)))))) Zan))) (ZaB (Zgo (Zbv (Zal (Zaq ixW) (Zag 5) (Zal (Zaq ixW) (Zcr (Zab (gC (.int 0)) (Zab (gC (.int 0)) (Zab (gC (.int 1)) (Zab (gC (.int 2)) Zan))))) (Zap Zaj (fun _ _ _=>False) (Zab (Zag 0) (Zab (gC (.int 4)) Zan)))))) (gNm 6) (gIf (Zhs (gTB (Zal (Zaq (eqF false)) (Zap Zaj (fun _ _ _=>False) (Zab (Zag 0) (Zab (gC (.int 2)) Zan))) (gC (.int 1)))) (gTB (Zal (Zhq fun i j=>decide (j < i)) (Zal (Zaq ixW) (Zag 0) (gC (.int 2))) (gC (.int 0))))) (ZaB (Zbh 7 (Zal (Zaq ixW) (Zcr (Zab (gC (.str "must")) (Zab (gC (.str "may")) Zan))) (Zap Zaj (fun _ _ _=>False) (Zab (Zag 0) (Zab (gC (.int 2)) Zan))))) (ZbA (gMt Zfc Zlb (Zag 4) (Zab (ZaN (Zab (Zag 6) (Zab (Zag 7) (Zab (Zap ZaJ (fun _ _ _=>False) (Zab (Zag 0) (Zab (Zal (Zdk (fun _ _=>True) fun i j=>i - j) (Zag 1) (gC (.int 1))) (Zab (Zag 2) (Zab (Zag 3) Zan))))) Zan)))) Zan)))) Zax)) (ZaL (ZaN (Zab (gC (.str "row")) (Zab (gB (rF Zfv) (Zab (Zag 4) Zan)) (Zab (Zdx (Zal (Zaq (eqF false)) (Zap Zaj (fun _ _ _=>False) (Zab (Zag 0) (Zab (gC (.int 2)) Zan))) (gC (.int 1))) (ZeO (Zag 3))) Zan)))))))))
theorem Znj {k:Nat} (T:Tx K mg base a) {Zau:Nat} {Zaj:Spw} (Zaz:Df P w K mg base "_law_choice" Zau 2 Zaj) (ZaA:Zau≤k) {Za8:Nat} {ZaJ:Spw} (ZcG:Df P w K mg base "_law_kind" Za8 4 ZaJ) (ZcC:Za8≤k) {f:Addr} {cdv:Value} {A:Around} {outer:List Env} {s:Shared} {H:Hp} {E:XK} (hr:Room k (A.deeper (envOfC "_law_row" (Zac Zc8) s.heap.objs.size f cdv))):Ssm (cxW P w K mg base Zi5 "_law_row" (Zac Zc8) f cdv A outer s H E).nox (fun B=>B=H) (ZaC Zc8) (Zjq Zaj ZaJ) :=
 have hu:=Zfb hr
 (Zai (Ze5 (i:=4) Zeu.nd rfl rfl rfl (ZbR Zad)) (Zai (Ze5 (i:=5) Zeu.nd rfl rfl rfl (ZbR (Zaa rfl (ZbR (Zaa rfl Zar (Zaa rfl Zar (Zaa rfl Zar (Zaa rfl Zar (Zaa rfl Zar Zad)))))) (Zaa rfl (ZbR (Zaa rfl Zar (Zaa rfl Zar (Zaa rfl Zar (Zaa rfl Zar (Zaa rfl Zar Zad)))))) Zad)))) (Zai (Zen rfl (ZhT ZdH rfl rfl rfl rfl rfl (Zam (i:=5) rfl rfl rfl rfl) (Zaa rfl (ZbR (Zaa rfl Zar (Zaa rfl Zar (Zaa rfl Zar (Zaa rfl Zar (Zaa rfl Zar Zad)))))) Zad))) (Zai (Zhj PassesOwn.never rfl (fun _=>rfl) (Zc0 (fun _ _=>rfl) (Zas (fun _ _=>rfl) (Zam (i:=5) rfl rfl rfl rfl) (Zas (fun _ _=>rfl) (ZbR (Zaa rfl Zae (Zaa rfl Zae (Zaa rfl Zae (Zaa rfl Zae Zad))))) (Zao Zaz (hr.mono ZaA) rfl ZaD rfl rfl rfl (Zaa rfl (Zam (i:=0) rfl rfl rfl rfl) (Zaa rfl Zae Zad)))))) (Zgc (i:=6) Zeu.nd rfl (.inl rfl) (.inr rfl)) (Zak (ZaZ (Zeo (ZmH (ZaG (ZaT hu) rfl (Zao Zaz (hr.mono ZaA) rfl ZaD rfl rfl rfl (Zaa rfl (Zam (i:=0) rfl rfl rfl rfl) (Zaa rfl Zae Zad))) Zae) (Zkb (ZaG Zkh rfl (Zas (fun _ _=>rfl) (Zam (i:=0) rfl rfl rfl rfl) Zae) Zae)))) (Zai (Ze5 (i:=7) Zeu.nd rfl rfl rfl (Zas (fun _ _=>rfl) (ZbR (Zaa rfl Zar (Zaa rfl Zar Zad))) (Zao Zaz (hr.mono ZaA) rfl ZaD rfl rfl rfl (Zaa rfl (Zam (i:=0) rfl rfl rfl rfl) (Zaa rfl Zae Zad))))) (Zak (Zen rfl (ZhT ZdH rfl rfl rfl rfl rfl (Zam (i:=4) rfl rfl rfl rfl) (Zaa rfl (ZaE (Zaa rfl (Zam (i:=6) rfl rfl rfl rfl) (Zaa rfl (Zam (i:=7) rfl rfl rfl rfl) (Zaa rfl (Zao ZcG (hr.mono ZcC) rfl ZaD rfl rfl rfl (Zaa rfl (Zam (i:=0) rfl rfl rfl rfl) (Zaa rfl (ZhR (Zam (i:=1) rfl rfl rfl rfl) Zae) (Zaa rfl (Zam (i:=2) rfl rfl rfl rfl) (Zaa rfl (Zam (i:=3) rfl rfl rfl rfl) Zad))))) Zad)))) Zad))))) Zay))) (Zak (Zav (ZaE (Zaa rfl Zar (Zaa rfl (ZgD Zcx (Zdq) rfl T.Zcf (by decide) rfl rfl rfl (Zaa rfl (Zam (i:=4) rfl rfl rfl rfl) Zad)) (Zaa rfl (Zkl (ZfU (ZaT hu) rfl (Zao Zaz (hr.mono ZaA) rfl ZaD rfl rfl rfl (Zaa rfl (Zam (i:=0) rfl rfl rfl rfl) (Zaa rfl Zae Zad))) Zae) (Zf1 (Zrk (Zam (i:=3) rfl rfl rfl rfl)))) Zad))))))))))
abbrev Zgb:List Str:=["state","deep","plain","known","pick","some"]
theorem ZeV:ZaH Zgb ["state","deep","plain","known"] (Zac Zcy):=⟨rfl,rfl,rfl,by decide +kernel,rfl,by decide +kernel,by decide +kernel⟩
def Zf4 (Zaj:Spw) (ZaJ:Spw) (ZeY:Spw):GS:=(ZaB (ZdM (Zal (Zdk (fun _ _=>True) fun i j=>i - j) (Zal (Zaq ixW) (Zag 0) (gC (.int 2))) (gC (.int 1))) (Zag 0) (gC (.int 2))) (ZaB (Zbh 4 (Zap Zaj (fun _ _ _=>False) (Zab (Zag 0) (Zab (gC (.int 8)) Zan)))) (ZaB (gIf (gOr (gTB (Zal (Zgk (fun i j=>decide (i < j)) Za4) (Zag 1) (gC (.int 2)))) (gOr (gTB (Zal (Zgk (fun i j=>decide (i < j)) Za4) (Zal (Zaq ixW) (Zag 0) (gC (.int 2))) (gC (.int 2)))) (gTB (Zal (Zgk (fun i j=>decide (i < j)) Za4) (Zag 4) (gC (.int 2)))))) (ZaB (Zbh 5 (Zcr (Zab (ZaN (Zab (gC (.str "num")) Zan)) (Zab (ZaN (Zab (gC (.str "truth")) Zan)) (Zab (ZaN (Zab (gC (.str "any")) Zan)) Zan))))) (ZaL (Zal (Zaq ixW) (Zag 5) (Zap Zaj (fun _ _ _=>False) (Zab (Zag 0) (Zab (Zal (Zdk (fun _ _=>True) fun i j=>i - j) (gC (.int 3)) (gB (rF Zlq) (Zab (Zag 3) Zan))) Zan)))))) Zax) (ZaB (gIf (Zhs (gTB (Zal (Zgk (fun i j=>decide (i < j)) Za4) (Zag 4) (gC (.int 4)))) (gNt (Zfd (Zag 2)))) (ZaL (ZaN (Zab (gC (.str "to")) (Zab (Zap ZaJ (fun _ _ _=>False) (Zab (Zag 0) (Zab (Zal (Zdk (fun _ _=>True) fun i j=>i - j) (Zag 1) (gC (.int 1))) (Zab (Zag 2) (Zab (Zag 3) Zan))))) (Zab (Zap ZaJ (fun _ _ _=>False) (Zab (Zag 0) (Zab (Zal (Zdk (fun _ _=>True) fun i j=>i - j) (Zag 1) (gC (.int 1))) (Zab (Zag 2) (Zab (Zag 3) Zan))))) Zan))))) Zax) (ZaB (gIf (Zhs (gTB (Zal (Zaq (eqF false)) (Zag 4) (gC (.int 4)))) (gNt (Zfd (Zag 2)))) (ZaL (ZaN (Zab (gC (.str "box")) (Zab (Zap ZaJ (fun _ _ _=>False) (Zab (Zag 0) (Zab (Zal (Zdk (fun _ _=>True) fun i j=>i - j) (Zag 1) (gC (.int 1))) (Zab (Zag 2) (Zab (Zag 3) Zan))))) Zan)))) Zax) (ZaL (Zap ZeY (fun _ _ _=>False) (Zab (Zag 0) (Zab (Zag 1) (Zab (Zag 2) (Zab (Zag 3) Zan)))))))))))
theorem ZhU {k:Nat} (T:Tx K mg base a) {Zau:Nat} {Zaj:Spw} (Zaz:Df P w K mg base "_law_choice" Zau 2 Zaj) (ZaA:Zau≤k) {Za8:Nat} {ZaJ:Spw} (ZcG:Df P w K mg base "_law_kind" Za8 4 ZaJ) (ZcC:Za8≤k) {Zfy:Nat} {ZeY:Spw} (Zng:Df P w K mg base "_law_row" Zfy 4 ZeY) (Znf:Zfy≤k) {f:Addr} {cdv:Value} {A:Around} {outer:List Env} {s:Shared} {H:Hp} {E:XK} (hr:Room k (A.deeper (envOfC "_law_kind" (Zac Zcy) s.heap.objs.size f cdv))):Ssm (cxW P w K mg base Zgb "_law_kind" (Zac Zcy) f cdv A outer s H E).nox (fun B=>B=H) (ZaC Zcy) (Zf4 Zaj ZaJ ZeY) :=
 have hu:=Zfb hr
 (Zai (ZhN (fun _=>rfl) rfl rfl rfl (ZhR (Zas (fun _ _=>rfl) (Zam (i:=0) rfl rfl rfl rfl) Zae) Zae) (Zam (i:=0) rfl rfl rfl rfl) Zae) (Zai (Ze5 (i:=4) ZeV.nd rfl rfl rfl (Zao Zaz (hr.mono ZaA) rfl ZaD rfl rfl rfl (Zaa rfl (Zam (i:=0) rfl rfl rfl rfl) (Zaa rfl Zae Zad)))) (Zai (ZaZ (Zeo (Zkf (ZaG ZiY rfl (Zam (i:=1) rfl rfl rfl rfl) Zae) (Zkf (ZaG ZiY rfl (Zas (fun _ _=>rfl) (Zam (i:=0) rfl rfl rfl rfl) Zae) Zae) (Zjf (ZaG ZiY rfl (Zam (i:=4) rfl rfl rfl rfl) Zae))))) (Zai (Ze5 (i:=5) ZeV.nd rfl rfl rfl (ZbR (Zaa rfl (ZaE (Zaa rfl Zar Zad)) (Zaa rfl (ZaE (Zaa rfl Zar Zad)) (Zaa rfl (ZaE (Zaa rfl Zar Zad)) Zad))))) (Zak (Zav (Zas (fun _ _=>rfl) (Zam (i:=5) rfl rfl rfl rfl) (Zao Zaz (hr.mono ZaA) rfl ZaD rfl rfl rfl (Zaa rfl (Zam (i:=0) rfl rfl rfl rfl) (Zaa rfl (ZhR Zae (ZgD Zk0 (Zh3) rfl T.ZiN (by decide) rfl rfl rfl (Zaa rfl (Zam (i:=3) rfl rfl rfl rfl) Zad))) Zad))))))) Zay) (Zai (ZaZ (Zeo (ZmH (ZaG ZiY rfl (Zam (i:=4) rfl rfl rfl rfl) Zae) (Zkb (Zfa (ZeN (fun _=>rfl) (Zam (i:=2) rfl rfl rfl rfl)))))) (Zak (Zav (ZaE (Zaa rfl Zar (Zaa rfl (Zao ZcG (hr.mono ZcC) rfl ZaD rfl rfl rfl (Zaa rfl (Zam (i:=0) rfl rfl rfl rfl) (Zaa rfl (ZhR (Zam (i:=1) rfl rfl rfl rfl) Zae) (Zaa rfl (Zam (i:=2) rfl rfl rfl rfl) (Zaa rfl (Zam (i:=3) rfl rfl rfl rfl) Zad))))) (Zaa rfl (Zao ZcG (hr.mono ZcC) rfl ZaD rfl rfl rfl (Zaa rfl (Zam (i:=0) rfl rfl rfl rfl) (Zaa rfl (ZhR (Zam (i:=1) rfl rfl rfl rfl) Zae) (Zaa rfl (Zam (i:=2) rfl rfl rfl rfl) (Zaa rfl (Zam (i:=3) rfl rfl rfl rfl) Zad))))) Zad)))))) Zay) (Zai (ZaZ (Zeo (ZmH (ZaG (ZaT hu) rfl (Zam (i:=4) rfl rfl rfl rfl) Zae) (Zkb (Zfa (ZeN (fun _=>rfl) (Zam (i:=2) rfl rfl rfl rfl)))))) (Zak (Zav (ZaE (Zaa rfl Zar (Zaa rfl (Zao ZcG (hr.mono ZcC) rfl ZaD rfl rfl rfl (Zaa rfl (Zam (i:=0) rfl rfl rfl rfl) (Zaa rfl (ZhR (Zam (i:=1) rfl rfl rfl rfl) Zae) (Zaa rfl (Zam (i:=2) rfl rfl rfl rfl) (Zaa rfl (Zam (i:=3) rfl rfl rfl rfl) Zad))))) Zad))))) Zay) (Zak (Zav (Zao Zng (hr.mono Znf) rfl ZaD rfl rfl rfl (Zaa rfl (Zam (i:=0) rfl rfl rfl rfl) (Zaa rfl (Zam (i:=1) rfl rfl rfl rfl) (Zaa rfl (Zam (i:=2) rfl rfl rfl rfl) (Zaa rfl (Zam (i:=3) rfl rfl rfl rfl) Zad))))))))))))
abbrev Zet:List Str:=["script","k","plain","known","state","deep"]
theorem Zcm:ZaH Zet ["script","k","plain","known"] (Zac Za3):=⟨rfl,rfl,rfl,by decide +kernel,rfl,by decide +kernel,by decide +kernel⟩
def ZeD (Za9:Spw) (Zaj:Spw) (ZaJ:Spw):GS:=(ZaB (Zbh 4 (Zal (Zem) (Zap Za9 (fun _ _ _=>False) (Zab (Zag 0) (Zab (Zag 1) Zan))) (Zcr (Zab (gC (.int 9)) Zan)))) (ZaB (Zbh 5 (gC (.int 3))) (ZaB (gIf (gTB (Zal (Zaq (eqF false)) (Zap Zaj (fun _ _ _=>False) (Zab (Zag 4) (Zab (gC (.int 6)) Zan))) (gC (.int 1)))) (ZaB (ZdM (gC (.int 30)) (Zag 4) (gC (.int 2))) (Zbh 5 (gC (.int 8)))) Zax) (ZaL (Zap ZaJ (fun _ _ _=>False) (Zab (Zag 4) (Zab (Zag 5) (Zab (Zag 2) (Zab (Zag 3) Zan)))))))))
theorem Zg0 {k:Nat} (T:Tx K mg base a) {ZbB:Nat} {Za9:Spw} (Zff:Df P w K mg base "_law_state" ZbB 2 Za9) (Zfi:ZbB≤k) {Zau:Nat} {Zaj:Spw} (Zaz:Df P w K mg base "_law_choice" Zau 2 Zaj) (ZaA:Zau≤k) {Za8:Nat} {ZaJ:Spw} (ZcG:Df P w K mg base "_law_kind" Za8 4 ZaJ) (ZcC:Za8≤k) {f:Addr} {cdv:Value} {A:Around} {outer:List Env} {s:Shared} {H:Hp} {E:XK} (hr:Room k (A.deeper (envOfC "_law_drawn_kind" (Zac Za3) s.heap.objs.size f cdv))):Ssm (cxW P w K mg base Zet "_law_drawn_kind" (Zac Za3) f cdv A outer s H E).nox (fun B=>B=H) (ZaC Za3) (ZeD Za9 Zaj ZaJ) :=
 have hu:=Zfb hr
 (Zai (Ze5 (i:=4) Zcm.nd rfl rfl rfl (Ze0 (Zao Zff (hr.mono Zfi) rfl ZaD rfl rfl rfl (Zaa rfl (Zam (i:=0) rfl rfl rfl rfl) (Zaa rfl (Zam (i:=1) rfl rfl rfl rfl) Zad))) (ZbR (Zaa rfl Zae Zad)))) (Zai (Ze5 (i:=5) Zcm.nd rfl rfl rfl Zae) (Zai (ZaZ (ZaG (ZaT hu) rfl (Zao Zaz (hr.mono ZaA) rfl ZaD rfl rfl rfl (Zaa rfl (Zam (i:=4) rfl rfl rfl rfl) (Zaa rfl Zae Zad))) Zae) (Zai (ZhN (fun _=>rfl) rfl rfl rfl Zae (Zam (i:=4) rfl rfl rfl rfl) Zae) (Zak (Ze5 (i:=5) Zcm.nd rfl rfl rfl Zae))) Zay) (Zak (Zav (Zao ZcG (hr.mono ZcC) rfl ZaD rfl rfl rfl (Zaa rfl (Zam (i:=4) rfl rfl rfl rfl) (Zaa rfl (Zam (i:=5) rfl rfl rfl rfl) (Zaa rfl (Zam (i:=2) rfl rfl rfl rfl) (Zaa rfl (Zam (i:=3) rfl rfl rfl rfl) Zad))))))))))
end
theorem Zup {G G':Hw} {s p:Addr} {S:HW} (hp:G p=none) (h:∀ b,b≠s→b≠p→∀ u,G b=some u→G' b=some u) (hs:G' s=some S):Sub (put G s S) G':=fun b u hu=>by
 by_cases hb:b=s
 ·subst hb;rw [Zah] at hu;rw [hs];exact hu
 ·rw [Zat hb] at hu
  exact h b hb (fun e=>by subst e;rw [hp] at hu;cases hu) u hu
abbrev LA:List Str:=["a","ab","b","cab","zzzzzzzz"]
abbrev LB':List Str:=["any","in","inside","num","out"]
abbrev LC':List Str:=["aa","new","other","x","zz"]
theorem Zrf:ZpG LA:=⟨by decide +kernel,by decide +kernel,by decide⟩
theorem Zvj:ZpG LB':=⟨by decide +kernel,by decide +kernel,by decide⟩
theorem ZtK:ZpG LC':=⟨by decide +kernel,by decide +kernel,by decide⟩
abbrev gRT (sp:Spw):GS:=ZaB (Zgo (Zbv (Zal (Zaq ixW) (Zag 5) (Zal (Zaq ixW) (Zcr (L3.Zab (gC (.int 0)) (L3.Zab (gC (.int 0)) (L3.Zab (gC (.int 1)) (L3.Zab (gC (.int 2)) L3.Zan))))) (Zap Ze7 (fun _ _ _=>False) (L3.Zab (Zag 0) (L3.Zab (gC (.int 4)) L3.Zan)))))) (gNm 6) (gRB sp)) (ZaL (L3.ZaN (L3.Zab (gC (.str "row")) (L3.Zab (gB (rF Zfv) (L3.Zab (Zag 4) L3.Zan)) (L3.Zab (Zdx (Zal (Zaq (eqF false)) (Zap Ze7 (fun _ _ _=>False) (L3.Zab (Zag 0) (L3.Zab (gC (.int 2)) L3.Zan))) (gC (.int 1))) (ZeO (Zag 3))) L3.Zan)))))
theorem ZvV {n:Nat} {G:Hw} {Q:Kw} {s p p3 p1 p2 p4:Addr} {x d c:Int} {b pl kn:Bool} (hC:Kw.C Q) (hd1:2≤d) (hd2:d≤(n:Int)+2) (hc:2≤c) (hs:G s=some (.lst [.int x,.bl b,.int c])) (hp:G p=some (.lst [])) (nps:p≠s)
  (h3:G p3=some (.lst [.ref p1,.ref p2,.ref p4])) (h1:G p1=some (.lst (LA.map W.str))) (h2:G p2=some (.lst (LB'.map W.str))) (h4:G p4=some (.lst (LC'.map W.str)))
  (q:∀ (k:Kd) (x':Int) G',wf k→(k.dp:Int)≤d→1≤k.cnt→(k.cnt:Int)≤c+d - 1→G' s=some (.lst [.int x',.bl b,.int (c+1 - k.cnt)])→(∀ b,b≠s→b≠p→∀ u,G b=some u→G' b=some u)→Q k.enc G') :
  gRT (ZjI n) (ZaX Q) [some (.ref s),some (.int d),some (.bl pl),some (.bl kn),some (.ref p),some (.ref p3),none,none] G:=by
 unfold gRT
 simp only [ZaB,Zgo,Zbv,Zal,Zcr,Zap,L3.Zab,L3.Zan,Zag,gC,Zaq,List.getElem?_cons_zero,List.getElem?_cons_succ]
 refine ⟨(show 4≤sizeLine by decide),fun p5 e5=>?_⟩
 have nsl:∀ {r:Addr} {L:List W},G r=some (.lst L)→L.length≠3→r≠s:=fun h hne e=>by
  subst e;rw [hs] at h;cases h;exact hne rfl
 have n5:s≠p5:=ZaK hs e5
 refine ⟨s,4,x,b,[.int c],rfl,by decide,by decide,by rw [Zat n5];exact hs,fun r x1 r0 r1=>?_⟩
 have keep:∀ a,a≠s→∀ u,G a=some u→put (put G p5 (.lst [.int 0,.int 0,.int 1,.int 2])) s (.lst [.int x1,.bl b,.int c]) a=some u:=fun a ha u hu=>by
  rw [Zat ha,Zat (ZaK hu e5)];exact hu
 have f5:put (put G p5 (.lst [.int 0,.int 0,.int 1,.int 2])) s (.lst [.int x1,.bl b,.int c]) p5=some (.lst [.int 0,.int 0,.int 1,.int 2]):=by rw [Zat (Ne.symm n5)];exact Zah
 have fs:put (put G p5 (.lst [.int 0,.int 0,.int 1,.int 2])) s (.lst [.int x1,.bl b,.int c]) s=some (.lst [.int x1,.bl b,.int c]):=Zah
 have n3:p3≠s:=fun e=>by
  subst e;rw [hs] at h3
  have:=HW.lst.inj (Option.some.inj h3)
  cases this
 generalize put (put G p5 (.lst [.int 0,.int 0,.int 1,.int 2])) s (.lst [.int x1,.bl b,.int c])=G1 at keep f5 fs ⊢
 have pick:∃ (pn:Addr) (L:List Str),ZpG L∧(∃ j:Int,atI [W.int 0,.int 0,.int 1,.int 2] r=some (.int j)∧atI [W.ref p1,.ref p2,.ref p4] j=some (.ref pn))∧G pn=some (.lst (L.map W.str))∧L.length≠3∧L≠[]:=by
  have:r=0∨r=1∨r=2∨r=3:=by omega
  rcases this with rfl | rfl | rfl | rfl
  ·exact ⟨p1,LA,Zrf,⟨0,rfl,rfl⟩,h1,by decide,by decide⟩
  ·exact ⟨p1,LA,Zrf,⟨0,rfl,rfl⟩,h1,by decide,by decide⟩
  ·exact ⟨p2,LB',Zvj,⟨1,rfl,rfl⟩,h2,by decide,by decide⟩
  ·exact ⟨p4,LC',ZtK,⟨2,rfl,rfl⟩,h4,by decide,by decide⟩
 obtain ⟨pn,L,gL,⟨j,ej1,ej2⟩,hn,hl3,hl0⟩:=pick
 show opt (ixW (.ref p5) (.int r) G1) _
 rw [ZcJ f5,ej1,Zaf,ZcJ (keep p3 n3 _ h3),ej2,Zaf]
 have npn:pn≠s:=nsl hn (by rw [List.length_map];exact hl3)
 have npp:pn≠p:=fun e=>by
  subst e;rw [hp] at hn
  have:=HW.lst.inj (Option.some.inj hn)
  cases L with
  | nil=>exact hl0 rfl
  | cons y L=>cases this
 simp only [keep pn npn _ hn]
 refine Zj0 (n:=n) (c:=c) hd1 hd2 hc L none none G1 [] x1 c fs (keep p nps _ hp) (keep pn npn _ hn) nps npn npp (by have:=gL.2.2;simp only [List.length_nil];omega) (by show c=c - ((0:Nat):Int);omega) (by show ((0:Nat):Int)≤c+d - 2;omega) ?_
 intro ω G' l2 x' hω f1 f1' f2 f3 f4 f5'
 obtain ⟨u,v,rfl⟩:=hω
 rw [List.nil_append] at f1 f1' f2
 simp only [ZaL,L3.ZaN,gB,Zdx,ZeO,Zal,Zap,L3.Zab,L3.Zan,Zag,gC,Zaq,rF,List.getElem?_cons_zero,List.getElem?_cons_succ]
 rw [show Zfv [.ref p] G'=some (.tup (l2.map ZbT)) by unfold Zfv;dsimp only;rw [Zfo f2];rfl,Zaf]
 refine ⟨s,2,x',b,[.int (c - (ofL l2).cnt)],rfl,by decide,by decide,f1,fun r2 x2 _ _=>?_⟩
 have done:∀ o:Bool,3≤sizeLine∧Q (.tup [.str "row",.tup (l2.map ZbT),.bl o]) (put G' s (.lst [.int x2,.bl b,.int (c - (ofL l2).cnt)])):=fun o=>by
  refine ⟨by decide,?_⟩
  have hl5:l2.length≤5:=by have h1:=f4.length_le;rw [List.length_map] at h1;have:=gL.2.2;omega
  have wk:wf (.row (ofL l2) o):=Zrm (gL.1.sublist f4) hl5 fun y hy=>⟨gL.2.1 _ (f4.subset (List.mem_map_of_mem hy)),(f5' y hy).1⟩
  have ek:(Kd.row (ofL l2) o).cnt=1+(ofL l2).cnt:=rfl
  have hdp:(ofL l2).dp≤(d - 1).toNat:=Zkn l2 fun y hy=>by have:=(f5' y hy).2;omega
  have ed:(Kd.row (ofL l2) o).dp=1+(ofL l2).dp:=rfl
  have:=q (.row (ofL l2) o) x2 (put G' s (.lst [.int x2,.bl b,.int (c - (ofL l2).cnt)])) wk (by rw [ed];omega) (by rw [ek];omega) (by rw [ek];omega) (by rw [Zah,ek,show c+1 - ((1+(ofL l2).cnt:Nat):Int)=c - (ofL l2).cnt by omega]) fun a h1 h2 u hu=>by
   rw [Zat h1];exact f3 a h1 h2 u (keep a h1 u hu)
  rw [show (Kd.row (ofL l2) o).enc=.tup [.str "row",.tup (l2.map ZbT),.bl o] by rw [← Zer];rfl] at this
  exact this
 show opt (eqF false (.int r2) (.int 1) (put G' s (.lst [.int x2,.bl b,.int (c - (ofL l2).cnt)]))) _
 rw [show eqF false (.int r2) (.int 1) (put G' s (.lst [.int x2,.bl b,.int (c - (ofL l2).cnt)]))=some (.bl (r2==1)) by unfold eqF eqW;show some (W.bl ((r2==1) != false))=_;cases (r2==1) <;> rfl,Zaf]
 dsimp only
 cases (r2==1) with
 | false=>exact done false
 | true=>rw [if_pos rfl];exact done (!kn)
theorem Zfy (T:Tx K mg base a) {m n:Nat} (hm:1≤m) (D:Df P w K mg base "_law_kind" m 4 (ZjI n)):Df P w K mg base "_law_row" (m+1) 4 (Zti n):=by
 refine mk0 (k:=m) T.ZeP rfl Zeu ZrR ((by rintro ws G Q E ⟨s,x,d,c,b,pl,kn,e,_⟩;rw [e];rfl)) (Znj T (Zau T) hm D (Nat.le_refl _)) fun ws G Q E hC q=>?_
 obtain ⟨s,x,d,c,b,pl,kn,rfl,hd1,hd2,hc,hs,q⟩:=q
 unfold Zjq
 show ZaB (Zbh 4 (Zcr L3.Zan)) _ (ZaX Q) [some (.ref s),some (.int d),some (.bl pl),some (.bl kn),none,none,none,none] G
 simp only [ZaB,Zbh,Zcr,L3.Zab,L3.Zan,gC,List.set_cons_zero,List.set_cons_succ]
 refine ⟨(show 0≤sizeLine by decide),fun p ep=>⟨(show 5≤sizeLine by decide),fun p1 e1=>⟨(show 5≤sizeLine by decide),fun p2 e2=>⟨(show 2≤sizeLine by decide),fun p3 e3=>?_⟩⟩⟩⟩
 have nps:p≠s:=Ne.symm (ZaK hs ep)
 have s0:Sub G (put G p (.lst [])):=Zbb ep
 have fp:put G p (.lst []) p=some (.lst []):=Zah
 generalize put G p (.lst [])=G0 at *
 have s1:Sub G0 (put G0 p1 (.lst [.str "a",.str "ab",.str "b",.str "cab",.str "zzzzzzzz"])):=Zbb e1
 have f1:put G0 p1 (.lst [.str "a",.str "ab",.str "b",.str "cab",.str "zzzzzzzz"]) p1=some (.lst (LA.map W.str)):=Zah
 generalize put G0 p1 (.lst [.str "a",.str "ab",.str "b",.str "cab",.str "zzzzzzzz"])=G1 at *
 have s2:Sub G1 (put G1 p2 (.lst [.str "any",.str "in",.str "inside",.str "num",.str "out"])):=Zbb e2
 have f2:put G1 p2 (.lst [.str "any",.str "in",.str "inside",.str "num",.str "out"]) p2=some (.lst (LB'.map W.str)):=Zah
 generalize put G1 p2 (.lst [.str "any",.str "in",.str "inside",.str "num",.str "out"])=G2 at *
 have s3:Sub G2 (put G2 p3 (.lst [.ref p1,.ref p2])):=Zbb e3
 have f3:put G2 p3 (.lst [.ref p1,.ref p2]) p3=some (.lst [.ref p1,.ref p2]):=Zah
 have e3':=e3
 generalize put G2 p3 (.lst [.ref p1,.ref p2])=G3 at s3 f3 ⊢
 simp only [ZbA,gMt,Zag,L3.Zab,L3.Zan,Zcr,gC,List.getElem?_cons_zero,List.getElem?_cons_succ]
 refine ⟨Zd2 f3,(show 5≤sizeLine by decide),fun p4 e4=>?_⟩
 have s4:Sub G3 (put G3 p4 (.lst [.str "aa",.str "new",.str "other",.str "x",.str "zz"])):=Zbb e4
 have f4:put G3 p4 (.lst [.str "aa",.str "new",.str "other",.str "x",.str "zz"]) p4=some (.lst (LC'.map W.str)):=Zah
 generalize put G3 p4 (.lst [.str "aa",.str "new",.str "other",.str "x",.str "zz"])=G4 at s4 f4 ⊢
 refine Zh5 (s4 _ _ f3) (show 2 < sizeLine by decide) ?_
 have S2:Sub G G2:=(s0.trans s1).trans s2
 have n3:∀ {r:Addr} {o:HW},G2 r=some o→r≠p3:=fun h=>ZaK h e3'
 have keep:∀ r o,G2 r=some o→put G4 p3 (.lst ([.ref p1,.ref p2]++[.ref p4])) r=some o:=fun r o h=>by rw [Zat (n3 h)];exact s4 _ _ (s3 _ _ h)
 have n43:p4≠p3:=fun e=>by subst e;rw [f3] at e4;cases e4
 refine ZvV (x:=x) hC hd1 hd2 hc (keep _ _ (S2 _ _ hs)) (keep _ _ (s2 _ _ (s1 _ _ fp))) nps Zah (keep _ _ (s2 _ _ f1)) (keep _ _ f2) (by rw [Zat n43];exact f4) fun k x' G' w1 w2 w3 w4 hG hk=>?_
 refine hC _ _ _ (Zup ep (fun r h1 h2 u hu=>hk r h1 h2 u (keep _ _ (S2 _ _ hu))) hG) (q k x' w1 w2 w3 w4)
theorem ZsY {r:Int} (h0:0≤r) (h6:r < 3):∃ k:Kd,(k=.any∨k=.num∨k=.truth)∧atI [W.tup [.str "num"],W.tup [.str "truth"],W.tup [.str "any"]] r=some k.enc:=by
 have:r=0∨r=1∨r=2:=by omega
 rcases this with e | e | e
 ·exact ⟨.num,.inr (.inl rfl),by rw [e];exact Zc9⟩
 ·exact ⟨.truth,.inr (.inr rfl),by rw [e];exact ZbZ⟩
 ·exact ⟨.any,.inl rfl,by rw [e];exact Zc7⟩
theorem Zpb {k:Kd} (h:k=.any∨k=.num∨k=.truth):wf k∧k.dp=1∧k.cnt=1:=by rcases h with rfl | rfl | rfl <;> exact ⟨⟨rfl,rfl⟩,rfl,rfl⟩
abbrev gLf:GS:=(ZaB (Zbh 5 (Zcr (L3.Zab (L3.ZaN (L3.Zab (gC (.str "num")) L3.Zan)) (L3.Zab (L3.ZaN (L3.Zab (gC (.str "truth")) L3.Zan)) (L3.Zab (L3.ZaN (L3.Zab (gC (.str "any")) L3.Zan)) L3.Zan))))) (ZaL (Zal (Zaq ixW) (Zag 5) (Zap Ze7 (fun _ _ _=>False) (L3.Zab (Zag 0) (L3.Zab (Zal (Zdk (fun _ _=>True) fun i j=>i - j) (gC (.int 3)) (gB (rF Zlq) (L3.Zab (Zag 3) L3.Zan))) L3.Zan))))))
theorem Zv8 {G:Hw} {Q:Kw} {D:Ew} (hD:D.rt=Q) {s:Addr} {x c:Int} {b kn:Bool} {w1 w2 w4:Option W} (hC:Kw.C Q) (hs:G s=some (.lst [.int x,.bl b,.int c])) (q:∀ (k:Kd) (x':Int),(k=.any∨k=.num∨k=.truth)→Q k.enc (put G s (.lst [.int x',.bl b,.int c]))) :
  gLf D [some (.ref s),w1,w2,some (.bl kn),w4,none] G:=by
 unfold gLf
 simp only [ZaB,Zbh,ZaL,Zcr,L3.ZaN,Zal,Zap,gB,rF,L3.Zab,L3.Zan,Zag,gC,Zaq,Zdk,List.set_cons_zero,List.set_cons_succ,List.getElem?_cons_zero,List.getElem?_cons_succ]
 refine ⟨by decide,by decide,by decide,by decide,fun p hp=>?_⟩
 have ei:Zlq [.bl kn] (put G p (.lst [.tup [.str "num"],.tup [.str "truth"],.tup [.str "any"]]))=some (.int (if kn then 1 else 0)):=by cases kn <;> rfl
 rw [ei,Zaf]
 have n:s≠p:=ZaK hs hp
 refine ⟨trivial,s,_,x,b,[.int c],rfl,by cases kn <;> decide,by cases kn <;> decide,by rw [Zat n];exact hs,fun r x1 r0 r1=>?_⟩
 have r3:r < 3:=by cases kn with | true=>have:r < 3 - 1:=r1;omega | false=>have:r < 3 - 0:=r1;omega
 obtain ⟨k,hk,ek⟩:=ZsY r0 r3
 show opt (ixW (.ref p) (.int r) _) _
 rw [ZcJ (by rw [Zat (Ne.symm n)];exact Zah),ek,Zaf,hD]
 refine hC _ _ _ (fun a o h=>?_) (q k x1 hk)
 by_cases ha:a=s
 ·subst ha;rw [Zah] at h ⊢;exact h
 ·rw [Zat ha] at h ⊢;rw [Zat (ZaK h hp)];exact h
theorem Zr0 {d c:Int} {k:Kd} (hd:1≤d) (h:k=.any∨k=.num∨k=.truth):gk d c k:=by
 obtain ⟨w,e1,e2⟩:=Zpb h
 exact ⟨w,by omega,by omega,fun _=>e2⟩
theorem ZoV {n:Nat} {spK spR':Spw} {ws:List W} {G:Hw} {Q:Kw} {E:Addr→Hw→Prop} (hC:Kw.C Q) (q:ZjI n ws G Q E) (hK:n=0∨∃ m,n=m+1∧spK=ZjI m∧spR'=Zti m):Zf4 Ze7 spK spR' (ZaX Q) (Zcs Zgb ws) G:=by
 obtain ⟨s,x,d,c,b,pl,kn,rfl,hd1,hd2,hs,q⟩:=q
 unfold Zf4
 show ZaB (ZdM _ _ _) _ (ZaX Q) [some (.ref s),some (.int d),some (.bl pl),some (.bl kn),none,none] G
 simp only [ZaB,ZdM,Zal,Zdk,Zaq,Zag,gC,List.getElem?_cons_zero,List.getElem?_cons_succ,ix2 hs,Zaf]
 refine ⟨trivial,Zoh hs ?_⟩
 have h1:put G s (.lst [.int x,.bl b,.int (c - 1)]) s=some (.lst [.int x,.bl b,.int (c - 1)]):=Zah
 simp only [Zbh,Zap,L3.Zab,L3.Zan,Zag,gC,List.getElem?_cons_zero,List.getElem?_cons_succ]
 refine ⟨s,8,x,b,[.int (c - 1)],rfl,by decide,by decide,h1,fun r x1 r0 r8=>?_⟩
 rw [Zbm]
 have h2:put G s (.lst [.int x1,.bl b,.int (c - 1)]) s=some (.lst [.int x1,.bl b,.int (c - 1)]):=Zah
 simp only [List.set_cons_zero,List.set_cons_succ]
 have leaf:gLf { ZaX Q with nx:=(fun _ _=>False) } [some (.ref s),some (.int d),some (.bl pl),some (.bl kn),some (.int r),none] (put G s (.lst [.int x1,.bl b,.int (c - 1)])):=by
  refine Zv8 (Q:=Q) rfl hC h2 fun k x2 hk=>?_
  rw [Zbm]
  have:=q k x2 (Zr0 hd1 hk)
  rw [(Zpb hk).2.2] at this
  exact this
 have gif:∀ {t:GT} {Zcg:GS} {b':Bool},(∀ R:Bool→Hw→Prop,R b' (put G s (.lst [.int x1,.bl b,.int (c - 1)]))→t [some (.ref s),some (.int d),some (.bl pl),some (.bl kn),some (.int r),none] (put G s (.lst [.int x1,.bl b,.int (c - 1)])) R)→(b'=false→Zcg (ZaX Q) [some (.ref s),some (.int d),some (.bl pl),some (.bl kn),some (.int r),none] (put G s (.lst [.int x1,.bl b,.int (c - 1)]))) →
   ZaB (gIf t gLf Zax) Zcg (ZaX Q) [some (.ref s),some (.int d),some (.bl pl),some (.bl kn),some (.int r),none] (put G s (.lst [.int x1,.bl b,.int (c - 1)])):=by
  intro t Zcg b' ht hr
  refine ht _ ?_
  cases b' with
  | true=>exact leaf
  | false=>exact hr rfl
 refine gif (b':=decide (d < 2)||decide (c - 1 < 2)||decide (r < 2)) (fun R hR=>?_) fun hb=>?_
 ·simp only [gOr,gTB,Zal,Zgk,Zaq,Zag,gC,List.getElem?_cons_zero,List.getElem?_cons_succ]
  by_cases z1:d < 2
  ·simp only [z1,decide_true,if_true,Bool.true_or] at hR ⊢;exact hR
  ·simp only [z1,decide_false,Bool.false_eq_true,if_false,Bool.false_or] at hR ⊢
   rw [ix2 h2,Zaf]
   dsimp only
   by_cases z2:c - 1 < 2
   ·simp only [z2,decide_true,if_true,Bool.true_or] at hR ⊢;exact hR
   ·simp only [z2,decide_false,Bool.false_eq_true,if_false,Bool.false_or] at hR ⊢
    exact hR
 ·simp only [Bool.or_eq_false_iff,decide_eq_false_iff_not,Int.not_lt] at hb
  obtain ⟨⟨b1,b2⟩,b3⟩:=hb
  rcases hK with rfl | ⟨m,rfl,rfl,rfl⟩
  ·exact absurd hd2 (by omega)
  have two:∀ {t:GT} {B Zcg:GS} (b':Bool),(∀ R:Bool→Hw→Prop,R b' (put G s (.lst [.int x1,.bl b,.int (c - 1)]))→t [some (.ref s),some (.int d),some (.bl pl),some (.bl kn),some (.int r),none] (put G s (.lst [.int x1,.bl b,.int (c - 1)])) R)→B { ZaX Q with nx:=Zcg (ZaX Q) } [some (.ref s),some (.int d),some (.bl pl),some (.bl kn),some (.int r),none] (put G s (.lst [.int x1,.bl b,.int (c - 1)]))→Zcg (ZaX Q) [some (.ref s),some (.int d),some (.bl pl),some (.bl kn),some (.int r),none] (put G s (.lst [.int x1,.bl b,.int (c - 1)])) →
    ZaB (gIf t B Zax) Zcg (ZaX Q) [some (.ref s),some (.int d),some (.bl pl),some (.bl kn),some (.int r),none] (put G s (.lst [.int x1,.bl b,.int (c - 1)])):=by
   intro t B Zcg b' ht h1 h2
   refine ht _ ?_
   cases b' with
   | true=>exact h1
   | false=>exact h2
  refine two (decide (r < 4)&&!pl) (fun R hR=>?_) ?_ ?_
  ·simp only [Zhs,gTB,gNt,Zfd,Zal,Zgk,Zag,gC,List.getElem?_cons_zero,List.getElem?_cons_succ]
   by_cases z:r < 4
   ·simp only [z,decide_true,if_true,Bool.true_and,Zhv] at hR ⊢;exact hR
   ·simp only [z,decide_false,Bool.false_eq_true,if_false,Bool.false_and] at hR ⊢;exact hR
  ·simp only [ZaL,L3.ZaN,Zap,Zal,Zdk,L3.Zab,L3.Zan,Zag,gC,List.getElem?_cons_zero,List.getElem?_cons_succ]
   refine ⟨trivial,s,x1,d - 1,c - 1,b,pl,kn,rfl,by omega,by omega,h2,fun k1 x2 g1=>?_⟩
   refine ⟨trivial,s,x2,d - 1,c - 1 - k1.cnt,b,pl,kn,rfl,by omega,by omega,Zah,fun k2 x3 g2=>⟨(show 3≤sizeLine by decide),?_⟩⟩
   rw [Zbm,Zbm]
   have ek:(Kd.to k1 k2).cnt=1+(k1.cnt+k2.cnt):=rfl
   have ed:(Kd.to k1 k2).dp=1+max k1.dp k2.dp:=rfl
   obtain ⟨u1,u2,u3,u4⟩:=g1
   obtain ⟨v1,v2,v3,v4⟩:=g2
   have:=q (.to k1 k2) x3 ⟨ZrW u1 v1,by rw [ed];omega,by rw [ek];by_cases z:c - 1 - (k1.cnt:Int)≤2 <;> omega,fun z=>absurd z (by omega)⟩
   rw [ek] at this
   rw [show c - 1 - (k1.cnt:Int) - k2.cnt=c - ((1+(k1.cnt+k2.cnt):Nat):Int) by omega]
   exact this
  ·refine two ((r==4)&&!pl) (fun R hR=>?_) ?_ ?_
   ·simp only [Zhs,gTB,gNt,Zfd,Zal,Zaq,Zag,gC,List.getElem?_cons_zero,List.getElem?_cons_succ]
    show opt (eqF false (.int r) (.int 4) (put G s (.lst [.int x1,.bl b,.int (c - 1)]))) _
    rw [show eqF false (.int r) (.int 4) (put G s (.lst [.int x1,.bl b,.int (c - 1)]))=some (.bl (r==4)) by unfold eqF eqW;show some (W.bl ((r==4) != false))=_;cases (r==4) <;> rfl,Zaf]
    dsimp only
    cases hz:(r==4) with
    | true=>rw [hz] at hR;simp only [if_true,Bool.true_and,Zhv] at hR ⊢;exact hR
    | false=>rw [hz] at hR;simp only [Bool.false_eq_true,if_false,Bool.false_and] at hR ⊢;exact hR
   ·simp only [ZaL,L3.ZaN,Zap,Zal,Zdk,L3.Zab,L3.Zan,Zag,gC,List.getElem?_cons_zero,List.getElem?_cons_succ]
    refine ⟨trivial,s,x1,d - 1,c - 1,b,pl,kn,rfl,by omega,by omega,h2,fun k1 x2 g1=>⟨(show 2≤sizeLine by decide),?_⟩⟩
    rw [Zbm]
    have ek:(Kd.box k1).cnt=1+k1.cnt:=rfl
    have ed:(Kd.box k1).dp=1+k1.dp:=rfl
    obtain ⟨u1,u2,u3,u4⟩:=g1
    have:=q (.box k1) x2 ⟨Zot u1,by rw [ed];omega,by rw [ek];omega,fun z=>absurd z (by omega)⟩
    rw [ek] at this
    rw [show c - 1 - (k1.cnt:Int)=c - ((1+k1.cnt:Nat):Int) by omega]
    exact this
   ·simp only [ZaL,Zap,L3.Zab,L3.Zan,Zag,List.getElem?_cons_zero,List.getElem?_cons_succ]
    refine ⟨s,x1,d,c - 1,b,pl,kn,rfl,by omega,by omega,by omega,h2,fun k x2 w1 w2 w3 w4=>?_⟩
    rw [Zbm]
    have:=q k x2 ⟨w1,w2,by omega,fun z=>absurd z (by omega)⟩
    rw [show c - 1+1 - (k.cnt:Int)=c - k.cnt by omega]
    exact this
theorem Za8 (T:Tx K mg base a):∀ n:Nat,Df P w K mg base "_law_kind" (2*n+2) 4 (ZjI n)
 | 0=>mk0 (k:=1) T.Zc3 rfl ZeV ZnO ((by rintro ws G Q E ⟨s,x,d,c,b,pl,kn,e,_⟩;rw [e];rfl)) (ZhU T (Zau T) (Nat.le_refl _) (Zj1 (sp:=ZvG) (k:=0) T.Zc3 Zo5 fun _ _ _ _ h=>h) (by omega) (Zj1 (sp:=ZvG) (k:=0) T.ZeP Zo5 fun _ _ _ _ h=>h) (by omega)) fun ws G Q E hC q=>ZoV hC q (.inl rfl)
 | n+1=>mk0 (k:=2*n+3) T.Zc3 rfl ZeV ZnO ((by rintro ws G Q E ⟨s,x,d,c,b,pl,kn,e,_⟩;rw [e];rfl)) (ZhU T (Zau T) (by omega) (Za8 T n) (by omega) (Zfy T (by omega) (Za8 T n)) (by omega)) fun ws G Q E hC q=>ZoV hC q (.inr ⟨n,rfl,rfl,rfl⟩)
def kd8 (k:Kd):Prop:=wf k∧k.cnt≤40∧k.dp≤8
def ZwW:Spw:=fun ws G Q _=>∃ (ns:List Int) (i:Int) (pl kn:Bool),ws=[.rol (ns.map W.int),.int i,.bl pl,.bl kn]∧0≤i∧∀ k:Kd,kd8 k→Q k.enc G
theorem Zvs:Spw.M ZwW:=(by rintro ws G Q Q' E E' h _ ⟨ns,i,pl,kn,h1,h2,q⟩;exact ⟨ns,i,pl,kn,h1,h2,fun k g=>h _ _ (q k g)⟩)
theorem ZeQ {G:Hw} {p:Addr} {o:HW} (h:G p=none) {G1:Hw} (s:Sub G G1):Sub G (put G1 p o):=fun a u hu=>by rw [Zat (ZaK hu h)];exact s _ _ hu
theorem Zck (T:Tx K mg base a):Df P w K mg base "_law_drawn_kind" 17 4 ZwW:=by
 refine mk0 (k:=16) T.Zcn rfl Zcm Zvs ((by rintro ws G Q E ⟨ns,i,pl,kn,e,_⟩;rw [e];rfl)) (Zg0 T (ZbB T) (by omega) (Zau T) (by omega) (Za8 T 7) (by omega)) fun ws G Q E hC q=>?_
 obtain ⟨ns,i,pl,kn,rfl,h0,q⟩:=q
 unfold ZeD
 show ZaB (Zbh 4 _) _ (ZaX Q) [some (.rol (ns.map W.int)),some (.int i),some (.bl pl),some (.bl kn),none,none] G
 simp only [ZaB,Zbh,Zal,Zap,Zcr,L3.Zab,L3.Zan,Zag,gC,List.getElem?_cons_zero,List.getElem?_cons_succ]
 refine ⟨ns,i,rfl,h0,fun p x b hp=>⟨(show 1≤sizeLine by decide),fun p1 e1=>?_⟩⟩
 have s0:Sub G (put G p (.lst [.int x,.bl b])):=Zbb hp
 have f0:put G p (.lst [.int x,.bl b]) p=some (.lst [.int x,.bl b]):=Zah
 generalize put G p (.lst [.int x,.bl b])=G0 at s0 f0 e1 ⊢
 have s1:Sub G0 (put G0 p1 (.lst [.int 9])):=Zbb e1
 have f1:put G0 p1 (.lst [.int 9]) p1=some (.lst [.int 9]):=Zah
 generalize put G0 p1 (.lst [.int 9])=G1 at s1 f1 ⊢
 rw [ZhI (by rintro ⟨⟨_,h⟩,_⟩;cases h)]
 unfold L3.ZgJ
 simp only [s1 _ _ f0,f1]
 refine ⟨(show 3≤sizeLine by decide),fun s es=>?_⟩
 have S:Sub G G1:=s0.trans s1
 have hsG:G s=none:=by
  cases z:G s with
  | none=>rfl
  | some u=>rw [S _ _ z] at es;cases es
 have hs:put G1 s (.lst ([.int x,.bl b]++[.int 9])) s=some (.lst [.int x,.bl b,.int 9]):=Zah
 have S2:Sub G (put G1 s (.lst ([.int x,.bl b]++[.int 9]))):=ZeQ hsG S
 generalize put G1 s (.lst ([.int x,.bl b]++[.int 9]))=G2 at hs S2 ⊢
 simp only [List.set_cons_zero,List.set_cons_succ,gIf,gTB,Zal,Zap,Zaq,L3.Zab,L3.Zan,Zag,gC,List.getElem?_cons_zero,List.getElem?_cons_succ]
 refine ⟨s,6,x,b,[.int 9],rfl,by decide,by decide,hs,fun r x1 r0 r1=>?_⟩
 have h3:put G2 s (.lst [.int x1,.bl b,.int 9]) s=some (.lst [.int x1,.bl b,.int 9]):=Zah
 show opt (eqF false (.int r) (.int 1) (put G2 s (.lst [.int x1,.bl b,.int 9]))) _
 rw [show eqF false (.int r) (.int 1) (put G2 s (.lst [.int x1,.bl b,.int 9]))=some (.bl (r==1)) by unfold eqF eqW;show some (W.bl ((r==1) != false))=_;cases (r==1) <;> rfl,Zaf]
 dsimp only
 cases (r==1) with
 | false =>
  simp only [Bool.false_eq_true,if_false,Zax,ZaL,Zap,L3.Zab,L3.Zan,Zag,List.getElem?_cons_zero,List.getElem?_cons_succ]
  refine ⟨s,x1,3,9,b,pl,kn,rfl,by decide,by decide,h3,fun k x2 g=>?_⟩
  obtain ⟨u1,u2,u3,_⟩:=g
  exact hC _ _ _ (ZeQ hsG (ZeQ hsG S2)) (q k ⟨u1,by omega,by omega⟩)
 | true =>
  simp only [if_true,ZaB,ZdM,Zbh,Zag,gC,List.getElem?_cons_zero,List.getElem?_cons_succ]
  refine Zoh h3 ?_
  simp only [List.set_cons_zero,List.set_cons_succ,ZaL,Zap,L3.Zab,L3.Zan,Zag,List.getElem?_cons_zero,List.getElem?_cons_succ]
  refine ⟨s,x1,8,30,b,pl,kn,rfl,by decide,by decide,Zah,fun k x2 g=>?_⟩
  obtain ⟨u1,u2,u3,_⟩:=g
  exact hC _ _ _ (ZeQ hsG (ZeQ hsG (ZeQ hsG S2))) (q k ⟨u1,by omega,by omega⟩)
set_option maxHeartbeats 1000000
def Fs.find:Fs→Str→Option (Bool×Kd)
 | .nil,_=>none
 | .cons n m k r,x=>if n=x then some (m,k) else r.find x
inductive En where
 | free | nope | told (m:Bool) (k:Kd)
def En.enc:En→W
 | .free=>.tup [.str "free"]
 | .nope=>.tup [.str "none"]
 | .told m k=>.tup [.str (Zdf m),k.enc]
def ent (fs:Fs) (o:Bool) (x:Str):En:=match fs.find x with | some (m,k)=>.told m k | none=>if o then .free else .nope
theorem Zdv:∀ {fs:Fs} {x:Str} {m:Bool} {k:Kd},fs.find x=some (m,k)→k∈fs.kinds∧x∈fs.names
 | .nil,x,m,k,h=>by cases h
 | .cons n m' k' r,x,m,k,h=>by
  unfold Fs.find at h
  split at h
  ·rename_i e
   cases h
   subst e
   exact ⟨List.mem_cons_self,List.mem_cons_self⟩
  ·obtain ⟨h1,h2⟩:=Zdv h
   exact ⟨List.mem_cons_of_mem _ h1,List.mem_cons_of_mem _ h2⟩
theorem Zlj:∀ {fs:Fs} {x:Str},x∈fs.names→∃ m k,fs.find x=some (m,k)
 | .nil,x,h=>by cases h
 | .cons n m' k' r,x,h=>by
  unfold Fs.find
  split
  ·exact ⟨m',k',rfl⟩
  ·rename_i e
   rcases List.mem_cons.mp h with z | z
   ·exact absurd z.symm e
   ·exact Zlj z
theorem Zkq (a:Str):Za4 a a=false:=by
 unfold Za4
 exact decide_eq_false (List.lt_irrefl _)
theorem ZqS {a b c:Str} (h1:Za4 a b=true) (h2:Za4 b c=true):Za4 a c=true:=by
 unfold Za4 at h1 h2 ⊢
 exact decide_eq_true (List.lt_trans (of_decide_eq_true h1) (of_decide_eq_true h2))
theorem Zmi:∀ {ns:List Str},Zl6 ns=true→ns.Pairwise (fun x y=>Za4 x y=true)
 | [],_=>.nil
 | [_],_=>.cons (fun _ h=>by cases h) .nil
 | x::y::r,h=>by
  have h':(Za4 x y&&Zl6 (y::r))=true:=h
  simp only [Bool.and_eq_true] at h'
  have ih:=Zmi h'.2
  refine .cons (fun z hz=>?_) ih
  rcases List.mem_cons.mp hz with rfl | hz
  ·exact h'.1
  ·exact ZqS h'.1 ((List.pairwise_cons.mp ih).1 z hz)
theorem Zhz:∀ {xs ys:List Str},xs.Pairwise (fun x y=>Za4 x y=true)→ys.Pairwise (fun x y=>Za4 x y=true)→(∀ x,x∈xs↔x∈ys)→xs=ys
 | [],[],_,_,_=>rfl
 | [],y::ys,_,_,h=>by cases (h y).mpr List.mem_cons_self
 | x::xs,[],_,_,h=>by cases (h x).mp List.mem_cons_self
 | x::xs,y::ys,hx,hy,h=>by
  obtain ⟨a1,a2⟩:=List.pairwise_cons.mp hx
  obtain ⟨b1,b2⟩:=List.pairwise_cons.mp hy
  have e:x=y:=by
   rcases List.mem_cons.mp ((h x).mp List.mem_cons_self) with e | e
   ·exact e
   ·rcases List.mem_cons.mp ((h y).mpr List.mem_cons_self) with e' | e'
    ·exact e'.symm
    ·have:=ZqS (a1 y e') (b1 x e)
     rw [Zkq] at this
     cases this
  subst e
  congr 1
  refine Zhz a2 b2 fun z=>⟨fun hz=>?_,fun hz=>?_⟩
  ·rcases List.mem_cons.mp ((h z).mp (List.mem_cons_of_mem _ hz)) with e | e
   ·subst e;have:=a1 _ hz;rw [Zkq] at this;cases this
   ·exact e
  ·rcases List.mem_cons.mp ((h z).mpr (List.mem_cons_of_mem _ hz)) with e | e
   ·subst e;have:=b1 _ hz;rw [Zkq] at this;cases this
   ·exact e
theorem Zro {fs:Fs} {o:Bool} (h:(Kd.row fs o).ok=true):fs.names.Pairwise (fun x y=>Za4 x y=true)∧∀ c∈fs.kinds,c.ok=true:=by
 have h':(Zl6 fs.names&&fs.ok)=true:=h
 simp only [Bool.and_eq_true] at h'
 exact ⟨Zmi h'.1,Zgh h'.2⟩
theorem Zjy {fs:Fs} {o:Bool} {x:Str} (h:x∈fs.names):∃ m k,ent fs o x=.told m k∧fs.find x=some (m,k):=by
 obtain ⟨m,k,e⟩:=Zlj h
 exact ⟨m,k,by unfold ent;rw [e],e⟩
set_option Elab.async false
set_option linter.all false
set_option maxRecDepth 100000
set_option maxHeartbeats 4000000
section
variable {P:Program} {w:World} {K:PySem.W.Frag} {mg:Str→Option Value} {base:Heap} {a:Adr}
abbrev Zjo:List Str:=["row","name","field"]
theorem ZiT:ZaH Zjo ["row","name"] (Zac Zc5):=⟨rfl,rfl,rfl,by decide +kernel,rfl,by decide +kernel,by decide +kernel⟩
def Zi3:GS:=(ZaB (Zgo (Zbv (Zal (Zaq ixW) (Zag 0) (gC (.int 1)))) (gNm 2) (gIf (gTB (Zal (Zaq (eqF false)) (Zal (Zaq ixW) (Zag 2) (gC (.int 0))) (Zag 1))) (ZaL (ZaN (Zab (Zal (Zaq ixW) (Zag 2) (gC (.int 1))) (Zab (Zal (Zaq ixW) (Zag 2) (gC (.int 2))) Zan)))) Zax)) (ZaL (Zke (Zfd (Zal (Zaq ixW) (Zag 0) (gC (.int 2)))) (ZaN (Zab (gC (.str "free")) Zan)) (ZaN (Zab (gC (.str "none")) Zan)))))
theorem Zno {k:Nat} (T:Tx K mg base a) {f:Addr} {cdv:Value} {A:Around} {outer:List Env} {s:Shared} {H:Hp} {E:XK} (hr:Room k (A.deeper (envOfC "entry_of" (Zac Zc5) s.heap.objs.size f cdv))):Ssm (cxW P w K mg base Zjo "entry_of" (Zac Zc5) f cdv A outer s H E).nox (fun B=>B=H) (ZaC Zc5) (Zi3) :=
 have hu:=Zfb hr
 (Zai (Zhj PassesOwn.never rfl (fun _=>rfl) (Zc0 (fun _ _=>rfl) (Zas (fun _ _=>rfl) (Zam (i:=0) rfl rfl rfl rfl) Zae)) (Zgc (i:=2) ZiT.nd rfl (.inl rfl) (.inr rfl)) (Zak (ZaZ (ZaG (ZaT hu) rfl (Zas (fun _ _=>rfl) (Zam (i:=2) rfl rfl rfl rfl) Zae) (Zam (i:=1) rfl rfl rfl rfl)) (Zak (Zav (ZaE (Zaa rfl (Zas (fun _ _=>rfl) (Zam (i:=2) rfl rfl rfl rfl) Zae) (Zaa rfl (Zas (fun _ _=>rfl) (Zam (i:=2) rfl rfl rfl rfl) Zae) Zad))))) Zay))) (Zak (Zav (ZrD (ZeN (fun _=>rfl) (Zas (fun _ _=>rfl) (Zam (i:=0) rfl rfl rfl rfl) Zae)) (ZaE (Zaa rfl Zar Zad)) (ZaE (Zaa rfl Zar Zad))))))
abbrev Zjp:List Str:=["row"]
theorem Znc:ZaH Zjp ["row"] (Zac Zc2):=⟨rfl,rfl,rfl,by decide +kernel,rfl,by decide +kernel,by decide +kernel⟩
def Zi9:GS:=(ZaL (ZcX (Zbv (Zal (Zaq ixW) (Zag 0) (gC (.int 1)))) 1 (gNm 0) ZgR (Zal (Zaq ixW) (Zag 0) (gC (.int 0)))))
theorem Znq {k:Nat} (T:Tx K mg base a) {f:Addr} {cdv:Value} {A:Around} {outer:List Env} {s:Shared} {H:Hp} {E:XK} (hr:Room k (A.deeper (envOfC "names_of" (Zac Zc2) s.heap.objs.size f cdv))):Ssm (cxW P w K mg base Zjp "names_of" (Zac Zc2) f cdv A outer s H E).nox (fun B=>B=H) (ZaC Zc2) (Zi9) :=
 have hu:=Zfb hr
 (Zak (Zav (ZeU (Nc:=["field"]) rfl (ZqD rfl (by decide +kernel) (by decide +kernel)) (fun _=>rfl) (Zc0 (fun _ _=>rfl) (Zas (fun _ _=>rfl) (Zam (i:=0) rfl rfl rfl rfl) Zae)) (Ze2 (i:=0) (by decide) rfl rfl) (fun C fp s1 H1=>Zex) (fun C fp s1 H1=>(Zas (fun _ _=>rfl) (Zam (i:=0) rfl rfl rfl rfl) Zae)))))
abbrev Zfj:List Str:=["one","other"]
theorem ZhP:ZaH Zfj ["one","other"] (Zac Zbj):=⟨rfl,rfl,rfl,by decide +kernel,rfl,by decide +kernel,by decide +kernel⟩
def Zfk (ZdS:Spw):GS:=(ZaL (Zgx (Zap ZdS (fun _ _ _=>False) (Zab (Zag 0) Zan)) (Zap ZdS (fun _ _ _=>False) (Zab (Zag 1) Zan))))
theorem Zik {k:Nat} (T:Tx K mg base a) {ZfI:Nat} {ZdS:Spw} (Zjs:Df P w K mg base "names_of" ZfI 1 ZdS) (Zjk:ZfI≤k) {f:Addr} {cdv:Value} {A:Around} {outer:List Env} {s:Shared} {H:Hp} {E:XK} (hr:Room k (A.deeper (envOfC "names_of_both" (Zac Zbj) s.heap.objs.size f cdv))):Ssm (cxW P w K mg base Zfj "names_of_both" (Zac Zbj) f cdv A outer s H E).nox (fun B=>B=H) (ZaC Zbj) (Zfk ZdS) :=
 have hu:=Zfb hr
 (Zak (Zav (ZpR rfl T.ZeR T.ZlN rfl rfl rfl rfl rfl (Zao Zjs (hr.mono Zjk) rfl ZaD rfl rfl rfl (Zaa rfl (Zam (i:=0) rfl rfl rfl rfl) Zad)) (Zao Zjs (hr.mono Zjk) rfl ZaD rfl rfl rfl (Zaa rfl (Zam (i:=1) rfl rfl rfl rfl) Zad)))))
abbrev Zgq:List Str:=["one","other"]
theorem ZjG:ZaH Zgq ["one","other"] (Zac ZbP):=⟨rfl,rfl,rfl,by decide +kernel,rfl,by decide +kernel,by decide +kernel⟩
def Zgp (ZcR:Spw):GS:=(ZaB (ZbA (Zap ZcR (fun _ _ _=>False) (Zab (Zag 0) Zan))) (ZbA (Zap ZcR (fun _ _ _=>False) (Zab (Zag 1) Zan))))
theorem ZjM {k:Nat} (T:Tx K mg base a) {Zed:Nat} {ZcR:Spw} (Zhk:Df P w K mg base "check_kind" Zed 1 ZcR) (Zg3:Zed≤k) {f:Addr} {cdv:Value} {A:Around} {outer:List Env} {s:Shared} {H:Hp} {E:XK} (hr:Room k (A.deeper (envOfC "check_kinds" (Zac ZbP) s.heap.objs.size f cdv))):Ssm (cxW P w K mg base Zgq "check_kinds" (Zac ZbP) f cdv A outer s H E).nox (fun B=>B=H) (ZaC ZbP) (Zgp ZcR) :=
 have hu:=Zfb hr
 (Zai (Zen rfl (Zao Zhk (hr.mono Zg3) rfl ZaD rfl rfl rfl (Zaa rfl (Zam (i:=0) rfl rfl rfl rfl) Zad))) (Zak (Zen rfl (Zao Zhk (hr.mono Zg3) rfl ZaD rfl rfl rfl (Zaa rfl (Zam (i:=1) rfl rfl rfl rfl) Zad)))))
end
local macro_rules | `(tactic| walk_at "rd") => `(tactic| ((try dsimp only [ZmA, Zb9, Ze9, Ziq, Zgx, Zby, Zic, ZaB, gIf, ZaL, Zbh, ZbA, Zax, Zag, gC, Zal, gTB, Zfd, gNt, Zhs, gOr, Zdx, Zht, ZeO, Zke, L3.ZaN, Zcr, L3.Zab, L3.Zan, Zap, gB, rF, Zaq, ZdF, gMt, ZkE, ZcK, Zgk, Zhq, Zdk, L3.ZgJ, Zfq, gSl, ZdY, Zbn, ZcX, Zbv, ZkI, Zgo, ZaX, Zcs, List.map_cons, List.map_nil, List.length_cons, List.length_nil, List.cons_append, List.nil_append, List.getElem?_cons_zero, List.getElem?_cons_succ, List.set_cons_zero, List.set_cons_succ, List.replicate, Zhv, tyN, Zaf, Zc9, ZbZ, Zc7, ixW, eqF, eqW, ZfM, ZkR, Zib, List.getElem?_nil]); (try simp only [ZmA, Zb9, Ze9, Ziq, Zgx, Zby, Zic, ZaB, gIf, ZaL, Zbh, ZbA, Zax, Zag, gC, Zal, gTB, Zfd, gNt, Zhs, gOr, Zdx, Zht, ZeO, Zke, L3.ZaN, Zcr, L3.Zab, L3.Zan, Zap, gB, rF, Zaq, ZdF, gMt, ZkE, ZcK, Zgk, Zhq, Zdk, L3.ZgJ, Zfq, gSl, ZdY, Zbn, ZcX, Zbv, ZkI, Zgo, ZaX, Zcs, List.map_cons, List.map_nil, List.length_cons, List.length_nil, List.cons_append, List.nil_append, List.getElem?_cons_zero, List.getElem?_cons_succ, List.set_cons_zero, List.set_cons_succ, List.replicate, Zhv, tyN, Zaf, Zc9, ZbZ, Zc7, ixW, eqF, eqW, ZfM, ZkR, Zib, List.getElem?_nil])))
theorem ZcD (k:Kd) (G:Hw):ixW k.enc (.int 0) G=some (.str k.hd):=by
 obtain ⟨xs,e⟩:=Zsv k
 rw [e];exact Zc9
abbrev ZgY:Spw:=spR (fun (x:Fs×Bool×Str) ws _=>ws=[(Kd.row x.1 x.2.1).enc,.str x.2.2]) fun x=>(ent x.1 x.2.1 x.2.2).enc
theorem Zjb {D:Ew} {G:Hw} {x:Str} {row:W}:∀ (fs:Fs) (o':Option W),(∀ m k,fs.find x=some (m,k)→D.rt (.tup [.str (Zdf m),k.enc]) G)→(fs.find x=none→∀ o'',D.nx [some row,some (.str x),o''] G) →
  Zdn yes (gNm 2) (gIf (gTB (Zal (Zaq (eqF false)) (Zal (Zaq ixW) (Zag 2) (gC (.int 0))) (Zag 1))) (ZaL (L3.ZaN (L3.Zab (Zal (Zaq ixW) (Zag 2) (gC (.int 1))) (L3.Zab (Zal (Zaq ixW) (Zag 2) (gC (.int 2))) L3.Zan)))) Zax) D fs.enc [some row,some (.str x),o'] G
 | .nil,o',_,h=>⟨trivial,h rfl o'⟩
 | .cons n m k r,o',h1,h2=>by
  refine ⟨trivial,?_⟩
  show gIf _ _ Zax _ [some row,some (.str x),some (.tup [.str n,.str (Zdf m),k.enc])] G
  walk_at "rd"
  simp only [Option.map_some,Zaf]
  by_cases hx:n=x
  ·subst hx
   simp only [beq_self_eq_true,bne_iff_ne,ne_eq,Bool.true_eq_false,not_false_eq_true,if_true]
   exact ⟨by decide,h1 _ _ (by unfold Fs.find;rw [if_pos rfl])⟩
  ·have e:(n==x)=false:=by simpa using hx
   simp only [e,bne_self_eq_false,Bool.false_eq_true,if_false]
   refine Zjb r _ (fun m' k' hv=>h1 m' k' ?_) (fun hn=>h2 ?_)
   ·unfold Fs.find;rw [if_neg hx];exact hv
   ·unfold Fs.find;rw [if_neg hx];exact hn
theorem ZcH (T:Tx K mg base a):Df P w K mg base "entry_of" 1 2 ZgY:=by
 refine mk0 T.ZfE rfl ZiT ZcY (fun ws G Q E ⟨x,e,_⟩=>by rw [e];rfl) (Zno T) fun ws G Q E hC q=>?_
 obtain ⟨⟨fs,o,x⟩,rfl,q⟩:=q
 dsimp only at q
 unfold Zi3
 simp only [Kd.enc]
 walk_at "rd"
 refine Zjb fs none (fun m k hv=>?_) (fun hn o''=>?_)
 ·unfold ent at q;rw [hv] at q;exact q
 ·unfold ent at q;rw [hn] at q
  simp only [List.getElem?_cons_zero,List.getElem?_cons_succ,Zc7,Zaf]
  cases o with
  | true=>exact ⟨by decide,q⟩
  | false=>exact ⟨by decide,q⟩
abbrev ZsM:Spw:=spL (fun (x:Fs×Bool) ws _=>ws=[(Kd.row x.1 x.2).enc]∧x.1.names.length≤100) fun x=>x.1.names.map W.str
theorem ZfI (T:Tx K mg base a):Df P w K mg base "names_of" 1 1 ZsM:=by
 refine mk0 T.Zfz rfl Znc Zs6 (fun ws G Q E ⟨x,⟨e,_⟩,_⟩=>by rw [e];rfl) (Znq T) fun ws G Q E hC q=>?_
 obtain ⟨⟨fs,o⟩,⟨rfl,hl⟩,q⟩:=q
 have hl':fs.enc.length≤100:=by rw [← ZcN];exact hl
 unfold Zi9
 simp only [Kd.enc]
 walk_at "rd"
 refine ZkQ (f:=Zk8) trivial fs.enc none [] (fun x hx Q' q'=>?_) (by simp only [List.length_nil];exact Zbq (by omega)) ?_
 ·obtain ⟨n,b,k,rfl⟩:=Zig hx
  show Zal (Zaq ixW) (Zag 0) (gC (.int 0)) [some (W.tup [.str n,.str (Zdf b),k])] _ Q'
  walk_at "rd"
  exact q'
 ·rw [List.nil_append,Zfm]
  exact q
def ZmC:Spw:=fun ws G Q _=>∃ (fs gs:Fs) (o p:Bool),ws=[(Kd.row fs o).enc,(Kd.row gs p).enc]∧fs.names.length < 16∧gs.names.length < 16∧∀ (zs:List Str) (r:Addr),zs.Nodup→sortedS zs=true→(∀ x,x∈zs↔x∈fs.names∨x∈gs.names)→G r=none→Q (.ref r) (put G r (.lst (zs.map W.str)))
theorem Zmr:Spw.M ZmC:=fun ws G Q Q' E E' h _ ⟨fs,gs,o,p,h1,h2,h3,q⟩=>⟨fs,gs,o,p,h1,h2,h3,fun zs r a b c d=>h _ _ (q zs r a b c d)⟩
theorem Za5 (T:Tx K mg base a):Df P w K mg base "names_of_both" 2 2 ZmC:=by
 refine mk0 T.ZcT rfl ZhP Zmr (fun ws G Q E ⟨_,_,_,_,e,_⟩=>by rw [e];rfl) (Zik T (ZfI T) (Nat.le_refl _)) fun ws G Q E hC q=>?_
 obtain ⟨fs,gs,o,p,rfl,h1,h2,q⟩:=q
 unfold Zfk
 walk_at "rd"
 refine ⟨(fs,o),⟨rfl,by dsimp only;omega⟩,fun p1 hp1=>?_⟩
 refine ⟨fs.names,Zeq Zah,h1,(gs,p),⟨rfl,by dsimp only;omega⟩,fun p2 hp2=>?_⟩
 refine ⟨gs.names,Zeq Zah,h2,fun zs r z1 z2 z3 z4=>?_⟩
 have hr2:r≠p2:=fun e=>by subst e;rw [Zah] at z4;cases z4
 rw [Zat hr2] at z4
 have hr1:r≠p1:=fun e=>by subst e;rw [Zah] at z4;cases z4
 rw [Zat hr1] at z4
 exact hC _ _ _ ((Zcw (Zbb hp1) hp2).put2) (q zs r z1 z2 z3 z4)
theorem ZdC (T:Tx K mg base a):Df P w K mg base "check_kinds" 9 2 (spR (fun (x:Kd×Kd) ws _=>ws=[x.1.enc,x.2.enc]∧(x.1.ok=true∧Zmn x.1=true)∧(x.2.ok=true∧Zmn x.2=true)) fun _=>.non):=by
 refine mk0 T.ZdD rfl ZjG ZcY (fun ws G Q E ⟨x,⟨e,_⟩,_⟩=>by rw [e];rfl) (ZjM T (Zed T) (Nat.le_refl _)) fun ws G Q E hC q=>?_
 obtain ⟨⟨k,l⟩,⟨rfl,h1,h2⟩,q⟩:=q
 dsimp only at h1 h2
 have g1:k.cnt≤40∧k.dp≤8:=of_decide_eq_true (by have:=h1.2;unfold Zmn at this;exact this)
 have g2:l.cnt≤40∧l.dp≤8:=of_decide_eq_true (by have:=h2.2;unfold Zmn at this;exact this)
 unfold Zgp
 walk_at "rd"
 exact ⟨k,⟨rfl,h1.1,by omega,h1.2⟩,l,⟨rfl,h2.1,by omega,h2.2⟩,q⟩
theorem Zq3:∀ {fs:Fs},fs.thr=true→∀ c∈fs.kinds,c.thr=true
 | .nil,_,c,hc=>by cases hc
 | .cons n m k r,h,c,hc=>by
  have h':(k.thr&&r.thr)=true:=h
  simp only [Bool.and_eq_true] at h'
  rcases List.mem_cons.mp hc with rfl | hc
  ·exact h'.1
  ·exact Zq3 h'.2 c hc
theorem Zaw {k c:Kd} (h:wf k) (hc:c∈k.kids):wf c:=by
 refine ⟨Zpi h.1 c hc,?_⟩
 have ht:=h.2
 cases k with
 | to x y =>
  have h':(x.thr&&y.thr)=true:=ht
  simp only [Bool.and_eq_true] at h'
  simp only [Kd.kids,List.mem_cons,List.not_mem_nil,or_false] at hc
  rcases hc with rfl | rfl
  ·exact h'.1
  ·exact h'.2
 | box x =>
  simp only [Kd.kids,List.mem_cons,List.not_mem_nil,or_false] at hc
  subst hc;exact ht
 | row fs o =>
  have h':(decide (fs.names.length≤5)&&fs.thr)=true:=ht
  simp only [Bool.and_eq_true] at h'
  exact Zq3 h'.2 c hc
 | any=>simp [Kd.kids] at hc
 | num=>simp [Kd.kids] at hc
 | truth=>simp [Kd.kids] at hc
theorem Zea {fs:Fs} {o:Bool} (h:wf (.row fs o)):fs.names.length < 16:=by
 have h':(decide (fs.names.length≤5)&&fs.thr)=true:=h.2
 simp only [Bool.and_eq_true,decide_eq_true_eq] at h'
 omega
theorem Zr9 {m m':Bool} (h:m≠m'):(Zdf m==Zdf m')=false:=by
 cases m <;> cases m' <;> first | exact absurd rfl h | decide
theorem Zcq {fs:Fs} {o:Bool} {x:Str} {m:Bool} {k:Kd} (e:ent fs o x=.told m k):k∈fs.kinds:=by
 unfold ent at e
 cases q:fs.find x with
 | none=>rw [q] at e;cases o <;> cases e
 | some p=>rw [q] at e;cases e;exact (Zdv q).1
theorem Zmv {k:Kd} (h:kd8 k):Zmn k=true:=decide_eq_true h.2
theorem Zj5 {m m':Bool} (h:Zdf m=Zdf m'):m=m':=by
 by_cases e:m=m'
 ·exact e
 ·have:=Zr9 e;rw [h] at this;simp at this
set_option maxHeartbeats 1000000
local macro_rules | `(tactic| walk_at "rd") => `(tactic| ((try dsimp only [Zid, ZmA, Zb9, Ze9, Ziq, Zgx, Zby, Zic, ZaB, gIf, ZaL, Zbh, ZbA, Zax, Zag, gC, Zal, gTB, Zfd, gNt, Zhs, gOr, Zdx, Zht, ZeO, Zke, L3.ZaN, Zcr, L3.Zab, L3.Zan, Zap, gB, rF, Zaq, ZdF, gMt, ZkE, ZcK, Zgk, Zhq, Zdk, L3.ZgJ, Zfq, gSl, ZdY, Zbn, ZcX, Zbv, ZkI, Zgo, ZaX, Zcs, List.map_cons, List.map_nil, List.length_cons, List.length_nil, List.cons_append, List.nil_append, List.getElem?_cons_zero, List.getElem?_cons_succ, List.set_cons_zero, List.set_cons_succ, List.replicate, Zhv, tyN, Zaf, Zc9, ZbZ, Zc7, ixW, eqF, eqW, ZfM, ZkR, Zib, List.getElem?_nil]); (try simp only [Zid, ZmA, Zb9, Ze9, Ziq, Zgx, Zby, Zic, ZaB, gIf, ZaL, Zbh, ZbA, Zax, Zag, gC, Zal, gTB, Zfd, gNt, Zhs, gOr, Zdx, Zht, ZeO, Zke, L3.ZaN, Zcr, L3.Zab, L3.Zan, Zap, gB, rF, Zaq, ZdF, gMt, ZkE, ZcK, Zgk, Zhq, Zdk, L3.ZgJ, Zfq, gSl, ZdY, Zbn, ZcX, Zbv, ZkI, Zgo, ZaX, Zcs, List.map_cons, List.map_nil, List.length_cons, List.length_nil, List.cons_append, List.nil_append, List.getElem?_cons_zero, List.getElem?_cons_succ, List.set_cons_zero, List.set_cons_succ, List.replicate, Zhv, tyN, Zaf, Zc9, ZbZ, Zc7, ixW, eqF, eqW, ZfM, ZkR, Zib, List.getElem?_nil])))
theorem ZrK {x y:Str} (h:Za4 x y=false) (hne:x≠y):Za4 y x=true:=by
 unfold Za4 at h ⊢
 refine decide_eq_true ?_
 have h1:y.cps.toList≤x.cps.toList:=of_decide_eq_false h
 rcases List.le_iff_lt_or_eq.mp h1 with z | z
 ·exact z
 ·exact absurd (by cases x;cases y;congr 1;exact (Array.toList_inj.mp z).symm) hne
theorem Zvg:∀ (p:Str) (r:List Str),risingS p r=true→(p::r).Nodup→(p::r).Pairwise (fun x y=>Za4 x y=true)
 | p,[],_,_=>.cons (fun _ h=>by cases h) .nil
 | p,x::r,h,hn=>by
  have h':(!ltCps x.cps.toList p.cps.toList&&risingS x r)=true:=h
  simp only [Bool.and_eq_true,Bool.not_eq_true'] at h'
  obtain ⟨n1,n2⟩:=List.nodup_cons.mp hn
  have ih:=Zvg x r h'.2 n2
  have hpx:Za4 p x=true:=ZrK (by rw [← h'.1,ltCps_eq];rfl) fun e=>n1 (by rw [e];exact List.mem_cons_self)
  refine .cons (fun z hz=>?_) ih
  rcases List.mem_cons.mp hz with rfl | hz
  ·exact hpx
  ·exact ZqS hpx ((List.pairwise_cons.mp ih).1 z hz)
open Classical in
noncomputable def ZnD (fs gs:Fs):List Str:=if h:∃ zs:List Str,zs.Pairwise (fun x y=>Za4 x y=true)∧∀ x,x∈zs↔x∈fs.names∨x∈gs.names then choose h else []
theorem ZjT {fs gs:Fs} {zs:List Str} (z1:zs.Nodup) (z2:sortedS zs=true) (z3:∀ x,x∈zs↔x∈fs.names∨x∈gs.names):zs=ZnD fs gs:=by
 have hp:zs.Pairwise (fun x y=>Za4 x y=true):=by
  cases zs with
  | nil=>exact .nil
  | cons x r=>exact Zvg x r z2 z1
 have h:∃ zs:List Str,zs.Pairwise (fun x y=>Za4 x y=true)∧∀ x,x∈zs↔x∈fs.names∨x∈gs.names:=⟨zs,hp,z3⟩
 unfold ZnD
 rw [dif_pos h]
 have:=Classical.choose_spec h
 exact Zhz hp this.1 fun x=>by rw [z3,this.2]
mutual
def plW:W→Bool
 | .str _=>true
 | .bl _=>true
 | .tup xs=>plL xs
 | _=>false
def plL:List W→Bool
 | []=>true
 | x::xs=>plW x&&plL xs
end
theorem Zm5 {x:W} {xs:List W} (h:plL (x::xs)=true):plW x=true∧plL xs=true:=Bool.and_eq_true_iff.mp h
theorem ZpN {x y:W} {xs ys:List W} {a b:Bool} (h1:eqD x y=some a) (h2:Zio xs ys=some b):Zio (x::xs) (y::ys)=some (a&&b):=by
 show (match eqD x y,Zio xs ys with | some a,some b=>some (a&&b) | _,_=>none)=_
 rw [h1,h2]
mutual
theorem plD:∀ (x y:W),plW x=true→plW y=true→∃ b,eqD x y=some b∧(b=true↔x=y)
 | .str s,.str t,_,_=>⟨s==t,rfl,by simp⟩
 | .str s,.bl t,_,_=>⟨false,rfl,by simp⟩
 | .str s,.tup t,_,_=>⟨false,rfl,by simp⟩
 | .bl s,.str t,_,_=>⟨false,rfl,by simp⟩
 | .bl s,.bl t,_,_=>⟨s==t,rfl,by simp⟩
 | .bl s,.tup t,_,_=>⟨false,rfl,by simp⟩
 | .tup s,.str t,_,_=>⟨false,rfl,by simp⟩
 | .tup s,.bl t,_,_=>⟨false,rfl,by simp⟩
 | .tup s,.tup t,h,h'=>by
  obtain ⟨b,e,i⟩:=ZwV s t h h'
  exact ⟨b,e,by rw [i];simp⟩
 | .str _,.non,_,h=>by cases h
 | .str _,.int _,_,h=>by cases h
 | .str _,.rol _,_,h=>by cases h
 | .str _,.ref _,_,h=>by cases h
 | .bl _,.non,_,h=>by cases h
 | .bl _,.int _,_,h=>by cases h
 | .bl _,.rol _,_,h=>by cases h
 | .bl _,.ref _,_,h=>by cases h
 | .tup _,.non,_,h=>by cases h
 | .tup _,.int _,_,h=>by cases h
 | .tup _,.rol _,_,h=>by cases h
 | .tup _,.ref _,_,h=>by cases h
 | .non,_,h,_=>by cases h
 | .int _,_,h,_=>by cases h
 | .rol _,_,h,_=>by cases h
 | .ref _,_,h,_=>by cases h
theorem ZwV:∀ (xs ys:List W),plL xs=true→plL ys=true→∃ b,Zio xs ys=some b∧(b=true↔xs=ys)
 | [],[],_,_=>⟨true,rfl,by simp⟩
 | [],_::_,_,_=>⟨false,rfl,by simp⟩
 | _::_,[],_,_=>⟨false,rfl,by simp⟩
 | x::xs,y::ys,h,h'=>by
  obtain ⟨h1,h2⟩:=Zm5 h
  obtain ⟨h3,h4⟩:=Zm5 h'
  obtain ⟨b,e,i⟩:=plD x y h1 h3
  obtain ⟨c,e',i'⟩:=ZwV xs ys h2 h4
  exact ⟨b&&c,ZpN e e',by rw [Bool.and_eq_true,i,i',List.cons.injEq]⟩
end
mutual
theorem ZiZ:∀ k:Kd,plW k.enc=true
 | .any=>rfl
 | .num=>rfl
 | .truth=>rfl
 | .to x y=>by
  have h1:=ZiZ x
  have h2:=ZiZ y
  show (true&&(plW x.enc&&(plW y.enc&&true)))=true
  rw [h1,h2];rfl
 | .box x=>by
  have h1:=ZiZ x
  show (true&&(plW x.enc&&true))=true
  rw [h1];rfl
 | .row fs o=>by
  have h1:=Zof fs
  show (true&&(plL fs.enc&&(true&&true)))=true
  rw [h1];rfl
theorem Zof:∀ fs:Fs,plL fs.enc=true
 | .nil=>rfl
 | .cons n m k r=>by
  have h1:=ZiZ k
  have h2:=Zof r
  show ((true&&(true&&(plW k.enc&&true)))&&plL r.enc)=true
  rw [h1,h2];rfl
end
theorem Zi2 {k l:Kd} (h:k.enc=l.enc):k.hd=l.hd:=by
 have h1:=ZcD k (fun _=>none)
 rw [h,ZcD] at h1
 exact (W.str.inj (Option.some.inj h1)).symm
mutual
theorem ZjP:∀ {k l:Kd},k.enc=l.enc→k=l
 | .any,l,h=>by
  cases l with
  | any=>rfl
  | _=>have:=Zi2 h;simp only [Kd.hd] at this;exact absurd this (by decide)
 | .num,l,h=>by
  cases l with
  | num=>rfl
  | _=>have:=Zi2 h;simp only [Kd.hd] at this;exact absurd this (by decide)
 | .truth,l,h=>by
  cases l with
  | truth=>rfl
  | _=>have:=Zi2 h;simp only [Kd.hd] at this;exact absurd this (by decide)
 | .to x y,l,h=>by
  cases l with
  | to x' y' =>
   have h':W.tup [.str "to",x.enc,y.enc]=W.tup [.str "to",x'.enc,y'.enc]:=h
   injection h' with h'
   injection h' with _ h'
   injection h' with h1 h'
   injection h' with h2 _
   rw [ZjP h1,ZjP h2]
  | _=>have:=Zi2 h;simp only [Kd.hd] at this;exact absurd this (by decide)
 | .box x,l,h=>by
  cases l with
  | box x' =>
   have h':W.tup [.str "box",x.enc]=W.tup [.str "box",x'.enc]:=h
   injection h' with h'
   injection h' with _ h'
   injection h' with h1 h'
   rw [ZjP h1]
  | _=>have:=Zi2 h;simp only [Kd.hd] at this;exact absurd this (by decide)
 | .row fs o,l,h=>by
  cases l with
  | row gs p =>
   have h':W.tup [.str "row",.tup fs.enc,.bl o]=W.tup [.str "row",.tup gs.enc,.bl p]:=h
   injection h' with h'
   injection h' with _ h'
   injection h' with h1 h'
   injection h' with h2 _
   injection h1 with h1
   injection h2 with h2
   rw [ZmF h1,h2]
  | _=>have:=Zi2 h;simp only [Kd.hd] at this;exact absurd this (by decide)
theorem ZmF:∀ {fs gs:Fs},fs.enc=gs.enc→fs=gs
 | .nil,gs,h=>by
  cases gs with
  | nil=>rfl
  | cons n m k r=>exact absurd (show ([]:List W)=_::_ from h) (by simp)
 | .cons n m k r,gs,h=>by
  cases gs with
  | nil=>exact absurd (show _::_=([]:List W) from h) (by simp)
  | cons n' m' k' r' =>
   have h':W.tup [.str n,.str (Zdf m),k.enc]::r.enc=W.tup [.str n',.str (Zdf m'),k'.enc]::r'.enc:=h
   injection h' with h1 h2
   injection h1 with h1
   injection h1 with a1 h1
   injection h1 with a2 h1
   injection h1 with a3 _
   injection a1 with a1
   injection a2 with a2
   rw [a1,Zj5 a2,ZjP a3,ZmF h2]
end
mutual
theorem Zgy:∀ k:Kd,dpW k.enc≤3*k.dp
 | .any=>by show 1≤3*1;omega
 | .num=>by show 1≤3*1;omega
 | .truth=>by show 1≤3*1;omega
 | .to x y=>by have:=Zgy x;have:=Zgy y;show max 0 (max (dpW x.enc) (max (dpW y.enc) 0))+1≤3*(1+max x.dp y.dp);omega
 | .box x=>by have:=Zgy x;show max 0 (max (dpW x.enc) 0)+1≤3*(1+x.dp);omega
 | .row fs o=>by have:=ZnW fs;show max 0 (max (L3.dpL fs.enc+1) (max 0 0))+1≤3*(1+fs.dp);omega
theorem ZnW:∀ fs:Fs,L3.dpL fs.enc≤3*fs.dp+1
 | .nil=>Nat.zero_le _
 | .cons n m k r=>by
  have:=Zgy k
  have:=ZnW r
  show max (max 0 (max 0 (max (dpW k.enc) 0))+1) (L3.dpL r.enc)≤3*max k.dp r.dp+1;omega
end
def En.hd:En→Str
 | .free=>"free"
 | .nope=>"none"
 | .told m _=>Zdf m
theorem Zhh (e:En) (G:Hw):ixW e.enc (.int 0) G=some (.str e.hd):=by cases e <;> exact Zc9
theorem Zgv {x y:W} {s t:Str} {e:GE} {Zcg:GS} {D:Ew} {ω:Sw} {G:Hw} (h0:ω[0]?=some (some x)) (h1:ω[1]?=some (some y)) (e0:ixW x (.int 0) G=some (.str s)) (e1:ixW y (.int 0) G=some (.str t)) (h:if s=t then Zcg D ω G else e ω G D.rt) :
  ZaB (gIf (gTB (Zal (Zaq (eqF true)) (Zal (Zaq ixW) (Zag 0) (gC (.int 0))) (Zal (Zaq ixW) (Zag 1) (gC (.int 0))))) (ZaL e) Zax) Zcg D ω G:=by
 simp only [ZaB,gIf,gTB,Zal,Zaq,Zag,h0,h1,gC,ZaL,Zax]
 rw [e0,Zaf,e1,Zaf]
 simp only [eqF,eqW,Option.map_some,Zaf]
 by_cases z:s=t
 ·rw [if_pos z] at h
  have:(s==t)=true:=by simp [z]
  simp only [this,bne_self_eq_false,Bool.false_eq_true,if_false]
  exact h
 ·rw [if_neg z] at h
  have:(s==t)=false:=by simp [z]
  simp only [this,show (false != true)=true from rfl,if_true]
  exact h
theorem Zdr (m:Bool):Zdf m≠"free"∧Zdf m≠"none"∧(("free":Str)≠"none"):=by cases m <;> decide +kernel
theorem Zkp {k:Kd} {e:GE} {Zcg:GS} {D:Ew} {ω:Sw} {G:Hw} (h1:ω[0]?=some (some k.enc)) (h:if k.hd="row" then e ω G D.rt else Zcg D ω G) :
  ZaB (gIf (gTB (Zal (Zaq (eqF false)) (Zal (Zaq ixW) (Zag 0) (gC (.int 0))) (gC (.str "row")))) (ZaL e) Zax) Zcg D ω G:=by
 simp only [ZaB,gIf,gTB,Zal,Zaq,Zag,h1,gC,ZaL,Zax]
 rw [ZcD]
 simp only [Zaf,eqF,eqW,Option.map_some]
 by_cases z:k.hd="row"
 ·rw [if_pos z] at h
  simp only [z,beq_self_eq_true,show (true != false)=true from rfl,if_true]
  exact h
 ·rw [if_neg z] at h
  have:(k.hd=="row")=false:=by simpa using z
  simp only [this,bne_self_eq_false,Bool.false_eq_true,if_false]
  exact h
theorem ZfO {k:Kd} (h:k.hd="row"):∃ fs o,k=.row fs o:=by
 cases k <;> first | exact ⟨_,_,rfl⟩ | exact absurd h (by simp only [Kd.hd];decide)
theorem Zq0 {x y:W} {s a b:Str} {e:GE} {Zcg:GS} {D:Ew} {ω:Sw} {G:Hw} (h0:ω[0]?=some (some x)) (h1:ω[1]?=some (some y)) (e0:ixW x (.int 0) G=some (.str a)) (e1:ixW y (.int 0) G=some (.str b)) (h:if a=s∨b=s then e ω G D.rt else Zcg D ω G) :
  ZaB (gIf (gTB (Zal (Zaq (inF false)) (gC (.str s)) (L3.ZaN (L3.Zab (Zal (Zaq ixW) (Zag 0) (gC (.int 0))) (L3.Zab (Zal (Zaq ixW) (Zag 1) (gC (.int 0))) L3.Zan))))) (ZaL e) Zax) Zcg D ω G:=by
 simp only [ZaB,gIf,gTB,Zal,Zaq,Zag,h0,h1,gC,ZaL,Zax,L3.ZaN,L3.Zab,L3.Zan]
 rw [e0,Zaf,e1,Zaf]
 refine ⟨(show 2≤sizeLine by decide),?_⟩
 have ei:inF false (.str s) (.tup [.str a,.str b]) G=some (.bl ([a,b].any (·==s))):=by
  unfold inF
  show (ZlG ([a,b].map W.str)).map (fun us=>W.bl (if false=true then !inV (.str s) us else inV (.str s) us))=_
  rw [ZiX]
  show some (W.bl (inV (.str s) ([a,b].map V.str)))=_
  rw [ZmD]
 rw [ei,Zaf]
 by_cases z:a=s∨b=s
 ·rw [if_pos z] at h
  have:[a,b].any (·==s)=true:=by simpa using z
  rw [this];exact h
 ·rw [if_neg z] at h
  have:[a,b].any (·==s)=false:=by
   rw [List.any_eq_false]
   intro c hc
   simp only [List.mem_cons,List.not_mem_nil,or_false] at hc
   rcases hc with rfl | rfl
   ·simpa using fun q=>z (.inl q)
   ·simpa using fun q=>z (.inr q)
  rw [this];exact h
theorem Zj4 {i:Nat} {x:W} {c s:Str} {e:GE} {Zcg:GS} {D:Ew} {ω:Sw} {G:Hw} (h1:ω[i]?=some (some x)) (e0:ixW x (.int 0) G=some (.str c)) (h:if c=s then e ω G D.rt else Zcg D ω G) :
  ZaB (gIf (gTB (Zal (Zaq (eqF false)) (Zal (Zaq ixW) (Zag i) (gC (.int 0))) (gC (.str s)))) (ZaL e) Zax) Zcg D ω G:=by
 simp only [ZaB,gIf,gTB,Zal,Zaq,Zag,h1,gC,ZaL,Zax]
 rw [e0]
 simp only [Zaf,eqF,eqW,Option.map_some]
 by_cases z:c=s
 ·rw [if_pos z] at h
  have:(c==s)=true:=by simp [z]
  simp only [this,show (true != false)=true from rfl,if_true]
  exact h
 ·rw [if_neg z] at h
  have:(c==s)=false:=by simpa using z
  simp only [this,bne_self_eq_false,Bool.false_eq_true,if_false]
  exact h
theorem Zri {α:Type} {e1 e2 f:α→W} {gd:Hw→Prop} {ge:GE} {R:List W→Hw→Prop} {G:Hw} (hgd:gd G):∀ (l:List α) (o o':Option W) (ys:List W),(∀ x∈l,∀ Q:Kw,Q (f x) G→ge [some (e1 x),some (e2 x)] G Q) →
  ys.length+l.length≤sizeLine→R (ys++l.map f) G→Zb4 gd (ZiL 0 1) ZgR ge R (l.map fun x=>W.tup [e1 x,e2 x]) [o,o'] G ys
 | [],o,o',ys,_,_,r=>⟨hgd,by simpa using r⟩
 | x::l,o,o',ys,h,hl,r=>by
  refine ⟨hgd,by simp only [List.length_cons] at hl;omega,?_⟩
  show ge [some (e1 x),some (e2 x)] G fun y G3=>Zb4 gd (ZiL 0 1) ZgR ge R (l.map fun x=>W.tup [e1 x,e2 x]) [some (e1 x),some (e2 x)] G3 (ys++[y])
  refine h x List.mem_cons_self _ (Zri hgd l _ _ (ys++[f x]) (fun y hy=>h y (List.mem_cons_of_mem _ hy)) ?_ ?_)
  ·simp only [List.length_append,List.length_cons,List.length_nil] at hl ⊢;omega
  ·simpa [List.append_assoc] using r
set_option Elab.async false
set_option linter.all false
set_option maxRecDepth 100000
set_option maxHeartbeats 4000000
section
variable {P:Program} {w:World} {K:PySem.W.Frag} {mg:Str→Option Value} {base:Heap} {a:Adr}
abbrev Zir:List Str:=["state","kind","way","fields"]
theorem Zgi:ZaH Zir ["state","kind"] (Zac ZbK):=⟨rfl,rfl,rfl,by decide +kernel,rfl,by decide +kernel,by decide +kernel⟩
def ZhS (Zaj:Spw) (ZaR:Spw):GS:=(ZaB (Zbh 2 (Zap Zaj (fun _ _ _=>False) (Zab (Zag 0) (Zab (gC (.int 6)) Zan)))) (ZaB (gIf (gTB (Zal (Zaq (eqF false)) (Zag 2) (gC (.int 0)))) (ZaL (ZaN (Zab (gC (.str "any")) Zan))) Zax) (ZaB (gIf (gTB (Zal (Zaq (eqF false)) (Zal (Zaq ixW) (Zag 1) (gC (.int 0))) (gC (.str "to")))) (ZaL (ZaN (Zab (gC (.str "to")) (Zab (Zap ZaR (fun _ _ _=>False) (Zab (Zag 0) (Zab (Zal (Zaq ixW) (Zag 1) (gC (.int 1))) Zan))) (Zab (Zap ZaR (fun _ _ _=>False) (Zab (Zag 0) (Zab (Zal (Zaq ixW) (Zag 1) (gC (.int 2))) Zan))) Zan))))) Zax) (ZaB (gIf (gTB (Zal (Zaq (eqF false)) (Zal (Zaq ixW) (Zag 1) (gC (.int 0))) (gC (.str "box")))) (ZaL (ZaN (Zab (gC (.str "box")) (Zab (Zap ZaR (fun _ _ _=>False) (Zab (Zag 0) (Zab (Zal (Zaq ixW) (Zag 1) (gC (.int 1))) Zan))) Zan)))) Zax) (ZaB (gIf (gTB (Zal (Zaq (eqF true)) (Zal (Zaq ixW) (Zag 1) (gC (.int 0))) (gC (.str "row")))) (ZaL (Zag 1)) Zax) (ZaB (Zbh 3 (gB (rF Zfv) (Zab (Zb9 (Ze9 (Zal (Zaq ixW) (Zag 1) (gC (.int 1)))) 3 [0] (ZnB 0 1 2) ZgR (ZaN (Zab (Zag 0) (Zab (Zag 1) (Zab (Zap ZaR (fun _ _ _=>False) (Zab (Zag 3) (Zab (Zag 2) Zan))) Zan))))) Zan))) (ZaB (gIf (gTB (Zal (Zaq (eqF false)) (Zag 2) (gC (.int 1)))) (ZaL (ZaN (Zab (gC (.str "row")) (Zab (gB (rF Zfv) (Zab (Zb9 (Zbv (Zag 3)) 1 [0] (gNm 0) (gTB (Zal (Zaq (eqF false)) (Zap Zaj (fun _ _ _=>False) (Zab (Zag 1) (Zab (gC (.int 2)) Zan))) (gC (.int 1)))) (Zag 0)) Zan)) (Zab (gC (.bl true)) Zan))))) Zax) (ZaL (ZaN (Zab (gC (.str "row")) (Zab (Zag 3) (Zab (Zal (Zaq ixW) (Zag 1) (gC (.int 2))) Zan))))))))))))
theorem ZlY {k:Nat} (T:Tx K mg base a) {Zau:Nat} {Zaj:Spw} (Zaz:Df P w K mg base "_law_choice" Zau 2 Zaj) (ZaA:Zau≤k) {Zcc:Nat} {ZaR:Spw} (Zcz:Df P w K mg base "_law_less" Zcc 2 ZaR) (ZcE:Zcc≤k) {f:Addr} {cdv:Value} {A:Around} {outer:List Env} {s:Shared} {H:Hp} {E:XK} (hr:Room k (A.deeper (envOfC "_law_less" (Zac ZbK) s.heap.objs.size f cdv))):Ssm (cxW P w K mg base Zir "_law_less" (Zac ZbK) f cdv A outer s H E).nox (fun B=>B=H) (ZaC ZbK) (ZhS Zaj ZaR) :=
 have hu:=Zfb hr
 (Zai (Ze5 (i:=2) Zgi.nd rfl rfl rfl (Zao Zaz (hr.mono ZaA) rfl ZaD rfl rfl rfl (Zaa rfl (Zam (i:=0) rfl rfl rfl rfl) (Zaa rfl Zae Zad)))) (Zai (ZaZ (ZaG (ZaT hu) rfl (Zam (i:=2) rfl rfl rfl rfl) Zae) (Zak (Zav (ZaE (Zaa rfl Zar Zad)))) Zay) (Zai (ZaZ (ZaG (ZaT hu) rfl (Zas (fun _ _=>rfl) (Zam (i:=1) rfl rfl rfl rfl) Zae) Zar) (Zak (Zav (ZaE (Zaa rfl Zar (Zaa rfl (Zao Zcz (hr.mono ZcE) rfl ZaD rfl rfl rfl (Zaa rfl (Zam (i:=0) rfl rfl rfl rfl) (Zaa rfl (Zas (fun _ _=>rfl) (Zam (i:=1) rfl rfl rfl rfl) Zae) Zad))) (Zaa rfl (Zao Zcz (hr.mono ZcE) rfl ZaD rfl rfl rfl (Zaa rfl (Zam (i:=0) rfl rfl rfl rfl) (Zaa rfl (Zas (fun _ _=>rfl) (Zam (i:=1) rfl rfl rfl rfl) Zae) Zad))) Zad)))))) Zay) (Zai (ZaZ (ZaG (ZaT hu) rfl (Zas (fun _ _=>rfl) (Zam (i:=1) rfl rfl rfl rfl) Zae) Zar) (Zak (Zav (ZaE (Zaa rfl Zar (Zaa rfl (Zao Zcz (hr.mono ZcE) rfl ZaD rfl rfl rfl (Zaa rfl (Zam (i:=0) rfl rfl rfl rfl) (Zaa rfl (Zas (fun _ _=>rfl) (Zam (i:=1) rfl rfl rfl rfl) Zae) Zad))) Zad))))) Zay) (Zai (ZaZ (ZaG (Zd7 hu) rfl (Zas (fun _ _=>rfl) (Zam (i:=1) rfl rfl rfl rfl) Zae) Zar) (Zak (Zav (Zam (i:=1) rfl rfl rfl rfl))) Zay) (Zai (Ze5 (i:=3) Zgi.nd rfl rfl rfl (ZgD Zcx (Zdq) rfl T.Zcf (by decide) rfl rfl rfl (Zaa rfl (ZjZ rfl (Zts (own:=["name","mark","inner"]) (fr:=["state"]) (js:=[0]) (scX:=Zac ZbK) (n:=s.heap.objs.size+1) rfl (by decide +kernel) (by decide +kernel) (by decide +kernel) (by decide +kernel) rfl rfl rfl (by decide +kernel) rfl) (fun _=>rfl) (Zrh (Zas (fun _ _=>rfl) (Zam (i:=1) rfl rfl rfl rfl) Zae)) (Zn9 (i:=0) (j:=1) (k:=2) rfl (by decide) rfl rfl rfl rfl rfl rfl) (fun C fp s1 H1=>Zex) (fun C fp s1 H1=>(ZaE (Zaa rfl (Zam (i:=0) rfl rfl rfl rfl) (Zaa rfl (Zam (i:=1) rfl rfl rfl rfl) (Zaa rfl (Zao Zcz (hr.mono ZcE) rfl ZaD rfl rfl rfl (Zaa rfl (Zam (i:=3) rfl rfl rfl rfl) (Zaa rfl (Zam (i:=2) rfl rfl rfl rfl) Zad))) Zad)))))) Zad))) (Zai (ZaZ (ZaG (ZaT hu) rfl (Zam (i:=2) rfl rfl rfl rfl) Zae) (Zak (Zav (ZaE (Zaa rfl Zar (Zaa rfl (ZgD Zcx (Zdq) rfl T.Zcf (by decide) rfl rfl rfl (Zaa rfl (ZjZ rfl (Zts (own:=["field"]) (fr:=["state"]) (js:=[0]) (scX:=Zac ZbK) (n:=s.heap.objs.size+1) rfl (by decide +kernel) (by decide +kernel) (by decide +kernel) (by decide +kernel) rfl rfl rfl (by decide +kernel) rfl) (fun _=>rfl) (Zc0 (fun _ _=>rfl) (Zam (i:=3) rfl rfl rfl rfl)) (ZhA (i:=0) (by decide) rfl rfl) (fun C fp s1 H1=>(Zrn (ZaG (ZaT hu) rfl (Zao Zaz (hr.mono ZaA) rfl ZaD rfl rfl rfl (Zaa rfl (Zam (i:=1) rfl rfl rfl rfl) (Zaa rfl Zae Zad))) Zae))) (fun C fp s1 H1=>(Zam (i:=0) rfl rfl rfl rfl))) Zad)) (Zaa rfl Zfs Zad)))))) Zay) (Zak (Zav (ZaE (Zaa rfl Zar (Zaa rfl (Zam (i:=3) rfl rfl rfl rfl) (Zaa rfl (Zas (fun _ _=>rfl) (Zam (i:=1) rfl rfl rfl rfl) Zae) Zad)))))))))))))
abbrev Zhg:List Str:=["state","kind","way","fields","name","mark","inner"]
theorem Zdm:ZaH Zhg ["state","kind"] (Zac Zcb):=⟨rfl,rfl,rfl,by decide +kernel,rfl,by decide +kernel,by decide +kernel⟩
def Zhp (Zaj:Spw) (ZaM:Spw):GS:=(ZaB (Zbh 2 (Zap Zaj (fun _ _ _=>False) (Zab (Zag 0) (Zab (gC (.int 9)) Zan)))) (ZaB (gIf (gTB (Zal (Zaq (eqF false)) (Zag 2) (gC (.int 0)))) (ZaL (Zal (Zaq ixW) (Zcr (Zab (ZaN (Zab (gC (.str "num")) Zan)) (Zab (ZaN (Zab (gC (.str "truth")) Zan)) (Zab (ZaN (Zab (gC (.str "any")) Zan)) (Zab (ZaN (Zab (gC (.str "row")) (Zab (ZaN Zan) (Zab (gC (.bl true)) Zan)))) Zan))))) (Zap Zaj (fun _ _ _=>False) (Zab (Zag 0) (Zab (gC (.int 4)) Zan))))) Zax) (ZaB (gIf (gTB (Zal (Zaq (eqF false)) (Zal (Zaq ixW) (Zag 1) (gC (.int 0))) (gC (.str "to")))) (ZaL (ZaN (Zab (gC (.str "to")) (Zab (Zap ZaM (fun _ _ _=>False) (Zab (Zag 0) (Zab (Zal (Zaq ixW) (Zag 1) (gC (.int 1))) Zan))) (Zab (Zap ZaM (fun _ _ _=>False) (Zab (Zag 0) (Zab (Zal (Zaq ixW) (Zag 1) (gC (.int 2))) Zan))) Zan))))) Zax) (ZaB (gIf (gTB (Zal (Zaq (eqF false)) (Zal (Zaq ixW) (Zag 1) (gC (.int 0))) (gC (.str "box")))) (ZaL (ZaN (Zab (gC (.str "box")) (Zab (Zap ZaM (fun _ _ _=>False) (Zab (Zag 0) (Zab (Zal (Zaq ixW) (Zag 1) (gC (.int 1))) Zan))) Zan)))) Zax) (ZaB (gIf (gTB (Zal (Zaq (eqF true)) (Zal (Zaq ixW) (Zag 1) (gC (.int 0))) (gC (.str "row")))) (ZaL (Zag 1)) Zax) (ZaB (Zbh 3 (Zcr Zan)) (ZaB (Zgo (Ze9 (Zal (Zaq ixW) (Zag 1) (gC (.int 1)))) (ZnB 4 5 6) (ZaB (gIf (gTB (Zal (Zaq (eqF false)) (Zap Zaj (fun _ _ _=>False) (Zab (Zag 0) (Zab (gC (.int 8)) Zan))) (gC (.int 1)))) (Zbh 5 (Zal (Zaq ixW) (Zcr (Zab (gC (.str "must")) (Zab (gC (.str "may")) Zan))) (Zap Zaj (fun _ _ _=>False) (Zab (Zag 0) (Zab (gC (.int 2)) Zan))))) Zax) (gIf (gTB (Zal (Zhq fun i j=>decide (j < i)) (Zap Zaj (fun _ _ _=>False) (Zab (Zag 0) (Zab (gC (.int 8)) Zan))) (gC (.int 0)))) (ZbA (gMt Zfc Zlb (Zag 3) (Zab (ZaN (Zab (Zag 4) (Zab (Zag 5) (Zab (Zap ZaM (fun _ _ _=>False) (Zab (Zag 0) (Zab (Zag 6) Zan))) Zan)))) Zan))) Zax))) (ZaL (ZaN (Zab (gC (.str "row")) (Zab (gB (rF Zfv) (Zab (Zag 3) Zan)) (Zab (Zal (Zaq ixW) (Zcr (Zab (Zal (Zaq ixW) (Zag 1) (gC (.int 2))) (Zab (ZeO (Zal (Zaq ixW) (Zag 1) (gC (.int 2)))) Zan))) (gB (rF Zlq) (Zab (Zal (Zaq (eqF false)) (Zag 2) (gC (.int 1))) Zan))) Zan))))))))))))
theorem ZkZ {k:Nat} (T:Tx K mg base a) {Zau:Nat} {Zaj:Spw} (Zaz:Df P w K mg base "_law_choice" Zau 2 Zaj) (ZaA:Zau≤k) {ZbF:Nat} {ZaM:Spw} (Zcd:Df P w K mg base "_law_other" ZbF 2 ZaM) (Zb0:ZbF≤k) {f:Addr} {cdv:Value} {A:Around} {outer:List Env} {s:Shared} {H:Hp} {E:XK} (hr:Room k (A.deeper (envOfC "_law_other" (Zac Zcb) s.heap.objs.size f cdv))):Ssm (cxW P w K mg base Zhg "_law_other" (Zac Zcb) f cdv A outer s H E).nox (fun B=>B=H) (ZaC Zcb) (Zhp Zaj ZaM) :=
 have hu:=Zfb hr
 (Zai (Ze5 (i:=2) Zdm.nd rfl rfl rfl (Zao Zaz (hr.mono ZaA) rfl ZaD rfl rfl rfl (Zaa rfl (Zam (i:=0) rfl rfl rfl rfl) (Zaa rfl Zae Zad)))) (Zai (ZaZ (ZaG (ZaT hu) rfl (Zam (i:=2) rfl rfl rfl rfl) Zae) (Zak (Zav (Zas (fun _ _=>rfl) (ZbR (Zaa rfl (ZaE (Zaa rfl Zar Zad)) (Zaa rfl (ZaE (Zaa rfl Zar Zad)) (Zaa rfl (ZaE (Zaa rfl Zar Zad)) (Zaa rfl (ZaE (Zaa rfl Zar (Zaa rfl (ZaE Zad) (Zaa rfl Zfs Zad)))) Zad))))) (Zao Zaz (hr.mono ZaA) rfl ZaD rfl rfl rfl (Zaa rfl (Zam (i:=0) rfl rfl rfl rfl) (Zaa rfl Zae Zad)))))) Zay) (Zai (ZaZ (ZaG (ZaT hu) rfl (Zas (fun _ _=>rfl) (Zam (i:=1) rfl rfl rfl rfl) Zae) Zar) (Zak (Zav (ZaE (Zaa rfl Zar (Zaa rfl (Zao Zcd (hr.mono Zb0) rfl ZaD rfl rfl rfl (Zaa rfl (Zam (i:=0) rfl rfl rfl rfl) (Zaa rfl (Zas (fun _ _=>rfl) (Zam (i:=1) rfl rfl rfl rfl) Zae) Zad))) (Zaa rfl (Zao Zcd (hr.mono Zb0) rfl ZaD rfl rfl rfl (Zaa rfl (Zam (i:=0) rfl rfl rfl rfl) (Zaa rfl (Zas (fun _ _=>rfl) (Zam (i:=1) rfl rfl rfl rfl) Zae) Zad))) Zad)))))) Zay) (Zai (ZaZ (ZaG (ZaT hu) rfl (Zas (fun _ _=>rfl) (Zam (i:=1) rfl rfl rfl rfl) Zae) Zar) (Zak (Zav (ZaE (Zaa rfl Zar (Zaa rfl (Zao Zcd (hr.mono Zb0) rfl ZaD rfl rfl rfl (Zaa rfl (Zam (i:=0) rfl rfl rfl rfl) (Zaa rfl (Zas (fun _ _=>rfl) (Zam (i:=1) rfl rfl rfl rfl) Zae) Zad))) Zad))))) Zay) (Zai (ZaZ (ZaG (Zd7 hu) rfl (Zas (fun _ _=>rfl) (Zam (i:=1) rfl rfl rfl rfl) Zae) Zar) (Zak (Zav (Zam (i:=1) rfl rfl rfl rfl))) Zay) (Zai (Ze5 (i:=3) Zdm.nd rfl rfl rfl (ZbR Zad)) (Zai (Zhj PassesOwn.never rfl (fun _=>rfl) (Zrh (Zas (fun _ _=>rfl) (Zam (i:=1) rfl rfl rfl rfl) Zae)) (ZqQ (i:=4) (j:=5) (k:=6) rfl Zdm.nd rfl (.inl rfl) (.inr rfl) rfl (.inl rfl) (.inr rfl) rfl (.inl rfl) (.inr rfl)) (Zai (ZaZ (ZaG (ZaT hu) rfl (Zao Zaz (hr.mono ZaA) rfl ZaD rfl rfl rfl (Zaa rfl (Zam (i:=0) rfl rfl rfl rfl) (Zaa rfl Zae Zad))) Zae) (Zak (Ze5 (i:=5) Zdm.nd rfl rfl rfl (Zas (fun _ _=>rfl) (ZbR (Zaa rfl Zar (Zaa rfl Zar Zad))) (Zao Zaz (hr.mono ZaA) rfl ZaD rfl rfl rfl (Zaa rfl (Zam (i:=0) rfl rfl rfl rfl) (Zaa rfl Zae Zad)))))) Zay) (Zak (ZaZ (ZaG Zkh rfl (Zao Zaz (hr.mono ZaA) rfl ZaD rfl rfl rfl (Zaa rfl (Zam (i:=0) rfl rfl rfl rfl) (Zaa rfl Zae Zad))) Zae) (Zak (Zen rfl (ZhT ZdH rfl rfl rfl rfl rfl (Zam (i:=3) rfl rfl rfl rfl) (Zaa rfl (ZaE (Zaa rfl (Zam (i:=4) rfl rfl rfl rfl) (Zaa rfl (Zam (i:=5) rfl rfl rfl rfl) (Zaa rfl (Zao Zcd (hr.mono Zb0) rfl ZaD rfl rfl rfl (Zaa rfl (Zam (i:=0) rfl rfl rfl rfl) (Zaa rfl (Zam (i:=6) rfl rfl rfl rfl) Zad))) Zad)))) Zad)))) Zay)))) (Zak (Zav (ZaE (Zaa rfl Zar (Zaa rfl (ZgD Zcx (Zdq) rfl T.Zcf (by decide) rfl rfl rfl (Zaa rfl (Zam (i:=3) rfl rfl rfl rfl) Zad)) (Zaa rfl (Zas (fun _ _=>rfl) (ZbR (Zaa rfl (Zas (fun _ _=>rfl) (Zam (i:=1) rfl rfl rfl rfl) Zae) (Zaa rfl (Zrk (Zas (fun _ _=>rfl) (Zam (i:=1) rfl rfl rfl rfl) Zae)) Zad))) (ZgD Zk0 (Zh3) rfl T.ZiN (by decide) rfl rfl rfl (Zaa rfl (ZfU (ZaT hu) rfl (Zam (i:=2) rfl rfl rfl rfl) Zae) Zad))) Zad)))))))))))))
abbrev Zij:List Str:=["script","k","plain","one","state","way"]
theorem ZeS:ZaH Zij ["script","k","plain"] (Zac ZcB):=⟨rfl,rfl,rfl,by decide +kernel,rfl,by decide +kernel,by decide +kernel⟩
def Ziw (Zbr:Spw) (Za9:Spw) (Zaj:Spw) (ZaR:Spw) (ZaM:Spw):GS:=(ZaB (Zbh 3 (Zap Zbr (fun _ _ _=>False) (Zab (Zag 0) (Zab (Zag 1) (Zab (Zag 2) (Zab (gC (.bl false)) Zan)))))) (ZaB (Zbh 4 (Zap Za9 (fun _ _ _=>False) (Zab (Zag 0) (Zab (Zal (Zem) (Zag 1) (gC (.int 1))) Zan)))) (ZaB (Zbh 5 (Zap Zaj (fun _ _ _=>False) (Zab (Zag 4) (Zab (gC (.int 6)) Zan)))) (ZaB (gIf (gTB (Zal (Zaq (eqF false)) (Zag 5) (gC (.int 0)))) (ZaL (ZaN (Zab (Zag 3) (Zab (Zap Zbr (fun _ _ _=>False) (Zab (Zag 0) (Zab (Zal (Zem) (Zag 1) (gC (.int 2))) (Zab (Zag 2) (Zab (gC (.bl false)) Zan))))) Zan)))) Zax) (ZaB (gIf (gTB (Zal (Zaq (eqF false)) (Zag 5) (gC (.int 1)))) (ZaL (ZaN (Zab (Zag 3) (Zab (Zap ZaR (fun _ _ _=>False) (Zab (Zag 4) (Zab (Zag 3) Zan))) Zan)))) Zax) (ZaB (gIf (gTB (Zal (Zaq (eqF false)) (Zag 5) (gC (.int 2)))) (ZaL (ZaN (Zab (Zap ZaR (fun _ _ _=>False) (Zab (Zag 4) (Zab (Zag 3) Zan))) (Zab (Zag 3) Zan)))) Zax) (ZaL (Zal (Zaq ixW) (Zcr (Zab (ZaN (Zab (Zag 3) (Zab (Zap ZaM (fun _ _ _=>False) (Zab (Zag 4) (Zab (Zag 3) Zan))) Zan))) (Zab (ZaN (Zab (Zap ZaM (fun _ _ _=>False) (Zab (Zag 4) (Zab (Zag 3) Zan))) (Zab (Zag 3) Zan))) Zan))) (Zal (Zdk (fun _ j=>0 < j) fun i j=>i % j) (Zag 5) (gC (.int 2)))))))))))
theorem ZlZ {k:Nat} (T:Tx K mg base a) {Zck:Nat} {Zbr:Spw} (ZeG:Df P w K mg base "_law_drawn_kind" Zck 4 Zbr) (ZeJ:Zck≤k) {ZbB:Nat} {Za9:Spw} (Zff:Df P w K mg base "_law_state" ZbB 2 Za9) (Zfi:ZbB≤k) {Zau:Nat} {Zaj:Spw} (Zaz:Df P w K mg base "_law_choice" Zau 2 Zaj) (ZaA:Zau≤k) {Zcc:Nat} {ZaR:Spw} (Zcz:Df P w K mg base "_law_less" Zcc 2 ZaR) (ZcE:Zcc≤k) {ZbF:Nat} {ZaM:Spw} (Zcd:Df P w K mg base "_law_other" ZbF 2 ZaM) (Zb0:ZbF≤k) {f:Addr} {cdv:Value} {A:Around} {outer:List Env} {s:Shared} {H:Hp} {E:XK} (hr:Room k (A.deeper (envOfC "_law_pair" (Zac ZcB) s.heap.objs.size f cdv))):Ssm (cxW P w K mg base Zij "_law_pair" (Zac ZcB) f cdv A outer s H E).nox (fun B=>B=H) (ZaC ZcB) (Ziw Zbr Za9 Zaj ZaR ZaM) :=
 have hu:=Zfb hr
 (Zai (Ze5 (i:=3) ZeS.nd rfl rfl rfl (Zao ZeG (hr.mono ZeJ) rfl ZaD rfl rfl rfl (Zaa rfl (Zam (i:=0) rfl rfl rfl rfl) (Zaa rfl (Zam (i:=1) rfl rfl rfl rfl) (Zaa rfl (Zam (i:=2) rfl rfl rfl rfl) (Zaa rfl Zfs Zad)))))) (Zai (Ze5 (i:=4) ZeS.nd rfl rfl rfl (Zao Zff (hr.mono Zfi) rfl ZaD rfl rfl rfl (Zaa rfl (Zam (i:=0) rfl rfl rfl rfl) (Zaa rfl (Ze0 (Zam (i:=1) rfl rfl rfl rfl) Zae) Zad)))) (Zai (Ze5 (i:=5) ZeS.nd rfl rfl rfl (Zao Zaz (hr.mono ZaA) rfl ZaD rfl rfl rfl (Zaa rfl (Zam (i:=4) rfl rfl rfl rfl) (Zaa rfl Zae Zad)))) (Zai (ZaZ (ZaG (ZaT hu) rfl (Zam (i:=5) rfl rfl rfl rfl) Zae) (Zak (Zav (ZaE (Zaa rfl (Zam (i:=3) rfl rfl rfl rfl) (Zaa rfl (Zao ZeG (hr.mono ZeJ) rfl ZaD rfl rfl rfl (Zaa rfl (Zam (i:=0) rfl rfl rfl rfl) (Zaa rfl (Ze0 (Zam (i:=1) rfl rfl rfl rfl) Zae) (Zaa rfl (Zam (i:=2) rfl rfl rfl rfl) (Zaa rfl Zfs Zad))))) Zad))))) Zay) (Zai (ZaZ (ZaG (ZaT hu) rfl (Zam (i:=5) rfl rfl rfl rfl) Zae) (Zak (Zav (ZaE (Zaa rfl (Zam (i:=3) rfl rfl rfl rfl) (Zaa rfl (Zao Zcz (hr.mono ZcE) rfl ZaD rfl rfl rfl (Zaa rfl (Zam (i:=4) rfl rfl rfl rfl) (Zaa rfl (Zam (i:=3) rfl rfl rfl rfl) Zad))) Zad))))) Zay) (Zai (ZaZ (ZaG (ZaT hu) rfl (Zam (i:=5) rfl rfl rfl rfl) Zae) (Zak (Zav (ZaE (Zaa rfl (Zao Zcz (hr.mono ZcE) rfl ZaD rfl rfl rfl (Zaa rfl (Zam (i:=4) rfl rfl rfl rfl) (Zaa rfl (Zam (i:=3) rfl rfl rfl rfl) Zad))) (Zaa rfl (Zam (i:=3) rfl rfl rfl rfl) Zad))))) Zay) (Zak (Zav (Zas (fun _ _=>rfl) (ZbR (Zaa rfl (ZaE (Zaa rfl (Zam (i:=3) rfl rfl rfl rfl) (Zaa rfl (Zao Zcd (hr.mono Zb0) rfl ZaD rfl rfl rfl (Zaa rfl (Zam (i:=4) rfl rfl rfl rfl) (Zaa rfl (Zam (i:=3) rfl rfl rfl rfl) Zad))) Zad))) (Zaa rfl (ZaE (Zaa rfl (Zao Zcd (hr.mono Zb0) rfl ZaD rfl rfl rfl (Zaa rfl (Zam (i:=4) rfl rfl rfl rfl) (Zaa rfl (Zam (i:=3) rfl rfl rfl rfl) Zad))) (Zaa rfl (Zam (i:=3) rfl rfl rfl rfl) Zad))) Zad))) (Zif (Zam (i:=5) rfl rfl rfl rfl) Zae))))))))))
end
theorem Zmu {G:Hw} {s:Addr} {o:HW} (h:G s=some o):put G s o=G:=by
 funext a
 by_cases ha:a=s
 ·subst ha;rw [Zah,h]
 ·rw [Zat ha]
theorem ZfG {i:Nat} {r j:Int} {e:GE} {Zcg:GS} {D:Ew} {ω:Sw} {G:Hw} (h1:ω[i]?=some (some (.int r))) (h:if r=j then e ω G D.rt else Zcg D ω G) :
  ZaB (gIf (gTB (Zal (Zaq (eqF false)) (Zag i) (gC (.int j)))) (ZaL e) Zax) Zcg D ω G:=by
 simp only [ZaB,gIf,gTB,Zal,Zaq,Zag,h1,gC,eqF,eqW,Option.map_some,Zaf,ZaL,Zax]
 by_cases z:r=j
 ·rw [if_pos z] at h
  rw [show (r==j)=true by simp [z]]
  exact h
 ·rw [if_neg z] at h
  rw [show (r==j)=false by simp [z]]
  exact h
theorem ZhE {k:Kd} {t:Str} {e:GE} {Zcg:GS} {D:Ew} {ω:Sw} {G:Hw} (h1:ω[1]?=some (some k.enc)) (h:if k.hd=t then e ω G D.rt else Zcg D ω G) :
  ZaB (gIf (gTB (Zal (Zaq (eqF false)) (Zal (Zaq ixW) (Zag 1) (gC (.int 0))) (gC (.str t)))) (ZaL e) Zax) Zcg D ω G:=by
 simp only [ZaB,gIf,gTB,Zal,Zaq,Zag,h1,gC,ZaL,Zax]
 rw [ZcD]
 simp only [Zaf,eqF,eqW,Option.map_some]
 by_cases z:k.hd=t
 ·rw [if_pos z] at h
  simp only [z,beq_self_eq_true,show (true != false)=true from rfl,if_true]
  exact h
 ·rw [if_neg z] at h
  have:(k.hd==t)=false:=by simpa using z
  simp only [this,bne_self_eq_false,Bool.false_eq_true,if_false]
  exact h
theorem ZmS {k:Kd} {t:Str} {e:GE} {Zcg:GS} {D:Ew} {ω:Sw} {G:Hw} (h1:ω[1]?=some (some k.enc)) (h:if k.hd=t then Zcg D ω G else e ω G D.rt) :
  ZaB (gIf (gTB (Zal (Zaq (eqF true)) (Zal (Zaq ixW) (Zag 1) (gC (.int 0))) (gC (.str t)))) (ZaL e) Zax) Zcg D ω G:=by
 simp only [ZaB,gIf,gTB,Zal,Zaq,Zag,h1,gC,ZaL,Zax]
 rw [ZcD]
 simp only [Zaf,eqF,eqW,Option.map_some]
 by_cases z:k.hd=t
 ·rw [if_pos z] at h
  simp only [z,beq_self_eq_true,bne_self_eq_false,Bool.false_eq_true,if_false]
  exact h
 ·rw [if_neg z] at h
  have:(k.hd==t)=false:=by simpa using z
  simp only [this,show (false != true)=true from rfl,if_true]
  exact h
abbrev S2 (x:Int) (b:Bool) (r:List W):HW:=.lst (.int x::.bl b::r)
def Fs.toL:Fs→List (Str×Bool×Kd)
 | .nil=>[]
 | .cons n m k r=>(n,m,k)::r.toL
theorem Zie:∀ fs:Fs,ofL fs.toL=fs
 | .nil=>rfl
 | .cons n m k r=>by show Fs.cons n m k (ofL r.toL)=_;rw [Zie r]
theorem Zms:∀ {l:List (Str×Bool×Kd)} {x:Str} {m:Bool} {k:Kd},(l.map (·.1)).Pairwise (fun x y=>Za4 x y=true)→(x,m,k)∈l→(ofL l).find x=some (m,k)
 | (n,m',k')::l,x,m,k,hp,h=>by
  have hp':(n::l.map (·.1)).Pairwise (fun x y=>Za4 x y=true):=hp
  obtain ⟨a1,a2⟩:=List.pairwise_cons.mp hp'
  show (if n=x then some (m',k') else (ofL l).find x)=some (m,k)
  rcases List.mem_cons.mp h with e | h
  ·cases e;rw [if_pos rfl]
  ·rw [if_neg (fun e=>by subst e;have:=a1 _ (List.mem_map.mpr ⟨_,h,rfl⟩);rw [Zkq] at this;cases this)]
   exact Zms a2 h
theorem Zmp {l:List (Str×Bool×Kd)} {o:Bool} (h:wf (.row (ofL l) o)):(l.map (·.1)).Pairwise (fun x y=>Za4 x y=true)∧l.length≤5∧∀ y∈l,Zdt y.1=true∧wf y.2.2:=by
 obtain ⟨h1,h2⟩:=h
 have p:=(Zro h1).1
 rw [ZcO] at p
 have h2':(decide ((ofL l).names.length≤5)&&(ofL l).thr)=true:=h2
 simp only [Bool.and_eq_true,decide_eq_true_eq] at h2'
 have h1':(Zl6 (ofL l).names&&(ofL l).ok)=true:=h1
 simp only [Bool.and_eq_true] at h1'
 refine ⟨p,by have:=h2'.1;rw [ZcO,List.length_map] at this;exact this,?_⟩
 have go:∀ l:List (Str×Bool×Kd),(ofL l).ok=true→(ofL l).thr=true→∀ y∈l,Zdt y.1=true∧wf y.2.2:=by
  intro l
  induction l with
  | nil=>intro _ _ y hy;cases hy
  | cons z l ih =>
   intro g1 g2 y hy
   have g1':(Zdt z.1&&z.2.2.ok&&(ofL l).ok)=true:=g1
   have g2':(z.2.2.thr&&(ofL l).thr)=true:=g2
   simp only [Bool.and_eq_true] at g1' g2'
   rcases List.mem_cons.mp hy with rfl | hy
   ·exact ⟨g1'.1.1,g1'.1.2,g2'.1⟩
   ·exact ih g1'.2 g2'.2 y hy
 exact go l h1'.2 h2'.2
theorem Zpd {l:List (Str×Bool×Kd)}:∀ y∈l,y.2.2.dp≤(ofL l).dp:=by
 induction l with
 | nil=>intro y hy;cases hy
 | cons z l ih =>
  intro y hy
  show _≤max z.2.2.dp (ofL l).dp
  rcases List.mem_cons.mp hy with rfl | hy
  ·exact Nat.le_max_left _ _
  ·exact Nat.le_trans (ih y hy) (Nat.le_max_right _ _)
inductive Al (R:Bool→Kd→Bool→Kd→Prop):List (Str×Bool×Kd)→List (Str×Bool×Kd)→Prop
 | nil:Al R [] []
 | cons {x:Str} {m' m:Bool} {k' k:Kd} {l' l:List (Str×Bool×Kd)} (h:R m' k' m k) (t:Al R l' l):Al R ((x,m',k')::l') ((x,m,k)::l)
 | drop {y:Str×Bool×Kd} {l' l:List (Str×Bool×Kd)} (t:Al R l' l):Al R l' (y::l)
theorem Al.names {R} {l' l:List (Str×Bool×Kd)} (h:Al R l' l):(l'.map (·.1)).Sublist (l.map (·.1)):=by
 induction h with
 | nil=>exact .slnil
 | cons _ _ ih=>exact ih.cons_cons _
 | drop _ ih=>exact ih.cons _
theorem Al.mem {R} {l' l:List (Str×Bool×Kd)} (h:Al R l' l):∀ y∈l',∃ m k,(y.1,m,k)∈l∧R y.2.1 y.2.2 m k:=by
 induction h with
 | nil=>intro y hy;cases hy
 | cons h _ ih =>
  intro y hy
  rcases List.mem_cons.mp hy with rfl | hy
  ·exact ⟨_,_,List.mem_cons_self,h⟩
  ·obtain ⟨m,k,h1,h2⟩:=ih y hy
   exact ⟨m,k,List.mem_cons_of_mem _ h1,h2⟩
 | drop _ ih =>
  intro y hy
  obtain ⟨m,k,h1,h2⟩:=ih y hy
  exact ⟨m,k,List.mem_cons_of_mem _ h1,h2⟩
def sml (k' k:Kd):Prop:=wf k'∧k'.dp≤k.dp∧k'.cnt≤k.cnt
theorem Al.cnt {R:Bool→Kd→Bool→Kd→Prop} (hR:∀ m' k' m k,R m' k' m k→sml k' k) {l' l:List (Str×Bool×Kd)} (h:Al R l' l):(ofL l').cnt≤(ofL l).cnt:=by
 induction h with
 | nil=>exact Nat.le_refl _
 | cons h _ ih=>have:=(hR _ _ _ _ h).2.2;show _+_≤_+_;dsimp only;omega
 | drop _ ih=>show _≤_+_;omega
theorem Al.sml {R:Bool→Kd→Bool→Kd→Prop} (hR:∀ m' k' m k,R m' k' m k→sml k' k) {l' l:List (Str×Bool×Kd)} (h:Al R l' l) {o o':Bool} (hw:wf (.row (ofL l) o)):sml (.row (ofL l') o') (.row (ofL l) o):=by
 obtain ⟨p,h5,hy⟩:=Zmp hw
 refine ⟨Zrm (p.sublist h.names) (by have:=h.names.length_le;rw [List.length_map,List.length_map] at this;omega) fun y hm=>?_,?_,?_⟩
 ·obtain ⟨m,k,h1,h2⟩:=h.mem y hm
  exact ⟨(hy _ h1).1,(hR _ _ _ _ h2).1⟩
 ·show 1+(ofL l').dp≤1+(ofL l).dp
  have:=Zkn (n:=(ofL l).dp) l' fun y hm=>by
   obtain ⟨m,k,h1,h2⟩:=h.mem y hm
   exact Nat.le_trans (hR _ _ _ _ h2).2.1 (Zpd (l:=l) _ h1)
  omega
 ·show 1+(ofL l').cnt≤1+(ofL l).cnt
  have:=h.cnt hR
  omega
def lsK (n:Nat) (k' k:Kd):Prop:=sml k' k∧n=n
abbrev lsR (n:Nat):Bool→Kd→Bool→Kd→Prop:=fun m' k' m k=>m'=m∧lsK n k' k
theorem ZrB {n:Nat} {l' l:List (Str×Bool×Kd)} {o o':Bool} (h:Al (lsR n) l' l) (hw:wf (.row (ofL l) o)) (ho:o'=true∨(o'=o∧l'.map (·.1)=l.map (·.1))):lsK (n+1) (.row (ofL l') o') (.row (ofL l) o):=⟨h.sml (o:=o) (o':=o') (fun _ _ _ _ z=>z.2.1) hw,rfl⟩
def ZvR (n:Nat):Spw:=fun ws G Q _=>∃ (s:Addr) (x:Int) (b:Bool) (r:List W) (k:Kd),ws=[.ref s,k.enc]∧wf k∧k.dp≤n∧G s=some (S2 x b r)∧∀ (k':Kd) (x':Int),lsK n k' k→Q k'.enc (put G s (S2 x' b r))
theorem Zrd {n:Nat}:Spw.M (ZvR n):=(by rintro ws G Q Q' E E' h _ ⟨s,x,b,r,k,h1,h2,h3,h4,q⟩;exact ⟨s,x,b,r,k,h1,h2,h3,h4,fun k' x' z=>h _ _ (q k' x' z)⟩)
theorem ZoN {n:Nat} {s:Addr} {b:Bool} {r:List W} {R:List W→Hw→Prop}:∀ (l:List (Str×Bool×Kd)) (o0 o1 o2:Option W) (G:Hw) (x:Int) (ac:List (Str×Bool×Kd)),(∀ y∈l,wf y.2.2∧y.2.2.dp≤n)→ac.length+l.length≤100→G s=some (S2 x b r) →
  (∀ (l':List (Str×Bool×Kd)) (x':Int),Al (lsR n) l' l→l'.map (·.1)=l.map (·.1)→R ((ac++l').map ZbT) (put G s (S2 x' b r))) →
  Zb4 yes (ZnB 0 1 2) ZgR (L3.ZaN (L3.Zab (Zag 0) (L3.Zab (Zag 1) (L3.Zab (Zap (ZvR n) (fun _ _ _=>False) (L3.Zab (Zag 3) (L3.Zab (Zag 2) L3.Zan))) L3.Zan)))) R (l.map ZbT) [o0,o1,o2,some (.ref s)] G (ac.map ZbT)
 | [],o0,o1,o2,G,x,ac,_,_,hs,h=>⟨trivial,by have:=h [] x .nil rfl;rw [List.append_nil,Zmu hs] at this;exact this⟩
 | y::l,o0,o1,o2,G,x,ac,hl,ha,hs,h=>by
  simp only [List.length_cons] at ha
  refine ⟨trivial,by rw [List.length_map];exact ZfH (by omega),?_⟩
  simp only [ZbT,ZnB,ZgR,if_true,List.set_cons_zero,List.set_cons_succ,L3.ZaN,Zap,L3.Zab,L3.Zan,Zag,List.getElem?_cons_zero,List.getElem?_cons_succ]
  obtain ⟨w1,d1⟩:=hl y List.mem_cons_self
  refine ⟨s,x,b,r,y.2.2,rfl,w1,d1,hs,fun k' x1 hk=>⟨(show 3≤sizeLine by decide),?_⟩⟩
  have ee:ac.map ZbT++[W.tup [.str y.1,.str (Zdf y.2.1),k'.enc]]=(ac++[(y.1,y.2.1,k')]).map ZbT:=by rw [List.map_append];rfl
  rw [ee]
  refine ZoN l _ _ _ _ x1 (ac++[(y.1,y.2.1,k')]) (fun z hz=>hl z (List.mem_cons_of_mem _ hz)) (by rw [List.length_append];simp only [List.length_cons,List.length_nil];omega) Zah fun l' x' h1 h2=>?_
  rw [Zbm,List.append_assoc]
  exact h ((y.1,y.2.1,k')::l') x' (.cons ⟨rfl,hk⟩ h1) (by rw [List.map_cons,List.map_cons,h2])
theorem ZlP {s:Addr} {b:Bool} {r:List W} {R:List W→Hw→Prop}:∀ (l:List (Str×Bool×Kd)) (o:Option W) (G:Hw) (x:Int) (ac:List (Str×Bool×Kd)),ac.length+l.length≤100→G s=some (S2 x b r) →
  (∀ (l':List (Str×Bool×Kd)) (x':Int),l'.Sublist l→R ((ac++l').map ZbT) (put G s (S2 x' b r))) →
  Zb4 yes (gNm 0) (gTB (Zal (Zaq (eqF false)) (Zap Ze7 (fun _ _ _=>False) (L3.Zab (Zag 1) (L3.Zab (gC (.int 2)) L3.Zan))) (gC (.int 1)))) (Zag 0) R (l.map ZbT) [o,some (.ref s)] G (ac.map ZbT)
 | [],o,G,x,ac,_,hs,h=>⟨trivial,by have:=h [] x .slnil;rw [List.append_nil,Zmu hs] at this;exact this⟩
 | y::l,o,G,x,ac,ha,hs,h=>by
  simp only [List.length_cons] at ha
  refine ⟨trivial,by rw [List.length_map];exact ZfH (by omega),?_⟩
  show gTB _ [some (ZbT y),some (.ref s)] G _
  simp only [gTB,Zal,Zap,L3.Zab,L3.Zan,Zag,gC,Zaq,List.getElem?_cons_zero,List.getElem?_cons_succ]
  refine ⟨s,2,x,b,r,rfl,by decide,by decide,hs,fun i x1 _ _=>?_⟩
  show opt (eqF false (.int i) (.int 1) (put G s (.lst (.int x1::.bl b::r)))) _
  rw [show eqF false (.int i) (.int 1) (put G s (.lst (.int x1::.bl b::r)))=some (.bl (i==1)) by unfold eqF eqW;show some (W.bl ((i==1) != false))=_;cases (i==1) <;> rfl,Zaf]
  dsimp only
  cases (i==1) with
  | false =>
   rw [if_neg (by decide)]
   refine ZlP l _ _ x1 ac (by omega) Zah fun l' x' h1=>?_
   rw [Zbm]
   exact h l' x' (h1.cons y)
  | true =>
   rw [if_pos rfl]
   have ee:ac.map ZbT++[ZbT y]=(ac++[y]).map ZbT:=by rw [List.map_append];rfl
   show Zb4 _ _ _ _ R (l.map ZbT) [some (ZbT y),some (.ref s)] _ (ac.map ZbT++[ZbT y])
   rw [ee]
   refine ZlP l _ _ x1 (ac++[y]) (by rw [List.length_append];simp only [List.length_cons,List.length_nil];omega) Zah fun l' x' h1=>?_
   rw [Zbm,List.append_assoc]
   exact h (y::l') x' (h1.cons_cons y)
theorem Al.sub {R} {l2 l1 l:List (Str×Bool×Kd)} (h:Al R l1 l):l2.Sublist l1→Al R l2 l:=by
 induction h generalizing l2 with
 | nil=>intro s;cases s;exact .nil
 | cons hr t ih =>
  intro s
  cases s with
  | cons _ s=>exact .drop (ih s)
  | cons_cons _ s=>exact .cons hr (ih s)
 | drop t ih=>intro s;exact .drop (ih s)
theorem ZsJ {k:Kd}:sml .any k:=⟨⟨rfl,rfl⟩,ZcZ k,Zg2 k⟩
theorem Zcc (T:Tx K mg base a):∀ n:Nat,Df P w K mg base "_law_less" (n+1) 2 (ZvR n)
 | 0=>Zj1 T.ZdU Zrd fun ws G Q E ⟨s,x,b,r,k,_,_,h,_⟩=>by have:=ZcZ k;omega
 | n+1=>by
  have D:=Zcc T n
  refine mk0 (k:=n+1) T.ZdU rfl Zgi Zrd (fun ws G Q E ⟨s,x,b,r,k,e,_⟩=>by rw [e];rfl) (ZlY T (Zau T) (by omega) D (Nat.le_refl _)) fun ws G Q E hC q=>?_
  obtain ⟨s,x,b,r,k,rfl,w1,hd,hs,q⟩:=q
  unfold ZhS
  show ZaB (Zbh 2 _) _ (ZaX Q) [some (.ref s),some k.enc,none,none] G
  refine ⟨s,6,x,b,r,rfl,by decide,by decide,hs,fun i x1 _ _=>?_⟩
  simp only [List.set_cons_zero,List.set_cons_succ]
  have h1:put G s (S2 x1 b r) s=some (S2 x1 b r):=Zah
  refine ZfG rfl ?_
  by_cases z0:i=0
  ·rw [if_pos z0]
   exact ⟨(show 1≤sizeLine by decide),q .any x1 ⟨ZsJ,rfl⟩⟩
  rw [if_neg z0]
  refine ZhE rfl ?_
  by_cases ht:k.hd="to"
  ·rw [if_pos ht]
   cases k <;> first | exact absurd ht (by simp only [Kd.hd];decide) | skip
   rename_i a1 a2
   have d1:=ZaF (k:=.to a1 a2) (c:=a1) (by simp [Kd.kids])
   have d2:=ZaF (k:=.to a1 a2) (c:=a2) (by simp [Kd.kids])
   simp only [L3.ZaN,Zap,L3.Zab,L3.Zan,Zal,Zaq,Zag,gC,Kd.enc,List.getElem?_cons_zero,List.getElem?_cons_succ,ixW,ZbZ,Zc7,Zaf]
   refine ⟨s,x1,b,r,a1,rfl,Zaw w1 (by simp [Kd.kids]),by omega,h1,fun k1 x2 g1=>⟨s,x2,b,r,a2,rfl,Zaw w1 (by simp [Kd.kids]),by omega,Zah,fun k2 x3 g2=>⟨(show 3≤sizeLine by decide),?_⟩⟩⟩
   rw [Zbm,Zbm]
   obtain ⟨⟨u1,u2,u3⟩,u4⟩:=g1
   obtain ⟨⟨v1,v2,v3⟩,v4⟩:=g2
   refine q (.to k1 k2) x3 ⟨⟨ZrW u1 v1,?_,?_⟩,?_⟩
   ·show 1+max k1.dp k2.dp≤1+max a1.dp a2.dp;omega
   ·show 1+(k1.cnt+k2.cnt)≤1+(a1.cnt+a2.cnt);omega
   ·rfl
  rw [if_neg ht]
  refine ZhE rfl ?_
  by_cases hb:k.hd="box"
  ·rw [if_pos hb]
   cases k <;> first | exact absurd hb (by simp only [Kd.hd];decide) | skip
   rename_i a1
   have d1:=ZaF (k:=.box a1) (c:=a1) (by simp [Kd.kids])
   simp only [L3.ZaN,Zap,L3.Zab,L3.Zan,Zal,Zaq,Zag,gC,Kd.enc,List.getElem?_cons_zero,List.getElem?_cons_succ,ixW,ZbZ,Zaf]
   refine ⟨s,x1,b,r,a1,rfl,Zaw w1 (by simp [Kd.kids]),by omega,h1,fun k1 x2 g1=>⟨(show 2≤sizeLine by decide),?_⟩⟩
   rw [Zbm]
   obtain ⟨⟨u1,u2,u3⟩,u4⟩:=g1
   refine q (.box k1) x2 ⟨⟨Zot u1,?_,?_⟩,rfl⟩
   ·show 1+k1.dp≤1+a1.dp;omega
   ·show 1+k1.cnt≤1+a1.cnt;omega
  rw [if_neg hb]
  refine ZmS rfl ?_
  by_cases hr:k.hd="row"
  ·rw [if_pos hr]
   obtain ⟨fs,o,rfl⟩:=ZfO hr
   obtain ⟨l,rfl⟩:∃ l,fs=ofL l:=⟨fs.toL,(Zie fs).symm⟩
   obtain ⟨p5,l5,hy⟩:=Zmp w1
   have el:(Kd.row (ofL l) o).enc=.tup [.str "row",.tup (l.map ZbT),.bl o]:=by rw [← Zer];rfl
   rw [el]
   simp only [ZaB,Zbh,gB,Zb9,Ze9,Zal,Zaq,Zag,gC,L3.Zab,L3.Zan,List.getElem?_cons_zero,List.getElem?_cons_succ,ixW,ZbZ,Zaf]
   refine ZoN (n:=n) l none none none _ x1 [] (fun y hm=>⟨(hy y hm).2,?_⟩) (by simp only [List.length_nil];omega) h1 fun l' x2 A en=>?_
   ·have e1:=Zpd (l:=l) y hm
    have e2:1+(ofL l).dp≤n+1:=hd
    omega
   ·rw [Zbm,List.nil_append]
    intro p1 hp1
    have n1:s≠p1:=ZaK Zah hp1
    show opt (Zfv [.ref p1] _) _
    rw [show Zfv [.ref p1] (put (put G s (S2 x2 b r)) p1 (.lst (l'.map ZbT)))=some (.tup (l'.map ZbT)) by unfold Zfv;dsimp only;rw [Zfo Zah];rfl,Zaf]
    have s1:Sub (put G s (S2 x2 b r)) (put (put G s (S2 x2 b r)) p1 (.lst (l'.map ZbT))):=Zbb hp1
    have h2:put (put G s (S2 x2 b r)) p1 (.lst (l'.map ZbT)) s=some (S2 x2 b r):=s1 _ _ Zah
    generalize put (put G s (S2 x2 b r)) p1 (.lst (l'.map ZbT))=G1 at s1 h2 ⊢
    show ZaB (gIf _ _ Zax) _ (ZaX Q) [some (.ref s),some (.tup [.str "row",.tup (l.map ZbT),.bl o]),some (.int i),some (.tup (l'.map ZbT))] G1
    have hl':l'.length=l.length:=by have:=congrArg List.length en;simpa using this
    refine ZfG rfl ?_
    by_cases z1:i=1
    ·rw [if_pos z1]
     simp only [L3.ZaN,gB,Zb9,Zbv,Zag,gC,L3.Zab,L3.Zan,List.getElem?_cons_zero,List.getElem?_cons_succ]
     refine ZlP l' none G1 x2 [] (by simp only [List.length_nil];omega) h2 fun l2 x3 hsub=>?_
     rw [List.nil_append]
     intro p2 hp2
     show opt (Zfv [.ref p2] _) _
     rw [show Zfv [.ref p2] (put (put G1 s (S2 x3 b r)) p2 (.lst (l2.map ZbT)))=some (.tup (l2.map ZbT)) by unfold Zfv;dsimp only;rw [Zfo Zah];rfl,Zaf]
     refine ⟨(show 3≤sizeLine by decide),?_⟩
     have:=q (.row (ofL l2) true) x3 (ZrB (A.sub hsub) w1 (.inl rfl))
     rw [show (Kd.row (ofL l2) true).enc=.tup [.str "row",.tup (l2.map ZbT),.bl true] by rw [← Zer];rfl] at this
     refine hC _ _ _ (Zcw (fun a u hu=>?_) hp2) this
     by_cases ha:a=s
     ·subst ha;rw [Zah] at hu ⊢;exact hu
     ·rw [Zat ha] at hu ⊢;exact s1 _ _ (by rw [Zat ha];exact hu)
    ·rw [if_neg z1]
     simp only [ZaL,L3.ZaN,Zal,Zaq,Zag,gC,L3.Zab,L3.Zan,List.getElem?_cons_zero,List.getElem?_cons_succ,ixW,Zc7,Zaf]
     refine ⟨(show 3≤sizeLine by decide),?_⟩
     have:=q (.row (ofL l') o) x2 (ZrB A w1 (.inr ⟨rfl,en⟩))
     rw [show (Kd.row (ofL l') o).enc=.tup [.str "row",.tup (l'.map ZbT),.bl o] by rw [← Zer];rfl] at this
     exact hC _ _ _ s1 this
  ·rw [if_neg hr]
   exact q k x1 ⟨⟨w1,Nat.le_refl _,Nat.le_refl _⟩,rfl⟩
set_option maxHeartbeats 1000000
def Zsc (n:Nat):Spw:=fun ws G Q _=>∃ (s:Addr) (x:Int) (b:Bool) (r:List W) (k:Kd),ws=[.ref s,k.enc]∧wf k∧k.dp≤n∧G s=some (S2 x b r)∧∀ (k':Kd) (x':Int),sml k' k→Q k'.enc (put G s (S2 x' b r))
theorem Zq4 {n:Nat}:Spw.M (Zsc n):=(by rintro ws G Q Q' E E' h _ ⟨s,x,b,r,k,h1,h2,h3,h4,q⟩;exact ⟨s,x,b,r,k,h1,h2,h3,h4,fun k' x' z=>h _ _ (q k' x' z)⟩)
abbrev otR:Bool→Kd→Bool→Kd→Prop:=fun _ k' _ k=>sml k' k
abbrev gOA (sp:Spw):GS:=gIf (gTB (Zal (Zhq fun i j=>decide (j < i)) (Zap Ze7 (fun _ _ _=>False) (L3.Zab (Zag 0) (L3.Zab (gC (.int 8)) L3.Zan))) (gC (.int 0)))) (ZbA (gMt Zfc Zlb (Zag 3) (L3.Zab (L3.ZaN (L3.Zab (Zag 4) (L3.Zab (Zag 5) (L3.Zab (Zap sp (fun _ _ _=>False) (L3.Zab (Zag 0) (L3.Zab (Zag 6) L3.Zan))) L3.Zan)))) L3.Zan))) Zax
abbrev gOB (sp:Spw):GS:=ZaB (gIf (gTB (Zal (Zaq (eqF false)) (Zap Ze7 (fun _ _ _=>False) (L3.Zab (Zag 0) (L3.Zab (gC (.int 8)) L3.Zan))) (gC (.int 1)))) (Zbh 5 (Zal (Zaq ixW) (Zcr (L3.Zab (gC (.str "must")) (L3.Zab (gC (.str "may")) L3.Zan))) (Zap Ze7 (fun _ _ _=>False) (L3.Zab (Zag 0) (L3.Zab (gC (.int 2)) L3.Zan))))) Zax) (gOA sp)
theorem ZlQ {n:Nat} {D:Ew} {s p:Addr} {b:Bool} {r:List W} {w1 w2:Option W} (nps:p≠s):∀ (l dn:List (Str×Bool×Kd)) (o4 o5 o6:Option W) (G:Hw) (x:Int),(∀ y∈l,wf y.2.2∧y.2.2.dp≤n)→dn.length+l.length≤100→G s=some (S2 x b r)→G p=some (.lst (dn.map ZbT)) →
  (∀ ω G' l2 x',(∃ u v t,ω=[some (.ref s),w1,w2,some (.ref p),u,v,t])→G' s=some (S2 x' b r)→G' p=some (.lst ((dn++l2).map ZbT))→(∀ c,c≠s→c≠p→∀ u,G c=some u→G' c=some u)→Al otR l2 l→D.nx ω G') →
  Zdn yes (ZnB 4 5 6) (gOB (Zsc n)) D (l.map ZbT) [some (.ref s),w1,w2,some (.ref p),o4,o5,o6] G
 | [],dn,o4,o5,o6,G,x,_,_,hs,hp,fin=>⟨trivial,fin _ G [] x ⟨o4,o5,o6,rfl⟩ hs (by rw [List.append_nil];exact hp) (fun b _ _ u h=>h) .nil⟩
 | u::l,dn,o4,o5,o6,G,x,hg,hl,hs,hp,fin=>by
  rw [List.length_cons] at hl
  have app:∀ (mk:Bool) (G1:Hw) (x:Int),G1 s=some (S2 x b r)→G1 p=some (.lst (dn.map ZbT))→(∀ c,c≠s→c≠p→∀ u,G c=some u→G1 c=some u) →
    gOA (Zsc n) { nx:=Zdn yes (ZnB 4 5 6) (gOB (Zsc n)) D (l.map ZbT),rt:=D.rt,bk:=D.nx,ct:=Zdn yes (ZnB 4 5 6) (gOB (Zsc n)) D (l.map ZbT) } [some (.ref s),w1,w2,some (.ref p),some (.str u.1),some (.str (Zdf mk)),some u.2.2.enc] G1:=by
   intro mk G1 x hs hp hk
   obtain ⟨g1,g2⟩:=hg u List.mem_cons_self
   simp only [gIf,gTB,Zal,Zap,Zhq,Zag,gC,List.getElem?_cons_zero,List.getElem?_cons_succ,ZbA,gMt,L3.Zab,L3.Zan,L3.ZaN,Zax]
   refine ⟨s,8,x,b,r,rfl,by decide,by decide,hs,fun i x1 _ _=>?_⟩
   have h1s:put G1 s (S2 x1 b r) s=some (S2 x1 b r):=Zah
   have h1p:put G1 s (S2 x1 b r) p=some (.lst (dn.map ZbT)):=by rw [Zat nps];exact hp
   refine Zwz (fun h=>?_) (fun h=>?_)
   ·refine ⟨Zd2 h1p,s,x1,b,r,u.2.2,rfl,g1,g2,h1s,fun k' x2 hk'=>⟨(show 3≤sizeLine by decide),?_⟩⟩
    rw [Zbm]
    refine Zh5 (by rw [Zat nps];exact hp) (by rw [List.length_map];exact ZfH (by omega)) ?_
    have ee:dn.map ZbT++[W.tup [.str u.1,.str (Zdf mk),k'.enc]]=(dn++[(u.1,mk,k')]).map ZbT:=by rw [List.map_append];rfl
    rw [ee]
    refine ZlQ nps l (dn++[(u.1,mk,k')]) _ _ _ _ x2 (fun v hv=>hg v (List.mem_cons_of_mem _ hv)) (by rw [List.length_append];simp only [List.length_cons,List.length_nil];omega) (by rw [Zat (Ne.symm nps)];exact Zah) Zah fun ω G' l2 x' hω f1 f2 f3 L=>?_
    exact fin ω G' ((u.1,mk,k')::l2) x' hω f1 (by rw [f2,List.append_assoc];rfl) (fun c b1 b2 v hv=>f3 c b1 b2 v (by rw [Zat b2,Zat b1];exact hk c b1 b2 v hv)) (.cons hk' L)
   ·refine ZlQ nps l dn _ _ _ _ x1 (fun v hv=>hg v (List.mem_cons_of_mem _ hv)) (by omega) h1s h1p fun ω G' l2 x' hω f1 f2 f3 L=>?_
    exact fin ω G' l2 x' hω f1 f2 (fun c b1 b2 v hv=>f3 c b1 b2 v (by rw [Zat b1];exact hk c b1 b2 v hv)) (.drop L)
  refine ⟨trivial,?_⟩
  show gOB (Zsc n) _ [some (.ref s),w1,w2,some (.ref p),some (.str u.1),some (.str (Zdf u.2.1)),some u.2.2.enc] G
  unfold gOB
  simp only [ZaB,gIf,gTB,Zal,Zap,Zaq,Zag,gC,List.getElem?_cons_zero,List.getElem?_cons_succ,Zbh,Zcr,L3.Zab,L3.Zan,Zax]
  refine ⟨s,8,x,b,r,rfl,by decide,by decide,hs,fun i x1 _ _=>?_⟩
  have h1s:put G s (S2 x1 b r) s=some (S2 x1 b r):=Zah
  have h1p:put G s (S2 x1 b r) p=some (.lst (dn.map ZbT)):=by rw [Zat nps];exact hp
  show opt (eqF false (.int i) (.int 1) (put G s (.lst (.int x1::.bl b::r)))) _
  rw [show eqF false (.int i) (.int 1) (put G s (.lst (.int x1::.bl b::r)))=some (.bl (i==1)) by unfold eqF eqW;show some (W.bl ((i==1) != false))=_;cases (i==1) <;> rfl,Zaf]
  dsimp only
  cases (i==1) with
  | false =>
   rw [if_neg (by decide)]
   exact app u.2.1 _ x1 h1s h1p fun c c1 c2 v hv=>by rw [Zat c1];exact hv
  | true =>
   rw [if_pos rfl]
   refine ⟨(show 2≤sizeLine by decide),fun p2 hp2=>?_⟩
   have n2:s≠p2:=ZaK h1s hp2
   have n3:p≠p2:=ZaK h1p hp2
   refine ⟨s,2,x1,b,r,rfl,by decide,by decide,by rw [Zat n2];exact h1s,fun j x2 j0 j1=>?_⟩
   obtain ⟨m,em⟩:=Zpn j0 j1
   show opt (ixW (.ref p2) (.int j) _) _
   rw [ZcJ (by rw [Zat (Ne.symm n2)];exact Zah),em,Zaf]
   refine app m _ x2 Zah (by rw [Zat nps,Zat n3];exact h1p) fun c c1 c2 v hv=>?_
   have hc:put G s (S2 x1 b r) c=some v:=by rw [Zat c1];exact hv
   rw [Zat c1,Zat (ZaK hc hp2)];exact hc
theorem Zu9 {i:Int} (h0:0≤i) (h4:i < 4):∃ k':Kd,(∀ k:Kd,sml k' k)∧atI [W.tup [.str "num"],W.tup [.str "truth"],W.tup [.str "any"],W.tup [.str "row",.tup [],.bl true]] i=some k'.enc:=by
 have:i=0∨i=1∨i=2∨i=3:=by omega
 rcases this with rfl | rfl | rfl | rfl
 ·exact ⟨.num,fun k=>⟨⟨rfl,rfl⟩,ZcZ k,Zg2 k⟩,rfl⟩
 ·exact ⟨.truth,fun k=>⟨⟨rfl,rfl⟩,ZcZ k,Zg2 k⟩,rfl⟩
 ·exact ⟨.any,fun k=>⟨⟨rfl,rfl⟩,ZcZ k,Zg2 k⟩,rfl⟩
 ·exact ⟨.row .nil true,fun k=>⟨⟨rfl,rfl⟩,ZcZ k,Zg2 k⟩,rfl⟩
theorem ZbF (T:Tx K mg base a):∀ n:Nat,Df P w K mg base "_law_other" (n+1) 2 (Zsc n)
 | 0=>Zj1 T.Zdo Zq4 fun ws G Q E ⟨s,x,b,r,k,_,_,h,_⟩=>by have:=ZcZ k;omega
 | n+1=>by
  have D:=ZbF T n
  refine mk0 (k:=n+1) T.Zdo rfl Zdm Zq4 (fun ws G Q E ⟨s,x,b,r,k,e,_⟩=>by rw [e];rfl) (ZkZ T (Zau T) (by omega) D (Nat.le_refl _)) fun ws G Q E hC q=>?_
  obtain ⟨s,x,b,r,k,rfl,w1,hd,hs,q⟩:=q
  unfold Zhp
  show ZaB (Zbh 2 _) _ (ZaX Q) [some (.ref s),some k.enc,none,none,none,none,none] G
  refine ⟨s,9,x,b,r,rfl,by decide,by decide,hs,fun i x1 _ _=>?_⟩
  simp only [List.set_cons_zero,List.set_cons_succ]
  have h1:put G s (S2 x1 b r) s=some (S2 x1 b r):=Zah
  refine ZfG rfl ?_
  by_cases z0:i=0
  ·rw [if_pos z0]
   simp only [Zal,Zcr,Zap,Zaq,Zag,gC,L3.ZaN,L3.Zab,L3.Zan,List.getElem?_cons_zero,List.getElem?_cons_succ]
   refine ⟨by decide,by decide,by decide,by decide,by decide,by decide,fun p hp=>?_⟩
   have n1:s≠p:=ZaK h1 hp
   refine ⟨s,4,x1,b,r,rfl,by decide,by decide,by rw [Zat n1];exact h1,fun j x2 j0 j1=>?_⟩
   obtain ⟨k',hk,ek⟩:=Zu9 j0 j1
   show opt (ixW (.ref p) (.int j) _) _
   rw [ZcJ (by rw [Zat (Ne.symm n1)];exact Zah),ek,Zaf]
   refine hC _ _ _ (fun c u hu=>?_) (q k' x2 (hk k))
   by_cases hc:c=s
   ·subst hc;rw [Zah] at hu ⊢;exact hu
   ·rw [Zat hc] at hu ⊢
    have:put G s (S2 x1 b r) c=some u:=by rw [Zat hc];exact hu
    rw [Zat (ZaK this hp)];exact this
  rw [if_neg z0]
  refine ZhE rfl ?_
  by_cases ht:k.hd="to"
  ·rw [if_pos ht]
   cases k <;> first | exact absurd ht (by simp only [Kd.hd];decide) | skip
   rename_i a1 a2
   have d1:=ZaF (k:=.to a1 a2) (c:=a1) (by simp [Kd.kids])
   have d2:=ZaF (k:=.to a1 a2) (c:=a2) (by simp [Kd.kids])
   simp only [L3.ZaN,Zap,L3.Zab,L3.Zan,Zal,Zaq,Zag,gC,Kd.enc,List.getElem?_cons_zero,List.getElem?_cons_succ,ixW,ZbZ,Zc7,Zaf]
   refine ⟨s,x1,b,r,a1,rfl,Zaw w1 (by simp [Kd.kids]),by omega,h1,fun k1 x2 g1=>⟨s,x2,b,r,a2,rfl,Zaw w1 (by simp [Kd.kids]),by omega,Zah,fun k2 x3 g2=>⟨(show 3≤sizeLine by decide),?_⟩⟩⟩
   rw [Zbm,Zbm]
   obtain ⟨u1,u2,u3⟩:=g1
   obtain ⟨v1,v2,v3⟩:=g2
   refine q (.to k1 k2) x3 ⟨ZrW u1 v1,?_,?_⟩
   ·show 1+max k1.dp k2.dp≤1+max a1.dp a2.dp;omega
   ·show 1+(k1.cnt+k2.cnt)≤1+(a1.cnt+a2.cnt);omega
  rw [if_neg ht]
  refine ZhE rfl ?_
  by_cases hb:k.hd="box"
  ·rw [if_pos hb]
   cases k <;> first | exact absurd hb (by simp only [Kd.hd];decide) | skip
   rename_i a1
   have d1:=ZaF (k:=.box a1) (c:=a1) (by simp [Kd.kids])
   simp only [L3.ZaN,Zap,L3.Zab,L3.Zan,Zal,Zaq,Zag,gC,Kd.enc,List.getElem?_cons_zero,List.getElem?_cons_succ,ixW,ZbZ,Zaf]
   refine ⟨s,x1,b,r,a1,rfl,Zaw w1 (by simp [Kd.kids]),by omega,h1,fun k1 x2 g1=>⟨(show 2≤sizeLine by decide),?_⟩⟩
   rw [Zbm]
   obtain ⟨u1,u2,u3⟩:=g1
   refine q (.box k1) x2 ⟨Zot u1,?_,?_⟩
   ·show 1+k1.dp≤1+a1.dp;omega
   ·show 1+k1.cnt≤1+a1.cnt;omega
  rw [if_neg hb]
  refine ZmS rfl ?_
  by_cases hr:k.hd="row"
  ·rw [if_pos hr]
   obtain ⟨fs,o,rfl⟩:=ZfO hr
   obtain ⟨l,rfl⟩:∃ l,fs=ofL l:=⟨fs.toL,(Zie fs).symm⟩
   obtain ⟨p5,l5,hy⟩:=Zmp w1
   have el:(Kd.row (ofL l) o).enc=.tup [.str "row",.tup (l.map ZbT),.bl o]:=by rw [← Zer];rfl
   rw [el]
   simp only [ZaB,Zbh,Zcr,L3.Zan,List.set_cons_zero,List.set_cons_succ]
   refine ⟨(show 0≤sizeLine by decide),fun p hp=>?_⟩
   have nps:p≠s:=Ne.symm (ZaK h1 hp)
   simp only [Zgo,Ze9,Zal,Zaq,Zag,gC,List.getElem?_cons_zero,List.getElem?_cons_succ,ixW,ZbZ,Zaf]
   refine ZlQ (n:=n) nps l [] none none none _ x1 (fun y hm=>⟨(hy y hm).2,?_⟩) (by simp only [List.length_nil];omega) (by rw [Zat (Ne.symm nps)];exact h1) Zah fun ω G' l2 x2 hω f1 f2 f3 L=>?_
   ·have e1:=Zpd (l:=l) y hm
    have e2:1+(ofL l).dp≤n+1:=hd
    omega
   ·obtain ⟨u,v,t,rfl⟩:=hω
    rw [List.nil_append] at f2
    simp only [ZaL,L3.ZaN,gB,rF,Zcr,ZeO,Zal,Zaq,Zag,gC,L3.Zab,L3.Zan,List.getElem?_cons_zero,List.getElem?_cons_succ,ixW,Zc7,Zaf]
    rw [show Zfv [.ref p] G'=some (.tup (l2.map ZbT)) by unfold Zfv;dsimp only;rw [Zfo f2];rfl,Zaf]
    refine ⟨(show 2≤sizeLine by decide),fun p2 hp2=>?_⟩
    show opt (eqF false (.int i) (.int 1) (put G' p2 (.lst [.bl o,.bl (!o)]))) _
    rw [show eqF false (.int i) (.int 1) (put G' p2 (.lst [.bl o,.bl (!o)]))=some (.bl (i==1)) by unfold eqF eqW;show some (W.bl ((i==1) != false))=_;cases (i==1) <;> rfl,Zaf]
    have done:∀ o':Bool,3≤sizeLine∧Q (.tup [.str "row",.tup (l2.map ZbT),.bl o']) (put G' p2 (.lst [.bl o,.bl (!o)])):=fun o'=>by
     refine ⟨by decide,?_⟩
     have:=q (.row (ofL l2) o') x2 (L.sml (fun _ _ _ _ z=>z) w1)
     rw [show (Kd.row (ofL l2) o').enc=.tup [.str "row",.tup (l2.map ZbT),.bl o'] by rw [← Zer];rfl] at this
     refine hC _ _ _ (Zcw (fun c u hu=>?_) hp2) this
     by_cases hc:c=s
     ·subst hc;rw [Zah] at hu;rw [f1];exact hu
     ·rw [Zat hc] at hu
      have h3:put G s (S2 x1 b r) c=some u:=by rw [Zat hc];exact hu
      refine f3 c hc (fun z=>?_) u (by rw [Zat (ZaK h3 hp)];exact h3)
      subst z;rw [h3] at hp;cases hp
    cases (i==1) with
    | false =>
     show opt (ixW (.ref p2) (.int 0) _) _
     rw [ZcJ Zah,Zc9,Zaf]
     exact done o
    | true =>
     show opt (ixW (.ref p2) (.int 1) _) _
     rw [ZcJ Zah,ZbZ,Zaf]
     exact done (!o)
  ·rw [if_neg hr]
   exact q k x1 ⟨w1,Nat.le_refl _,Nat.le_refl _⟩
def ZwT:Spw:=fun ws G Q _=>∃ (ns:List Int) (i:Int) (pl:Bool),ws=[.rol (ns.map W.int),.int i,.bl pl]∧0≤i∧∀ k l:Kd,kd8 k→kd8 l→Q (.tup [k.enc,l.enc]) G
theorem ZuI:Spw.M ZwT:=(by rintro ws G Q Q' E E' h _ ⟨ns,i,pl,h1,h2,q⟩;exact ⟨ns,i,pl,h1,h2,fun k l g1 g2=>h _ _ (q k l g1 g2)⟩)
theorem Zvz {k' k:Kd} (h:sml k' k) (hk:kd8 k):kd8 k':=⟨h.1,Nat.le_trans h.2.2 hk.2.1,Nat.le_trans h.2.1 hk.2.2⟩
theorem ZeZ (T:Tx K mg base a):Df P w K mg base "_law_pair" 18 3 ZwT:=by
 refine mk0 (k:=17) T.ZeT rfl ZeS ZuI (fun ws G Q E ⟨ns,i,pl,e,_⟩=>by rw [e];rfl) (ZlZ T (Zck T) (by omega) (ZbB T) (by omega) (Zau T) (by omega) (Zcc T 8) (by omega) (ZbF T 8) (by omega)) fun ws G Q E hC q=>?_
 obtain ⟨ns,i,pl,rfl,h0,q⟩:=q
 unfold Ziw
 show ZaB (Zbh 3 _) _ (ZaX Q) [some (.rol (ns.map W.int)),some (.int i),some (.bl pl),none,none,none] G
 refine ⟨ns,i,pl,false,rfl,h0,fun k hk=>?_⟩
 simp only [List.set_cons_zero,List.set_cons_succ]
 show ZaB (Zbh 4 _) _ (ZaX Q) [some (.rol (ns.map W.int)),some (.int i),some (.bl pl),some k.enc,none,none] G
 refine ⟨ns,i+1,rfl,by omega,fun s x b hs=>?_⟩
 simp only [List.set_cons_zero,List.set_cons_succ]
 show ZaB (Zbh 5 _) _ (ZaX Q) [some (.rol (ns.map W.int)),some (.int i),some (.bl pl),some k.enc,some (.ref s),none] _
 refine ⟨s,6,x,b,[],rfl,by decide,by decide,Zah,fun j x1 j0 j6=>?_⟩
 rw [Zbm]
 simp only [List.set_cons_zero,List.set_cons_succ]
 have sub:∀ o,Sub G (put G s o):=fun o=>Zbb hs
 have h1:put G s (S2 x1 b []) s=some (S2 x1 b []):=Zah
 refine ZfG rfl ?_
 by_cases z0:j=0
 ·rw [if_pos z0]
  refine ⟨ns,i+2,pl,false,rfl,by omega,fun l hl=>⟨(show 2≤sizeLine by decide),?_⟩⟩
  exact hC _ _ _ (sub _) (q k l hk hl)
 rw [if_neg z0]
 refine ZfG rfl ?_
 by_cases z1:j=1
 ·rw [if_pos z1]
  refine ⟨s,x1,b,[],k,rfl,hk.1,hk.2.2,h1,fun k' x2 g=>⟨(show 2≤sizeLine by decide),?_⟩⟩
  rw [Zbm]
  exact hC _ _ _ (sub _) (q k k' hk (Zvz g.1 hk))
 rw [if_neg z1]
 refine ZfG rfl ?_
 by_cases z2:j=2
 ·rw [if_pos z2]
  refine ⟨s,x1,b,[],k,rfl,hk.1,hk.2.2,h1,fun k' x2 g=>⟨(show 2≤sizeLine by decide),?_⟩⟩
  rw [Zbm]
  exact hC _ _ _ (sub _) (q k' k (Zvz g.1 hk) hk)
 rw [if_neg z2]
 simp only [ZaL,Zal,Zcr,Zap,L3.ZaN,Zaq,Zdk,Zag,gC,L3.Zab,L3.Zan,List.getElem?_cons_zero,List.getElem?_cons_succ]
 refine ⟨s,x1,b,[],k,rfl,hk.1,hk.2.2,h1,fun k1 x2 g1=>⟨(show 2≤sizeLine by decide),?_⟩⟩
 refine ⟨s,x2,b,[],k,rfl,hk.1,hk.2.2,Zah,fun k2 x3 g2=>⟨(show 2≤sizeLine by decide),(show 2≤sizeLine by decide),fun p hp=>⟨by decide,?_⟩⟩⟩
 rw [Zbm,Zbm] at hp ⊢
 have jj:j % 2=0∨j % 2=1:=by omega
 have S:=Zcw (sub (S2 x3 b [])) (o:=.lst [.tup [k.enc,k1.enc],.tup [k2.enc,k.enc]]) hp
 show opt (ixW (.ref p) (.int (j % 2)) _) _
 rcases jj with e | e
 ·rw [e,ZcJ Zah,Zc9,Zaf]
  exact hC _ _ _ S (q k k1 hk (Zvz g1 hk))
 ·rw [e,ZcJ Zah,ZbZ,Zaf]
  exact hC _ _ _ S (q k2 k (Zvz g2 hk) hk)
set_option Elab.async false
set_option linter.all false
set_option maxRecDepth 100000
theorem Zrp (x:Str):∀ zs:List Str,zs.Pairwise (fun x y=>Za4 x y=true)→∃ ys:List Str,ys.Pairwise (fun x y=>Za4 x y=true)∧∀ y,y∈ys↔y=x∨y∈zs
 | [],_=>⟨[x],.cons (fun _ h=>by cases h) .nil,fun y=>by simp⟩
 | z::zs,h=>by
  obtain ⟨h1,h2⟩:=List.pairwise_cons.mp h
  by_cases e:x=z
  ·exact ⟨z::zs,h,fun y=>by subst e;simp⟩
  ·cases hl:Za4 x z with
   | true =>
    refine ⟨x::z::zs,.cons (fun y hy=>?_) h,fun y=>by simp⟩
    rcases List.mem_cons.mp hy with rfl | hy
    ·exact hl
    ·exact ZqS hl (h1 y hy)
   | false =>
    obtain ⟨ys,p,m⟩:=Zrp x zs h2
    refine ⟨z::ys,.cons (fun y hy=>?_) p,fun y=>?_⟩
    ·rcases (m y).mp hy with rfl | hy
     ·exact ZrK hl e
     ·exact h1 y hy
    ·rw [List.mem_cons,m,List.mem_cons]
     constructor
     ·rintro (z | z | z)
      ·exact .inr (.inl z)
      ·exact .inl z
      ·exact .inr (.inr z)
     ·rintro (z | z | z)
      ·exact .inr (.inl z)
      ·exact .inl z
      ·exact .inr (.inr z)
theorem Zrl:∀ xs:List Str,∃ ys:List Str,ys.Pairwise (fun x y=>Za4 x y=true)∧∀ y,y∈ys↔y∈xs
 | []=>⟨[],.nil,fun _=>Iff.rfl⟩
 | x::xs=>by
  obtain ⟨ys,p,m⟩:=Zrl xs
  obtain ⟨zs,p',m'⟩:=Zrp x ys p
  exact ⟨zs,p',fun y=>by rw [m',m,List.mem_cons]⟩
theorem ZhD {fs gs:Fs} {x:Str}:x∈ZnD fs gs↔x∈fs.names∨x∈gs.names:=by
 obtain ⟨ys,p,m⟩:=Zrl (fs.names++gs.names)
 have h:∃ zs:List Str,zs.Pairwise (fun x y=>Za4 x y=true)∧∀ x,x∈zs↔x∈fs.names∨x∈gs.names:=⟨ys,p,fun x=>by rw [m,List.mem_append]⟩
 unfold ZnD
 rw [dif_pos h]
 exact (Classical.choose_spec h).2 x
theorem ZjQ (fs gs:Fs):(ZnD fs gs).Pairwise (fun x y=>Za4 x y=true):=by
 unfold ZnD
 by_cases h:∃ zs:List Str,zs.Pairwise (fun x y=>Za4 x y=true)∧∀ x,x∈zs↔x∈fs.names∨x∈gs.names
 ·rw [dif_pos h];exact (Classical.choose_spec h).1
 ·rw [dif_neg h];exact .nil
theorem Zin (fs gs:Fs):ZnD fs gs=ZnD gs fs:=Zhz (ZjQ fs gs) (ZjQ gs fs) fun x=>by rw [ZhD,ZhD];exact Or.comm
theorem ZqG {xs:List Str} (h:xs.Pairwise (fun x y=>Za4 x y=true)):xs.Nodup:=h.imp fun z e=>by subst e;rw [Zkq] at z;cases z
theorem ZkX {fs:Fs} {o:Bool} (h:wf (.row fs o)):fs.names.length≤5:=by
 have h':(decide (fs.names.length≤5)&&fs.thr)=true:=h.2
 simp only [Bool.and_eq_true,decide_eq_true_eq] at h'
 exact h'.1
theorem ZfJ {fs gs:Fs} {o p:Bool} (w1:wf (.row fs o)) (w2:wf (.row gs p)):(ZnD fs gs).length≤10:=by
 have:=ZeC (ZqG (ZjQ fs gs)) (xs:=fs.names++gs.names) fun x hx=>List.mem_append.mpr (ZhD.mp hx)
 rw [List.length_append] at this
 have h1:=ZkX w1
 have h2:=ZkX w2
 omega
theorem ZhZ {fs:Fs} {o:Bool} (w:wf (.row fs o)):ZnD fs fs=fs.names:=Zhz (ZjQ fs fs) (Zro w.1).1 fun x=>by rw [ZhD,or_self]
theorem Zd8 {fs:Fs} {o:Bool} {x:Str} {m:Bool} {k:Kd}:ent fs o x=.told m k↔fs.find x=some (m,k):=by
 unfold ent
 cases e:fs.find x with
 | none=>cases o <;> simp
 | some u=>obtain ⟨m',k'⟩:=u;simp
def jE (f:Kd→Kd→Kd):En→En→Option (Bool×Kd)
 | .told m k,.told m' k'=>if m=m' then some (m,f k k') else none
 | _,_=>none
def jF (f:Kd→Kd→Kd) (fs gs:Fs) (o p:Bool) (x:Str):Option (Str×Bool×Kd):=(jE f (ent fs o x) (ent gs p x)).map fun u=>(x,u.1,u.2)
noncomputable def jL (f:Kd→Kd→Kd) (fs gs:Fs) (o p:Bool):List (Str×Bool×Kd):=(ZnD fs gs).filterMap (jF f fs gs o p)
noncomputable def jN (f:Kd→Kd→Kd) (fs gs:Fs) (o p:Bool):Bool:=(ZnD fs gs).any fun x=>(jE f (ent fs o x) (ent gs p x)).isNone
noncomputable def Za6:Nat→Kd→Kd→Kd
 | 0,_,_=>.any
 | _+1,.num,.num=>.num
 | _+1,.truth,.truth=>.truth
 | n+1,.to a b,.to c d=>.to (Za6 n a c) (Za6 n b d)
 | n+1,.box a,.box b=>.box (Za6 n a b)
 | n+1,.row fs o,.row gs p=>.row (ofL (jL (Za6 n) fs gs o p)) (o||p||jN (Za6 n) fs gs o p)
 | _+1,_,_=>.any
def eE (f:Kd→Kd→Kd):En→En→Option (Bool×Kd)
 | .told m k,.told m' k'=>some (m&&m',f k k')
 | .nope,.told _ k=>some (false,k)
 | .told _ k,.nope=>some (false,k)
 | _,_=>none
def eF (f:Kd→Kd→Kd) (fs gs:Fs) (o p:Bool) (x:Str):Option (Str×Bool×Kd):=(eE f (ent fs o x) (ent gs p x)).map fun u=>(x,u.1,u.2)
noncomputable def eL (f:Kd→Kd→Kd) (fs gs:Fs) (o p:Bool):List (Str×Bool×Kd):=(ZnD fs gs).filterMap (eF f fs gs o p)
noncomputable def Zdu:Nat→Kd→Kd→Kd
 | 0,_,_=>.any
 | _+1,.num,.num=>.num
 | _+1,.truth,.truth=>.truth
 | n+1,.to a b,.to c d=>.to (Za6 n a c) (Zdu n b d)
 | n+1,.box a,.box b=>.box (Za6 n a b)
 | n+1,.row fs o,.row gs p=>.row (ofL (eL (Zdu n) fs gs o p)) (o||p)
 | _+1,_,_=>.any
theorem Zob {f:Kd→Kd→Kd} {e e':En} {m:Bool} {j:Kd} (h:jE f e e'=some (m,j)):∃ k k',e=.told m k∧e'=.told m k'∧j=f k k':=by
 cases e <;> cases e' <;> first | (cases h;done) | skip
 rename_i m1 k m2 k'
 have h':(if m1=m2 then some (m1,f k k') else none)=some (m,j):=h
 split at h'
 ·rename_i e;subst e;cases h';exact ⟨k,k',rfl,rfl,rfl⟩
 ·cases h'
theorem ZlT {f:Kd→Kd→Kd} {m:Bool} {k k':Kd}:jE f (.told m k) (.told m k')=some (m,f k k'):=if_pos rfl
theorem ZrQ {f:Kd→Kd→Kd} {fs gs:Fs} {o p:Bool} {u:Str×Bool×Kd} (h:u∈jL f fs gs o p):∃ k k',ent fs o u.1=.told u.2.1 k∧ent gs p u.1=.told u.2.1 k'∧u.2.2=f k k':=by
 obtain ⟨x,hx,e⟩:=List.mem_filterMap.mp h
 unfold jF at e
 obtain ⟨⟨m,j⟩,e1,e2⟩:=Option.map_eq_some_iff.mp e
 cases e2
 exact Zob e1
theorem ZoG {f:Kd→Kd→Kd} {e e':En} {m:Bool} {j:Kd} (h:eE f e e'=some (m,j)):(∃ m' ,e=.told m' j∨e'=.told m' j)∨∃ m1 k m2 k',e=.told m1 k∧e'=.told m2 k'∧j=f k k':=by
 cases e <;> cases e' <;> first | (cases h;done) | skip
 ·rename_i m' k;cases h;exact .inl ⟨m',.inr rfl⟩
 ·rename_i m' k;cases h;exact .inl ⟨m',.inl rfl⟩
 ·rename_i m1 k m2 k';cases h;exact .inr ⟨m1,k,m2,k',rfl,rfl,rfl⟩
theorem Zrc {f:Kd→Kd→Kd} {fs gs:Fs} {o p:Bool} {u:Str×Bool×Kd} (h:u∈eL f fs gs o p):(∃ m,ent fs o u.1=.told m u.2.2∨ent gs p u.1=.told m u.2.2)∨∃ m1 k m2 k',ent fs o u.1=.told m1 k∧ent gs p u.1=.told m2 k'∧u.2.2=f k k':=by
 obtain ⟨x,hx,e⟩:=List.mem_filterMap.mp h
 unfold eF at e
 obtain ⟨⟨m,j⟩,e1,e2⟩:=Option.map_eq_some_iff.mp e
 cases e2
 exact ZoG e1
theorem Zkw {fs:Fs} {k:Kd} (h:k∈fs.kinds):k.dp≤fs.dp:=by
 have:=ZaF (k:=.row fs true) (c:=k) h
 have e:(Kd.row fs true).dp=1+fs.dp:=rfl
 omega
theorem Zgd:∀ (m:Nat) (a b:Kd),(Za6 m a b).dp≤a.dp
 | 0,a,b=>ZcZ a
 | m+1,a,b=>by
  cases a <;> cases b <;> first | exact ZcZ _ | skip
  ·rename_i a1 a2 b1 b2
   have h1:=Zgd m a1 b1
   have h2:=Zgd m a2 b2
   show 1+max (Za6 m a1 b1).dp (Za6 m a2 b2).dp≤1+max a1.dp a2.dp;omega
  ·rename_i a1 b1
   have h1:=Zgd m a1 b1
   show 1+(Za6 m a1 b1).dp≤1+a1.dp;omega
  ·rename_i fs o gs p
   have:(ofL (jL (Za6 m) fs gs o p)).dp≤fs.dp:=Zkn _ fun y hy=>by
    obtain ⟨k,k',e1,e2,e3⟩:=ZrQ hy
    rw [e3]
    exact Nat.le_trans (Zgd m k k') (Zkw (Zdv (Zd8.mp e1)).1)
   show 1+(ofL (jL (Za6 m) fs gs o p)).dp≤1+fs.dp;omega
theorem Zjx:∀ (m:Nat) (a b:Kd),(Zdu m a b).dp≤max a.dp b.dp
 | 0,a,b=>Nat.le_trans (ZcZ a) (Nat.le_max_left _ _)
 | m+1,a,b=>by
  cases a <;> cases b <;> first | exact Nat.le_trans (ZcZ _) (Nat.le_max_left _ _) | skip
  ·rename_i a1 a2 b1 b2
   have h1:=Zgd m a1 b1
   have h2:=Zjx m a2 b2
   show 1+max (Za6 m a1 b1).dp (Zdu m a2 b2).dp≤max (1+max a1.dp a2.dp) (1+max b1.dp b2.dp);omega
  ·rename_i a1 b1
   have h1:=Zgd m a1 b1
   show 1+(Za6 m a1 b1).dp≤max (1+a1.dp) (1+b1.dp);omega
  ·rename_i fs o gs p
   have:(ofL (eL (Zdu m) fs gs o p)).dp≤max fs.dp gs.dp:=Zkn _ fun y hy=>by
    rcases Zrc hy with ⟨m',e | e⟩ | ⟨m1,k,m2,k',e1,e2,e3⟩
    ·have:=Zkw (Zdv (Zd8.mp e)).1;omega
    ·have:=Zkw (Zdv (Zd8.mp e)).1;omega
    ·have h1:=Zkw (Zdv (Zd8.mp e1)).1
     have h2:=Zkw (Zdv (Zd8.mp e2)).1
     have h3:=Zjx m k k'
     rw [e3];omega
   show 1+(ofL (eL (Zdu m) fs gs o p)).dp≤max (1+fs.dp) (1+gs.dp);omega
theorem ZsF {f:Kd→Kd→Kd} (hf:∀ a b,f a b=f b a) (e e':En):jE f e e'=jE f e' e:=by
 cases e <;> cases e' <;> first | rfl | skip
 rename_i m k m' k'
 show (if m=m' then some (m,f k k') else none)=if m'=m then some (m',f k' k) else none
 by_cases h:m=m'
 ·subst h;rw [hf]
 ·rw [if_neg h,if_neg (fun z=>h z.symm)]
theorem Zsr {f:Kd→Kd→Kd} (hf:∀ a b,f a b=f b a) (e e':En):eE f e e'=eE f e' e:=by
 cases e <;> cases e' <;> first | rfl | skip
 rename_i m k m' k'
 show some (m&&m',f k k')=some (m'&&m,f k' k)
 rw [hf,Bool.and_comm]
theorem Zew:∀ (m:Nat) (a b:Kd),Za6 m a b=Za6 m b a
 | 0,_,_=>rfl
 | m+1,a,b=>by
  cases a <;> cases b <;> first | rfl | skip
  ·rename_i a1 a2 b1 b2
   show Kd.to (Za6 m a1 b1) (Za6 m a2 b2)=Kd.to (Za6 m b1 a1) (Za6 m b2 a2)
   rw [Zew m a1,Zew m a2]
  ·rename_i a1 b1
   show Kd.box (Za6 m a1 b1)=Kd.box (Za6 m b1 a1)
   rw [Zew m a1]
  ·rename_i fs o gs p
   have h:∀ x,jE (Za6 m) (ent fs o x) (ent gs p x)=jE (Za6 m) (ent gs p x) (ent fs o x):=fun x=>ZsF (Zew m) _ _
   show Kd.row (ofL (jL (Za6 m) fs gs o p)) (o||p||jN (Za6 m) fs gs o p)=Kd.row (ofL (jL (Za6 m) gs fs p o)) (p||o||jN (Za6 m) gs fs p o)
   have e1:jL (Za6 m) fs gs o p=jL (Za6 m) gs fs p o:=by
    unfold jL
    rw [Zin];congr 1;funext x;unfold jF;rw [h]
   have e2:jN (Za6 m) fs gs o p=jN (Za6 m) gs fs p o:=by
    unfold jN
    rw [Zin];congr 1;funext x;rw [h]
   rw [e1,e2,Bool.or_comm o p]
theorem Zh0:∀ (m:Nat) (a b:Kd),Zdu m a b=Zdu m b a
 | 0,_,_=>rfl
 | m+1,a,b=>by
  cases a <;> cases b <;> first | rfl | skip
  ·rename_i a1 a2 b1 b2
   show Kd.to (Za6 m a1 b1) (Zdu m a2 b2)=Kd.to (Za6 m b1 a1) (Zdu m b2 a2)
   rw [Zew m a1,Zh0 m a2]
  ·rename_i a1 b1
   show Kd.box (Za6 m a1 b1)=Kd.box (Za6 m b1 a1)
   rw [Zew m a1]
  ·rename_i fs o gs p
   have h:∀ x,eE (Zdu m) (ent fs o x) (ent gs p x)=eE (Zdu m) (ent gs p x) (ent fs o x):=fun x=>Zsr (Zh0 m) _ _
   show Kd.row (ofL (eL (Zdu m) fs gs o p)) (o||p)=Kd.row (ofL (eL (Zdu m) gs fs p o)) (p||o)
   have e1:eL (Zdu m) fs gs o p=eL (Zdu m) gs fs p o:=by
    unfold eL
    rw [Zin];congr 1;funext x;unfold eF;rw [h]
   rw [e1,Bool.or_comm o p]
theorem Zlw {F:Str→Option (Str×Bool×Kd)}:∀ l:List (Str×Bool×Kd),(∀ y∈l,F y.1=some y)→(l.map (·.1)).filterMap F=l
 | [],_=>rfl
 | y::l,h=>by
  rw [List.map_cons,List.filterMap_cons_some (h y List.mem_cons_self),Zlw l fun z hz=>h z (List.mem_cons_of_mem _ hz)]
theorem Zrs {l:List (Str×Bool×Kd)} {o:Bool} (w:wf (.row (ofL l) o)) {y:Str×Bool×Kd} (hy:y∈l):ent (ofL l) o y.1=.told y.2.1 y.2.2:=Zd8.mpr (Zms (Zmp w).1 hy)
theorem ZeE:∀ (m:Nat) {a:Kd},wf a→a.dp≤m→Za6 m a a=a
 | 0,a,_,h=>by have:=ZcZ a;omega
 | m+1,a,w,h=>by
  cases a with
  | any=>rfl
  | num=>rfl
  | truth=>rfl
  | to x y =>
   have h1:=ZaF (k:=.to x y) (c:=x) (by simp [Kd.kids])
   have h2:=ZaF (k:=.to x y) (c:=y) (by simp [Kd.kids])
   show Kd.to (Za6 m x x) (Za6 m y y)=_
   rw [ZeE m (Zaw w (by simp [Kd.kids])) (by omega),ZeE m (Zaw w (by simp [Kd.kids])) (by omega)]
  | box x =>
   have h1:=ZaF (k:=.box x) (c:=x) (by simp [Kd.kids])
   show Kd.box (Za6 m x x)=_
   rw [ZeE m (Zaw w (by simp [Kd.kids])) (by omega)]
  | row fs o =>
   obtain ⟨l,rfl⟩:∃ l,fs=ofL l:=⟨fs.toL,(Zie fs).symm⟩
   have hs:∀ y∈l,jE (Za6 m) (ent (ofL l) o y.1) (ent (ofL l) o y.1)=some (y.2.1,y.2.2):=fun y hy=>by
    have e:=Zrs w hy
    have hk:=Zcq e
    have hd:=ZaF (k:=.row (ofL l) o) hk
    rw [e,ZlT,ZeE m (Zaw w hk) (by omega)]
   have hL:jL (Za6 m) (ofL l) (ofL l) o o=l:=by
    unfold jL
    rw [ZhZ w,ZcO]
    exact Zlw l fun y hy=>by unfold jF;rw [hs y hy];rfl
   have hN:jN (Za6 m) (ofL l) (ofL l) o o=false:=by
    unfold jN
    rw [ZhZ w,ZcO,List.any_eq_false]
    intro x hx
    obtain ⟨y,hy,rfl⟩:=List.mem_map.mp hx
    rw [hs y hy];exact Bool.false_ne_true
   show Kd.row (ofL (jL (Za6 m) (ofL l) (ofL l) o o)) (o||o||jN (Za6 m) (ofL l) (ofL l) o o)=_
   rw [hL,hN,Bool.or_self,Bool.or_false]
theorem ZhW:∀ (m:Nat) {a:Kd},wf a→a.dp≤m→Zdu m a a=a
 | 0,a,_,h=>by have:=ZcZ a;omega
 | m+1,a,w,h=>by
  cases a with
  | any=>rfl
  | num=>rfl
  | truth=>rfl
  | to x y =>
   have h1:=ZaF (k:=.to x y) (c:=x) (by simp [Kd.kids])
   have h2:=ZaF (k:=.to x y) (c:=y) (by simp [Kd.kids])
   show Kd.to (Za6 m x x) (Zdu m y y)=_
   rw [ZeE m (Zaw w (by simp [Kd.kids])) (by omega),ZhW m (Zaw w (by simp [Kd.kids])) (by omega)]
  | box x =>
   have h1:=ZaF (k:=.box x) (c:=x) (by simp [Kd.kids])
   show Kd.box (Za6 m x x)=_
   rw [ZeE m (Zaw w (by simp [Kd.kids])) (by omega)]
  | row fs o =>
   obtain ⟨l,rfl⟩:∃ l,fs=ofL l:=⟨fs.toL,(Zie fs).symm⟩
   have hL:eL (Zdu m) (ofL l) (ofL l) o o=l:=by
    unfold eL
    rw [ZhZ w,ZcO]
    refine Zlw l fun y hy=>?_
    have e:=Zrs w hy
    have hk:=Zcq e
    have hd:=ZaF (k:=.row (ofL l) o) hk
    unfold eF
    rw [e]
    show some (y.1,y.2.1&&y.2.1,Zdu m y.2.2 y.2.2)=_
    rw [ZhW m (Zaw w hk) (by omega),Bool.and_self]
   show Kd.row (ofL (eL (Zdu m) (ofL l) (ofL l) o o)) (o||o)=_
   rw [hL,Bool.or_self]
mutual
def Kd.ten:Kd→Bool
 | .to a b=>a.ten&&b.ten
 | .box a=>a.ten
 | .row fs _=>decide (fs.names.length≤10)&&fs.ten
 | _=>true
def Fs.ten:Fs→Bool
 | .nil=>true
 | .cons _ _ k r=>k.ten&&r.ten
end
mutual
theorem ZgU:∀ {k:Kd},k.thr=true→k.ten=true
 | .any,_=>rfl
 | .num,_=>rfl
 | .truth,_=>rfl
 | .to a b,h=>by
  have h':(a.thr&&b.thr)=true:=h
  simp only [Bool.and_eq_true] at h'
  show (a.ten&&b.ten)=true
  rw [ZgU h'.1,ZgU h'.2];rfl
 | .box a,h=>ZgU (k:=a) h
 | .row fs o,h=>by
  have h':(decide (fs.names.length≤5)&&fs.thr)=true:=h
  simp only [Bool.and_eq_true,decide_eq_true_eq] at h'
  show (decide (fs.names.length≤10)&&fs.ten)=true
  rw [decide_eq_true (by omega),Zmk h'.2];rfl
theorem Zmk:∀ {fs:Fs},fs.thr=true→fs.ten=true
 | .nil,_=>rfl
 | .cons _ _ k r,h=>by
  have h':(k.thr&&r.thr)=true:=h
  simp only [Bool.and_eq_true] at h'
  show (k.ten&&r.ten)=true
  rw [ZgU h'.1,Zmk h'.2];rfl
end
theorem ZoB:∀ l:List (Str×Bool×Kd),(∀ y∈l,y.2.2.ten=true)→(ofL l).ten=true
 | [],_=>rfl
 | y::l,h=>by
  show (y.2.2.ten&&(ofL l).ten)=true
  rw [h y List.mem_cons_self,ZoB l fun z hz=>h z (List.mem_cons_of_mem _ hz)];rfl
theorem ZnQ {l:List (Str×Bool×Kd)} {o:Bool} (h:l.length≤10) (h2:∀ y∈l,y.2.2.ten=true):(Kd.row (ofL l) o).ten=true:=by
 show (decide ((ofL l).names.length≤10)&&(ofL l).ten)=true
 rw [ZcO,List.length_map,decide_eq_true h,ZoB l h2];rfl
theorem ZfA:∀ (m:Nat) {a b:Kd},wf a→wf b→(Za6 m a b).ten=true
 | 0,a,b,_,_=>rfl
 | m+1,a,b,wa,wb=>by
  cases a <;> cases b <;> first | rfl | skip
  ·rename_i a1 a2 b1 b2
   show ((Za6 m a1 b1).ten&&(Za6 m a2 b2).ten)=true
   rw [ZfA m (Zaw wa (by simp [Kd.kids])) (Zaw wb (by simp [Kd.kids])),ZfA m (Zaw wa (by simp [Kd.kids])) (Zaw wb (by simp [Kd.kids]))];rfl
  ·exact ZfA m (Zaw wa (by simp [Kd.kids])) (Zaw wb (by simp [Kd.kids]))
  ·rename_i fs o gs p
   refine ZnQ (Nat.le_trans (List.length_filterMap_le _ _) (ZfJ wa wb)) fun y hy=>?_
   obtain ⟨k,k',e1,e2,e3⟩:=ZrQ hy
   rw [e3]
   exact ZfA m (Zaw wa (Zcq e1)) (Zaw wb (Zcq e2))
theorem Zkd:∀ (m:Nat) {a b:Kd},wf a→wf b→(Zdu m a b).ten=true
 | 0,a,b,_,_=>rfl
 | m+1,a,b,wa,wb=>by
  cases a <;> cases b <;> first | rfl | skip
  ·rename_i a1 a2 b1 b2
   show ((Za6 m a1 b1).ten&&(Zdu m a2 b2).ten)=true
   rw [ZfA m (Zaw wa (by simp [Kd.kids])) (Zaw wb (by simp [Kd.kids])),Zkd m (Zaw wa (by simp [Kd.kids])) (Zaw wb (by simp [Kd.kids]))];rfl
  ·exact ZfA m (Zaw wa (by simp [Kd.kids])) (Zaw wb (by simp [Kd.kids]))
  ·rename_i fs o gs p
   refine ZnQ (Nat.le_trans (List.length_filterMap_le _ _) (ZfJ wa wb)) fun y hy=>?_
   rcases Zrc hy with ⟨m',e | e⟩ | ⟨m1,k,m2,k',e1,e2,e3⟩
   ·exact ZgU (Zaw (k:=.row fs o) wa (Zcq e)).2
   ·exact ZgU (Zaw (k:=.row gs p) wb (Zcq e)).2
   ·rw [e3];exact Zkd m (Zaw wa (Zcq e1)) (Zaw wb (Zcq e2))
set_option maxHeartbeats 4000000
section
variable {P:Program} {w:World} {K:PySem.W.Frag} {mg:Str→Option Value} {base:Heap} {a:Adr}
abbrev ZmM:List Str:=["names","entries","is_open","fields"]
theorem ZmW:ZaH ZmM ["names","entries","is_open"] (Zac Zec):=⟨rfl,rfl,rfl,by decide +kernel,rfl,by decide +kernel,by decide +kernel⟩
def Zmx:GS:=(ZaB (Zbh 3 (Zb9 (ZkI (Zab (Zag 0) (Zab (Zag 1) Zan))) 2 [] (ZiL 0 1) (gTB (Zal (Zaq (eqF true)) (Zag 1) (ZaN (Zab (gC (.str "free")) Zan)))) (Zal (Zem) (ZaN (Zab (Zag 0) Zan)) (Zag 1)))) (ZaL (ZaN (Zab (gC (.str "row")) (Zab (gB (rF Zfv) (Zab (Zag 3) Zan)) (Zab (Zag 2) Zan))))))
theorem ZqX {k:Nat} (T:Tx K mg base a) {f:Addr} {cdv:Value} {A:Around} {outer:List Env} {s:Shared} {H:Hp} {E:XK} (hr:Room k (A.deeper (envOfC "row_of" (Zac Zec) s.heap.objs.size f cdv))):Ssm (cxW P w K mg base ZmM "row_of" (Zac Zec) f cdv A outer s H E).nox (fun B=>B=H) (ZaC Zec) (Zmx) :=
 have hu:=Zfb hr
 (Zai (ZjY (i:=3) ZmW.nd rfl rfl rfl rfl (Zts (own:=["name","entry"]) (fr:=[]) (js:=[]) (scX:=Zac Zec) (n:=s.heap.objs.size+1) rfl (by decide +kernel) (by decide +kernel) (by decide +kernel) (by decide +kernel) rfl rfl rfl (by decide +kernel) rfl) (fun _=>rfl) (Zrx T.Zkg rfl rfl rfl (Zaa rfl (Zam (i:=0) rfl rfl rfl rfl) (Zaa rfl (Zam (i:=1) rfl rfl rfl rfl) Zad))) (Zse (i:=0) (j:=1) rfl (by decide) rfl rfl rfl rfl) (fun C fp s1 H1=>(Zrn (ZaG (Zd7 hu) rfl (Zam (i:=1) rfl rfl rfl rfl) (ZaE (Zaa rfl Zar Zad))))) (fun C fp s1 H1=>(Ze0 (ZaE (Zaa rfl (Zam (i:=0) rfl rfl rfl rfl) Zad)) (Zam (i:=1) rfl rfl rfl rfl)))) (Zak (Zav (ZaE (Zaa rfl Zar (Zaa rfl (ZgD Zcx (Zdq) rfl T.Zcf (by decide) rfl rfl rfl (Zaa rfl (Zam (i:=3) rfl rfl rfl rfl) Zad)) (Zaa rfl (Zam (i:=2) rfl rfl rfl rfl) Zad)))))))
abbrev Zez:List Str:=["one","other"]
theorem ZgT:ZaH Zez ["one","other"] (Zac Za1):=⟨rfl,rfl,rfl,by decide +kernel,rfl,by decide +kernel,by decide +kernel⟩
def ZeB (Za0:Spw):GS:=(ZaB (gIf (gTB (Zal (Zaq (eqF true)) (Zal (Zaq ixW) (Zag 0) (gC (.int 0))) (Zal (Zaq ixW) (Zag 1) (gC (.int 0))))) (ZaL (ZaN (Zab (gC (.str "free")) Zan))) Zax) (ZaL (ZaN (Zab (Zal (Zaq ixW) (Zag 0) (gC (.int 0))) (Zab (Zap Za0 (fun _ _ _=>False) (Zab (Zal (Zaq ixW) (Zag 0) (gC (.int 1))) (Zab (Zal (Zaq ixW) (Zag 1) (gC (.int 1))) Zan))) Zan)))))
theorem ZgW {k:Nat} (T:Tx K mg base a) {Zb1:Nat} {Za0:Spw} (ZeA:Df P w K mg base "join_of" Zb1 2 Za0) (ZeI:Zb1≤k) {f:Addr} {cdv:Value} {A:Around} {outer:List Env} {s:Shared} {H:Hp} {E:XK} (hr:Room k (A.deeper (envOfC "join_of_entries" (Zac Za1) s.heap.objs.size f cdv))):Ssm (cxW P w K mg base Zez "join_of_entries" (Zac Za1) f cdv A outer s H E).nox (fun B=>B=H) (ZaC Za1) (ZeB Za0) :=
 have hu:=Zfb hr
 (Zai (ZaZ (ZaG (Zd7 hu) rfl (Zas (fun _ _=>rfl) (Zam (i:=0) rfl rfl rfl rfl) Zae) (Zas (fun _ _=>rfl) (Zam (i:=1) rfl rfl rfl rfl) Zae)) (Zak (Zav (ZaE (Zaa rfl Zar Zad)))) Zay) (Zak (Zav (ZaE (Zaa rfl (Zas (fun _ _=>rfl) (Zam (i:=0) rfl rfl rfl rfl) Zae) (Zaa rfl (Zao ZeA (hr.mono ZeI) rfl ZaD rfl rfl rfl (Zaa rfl (Zas (fun _ _=>rfl) (Zam (i:=0) rfl rfl rfl rfl) Zae) (Zaa rfl (Zas (fun _ _=>rfl) (Zam (i:=1) rfl rfl rfl rfl) Zae) Zad))) Zad))))))
abbrev ZfW:List Str:=["one","other","names","entries"]
theorem Zep:ZaH ZfW ["one","other"] (Zac Zbc):=⟨rfl,rfl,rfl,by decide +kernel,rfl,by decide +kernel,by decide +kernel⟩
def ZfS (ZaP:Spw) (Zbi:Spw) (ZbY:Spw) (ZcS:Spw):GS:=(ZaB (Zbh 2 (Zap ZaP (fun _ _ _=>False) (Zab (Zag 0) (Zab (Zag 1) Zan)))) (ZaB (Zbh 3 (Zb9 (Zbv (Zag 2)) 1 [0,1] (gNm 0) ZgR (Zap ZbY (fun _ _ _=>False) (Zab (Zap Zbi (fun _ _ _=>False) (Zab (Zag 1) (Zab (Zag 0) Zan))) (Zab (Zap Zbi (fun _ _ _=>False) (Zab (Zag 2) (Zab (Zag 0) Zan))) Zan))))) (ZaL (Zap ZcS (fun _ _ _=>False) (Zab (Zag 2) (Zab (Zag 3) (Zab (Zht (Zal (Zaq ixW) (Zag 0) (gC (.int 2))) (Zht (Zal (Zaq ixW) (Zag 1) (gC (.int 2))) (Zal (Zaq inT) (ZaN (Zab (gC (.str "free")) Zan)) (Zag 3)))) Zan)))))))
theorem ZiQ {k:Nat} (T:Tx K mg base a) {Za5:Nat} {ZaP:Spw} (ZdI:Df P w K mg base "names_of_both" Za5 2 ZaP) (ZdR:Za5≤k) {ZcH:Nat} {Zbi:Spw} (ZeF:Df P w K mg base "entry_of" ZcH 2 Zbi) (ZeL:ZcH≤k) {Zci:Nat} {ZbY:Spw} (ZgO:Df P w K mg base "join_of_entries" Zci 2 ZbY) (ZgQ:Zci≤k) {Zd3:Nat} {ZcS:Spw} (ZjB:Df P w K mg base "row_of" Zd3 3 ZcS) (Zj7:Zd3≤k) {f:Addr} {cdv:Value} {A:Around} {outer:List Env} {s:Shared} {H:Hp} {E:XK} (hr:Room k (A.deeper (envOfC "join_of_rows" (Zac Zbc) s.heap.objs.size f cdv))):Ssm (cxW P w K mg base ZfW "join_of_rows" (Zac Zbc) f cdv A outer s H E).nox (fun B=>B=H) (ZaC Zbc) (ZfS ZaP Zbi ZbY ZcS) :=
 have hu:=Zfb hr
 (Zai (Ze5 (i:=2) Zep.nd rfl rfl rfl (Zao ZdI (hr.mono ZdR) rfl ZaD rfl rfl rfl (Zaa rfl (Zam (i:=0) rfl rfl rfl rfl) (Zaa rfl (Zam (i:=1) rfl rfl rfl rfl) Zad)))) (Zai (ZjY (i:=3) Zep.nd rfl rfl rfl rfl (Zts (own:=["name"]) (fr:=["one","other"]) (js:=[0,1]) (scX:=Zac Zbc) (n:=s.heap.objs.size+1) rfl (by decide +kernel) (by decide +kernel) (by decide +kernel) (by decide +kernel) rfl rfl rfl (by decide +kernel) rfl) (fun _=>rfl) (Zc0 (fun _ _=>rfl) (Zam (i:=2) rfl rfl rfl rfl)) (ZhA (i:=0) (by decide) rfl rfl) (fun C fp s1 H1=>Zex) (fun C fp s1 H1=>(Zao ZgO (hr.mono ZgQ) rfl ZaD rfl rfl rfl (Zaa rfl (Zao ZeF (hr.mono ZeL) rfl ZaD rfl rfl rfl (Zaa rfl (Zam (i:=1) rfl rfl rfl rfl) (Zaa rfl (Zam (i:=0) rfl rfl rfl rfl) Zad))) (Zaa rfl (Zao ZeF (hr.mono ZeL) rfl ZaD rfl rfl rfl (Zaa rfl (Zam (i:=2) rfl rfl rfl rfl) (Zaa rfl (Zam (i:=0) rfl rfl rfl rfl) Zad))) Zad))))) (Zak (Zav (Zao ZjB (hr.mono Zj7) rfl ZaD rfl rfl rfl (Zaa rfl (Zam (i:=2) rfl rfl rfl rfl) (Zaa rfl (Zam (i:=3) rfl rfl rfl rfl) (Zaa rfl (Znd (Zas (fun _ _=>rfl) (Zam (i:=0) rfl rfl rfl rfl) Zae) (Znd (Zas (fun _ _=>rfl) (Zam (i:=1) rfl rfl rfl rfl) Zae) (Zf1 (ZfU (Zpg hu) rfl (ZaE (Zaa rfl Zar Zad)) (Zam (i:=3) rfl rfl rfl rfl))))) Zad))))))))
abbrev Zlf:List Str:=["one","other"]
theorem ZoF:ZaH Zlf ["one","other"] (Zac ZdT):=⟨rfl,rfl,rfl,by decide +kernel,rfl,by decide +kernel,by decide +kernel⟩
def Zku (ZcW:Spw) (Za0:Spw):GS:=(ZaB (gIf (gTB (Zal (Zaq (eqF true)) (Zal (Zaq ixW) (Zag 0) (gC (.int 0))) (Zal (Zaq ixW) (Zag 1) (gC (.int 0))))) (ZaL (ZaN (Zab (gC (.str "any")) Zan))) Zax) (ZaB (gIf (gTB (Zal (Zaq (eqF false)) (Zal (Zaq ixW) (Zag 0) (gC (.int 0))) (gC (.str "row")))) (ZaL (Zap ZcW (fun _ _ _=>False) (Zab (Zag 0) (Zab (Zag 1) Zan)))) Zax) (ZaL (Zal (Zem) (ZaN (Zab (Zal (Zaq ixW) (Zag 0) (gC (.int 0))) Zan)) (gB (rF Zfv) (Zab (ZcX (Ziq (Zab (ZmA (Zag 0) (ZdY (gC (.int 1))) Zbn) (Zab (ZmA (Zag 1) (ZdY (gC (.int 1))) Zbn) Zan))) 2 (ZiL 0 1) ZgR (Zap Za0 (fun _ _ _=>False) (Zab (Zag 0) (Zab (Zag 1) Zan)))) Zan))))))
theorem Zpf {k:Nat} (T:Tx K mg base a) {Zdd:Nat} {ZcW:Spw} (ZiG:Df P w K mg base "join_of_rows" Zdd 2 ZcW) (ZiP:Zdd≤k) {Zb1:Nat} {Za0:Spw} (ZeA:Df P w K mg base "join_of" Zb1 2 Za0) (ZeI:Zb1≤k) {f:Addr} {cdv:Value} {A:Around} {outer:List Env} {s:Shared} {H:Hp} {E:XK} (hr:Room k (A.deeper (envOfC "join_of" (Zac ZdT) s.heap.objs.size f cdv))):Ssm (cxW P w K mg base Zlf "join_of" (Zac ZdT) f cdv A outer s H E).nox (fun B=>B=H) (ZaC ZdT) (Zku ZcW Za0) :=
 have hu:=Zfb hr
 (Zai (ZaZ (ZaG (Zd7 hu) rfl (Zas (fun _ _=>rfl) (Zam (i:=0) rfl rfl rfl rfl) Zae) (Zas (fun _ _=>rfl) (Zam (i:=1) rfl rfl rfl rfl) Zae)) (Zak (Zav (ZaE (Zaa rfl Zar Zad)))) Zay) (Zai (ZaZ (ZaG (ZaT hu) rfl (Zas (fun _ _=>rfl) (Zam (i:=0) rfl rfl rfl rfl) Zae) Zar) (Zak (Zav (Zao ZiG (hr.mono ZiP) rfl ZaD rfl rfl rfl (Zaa rfl (Zam (i:=0) rfl rfl rfl rfl) (Zaa rfl (Zam (i:=1) rfl rfl rfl rfl) Zad))))) Zay) (Zak (Zav (Ze0 (ZaE (Zaa rfl (Zas (fun _ _=>rfl) (Zam (i:=0) rfl rfl rfl rfl) Zae) Zad)) (ZgD Zcx (Zdq) rfl T.Zcf (by decide) rfl rfl rfl (Zaa rfl (ZeU (Nc:=["left","right"]) rfl (ZqD rfl (by decide +kernel) (by decide +kernel)) (fun _=>rfl) (Zth T.Zkg rfl rfl rfl (Zaa rfl (Zo8 (Zam (i:=0) rfl rfl rfl rfl) (Zh6 Zae) Zh9) (Zaa rfl (Zo8 (Zam (i:=1) rfl rfl rfl rfl) (Zh6 Zae) Zh9) Zad))) (Zoa (i:=0) (j:=1) rfl (by decide) rfl rfl rfl rfl) (fun C fp s1 H1=>Zex) (fun C fp s1 H1=>(Zao ZeA (hr.mono ZeI) rfl ZaD rfl rfl rfl (Zaa rfl (Zam (i:=0) rfl rfl rfl rfl) (Zaa rfl (Zam (i:=1) rfl rfl rfl rfl) Zad))))) Zad)))))))
end
set_option maxHeartbeats 1000000
def enJ:Option (Bool×Kd)→En
 | some u=>.told u.1 u.2
 | none=>.free
def Znn (us:List (Str×Option (Bool×Kd))):List (Str×Bool×Kd):=us.filterMap fun u=>u.2.map fun v=>(u.1,v.1,v.2)
theorem ZsZ {m:Bool} {k:Kd} (hd:k.dp≤20) (G:Hw):eqW (.tup [.str (Zdf m),k.enc]) (.tup [.str "free"]) G=some false:=by
 have h:=Zgy k
 show (if max 0 (max (dpW k.enc) 0) < 90 then Zio [.str (Zdf m),k.enc] [.str "free"] else none)=_
 rw [if_pos (by omega)]
 show (match some (Zdf m=="free"),some false with | some a,some b=>some (a&&b) | _,_=>none)=some false
 simp
theorem ZoC (G:Hw):eqW (.tup [.str "free"]) (.tup [.str "free"]) G=some true:=by
 show some (("free":Str)=="free"&&true)=some true
 simp
theorem Zju {gd:Hw→Prop} {R:List W→Hw→Prop} {G:Hw} (hgd:gd G):∀ (us:List (Str×Option (Bool×Kd))) (o o':Option W) (ys:List W),(∀ u∈us,∀ m k,u.2=some (m,k)→k.dp≤20) →
  ys.length+us.length≤sizeLine→R (ys++(Znn us).map ZbT) G→Zb4 gd (ZiL 0 1) (gTB (Zal (Zaq (eqF true)) (Zag 1) (L3.ZaN (L3.Zab (gC (.str "free")) L3.Zan)))) (Zal Zem (L3.ZaN (L3.Zab (Zag 0) L3.Zan)) (Zag 1)) R (us.map fun u=>W.tup [.str u.1,(enJ u.2).enc]) [o,o'] G ys
 | [],o,o',ys,_,_,r=>⟨hgd,by simpa [Znn] using r⟩
 | (x,e)::us,o,o',ys,h,hl,r=>by
  have hl':ys.length+(us.length+1)≤sizeLine:=hl
  refine ⟨hgd,by omega,?_⟩
  simp only [ZiL,List.set_cons_zero,List.set_cons_succ,gTB,Zal,Zag,L3.ZaN,L3.Zab,L3.Zan,gC,Zaq,List.getElem?_cons_zero,List.getElem?_cons_succ]
  refine ⟨by decide,?_⟩
  cases e with
  | none =>
   have e1:eqF true (enJ none).enc (.tup [.str "free"]) G=some (.bl false):=by unfold eqF;rw [show (enJ none).enc=.tup [.str "free"] from rfl,ZoC];rfl
   rw [e1]
   simp only [Zaf,Bool.false_eq_true,if_false]
   exact Zju hgd us _ _ ys (fun u hu=>h u (List.mem_cons_of_mem _ hu)) (by omega) (by simpa [Znn] using r)
  | some u =>
   obtain ⟨m,k⟩:=u
   have hk:=h (x,some (m,k)) List.mem_cons_self m k rfl
   have e1:eqF true (enJ (some (m,k))).enc (.tup [.str "free"]) G=some (.bl true):=by unfold eqF;rw [show (enJ (some (m,k))).enc=.tup [.str (Zdf m),k.enc] from rfl,ZsZ hk];rfl
   rw [e1]
   simp only [Zaf,if_true]
   refine ⟨(show 1≤sizeLine by decide),?_⟩
   rw [show (enJ (some (m,k))).enc=.tup [.str (Zdf m),k.enc] from rfl,Zby]
   refine ⟨(show 1+2≤sizeLine by decide),?_⟩
   refine Zju hgd us _ _ _ (fun u hu=>h u (List.mem_cons_of_mem _ hu)) (by simp only [List.length_append,List.length_cons,List.length_nil];omega) ?_
   simpa [Znn,ZbT,List.append_assoc] using r
abbrev Zoq:Spw:=spR (fun (x:List (Str×Option (Bool×Kd))×Addr×Addr×Bool) ws G=>ws=[.ref x.2.1,.ref x.2.2.1,.bl x.2.2.2]∧G x.2.1=some (.lst (x.1.map fun u=>W.str u.1))∧G x.2.2.1=some (.lst (x.1.map fun u=>(enJ u.2).enc))∧x.1.length≤100∧∀ u∈x.1,∀ m k,u.2=some (m,k)→k.dp≤20) fun x=>(Kd.row (ofL (Znn x.1)) x.2.2.2).enc
theorem Zgr {G:Hw} {p:Addr} {xs:List W} (h:G p=some (.lst xs)):rdL G (.ref p)=some xs:=by unfold rdL;dsimp only;rw [h]
theorem Zd3 (T:Tx K mg base a):Df P w K mg base "row_of" 1 3 Zoq:=by
 refine mk0 T.Zhx rfl ZmW ZcY (fun ws G Q E ⟨x,⟨e,_⟩,_⟩=>by rw [e];rfl) (ZqX T) fun ws G Q E hC q=>?_
 obtain ⟨⟨us,p1,p2,b⟩,⟨rfl,h1,h2,hl,hk⟩,q⟩:=q
 dsimp only at h1 h2 hl hk q
 unfold Zmx
 show ZaB (Zbh 3 _) _ (ZaX Q) [some (.ref p1),some (.ref p2),some (.bl b),none] G
 simp only [ZaB,Zbh,Zb9,ZkI,L3.Zab,L3.Zan,Zag,List.getElem?_cons_zero,List.getElem?_cons_succ,Zgr h1,Zgr h2]
 have ez:Zlp (us.map fun u=>W.str u.1) (us.map fun u=>(enJ u.2).enc)=us.map fun u=>W.tup [.str u.1,(enJ u.2).enc]:=by
  rw [ZhJ,List.zip_map',List.map_map];rfl
 rw [ez]
 refine Zju (G:=G) ⟨Zgr h1,Zgr h2⟩ us none none [] hk (by simp only [List.length_nil];exact Zbq (by omega)) fun p hp=>?_
 simp only [ZaL,L3.ZaN,L3.Zab,L3.Zan,gC,gB,rF,Zag,List.set_cons_zero,List.set_cons_succ,List.getElem?_cons_zero,List.getElem?_cons_succ,Zfv,Zfo Zah,Option.map_some,Zaf,ZaX,List.nil_append]
 refine ⟨(show 3≤sizeLine by decide),?_⟩
 have e:(Kd.row (ofL (Znn us)) b).enc=.tup [.str "row",.tup ((Znn us).map ZbT),.bl b]:=by rw [← Zer];rfl
 rw [e] at q
 exact hC _ _ _ (Zbb hp) q
theorem Zws {e e':En} (h:e.hd≠e'.hd) (f:Kd→Kd→Kd):jE f e e'=none:=by
 cases e <;> cases e' <;> first | rfl | skip
 rename_i m k m' k'
 exact if_neg fun z=>h (by rw [z];rfl)
abbrev Zmm (n:Nat):Spw:=spR (fun (x:Kd×Kd) ws _=>ws=[x.1.enc,x.2.enc]∧wf x.1∧wf x.2∧x.1.dp≤n) fun x=>(Za6 n x.1 x.2).enc
abbrev ZwX (n:Nat):Spw:=spR (fun (x:En×En) ws _=>ws=[x.1.enc,x.2.enc]∧(x.1.hd=x.2.hd→∃ m k k',x.1=.told m k∧x.2=.told m k')∧∀ m k m' k',x.1=.told m k→x.2=.told m' k'→wf k∧wf k'∧k.dp≤n) fun x=>(enJ (jE (Za6 n) x.1 x.2)).enc
theorem Zci (T:Tx K mg base a) {j n:Nat} (D:Df P w K mg base "join_of" j 2 (Zmm n)):Df P w K mg base "join_of_entries" (j+1) 2 (ZwX n):=by
 refine mk0 T.Zcl rfl ZgT ZcY (fun ws G Q E ⟨x,⟨e,_⟩,_⟩=>by rw [e];rfl) (ZgW T D (Nat.le_refl _)) fun ws G Q E hC q=>?_
 obtain ⟨⟨x,y⟩,⟨rfl,hs,h⟩,q⟩:=q
 dsimp only at hs h q
 unfold ZeB
 show ZaB (gIf _ _ Zax) _ (ZaX Q) [some x.enc,some y.enc] G
 refine Zgv rfl rfl (Zhh x G) (Zhh y G) ?_
 by_cases z:x.hd=y.hd
 ·rw [if_pos z]
  obtain ⟨m,k,k',rfl,rfl⟩:=hs z
  obtain ⟨w1,w2,hd⟩:=h m k m k' rfl rfl
  rw [ZlT] at q
  simp only [En.enc]
  walk_at "rd"
  exact ⟨(k,k'),⟨rfl,w1,w2,hd⟩,(show 2≤sizeLine by decide),q⟩
 ·rw [if_neg z]
  rw [Zws z] at q
  exact ⟨by decide,q⟩
set_option Elab.async false
set_option linter.all false
set_option maxRecDepth 100000
theorem ZpS (f:Kd→Kd→Kd) (fs gs:Fs) (o p:Bool) (xs:List Str):Znn (xs.map fun x=>(x,jE f (ent fs o x) (ent gs p x)))=xs.filterMap (jF f fs gs o p):=by
 unfold Znn
 rw [List.filterMap_map];rfl
theorem Zqa {fs gs:Fs} {o p:Bool} {x:Str} (hx:x∈fs.names∨x∈gs.names) (h:(ent fs o x).hd=(ent gs p x).hd):∃ m k k',ent fs o x=.told m k∧ent gs p x=.told m k':=by
 have key:∀ (fs gs:Fs) (o p:Bool),x∈fs.names→(ent fs o x).hd=(ent gs p x).hd→∃ m k k',ent fs o x=.told m k∧ent gs p x=.told m k':=fun fs gs o p hx h=>by
  obtain ⟨m,k,e,_⟩:=Zjy (o:=o) hx
  rw [e] at h ⊢
  obtain ⟨n1,n2,_⟩:=Zdr m
  cases e':ent gs p x with
  | free=>rw [e'] at h;exact absurd h n1
  | nope=>rw [e'] at h;exact absurd h n2
  | told m' k' =>
   rw [e'] at h
   have:m=m':=Zj5 h
   subst this
   exact ⟨m,k,k',rfl,rfl⟩
 rcases hx with hx | hx
 ·exact key fs gs o p hx h
 ·obtain ⟨m,k,k',e1,e2⟩:=key gs fs p o hx h.symm
  exact ⟨m,k',k,e2,e1⟩
theorem ZnN {G:Hw} {f:Kd→Kd→Kd} {fs gs:Fs} {o p:Bool}:∀ (xs:List Str),(∀ x∈xs,∀ m k,jE f (ent fs o x) (ent gs p x)=some (m,k)→k.dp≤20) →
  Zrr (.tup [.str "free"]) (xs.map fun x=>(enJ (jE f (ent fs o x) (ent gs p x))).enc)=some (xs.any fun x=>(jE f (ent fs o x) (ent gs p x)).isNone)
 | [],_=>rfl
 | x::xs,h=>by
  have ih:=ZnN (G:=G) xs fun y hy=>h y (List.mem_cons_of_mem _ hy)
  rw [List.map_cons,List.any_cons]
  unfold Zrr
  cases e:jE f (ent fs o x) (ent gs p x) with
  | none =>
   have e1:eqD (enJ none).enc (.tup [.str "free"])=some true:=by
    show some (("free":Str)=="free"&&true)=some true
    simp
   rw [if_pos (by decide),e1,ih];rfl
  | some u =>
   obtain ⟨m,k⟩:=u
   have hd:=h x List.mem_cons_self m k e
   have h3:=Zgy k
   have e1:eqD (enJ (some (m,k))).enc (.tup [.str "free"])=some false:=by
    show (match some (Zdf m=="free"),some false with | some a,some b=>some (a&&b) | _,_=>none)=some false
    simp
   have h4:dpW (enJ (some (m,k))).enc < 90:=by show max 0 (max (dpW k.enc) 0)+1 < 90;omega
   rw [if_pos h4,e1,ih];rfl
abbrev Zxb (n:Nat):Spw:=spR (fun (x:Fs×Bool×Fs×Bool) ws _=>ws=[(Kd.row x.1 x.2.1).enc,(Kd.row x.2.2.1 x.2.2.2).enc]∧wf (.row x.1 x.2.1)∧wf (.row x.2.2.1 x.2.2.2)∧(Kd.row x.1 x.2.1).dp≤n+1) fun x=>(Za6 (n+1) (.row x.1 x.2.1) (.row x.2.2.1 x.2.2.2)).enc
theorem Zdd (T:Tx K mg base a) {j n:Nat} (hj:2≤j) (hn:n≤19) (D:Df P w K mg base "join_of_entries" j 2 (ZwX n)):Df P w K mg base "join_of_rows" (j+1) 2 (Zxb n):=by
 refine mk0 T.Zde rfl Zep ZcY (fun ws G Q E ⟨x,⟨e,_⟩,_⟩=>by rw [e];rfl) (ZiQ T (Za5 T) hj (ZcH T) (by omega) D (Nat.le_refl _) (Zd3 T) (by omega)) fun ws G Q E hC q=>?_
 obtain ⟨⟨fs,o,gs,p⟩,⟨rfl,w1,w2,hd⟩,q⟩:=q
 dsimp only at w1 w2 hd q
 unfold ZfS
 show ZaB (Zbh 2 _) _ (ZaX Q) [some (Kd.row fs o).enc,some (Kd.row gs p).enc,none,none] G
 simp only [ZaB,Zbh,Zap,Zag,L3.Zab,L3.Zan,List.getElem?_cons_zero,List.getElem?_cons_succ,List.set_cons_zero,List.set_cons_succ]
 refine ⟨fs,gs,o,p,rfl,Zea w1,Zea w2,fun zs r z1 z2 z3 z4=>?_⟩
 have hz:=ZjT z1 z2 z3
 have hzl:zs.length≤10:=by rw [hz];exact ZfJ w1 w2
 have hkd:∀ x m k,jE (Za6 n) (ent fs o x) (ent gs p x)=some (m,k)→k.dp≤20:=fun x m k e=>by
  obtain ⟨k1,k2,e1,e2,rfl⟩:=Zob e
  have h1:k1∈(Kd.row fs o).kids:=(Zdv (Zd8.mp e1)).1
  have h2:k2∈(Kd.row gs p).kids:=(Zdv (Zd8.mp e2)).1
  have:=Zgd n k1 k2
  have:=ZaF h1
  omega
 simp only [Zb9,Zbv,Zag,List.getElem?_cons_zero,List.getElem?_cons_succ,Zic,List.map_cons,List.map_nil,List.replicate,List.cons_append,List.nil_append,Zah]
 refine ZpZ (enc:=W.str) (f:=fun x=>(enJ (jE (Za6 n) (ent fs o x) (ent gs p x))).enc) (cst:=[some (Kd.row fs o).enc,some (Kd.row gs p).enc]) Zah zs none [] (fun x hx Q' q'=>?_) (by simp only [List.length_nil];exact Zbq (by omega)) fun r2 hr2=>?_
 ·show Zap _ _ _ [some (.str x),some (Kd.row fs o).enc,some (Kd.row gs p).enc] _ Q'
  walk_at "rd"
  refine ⟨(fs,o,x),rfl,(gs,p,x),rfl,(ent fs o x,ent gs p x),⟨rfl,Zqa ((z3 x).mp hx),fun m k m' k' e1 e2=>?_⟩,q'⟩
  have k1:=Zcq e1
  have k2:=Zcq e2
  have hk:=ZaF (k:=.row fs o) (c:=k) k1
  exact ⟨Zaw w1 k1,Zaw w2 k2,by omega⟩
 ·rw [List.nil_append]
  have nrr:r≠r2:=ZaK Zah hr2
  have g1:put (put G r (.lst (zs.map W.str))) r2 (.lst (zs.map fun x=>(enJ (jE (Za6 n) (ent fs o x) (ent gs p x))).enc)) r=some (.lst (zs.map W.str)):=by rw [Zat nrr];exact Zah
  have hsub:Sub G (put (put G r (.lst (zs.map W.str))) r2 (.lst (zs.map fun x=>(enJ (jE (Za6 n) (ent fs o x) (ent gs p x))).enc))):=Zcw (Zbb z4) hr2
  have fin:∀ b:Bool,b=(o||p||jN (Za6 n) fs gs o p)→Zoq [.ref r,.ref r2,.bl b] (put (put G r (.lst (zs.map W.str))) r2 (.lst (zs.map fun x=>(enJ (jE (Za6 n) (ent fs o x) (ent gs p x))).enc))) Q (fun _ _=>False):=fun b hb=>by
   have ep:Znn (zs.map fun x=>(x,jE (Za6 n) (ent fs o x) (ent gs p x)))=jL (Za6 n) fs gs o p:=by rw [ZpS,hz];rfl
   refine ⟨(zs.map fun x=>(x,jE (Za6 n) (ent fs o x) (ent gs p x)),r,r2,b),⟨rfl,?_,?_,?_,?_⟩,?_⟩
   ·dsimp only;rw [g1,List.map_map];rfl
   ·dsimp only;rw [Zah,List.map_map];rfl
   ·dsimp only;rw [List.length_map];omega
   ·intro u hu m k e
    obtain ⟨x,_,rfl⟩:=List.mem_map.mp hu
    exact hkd x m k e
   ·dsimp only
    rw [ep,hb]
    exact hC _ _ _ hsub q
  have ea:(Kd.row fs o).enc=.tup [.str "row",.tup fs.enc,.bl o]:=rfl
  have eb:(Kd.row gs p).enc=.tup [.str "row",.tup gs.enc,.bl p]:=rfl
  have ei:inT (.tup [.str "free"]) (.ref r2) (put (put G r (.lst (zs.map W.str))) r2 (.lst (zs.map fun x=>(enJ (jE (Za6 n) (ent fs o x) (ent gs p x))).enc)))=some (.bl (jN (Za6 n) fs gs o p)):=by
   unfold inT
   rw [Zgr Zah,Option.bind_some,ZnN (G:=G) zs fun x _=>hkd x,Option.map_some]
   unfold jN;rw [hz]
  simp only [ZaL,Zap,L3.Zab,L3.Zan,Zag,Zht,Zal,Zaq,gC,L3.ZaN,ea,eb,ixW,Zc7,List.getElem?_cons_zero,List.getElem?_cons_succ,List.set_cons_zero,List.set_cons_succ,Zaf,Zhv,ZaX]
  cases o with
  | true=>exact fin true (by simp)
  | false =>
   cases p with
   | true=>exact fin true (by simp)
   | false =>
    refine ⟨(show 1≤sizeLine by decide),?_⟩
    rw [ei]
    exact fin _ (by simp)
abbrev gJ (sp:Spw):GE:=Zal Zem (L3.ZaN (L3.Zab (Zal (Zaq ixW) (Zag 0) (gC (.int 0))) L3.Zan)) (gB (rF Zfv) (L3.Zab (ZcX (Ziq (L3.Zab (ZmA (Zag 0) (ZdY (gC (.int 1))) Zbn) (L3.Zab (ZmA (Zag 1) (ZdY (gC (.int 1))) Zbn) L3.Zan))) 2 (ZiL 0 1) ZgR (Zap sp (fun _ _ _=>False) (L3.Zab (Zag 0) (L3.Zab (Zag 1) L3.Zan)))) L3.Zan))
theorem ZoT {n:Nat} {xs ys:List Kd} {s t:Str} {ω:Sw} {G:Hw} {Q:Kw} (h0:ω[0]?=some (some (.tup (.str s::xs.map Kd.enc)))) (h1:ω[1]?=some (some (.tup (.str t::ys.map Kd.enc)))) (hC:Kw.C Q) (hl:xs.length+ys.length≤100) (hx:∀ p∈xs.zip ys,wf p.1∧wf p.2∧p.1.dp≤n)
  (q:Q (.tup (.str s::(xs.zip ys).map fun p=>(Za6 n p.1 p.2).enc)) G):gJ (Zmm n) ω G Q:=by
 unfold gJ
 simp only [Zal,L3.ZaN,L3.Zab,L3.Zan,Zag,h0,h1,gC,Zaq,ixW,Zc9,Zaf,gB,ZcX,Ziq,ZmA,ZdY,Zbn,slA,Zn2,List.drop_succ_cons,List.drop_zero]
 refine ⟨(show 1≤sizeLine by decide),_,_,rfl,?_⟩
 rw [ZhJ,List.zip_map,List.map_map]
 have e3:((fun x:W×W=>W.tup [x.1,x.2])∘Prod.map Kd.enc Kd.enc)=fun x:Kd×Kd=>W.tup [x.1.enc,x.2.enc]:=rfl
 rw [e3]
 have hz:=List.length_zip (l₁:=xs) (l₂:=ys)
 refine Zri (e1:=fun x:Kd×Kd=>x.1.enc) (e2:=fun x=>x.2.enc) (f:=fun p=>(Za6 n p.1 p.2).enc) trivial (xs.zip ys) none none [] (fun x hx' Q' q'=>?_) (by simp only [List.length_nil];exact Zbq (by omega)) fun p hp=>?_
 ·show Zap _ _ _ [some x.1.enc,some x.2.enc] G Q'
  walk_at "rd"
  exact ⟨x,⟨rfl,hx x hx'⟩,q'⟩
 rw [List.nil_append]
 simp only [rF,Zfv,Zfo Zah,Option.map_some,Zaf]
 rw [Zby]
 exact ⟨by simp only [List.length_cons,List.length_nil,List.length_map];exact Zbq (by omega),hC _ _ _ (Zbb hp) q⟩
theorem ZoQ {k l:Kd} (h:k.hd≠l.hd) (n:Nat):Za6 (n+1) k l=.any:=by
 cases k <;> cases l <;> first | rfl | exact absurd rfl h
theorem Zv1 {n:Nat} {k l:Kd} {ω:Sw} {G:Hw} {Q:Kw} (h0:ω[0]?=some (some k.enc)) (h1:ω[1]?=some (some l.enc)) (hh:k.hd=l.hd) (hr:¬ k.hd="row") (hC:Kw.C Q) (w1:wf k) (w2:wf l) (hd:k.dp≤n+1) (q:Q (Za6 (n+1) k l).enc G):gJ (Zmm n) ω G Q:=by
 cases k <;> cases l <;> first | exact absurd hh (by simp only [Kd.hd];decide) | exact absurd rfl hr | skip
 ·exact ZoT (xs:=[]) (ys:=[]) (s:="any") (t:="any") h0 h1 hC (by decide) (fun p hp=>by cases hp) q
 ·exact ZoT (xs:=[]) (ys:=[]) (s:="num") (t:="num") h0 h1 hC (by decide) (fun p hp=>by cases hp) q
 ·exact ZoT (xs:=[]) (ys:=[]) (s:="truth") (t:="truth") h0 h1 hC (by decide) (fun p hp=>by cases hp) q
 ·rename_i a1 a2 b1 b2
  have d1:=ZaF (k:=.to a1 a2) (c:=a1) (by simp [Kd.kids])
  have d2:=ZaF (k:=.to a1 a2) (c:=a2) (by simp [Kd.kids])
  refine ZoT (xs:=[a1,a2]) (ys:=[b1,b2]) (s:="to") (t:="to") h0 h1 hC (by simp) (fun p hp=>?_) q
  simp only [List.zip_cons_cons,List.zip_nil_right,List.mem_cons,List.not_mem_nil,or_false] at hp
  rcases hp with rfl | rfl
  ·exact ⟨Zaw w1 (by simp [Kd.kids]),Zaw w2 (by simp [Kd.kids]),by dsimp only;omega⟩
  ·exact ⟨Zaw w1 (by simp [Kd.kids]),Zaw w2 (by simp [Kd.kids]),by dsimp only;omega⟩
 ·rename_i a1 b1
  have d1:=ZaF (k:=.box a1) (c:=a1) (by simp [Kd.kids])
  refine ZoT (xs:=[a1]) (ys:=[b1]) (s:="box") (t:="box") h0 h1 hC (by simp) (fun p hp=>?_) q
  simp only [List.zip_cons_cons,List.zip_nil_right,List.mem_cons,List.not_mem_nil,or_false] at hp
  subst hp
  exact ⟨Zaw w1 (by simp [Kd.kids]),Zaw w2 (by simp [Kd.kids]),by dsimp only;omega⟩
theorem Zb1 (T:Tx K mg base a):∀ n:Nat,n≤20→Df P w K mg base "join_of" (3*n+2) 2 (Zmm n)
 | 0,_=>Zj1 T.Zfg ZcY fun ws G Q E ⟨x,⟨_,_,_,h⟩,_⟩=>by have:=ZcZ x.1;omega
 | n+1,hn=>by
  have D:=Zb1 T n (by omega)
  have DE:=Zci T D
  have DR:=Zdd T (by omega) (by omega) DE
  refine mk0 (k:=3*n+4) T.Zfg rfl ZoF ZcY (fun ws G Q E ⟨x,⟨e,_⟩,_⟩=>by rw [e];rfl) (Zpf T DR (Nat.le_refl _) D (by omega)) fun ws G Q E hC q=>?_
  obtain ⟨⟨k,l⟩,⟨rfl,w1,w2,hd⟩,q⟩:=q
  dsimp only at w1 w2 hd q
  unfold Zku
  show ZaB (gIf _ _ Zax) _ (ZaX Q) [some k.enc,some l.enc] G
  refine Zgv rfl rfl (ZcD k G) (ZcD l G) ?_
  by_cases hh:k.hd=l.hd
  ·rw [if_pos hh]
   refine Zkp (k:=k) rfl ?_
   by_cases hr:k.hd="row"
   ·rw [if_pos hr]
    obtain ⟨fs,o,rfl⟩:=ZfO hr
    obtain ⟨gs,p,rfl⟩:=ZfO (hh▸hr)
    exact ⟨(fs,o,gs,p),⟨rfl,w1,w2,hd⟩,q⟩
   ·rw [if_neg hr]
    exact Zv1 rfl rfl hh hr hC w1 w2 hd q
  ·rw [if_neg hh]
   rw [ZoQ hh] at q
   exact ⟨by decide,q⟩
section
variable {P:Program} {w:World} {K:PySem.W.Frag} {mg:Str→Option Value} {base:Heap} {a:Adr}
abbrev ZdN:List Str:=["one","other","mark"]
theorem ZdJ:ZaH ZdN ["one","other"] (Zac ZaQ):=⟨rfl,rfl,rfl,by decide +kernel,rfl,by decide +kernel,by decide +kernel⟩
def ZdX (ZaO:Spw):GS:=(ZaB (gIf (gTB (Zal (Zaq (inF false)) (gC (.str "free")) (ZaN (Zab (Zal (Zaq ixW) (Zag 0) (gC (.int 0))) (Zab (Zal (Zaq ixW) (Zag 1) (gC (.int 0))) Zan))))) (ZaL (ZaN (Zab (gC (.str "free")) Zan))) Zax) (ZaB (gIf (gTB (Zal (Zaq (eqF false)) (Zal (Zaq ixW) (Zag 0) (gC (.int 0))) (gC (.str "none")))) (ZaL (ZaN (Zab (gC (.str "may")) (Zab (Zal (Zaq ixW) (Zag 1) (gC (.int 1))) Zan)))) Zax) (ZaB (gIf (gTB (Zal (Zaq (eqF false)) (Zal (Zaq ixW) (Zag 1) (gC (.int 0))) (gC (.str "none")))) (ZaL (ZaN (Zab (gC (.str "may")) (Zab (Zal (Zaq ixW) (Zag 0) (gC (.int 1))) Zan)))) Zax) (ZaB (Zbh 2 (Zke (gTB (ZcK (Zaq (eqF false)) (Zaq (eqF false)) (Zal (Zaq ixW) (Zag 0) (gC (.int 0))) (Zal (Zaq ixW) (Zag 1) (gC (.int 0))) (gC (.str "must")))) (gC (.str "must")) (gC (.str "may")))) (ZaL (ZaN (Zab (Zag 2) (Zab (Zap ZaO (fun _ _ _=>False) (Zab (Zal (Zaq ixW) (Zag 0) (gC (.int 1))) (Zab (Zal (Zaq ixW) (Zag 1) (gC (.int 1))) Zan))) Zan))))))))
theorem Zgg {k:Nat} (T:Tx K mg base a) {Zbg:Nat} {ZaO:Spw} (ZdW:Df P w K mg base "either_of" Zbg 2 ZaO) (ZdO:Zbg≤k) {f:Addr} {cdv:Value} {A:Around} {outer:List Env} {s:Shared} {H:Hp} {E:XK} (hr:Room k (A.deeper (envOfC "either_of_entries" (Zac ZaQ) s.heap.objs.size f cdv))):Ssm (cxW P w K mg base ZdN "either_of_entries" (Zac ZaQ) f cdv A outer s H E).nox (fun B=>B=H) (ZaC ZaQ) (ZdX ZaO) :=
 have hu:=Zfb hr
 (Zai (ZaZ (ZaG Zrt rfl Zar (ZaE (Zaa rfl (Zas (fun _ _=>rfl) (Zam (i:=0) rfl rfl rfl rfl) Zae) (Zaa rfl (Zas (fun _ _=>rfl) (Zam (i:=1) rfl rfl rfl rfl) Zae) Zad)))) (Zak (Zav (ZaE (Zaa rfl Zar Zad)))) Zay) (Zai (ZaZ (ZaG (ZaT hu) rfl (Zas (fun _ _=>rfl) (Zam (i:=0) rfl rfl rfl rfl) Zae) Zar) (Zak (Zav (ZaE (Zaa rfl Zar (Zaa rfl (Zas (fun _ _=>rfl) (Zam (i:=1) rfl rfl rfl rfl) Zae) Zad))))) Zay) (Zai (ZaZ (ZaG (ZaT hu) rfl (Zas (fun _ _=>rfl) (Zam (i:=1) rfl rfl rfl rfl) Zae) Zar) (Zak (Zav (ZaE (Zaa rfl Zar (Zaa rfl (Zas (fun _ _=>rfl) (Zam (i:=0) rfl rfl rfl rfl) Zae) Zad))))) Zay) (Zai (Ze5 (i:=2) ZdJ.nd rfl rfl rfl (ZrD (Zm8 (ZaT hu) (ZaT hu) rfl (Zas (fun _ _=>rfl) (Zam (i:=0) rfl rfl rfl rfl) Zae) (Zas (fun _ _=>rfl) (Zam (i:=1) rfl rfl rfl rfl) Zae) Zar) Zar Zar)) (Zak (Zav (ZaE (Zaa rfl (Zam (i:=2) rfl rfl rfl rfl) (Zaa rfl (Zao ZdW (hr.mono ZdO) rfl ZaD rfl rfl rfl (Zaa rfl (Zas (fun _ _=>rfl) (Zam (i:=0) rfl rfl rfl rfl) Zae) (Zaa rfl (Zas (fun _ _=>rfl) (Zam (i:=1) rfl rfl rfl rfl) Zae) Zad))) Zad)))))))))
abbrev Ze3:List Str:=["one","other","names","entries"]
theorem Zds:ZaH Ze3 ["one","other"] (Zac ZaY):=⟨rfl,rfl,rfl,by decide +kernel,rfl,by decide +kernel,by decide +kernel⟩
def Ze4 (ZaP:Spw) (Zbi:Spw) (Zbx:Spw) (ZcS:Spw):GS:=(ZaB (Zbh 2 (Zap ZaP (fun _ _ _=>False) (Zab (Zag 0) (Zab (Zag 1) Zan)))) (ZaB (Zbh 3 (Zb9 (Zbv (Zag 2)) 1 [0,1] (gNm 0) ZgR (Zap Zbx (fun _ _ _=>False) (Zab (Zap Zbi (fun _ _ _=>False) (Zab (Zag 1) (Zab (Zag 0) Zan))) (Zab (Zap Zbi (fun _ _ _=>False) (Zab (Zag 2) (Zab (Zag 0) Zan))) Zan))))) (ZaL (Zap ZcS (fun _ _ _=>False) (Zab (Zag 2) (Zab (Zag 3) (Zab (Zht (Zal (Zaq ixW) (Zag 0) (gC (.int 2))) (Zal (Zaq ixW) (Zag 1) (gC (.int 2)))) Zan)))))))
theorem Zhw {k:Nat} (T:Tx K mg base a) {Za5:Nat} {ZaP:Spw} (ZdI:Df P w K mg base "names_of_both" Za5 2 ZaP) (ZdR:Za5≤k) {ZcH:Nat} {Zbi:Spw} (ZeF:Df P w K mg base "entry_of" ZcH 2 Zbi) (ZeL:ZcH≤k) {ZbO:Nat} {Zbx:Spw} (Zf7:Df P w K mg base "either_of_entries" ZbO 2 Zbx) (Zf3:ZbO≤k) {Zd3:Nat} {ZcS:Spw} (ZjB:Df P w K mg base "row_of" Zd3 3 ZcS) (Zj7:Zd3≤k) {f:Addr} {cdv:Value} {A:Around} {outer:List Env} {s:Shared} {H:Hp} {E:XK} (hr:Room k (A.deeper (envOfC "either_of_rows" (Zac ZaY) s.heap.objs.size f cdv))):Ssm (cxW P w K mg base Ze3 "either_of_rows" (Zac ZaY) f cdv A outer s H E).nox (fun B=>B=H) (ZaC ZaY) (Ze4 ZaP Zbi Zbx ZcS) :=
 have hu:=Zfb hr
 (Zai (Ze5 (i:=2) Zds.nd rfl rfl rfl (Zao ZdI (hr.mono ZdR) rfl ZaD rfl rfl rfl (Zaa rfl (Zam (i:=0) rfl rfl rfl rfl) (Zaa rfl (Zam (i:=1) rfl rfl rfl rfl) Zad)))) (Zai (ZjY (i:=3) Zds.nd rfl rfl rfl rfl (Zts (own:=["name"]) (fr:=["one","other"]) (js:=[0,1]) (scX:=Zac ZaY) (n:=s.heap.objs.size+1) rfl (by decide +kernel) (by decide +kernel) (by decide +kernel) (by decide +kernel) rfl rfl rfl (by decide +kernel) rfl) (fun _=>rfl) (Zc0 (fun _ _=>rfl) (Zam (i:=2) rfl rfl rfl rfl)) (ZhA (i:=0) (by decide) rfl rfl) (fun C fp s1 H1=>Zex) (fun C fp s1 H1=>(Zao Zf7 (hr.mono Zf3) rfl ZaD rfl rfl rfl (Zaa rfl (Zao ZeF (hr.mono ZeL) rfl ZaD rfl rfl rfl (Zaa rfl (Zam (i:=1) rfl rfl rfl rfl) (Zaa rfl (Zam (i:=0) rfl rfl rfl rfl) Zad))) (Zaa rfl (Zao ZeF (hr.mono ZeL) rfl ZaD rfl rfl rfl (Zaa rfl (Zam (i:=2) rfl rfl rfl rfl) (Zaa rfl (Zam (i:=0) rfl rfl rfl rfl) Zad))) Zad))))) (Zak (Zav (Zao ZjB (hr.mono Zj7) rfl ZaD rfl rfl rfl (Zaa rfl (Zam (i:=2) rfl rfl rfl rfl) (Zaa rfl (Zam (i:=3) rfl rfl rfl rfl) (Zaa rfl (Znd (Zas (fun _ _=>rfl) (Zam (i:=0) rfl rfl rfl rfl) Zae) (Zf1 (Zas (fun _ _=>rfl) (Zam (i:=1) rfl rfl rfl rfl) Zae))) Zad))))))))
abbrev ZhQ:List Str:=["one","other"]
theorem Zl7:ZaH ZhQ ["one","other"] (Zac ZcF):=⟨rfl,rfl,rfl,by decide +kernel,rfl,by decide +kernel,by decide +kernel⟩
def Zii (Za0:Spw) (ZaO:Spw) (Zcj:Spw):GS:=(ZaB (gIf (gTB (Zal (Zaq (eqF true)) (Zal (Zaq ixW) (Zag 0) (gC (.int 0))) (Zal (Zaq ixW) (Zag 1) (gC (.int 0))))) (ZaL (ZaN (Zab (gC (.str "any")) Zan))) Zax) (ZaB (gIf (gTB (Zal (Zaq (eqF false)) (Zal (Zaq ixW) (Zag 0) (gC (.int 0))) (gC (.str "to")))) (ZaL (ZaN (Zab (gC (.str "to")) (Zab (Zap Za0 (fun _ _ _=>False) (Zab (Zal (Zaq ixW) (Zag 0) (gC (.int 1))) (Zab (Zal (Zaq ixW) (Zag 1) (gC (.int 1))) Zan))) (Zab (Zap ZaO (fun _ _ _=>False) (Zab (Zal (Zaq ixW) (Zag 0) (gC (.int 2))) (Zab (Zal (Zaq ixW) (Zag 1) (gC (.int 2))) Zan))) Zan))))) Zax) (ZaB (gIf (gTB (Zal (Zaq (eqF false)) (Zal (Zaq ixW) (Zag 0) (gC (.int 0))) (gC (.str "box")))) (ZaL (ZaN (Zab (gC (.str "box")) (Zab (Zap Za0 (fun _ _ _=>False) (Zab (Zal (Zaq ixW) (Zag 0) (gC (.int 1))) (Zab (Zal (Zaq ixW) (Zag 1) (gC (.int 1))) Zan))) Zan)))) Zax) (ZaB (gIf (gTB (Zal (Zaq (eqF false)) (Zal (Zaq ixW) (Zag 0) (gC (.int 0))) (gC (.str "row")))) (ZaL (Zap Zcj (fun _ _ _=>False) (Zab (Zag 0) (Zab (Zag 1) Zan)))) Zax) (ZaL (Zag 0))))))
theorem Zly {k:Nat} (T:Tx K mg base a) {Zb1:Nat} {Za0:Spw} (ZeA:Df P w K mg base "join_of" Zb1 2 Za0) (ZeI:Zb1≤k) {Zbg:Nat} {ZaO:Spw} (ZdW:Df P w K mg base "either_of" Zbg 2 ZaO) (ZdO:Zbg≤k) {Zct:Nat} {Zcj:Spw} (Zhu:Df P w K mg base "either_of_rows" Zct 2 Zcj) (Zhr:Zct≤k) {f:Addr} {cdv:Value} {A:Around} {outer:List Env} {s:Shared} {H:Hp} {E:XK} (hr:Room k (A.deeper (envOfC "either_of" (Zac ZcF) s.heap.objs.size f cdv))):Ssm (cxW P w K mg base ZhQ "either_of" (Zac ZcF) f cdv A outer s H E).nox (fun B=>B=H) (ZaC ZcF) (Zii Za0 ZaO Zcj) :=
 have hu:=Zfb hr
 (Zai (ZaZ (ZaG (Zd7 hu) rfl (Zas (fun _ _=>rfl) (Zam (i:=0) rfl rfl rfl rfl) Zae) (Zas (fun _ _=>rfl) (Zam (i:=1) rfl rfl rfl rfl) Zae)) (Zak (Zav (ZaE (Zaa rfl Zar Zad)))) Zay) (Zai (ZaZ (ZaG (ZaT hu) rfl (Zas (fun _ _=>rfl) (Zam (i:=0) rfl rfl rfl rfl) Zae) Zar) (Zak (Zav (ZaE (Zaa rfl Zar (Zaa rfl (Zao ZeA (hr.mono ZeI) rfl ZaD rfl rfl rfl (Zaa rfl (Zas (fun _ _=>rfl) (Zam (i:=0) rfl rfl rfl rfl) Zae) (Zaa rfl (Zas (fun _ _=>rfl) (Zam (i:=1) rfl rfl rfl rfl) Zae) Zad))) (Zaa rfl (Zao ZdW (hr.mono ZdO) rfl ZaD rfl rfl rfl (Zaa rfl (Zas (fun _ _=>rfl) (Zam (i:=0) rfl rfl rfl rfl) Zae) (Zaa rfl (Zas (fun _ _=>rfl) (Zam (i:=1) rfl rfl rfl rfl) Zae) Zad))) Zad)))))) Zay) (Zai (ZaZ (ZaG (ZaT hu) rfl (Zas (fun _ _=>rfl) (Zam (i:=0) rfl rfl rfl rfl) Zae) Zar) (Zak (Zav (ZaE (Zaa rfl Zar (Zaa rfl (Zao ZeA (hr.mono ZeI) rfl ZaD rfl rfl rfl (Zaa rfl (Zas (fun _ _=>rfl) (Zam (i:=0) rfl rfl rfl rfl) Zae) (Zaa rfl (Zas (fun _ _=>rfl) (Zam (i:=1) rfl rfl rfl rfl) Zae) Zad))) Zad))))) Zay) (Zai (ZaZ (ZaG (ZaT hu) rfl (Zas (fun _ _=>rfl) (Zam (i:=0) rfl rfl rfl rfl) Zae) Zar) (Zak (Zav (Zao Zhu (hr.mono Zhr) rfl ZaD rfl rfl rfl (Zaa rfl (Zam (i:=0) rfl rfl rfl rfl) (Zaa rfl (Zam (i:=1) rfl rfl rfl rfl) Zad))))) Zay) (Zak (Zav (Zam (i:=0) rfl rfl rfl rfl)))))))
abbrev Zm7:List Str:=["one","other"]
theorem ZpB:ZaH Zm7 ["one","other"] (Zac Ze1):=⟨rfl,rfl,rfl,by decide +kernel,rfl,by decide +kernel,by decide +kernel⟩
def Zmd (Zdh:Spw) (ZaO:Spw):GS:=(ZaB (ZbA (Zap Zdh (fun _ _ _=>False) (Zab (Zag 0) (Zab (Zag 1) Zan)))) (ZaL (Zap ZaO (fun _ _ _=>False) (Zab (Zag 0) (Zab (Zag 1) Zan)))))
theorem Zqu {k:Nat} (T:Tx K mg base a) {ZdC:Nat} {Zdh:Spw} (ZjS:Df P w K mg base "check_kinds" ZdC 2 Zdh) (ZjE:ZdC≤k) {Zbg:Nat} {ZaO:Spw} (ZdW:Df P w K mg base "either_of" Zbg 2 ZaO) (ZdO:Zbg≤k) {f:Addr} {cdv:Value} {A:Around} {outer:List Env} {s:Shared} {H:Hp} {E:XK} (hr:Room k (A.deeper (envOfC "either" (Zac Ze1) s.heap.objs.size f cdv))):Ssm (cxW P w K mg base Zm7 "either" (Zac Ze1) f cdv A outer s H E).nox (fun B=>B=H) (ZaC Ze1) (Zmd Zdh ZaO) :=
 have hu:=Zfb hr
 (Zai (Zen rfl (Zao ZjS (hr.mono ZjE) rfl ZaD rfl rfl rfl (Zaa rfl (Zam (i:=0) rfl rfl rfl rfl) (Zaa rfl (Zam (i:=1) rfl rfl rfl rfl) Zad)))) (Zak (Zav (Zao ZdW (hr.mono ZdO) rfl ZaD rfl rfl rfl (Zaa rfl (Zam (i:=0) rfl rfl rfl rfl) (Zaa rfl (Zam (i:=1) rfl rfl rfl rfl) Zad))))))
end
theorem Zwc (m m':Bool):(Zdf m==Zdf m')=(m==m'):=by cases m <;> cases m' <;> decide +kernel
theorem ZlF (m:Bool):(Zdf m=="must")=m:=by cases m <;> decide +kernel
theorem ZrZ {f:Kd→Kd→Kd} {e e':En} (hf:e.hd="free"∨e'.hd="free"):eE f e e'=none:=by
 cases e with
 | free=>rfl
 | nope =>
  cases e' with
  | free=>rfl
  | nope=>rfl
  | told m k=>exact absurd (hf.resolve_left (by decide)) (Zdr m).1
 | told m k =>
  cases e' with
  | free=>rfl
  | nope=>exact absurd (hf.resolve_right (by decide)) (Zdr m).1
  | told m' k'=>exact absurd hf (fun z=>z.elim (Zdr m).1 (Zdr m').1)
def tld (e:En):Prop:=∃ m k,e=.told m k
abbrev Zon (n:Nat):Spw:=spR (fun (x:Kd×Kd) ws _=>ws=[x.1.enc,x.2.enc]∧wf x.1∧wf x.2∧x.1.dp≤n∧x.2.dp≤n) fun x=>(Zdu n x.1 x.2).enc
abbrev ZwU (n:Nat):Spw:=spR (fun (x:En×En) ws _=>ws=[x.1.enc,x.2.enc]∧(tld x.1∨tld x.2)∧∀ m k m' k',x.1=.told m k→x.2=.told m' k'→wf k∧wf k'∧k.dp≤n∧k'.dp≤n) fun x=>(enJ (eE (Zdu n) x.1 x.2)).enc
theorem ZbO (T:Tx K mg base a) {j n:Nat} (D:Df P w K mg base "either_of" j 2 (Zon n)):Df P w K mg base "either_of_entries" (j+1) 2 (ZwU n):=by
 refine mk0 T.ZbJ rfl ZdJ ZcY (fun ws G Q E ⟨x,⟨e,_⟩,_⟩=>by rw [e];rfl) (Zgg T D (Nat.le_refl _)) fun ws G Q E hC q=>?_
 obtain ⟨⟨e,e'⟩,⟨rfl,ht,h⟩,q⟩:=q
 dsimp only at ht h q
 unfold ZdX
 show ZaB (gIf _ _ Zax) _ (ZaX Q) [some e.enc,some e'.enc,none] G
 refine Zq0 rfl rfl (Zhh e G) (Zhh e' G) ?_
 by_cases hf:e.hd="free"∨e'.hd="free"
 ·rw [if_pos hf]
  rw [ZrZ hf] at q
  exact ⟨by decide,q⟩
 ·rw [if_neg hf]
  refine Zj4 (i:=0) rfl (Zhh e G) ?_
  cases e with
  | free=>exact absurd (.inl rfl) hf
  | nope =>
   rw [if_pos (show En.nope.hd="none" from rfl)]
   cases e' with
   | free=>exact absurd (.inr rfl) hf
   | nope=>exact absurd ht (by rintro (⟨m,k,z⟩ | ⟨m,k,z⟩) <;> cases z)
   | told m' k' =>
    simp only [L3.ZaN,L3.Zab,L3.Zan,Zal,Zaq,Zag,gC,En.enc,List.getElem?_cons_zero,List.getElem?_cons_succ,ixW,ZbZ,Zaf]
    exact ⟨(show 2≤sizeLine by decide),q⟩
  | told m k =>
   rw [if_neg (show ¬ (En.told m k).hd="none" from (Zdr m).2.1)]
   refine Zj4 (i:=1) rfl (Zhh e' G) ?_
   cases e' with
   | free=>exact absurd (.inr rfl) hf
   | nope =>
    rw [if_pos (show En.nope.hd="none" from rfl)]
    simp only [L3.ZaN,L3.Zab,L3.Zan,Zal,Zaq,Zag,gC,En.enc,List.getElem?_cons_zero,List.getElem?_cons_succ,ixW,ZbZ,Zaf]
    exact ⟨(show 2≤sizeLine by decide),q⟩
   | told m' k' =>
    rw [if_neg (show ¬ (En.told m' k').hd="none" from (Zdr m').2.1)]
    obtain ⟨w1,w2,d1,d2⟩:=h m k m' k' rfl rfl
    have q':Q (.tup [.str (Zdf (m&&m')),(Zdu n k k').enc]) G:=q
    simp only [ZaB,Zbh,Zke,gTB,ZcK,Zal,Zaq,Zag,gC,En.enc,List.getElem?_cons_zero,List.getElem?_cons_succ,ixW,Zc9,Zaf,eqF,eqW,Option.map_some,Zwc,ZlF]
    have fin:∀ r:Bool,r=(m&&m')→ZaL (L3.ZaN (L3.Zab (Zag 2) (L3.Zab (Zap (Zon n) (fun _ _ _=>False) (L3.Zab (Zal (Zaq ixW) (Zag 0) (gC (.int 1))) (L3.Zab (Zal (Zaq ixW) (Zag 1) (gC (.int 1))) L3.Zan))) L3.Zan))) (ZaX Q) [some (.tup [.str (Zdf m),k.enc]),some (.tup [.str (Zdf m'),k'.enc]),some (.str (Zdf r))] G:=fun r hr=>by
     subst hr
     simp only [ZaL,L3.ZaN,Zap,L3.Zab,L3.Zan,Zal,Zaq,Zag,gC,List.getElem?_cons_zero,List.getElem?_cons_succ,ixW,ZbZ,Zaf]
     exact ⟨(k,k'),⟨rfl,w1,w2,d1,d2⟩,(show 2≤sizeLine by decide),q'⟩
    cases m <;> cases m'
    ·exact fin false rfl
    ·exact fin false rfl
    ·exact fin false rfl
    ·exact fin true rfl
theorem ZqL (f:Kd→Kd→Kd) (fs gs:Fs) (o p:Bool) (xs:List Str):Znn (xs.map fun x=>(x,eE f (ent fs o x) (ent gs p x)))=xs.filterMap (eF f fs gs o p):=by
 unfold Znn
 rw [List.filterMap_map];rfl
theorem Zor {fs gs:Fs} {o p:Bool} {x:Str} (hx:x∈fs.names∨x∈gs.names):tld (ent fs o x)∨tld (ent gs p x):=by
 rcases hx with hx | hx
 ·obtain ⟨m,k,e,_⟩:=Zjy (o:=o) hx
  exact .inl ⟨m,k,e⟩
 ·obtain ⟨m,k,e,_⟩:=Zjy (o:=p) hx
  exact .inr ⟨m,k,e⟩
abbrev Zxt (n:Nat):Spw:=spR (fun (x:Fs×Bool×Fs×Bool) ws _=>ws=[(Kd.row x.1 x.2.1).enc,(Kd.row x.2.2.1 x.2.2.2).enc]∧wf (.row x.1 x.2.1)∧wf (.row x.2.2.1 x.2.2.2)∧(Kd.row x.1 x.2.1).dp≤n+1∧(Kd.row x.2.2.1 x.2.2.2).dp≤n+1) fun x=>(Zdu (n+1) (.row x.1 x.2.1) (.row x.2.2.1 x.2.2.2)).enc
theorem ZvY {n:Nat} {fs gs:Fs} {o p:Bool} (hd:(Kd.row fs o).dp≤n+1) (hd':(Kd.row gs p).dp≤n+1) {x:Str} {m:Bool} {k:Kd} (e:eE (Zdu n) (ent fs o x) (ent gs p x)=some (m,k)):k.dp≤n:=by
 rcases ZoG e with ⟨m',e | e⟩ | ⟨m1,k1,m2,k2,e1,e2,rfl⟩
 ·have:=ZaF (k:=.row fs o) (Zcq e);omega
 ·have:=ZaF (k:=.row gs p) (Zcq e);omega
 ·have h1:=ZaF (k:=.row fs o) (Zcq e1)
  have h2:=ZaF (k:=.row gs p) (Zcq e2)
  have h3:=Zjx n k1 k2
  omega
theorem Zct (T:Tx K mg base a) {j n:Nat} (hj:2≤j) (hn:n≤19) (D:Df P w K mg base "either_of_entries" j 2 (ZwU n)):Df P w K mg base "either_of_rows" (j+1) 2 (Zxt n):=by
 refine mk0 T.Zcu rfl Zds ZcY (fun ws G Q E ⟨x,⟨e,_⟩,_⟩=>by rw [e];rfl) (Zhw T (Za5 T) hj (ZcH T) (by omega) D (Nat.le_refl _) (Zd3 T) (by omega)) fun ws G Q E hC q=>?_
 obtain ⟨⟨fs,o,gs,p⟩,⟨rfl,w1,w2,hd,hd'⟩,q⟩:=q
 dsimp only at w1 w2 hd hd' q
 unfold Ze4
 show ZaB (Zbh 2 _) _ (ZaX Q) [some (Kd.row fs o).enc,some (Kd.row gs p).enc,none,none] G
 simp only [ZaB,Zbh,Zap,Zag,L3.Zab,L3.Zan,List.getElem?_cons_zero,List.getElem?_cons_succ,List.set_cons_zero,List.set_cons_succ]
 refine ⟨fs,gs,o,p,rfl,Zea w1,Zea w2,fun zs r z1 z2 z3 z4=>?_⟩
 have hz:=ZjT z1 z2 z3
 have hzl:zs.length≤10:=by rw [hz];exact ZfJ w1 w2
 simp only [Zb9,Zbv,Zag,List.getElem?_cons_zero,List.getElem?_cons_succ,Zic,List.map_cons,List.map_nil,List.replicate,List.cons_append,List.nil_append,Zah]
 refine ZpZ (enc:=W.str) (f:=fun x=>(enJ (eE (Zdu n) (ent fs o x) (ent gs p x))).enc) (cst:=[some (Kd.row fs o).enc,some (Kd.row gs p).enc]) Zah zs none [] (fun x hx Q' q'=>?_) (by simp only [List.length_nil];exact Zbq (by omega)) fun r2 hr2=>?_
 ·show Zap _ _ _ [some (.str x),some (Kd.row fs o).enc,some (Kd.row gs p).enc] _ Q'
  walk_at "rd"
  refine ⟨(fs,o,x),rfl,(gs,p,x),rfl,(ent fs o x,ent gs p x),⟨rfl,Zor ((z3 x).mp hx),fun m k m' k' e1 e2=>?_⟩,q'⟩
  have k1:=Zcq e1
  have k2:=Zcq e2
  have hk:=ZaF (k:=.row fs o) (c:=k) k1
  have hk':=ZaF (k:=.row gs p) (c:=k') k2
  exact ⟨Zaw w1 k1,Zaw w2 k2,by omega,by omega⟩
 ·rw [List.nil_append]
  have nrr:r≠r2:=ZaK Zah hr2
  have g1:put (put G r (.lst (zs.map W.str))) r2 (.lst (zs.map fun x=>(enJ (eE (Zdu n) (ent fs o x) (ent gs p x))).enc)) r=some (.lst (zs.map W.str)):=by rw [Zat nrr];exact Zah
  have hsub:Sub G (put (put G r (.lst (zs.map W.str))) r2 (.lst (zs.map fun x=>(enJ (eE (Zdu n) (ent fs o x) (ent gs p x))).enc))):=Zcw (Zbb z4) hr2
  have fin:∀ b:Bool,b=(o||p)→Zoq [.ref r,.ref r2,.bl b] (put (put G r (.lst (zs.map W.str))) r2 (.lst (zs.map fun x=>(enJ (eE (Zdu n) (ent fs o x) (ent gs p x))).enc))) Q (fun _ _=>False):=fun b hb=>by
   have ep:Znn (zs.map fun x=>(x,eE (Zdu n) (ent fs o x) (ent gs p x)))=eL (Zdu n) fs gs o p:=by rw [ZqL,hz];rfl
   refine ⟨(zs.map fun x=>(x,eE (Zdu n) (ent fs o x) (ent gs p x)),r,r2,b),⟨rfl,?_,?_,?_,?_⟩,?_⟩
   ·dsimp only;rw [g1,List.map_map];rfl
   ·dsimp only;rw [Zah,List.map_map];rfl
   ·dsimp only;rw [List.length_map];omega
   ·intro u hu m k e
    obtain ⟨x,_,rfl⟩:=List.mem_map.mp hu
    exact Nat.le_trans (ZvY hd hd' e) (by omega)
   ·dsimp only
    rw [ep,hb]
    exact hC _ _ _ hsub q
  have ea:(Kd.row fs o).enc=.tup [.str "row",.tup fs.enc,.bl o]:=rfl
  have eb:(Kd.row gs p).enc=.tup [.str "row",.tup gs.enc,.bl p]:=rfl
  simp only [ZaL,Zap,L3.Zab,L3.Zan,Zag,Zht,Zal,Zaq,gC,ea,eb,ixW,Zc7,List.getElem?_cons_zero,List.getElem?_cons_succ,List.set_cons_zero,List.set_cons_succ,Zaf,ZaX]
  cases o with
  | true=>exact fin true (by simp)
  | false =>
   cases p with
   | true=>exact fin true (by simp)
   | false=>exact fin false (by simp)
theorem Zou {k l:Kd} (h:k.hd≠l.hd) (n:Nat):Zdu (n+1) k l=.any:=by
 cases k <;> cases l <;> first | rfl | exact absurd rfl h
theorem Zfu {k:Kd} {t:Str} {e:GE} {Zcg:GS} {D:Ew} {ω:Sw} {G:Hw} (h1:ω[0]?=some (some k.enc)) (h:if k.hd=t then e ω G D.rt else Zcg D ω G) :
  ZaB (gIf (gTB (Zal (Zaq (eqF false)) (Zal (Zaq ixW) (Zag 0) (gC (.int 0))) (gC (.str t)))) (ZaL e) Zax) Zcg D ω G:=Zj4 (i:=0) h1 (ZcD k G) h
theorem Zbg (T:Tx K mg base a):∀ n:Nat,n≤20→Df P w K mg base "either_of" (3*n+2) 2 (Zon n)
 | 0,_=>Zj1 T.ZdK ZcY fun ws G Q E ⟨x,⟨_,_,_,h,_⟩,_⟩=>by have:=ZcZ x.1;omega
 | n+1,hn=>by
  have D:=Zbg T n (by omega)
  have DE:=ZbO T D
  have DR:=Zct T (by omega) (by omega) DE
  refine mk0 (k:=3*n+4) T.ZdK rfl Zl7 ZcY (fun ws G Q E ⟨x,⟨e,_⟩,_⟩=>by rw [e];rfl) (Zly T (Zb1 T n (by omega)) (by omega) D (by omega) DR (Nat.le_refl _)) fun ws G Q E hC q=>?_
  obtain ⟨⟨k,l⟩,⟨rfl,w1,w2,hd,hd'⟩,q⟩:=q
  dsimp only at w1 w2 hd hd' q
  unfold Zii
  show ZaB (gIf _ _ Zax) _ (ZaX Q) [some k.enc,some l.enc] G
  refine Zgv rfl rfl (ZcD k G) (ZcD l G) ?_
  by_cases hh:k.hd=l.hd
  ·rw [if_pos hh]
   refine Zfu (k:=k) rfl ?_
   by_cases ht:k.hd="to"
   ·rw [if_pos ht]
    cases k <;> cases l <;> first | exact absurd ht (by simp only [Kd.hd];decide) | exact absurd hh (by simp only [Kd.hd];decide) | skip
    rename_i a1 a2 b1 b2
    have d1:=ZaF (k:=.to a1 a2) (c:=a1) (by simp [Kd.kids])
    have d2:=ZaF (k:=.to a1 a2) (c:=a2) (by simp [Kd.kids])
    have d4:=ZaF (k:=.to b1 b2) (c:=b2) (by simp [Kd.kids])
    simp only [L3.ZaN,Zap,L3.Zab,L3.Zan,Zal,Zaq,Zag,gC,Kd.enc,List.getElem?_cons_zero,List.getElem?_cons_succ,ixW,ZbZ,Zc7,Zaf]
    exact ⟨(a1,b1),⟨rfl,Zaw w1 (by simp [Kd.kids]),Zaw w2 (by simp [Kd.kids]),by dsimp only;omega⟩,(a2,b2),⟨rfl,Zaw w1 (by simp [Kd.kids]),Zaw w2 (by simp [Kd.kids]),by dsimp only;omega,by dsimp only;omega⟩,(show 3≤sizeLine by decide),q⟩
   ·rw [if_neg ht]
    refine Zfu (k:=k) rfl ?_
    by_cases hb:k.hd="box"
    ·rw [if_pos hb]
     cases k <;> cases l <;> first | exact absurd hb (by simp only [Kd.hd];decide) | exact absurd hh (by simp only [Kd.hd];decide) | skip
     rename_i a1 b1
     have d1:=ZaF (k:=.box a1) (c:=a1) (by simp [Kd.kids])
     simp only [L3.ZaN,Zap,L3.Zab,L3.Zan,Zal,Zaq,Zag,gC,Kd.enc,List.getElem?_cons_zero,List.getElem?_cons_succ,ixW,ZbZ,Zaf]
     exact ⟨(a1,b1),⟨rfl,Zaw w1 (by simp [Kd.kids]),Zaw w2 (by simp [Kd.kids]),by dsimp only;omega⟩,(show 2≤sizeLine by decide),q⟩
    ·rw [if_neg hb]
     refine Zkp (k:=k) rfl ?_
     by_cases hr:k.hd="row"
     ·rw [if_pos hr]
      obtain ⟨fs,o,rfl⟩:=ZfO hr
      obtain ⟨gs,p,rfl⟩:=ZfO (hh▸hr)
      exact ⟨(fs,o,gs,p),⟨rfl,w1,w2,hd,hd'⟩,q⟩
     ·rw [if_neg hr]
      cases k <;> cases l <;> first | exact absurd hh (by simp only [Kd.hd];decide) | exact absurd rfl hr | exact absurd rfl hb | exact absurd rfl ht | exact q
  ·rw [if_neg hh]
   rw [Zou hh] at q
   exact ⟨by decide,q⟩
abbrev Zxi:Spw:=spR (fun (x:Kd×Kd) ws _=>ws=[x.1.enc,x.2.enc]∧kd8 x.1∧kd8 x.2) fun x=>(Zdu 8 x.1 x.2).enc
theorem ZhL (T:Tx K mg base a):Df P w K mg base "either" 27 2 Zxi:=by
 refine mk0 T.ZhF rfl ZpB ZcY (fun ws G Q E ⟨x,⟨e,_⟩,_⟩=>by rw [e];rfl) (Zqu T (ZdC T) (by omega) (Zbg T 8 (by omega)) (Nat.le_refl _)) fun ws G Q E hC q=>?_
 obtain ⟨⟨k,l⟩,⟨rfl,h1,h2⟩,q⟩:=q
 dsimp only at h1 h2 q
 unfold Zmd
 walk_at "rd"
 exact ⟨(k,l),⟨rfl,⟨h1.1.1,Zmv h1⟩,⟨h2.1.1,Zmv h2⟩⟩,(k,l),⟨rfl,h1.1,h2.1,h1.2.2,h2.2.2⟩,q⟩
set_option maxHeartbeats 4000000
section
variable {P:Program} {w:World} {K:PySem.W.Frag} {mg:Str→Option Value} {base:Heap} {a:Adr}
abbrev Zhl:List Str:=["kind","name","field"]
theorem Zhe:ZaH Zhl ["kind","name"] (Zac Zb6):=⟨rfl,rfl,rfl,by decide +kernel,rfl,by decide +kernel,by decide +kernel⟩
def Zho:GS:=(ZaB (Zgo (Zbv (Zal (Zaq ixW) (Zag 0) (gC (.int 1)))) (gNm 2) (gIf (gTB (Zal (Zaq (eqF false)) (Zal (Zaq ixW) (Zag 2) (gC (.int 0))) (Zag 1))) (ZaL (ZmA (Zag 2) (ZdY (gC (.int 1))) Zbn)) Zax)) (ZaL (Zal (Zaq ixW) (Zcr (Zab (ZaN (Zab (gC (.str "none")) Zan)) (Zab (ZaN (Zab (gC (.str "free")) Zan)) Zan))) (gB (rF Zlq) (Zab (Zal (Zaq ixW) (Zag 0) (gC (.int 2))) Zan)))))
theorem ZkV {k:Nat} (T:Tx K mg base a) {f:Addr} {cdv:Value} {A:Around} {outer:List Env} {s:Shared} {H:Hp} {E:XK} (hr:Room k (A.deeper (envOfC "_law_entry" (Zac Zb6) s.heap.objs.size f cdv))):Ssm (cxW P w K mg base Zhl "_law_entry" (Zac Zb6) f cdv A outer s H E).nox (fun B=>B=H) (ZaC Zb6) (Zho) :=
 have hu:=Zfb hr
 (Zai (Zhj PassesOwn.never rfl (fun _=>rfl) (Zc0 (fun _ _=>rfl) (Zas (fun _ _=>rfl) (Zam (i:=0) rfl rfl rfl rfl) Zae)) (Zgc (i:=2) Zhe.nd rfl (.inl rfl) (.inr rfl)) (Zak (ZaZ (ZaG (ZaT hu) rfl (Zas (fun _ _=>rfl) (Zam (i:=2) rfl rfl rfl rfl) Zae) (Zam (i:=1) rfl rfl rfl rfl)) (Zak (Zav (Zo8 (Zam (i:=2) rfl rfl rfl rfl) (Zh6 Zae) Zh9))) Zay))) (Zak (Zav (Zas (fun _ _=>rfl) (ZbR (Zaa rfl (ZaE (Zaa rfl Zar Zad)) (Zaa rfl (ZaE (Zaa rfl Zar Zad)) Zad))) (ZgD Zk0 (Zh3) rfl T.ZiN (by decide) rfl rfl rfl (Zaa rfl (Zas (fun _ _=>rfl) (Zam (i:=0) rfl rfl rfl rfl) Zae) Zad))))))
abbrev Zhn:List Str:=["one","other"]
theorem ZkS:ZaH Zhn ["one","other"] (Zac Zb8):=⟨rfl,rfl,rfl,by decide +kernel,rfl,by decide +kernel,by decide +kernel⟩
def Zha:GS:=(ZaL (Zid (ZcX (Zbv (Zal (Zem) (Zal (Zaq ixW) (Zag 0) (gC (.int 1))) (Zal (Zaq ixW) (Zag 1) (gC (.int 1))))) 1 (gNm 0) ZgR (Zal (Zaq ixW) (Zag 0) (gC (.int 0))))))
theorem ZkO {k:Nat} (T:Tx K mg base a) {f:Addr} {cdv:Value} {A:Around} {outer:List Env} {s:Shared} {H:Hp} {E:XK} (hr:Room k (A.deeper (envOfC "_law_names" (Zac Zb8) s.heap.objs.size f cdv))):Ssm (cxW P w K mg base Zhn "_law_names" (Zac Zb8) f cdv A outer s H E).nox (fun B=>B=H) (ZaC Zb8) (Zha) :=
 have hu:=Zfb hr
 (Zak (Zav (ZqV rfl T.ZeR T.ZlN rfl rfl rfl rfl (ZeU (Nc:=["field"]) rfl (ZqD rfl (by decide +kernel) (by decide +kernel)) (fun _=>rfl) (Zc0 (fun _ _=>rfl) (Ze0 (Zas (fun _ _=>rfl) (Zam (i:=0) rfl rfl rfl rfl) Zae) (Zas (fun _ _=>rfl) (Zam (i:=1) rfl rfl rfl rfl) Zae))) (Ze2 (i:=0) (by decide) rfl rfl) (fun C fp s1 H1=>Zex) (fun C fp s1 H1=>(Zas (fun _ _=>rfl) (Zam (i:=0) rfl rfl rfl rfl) Zae))))))
end
set_option Elab.async false
set_option linter.all false
set_option maxRecDepth 100000
set_option maxHeartbeats 1000000
theorem ZbD (T:Tx K mg base a):Df P w K mg base "_law_names" 1 2 ZmC:=by
 refine mk0 T.Zd6 rfl ZkS Zmr (fun ws G Q E ⟨_,_,_,_,e,_⟩=>by rw [e];rfl) (ZkO T) fun ws G Q E hC q=>?_
 obtain ⟨fs,gs,o,p,rfl,h1,h2,q⟩:=q
 have l1:fs.enc.length < 16:=by rw [← ZcN];exact h1
 have l2:gs.enc.length < 16:=by rw [← ZcN];exact h2
 unfold Zha
 simp only [Kd.enc]
 walk_at "rd"
 refine ⟨Zbq (by omega),ZkQ (f:=Zk8) trivial (fs.enc++gs.enc) none [] (fun x hx Q' q'=>?_) (by simp only [List.length_nil,List.length_append];exact Zbq (by omega)) ?_⟩
 ·have:∃ n b k,x=.tup [.str n,.str (Zdf b),k]:=(List.mem_append.mp hx).elim Zig Zig
  obtain ⟨n,b,k,rfl⟩:=this
  show Zal (Zaq ixW) (Zag 0) (gC (.int 0)) [some (W.tup [.str n,.str (Zdf b),k])] _ Q'
  walk_at "rd"
  exact q'
 ·intro p1 hp1
  rw [List.nil_append,List.map_append,Zfm,Zfm,← List.map_append]
  refine ⟨fs.names++gs.names,Zeq Zah,by rw [List.length_append];omega,fun zs r z1 z2 z3 z4=>?_⟩
  have hr1:r≠p1:=fun e=>by subst e;rw [Zah] at z4;cases z4
  rw [Zat hr1] at z4
  exact hC _ _ _ ((Zbb hp1).put2) (q zs r z1 z2 (fun x=>by rw [z3,List.mem_append]) z4)
theorem ZhV {D:Ew} {G:Hw} {x:Str} {row:W}:∀ (fs:Fs) (o':Option W),(∀ m k,fs.find x=some (m,k)→D.rt (.tup [.str (Zdf m),k.enc]) G)→(fs.find x=none→∀ o'',D.nx [some row,some (.str x),o''] G) →
  Zdn yes (gNm 2) (gIf (gTB (Zal (Zaq (eqF false)) (Zal (Zaq ixW) (Zag 2) (gC (.int 0))) (Zag 1))) (ZaL (ZmA (Zag 2) (ZdY (gC (.int 1))) Zbn)) Zax) D fs.enc [some row,some (.str x),o'] G
 | .nil,o',_,h=>⟨trivial,h rfl o'⟩
 | .cons n m k r,o',h1,h2=>by
  refine ⟨trivial,?_⟩
  show gIf _ _ Zax _ [some row,some (.str x),some (.tup [.str n,.str (Zdf m),k.enc])] G
  walk_at "rd"
  simp only [Option.map_some,Zaf]
  by_cases hx:n=x
  ·subst hx
   simp only [beq_self_eq_true,bne_iff_ne,ne_eq,Bool.true_eq_false,not_false_eq_true,if_true,slA,Zn2,List.drop_succ_cons,List.drop_zero]
   exact h1 _ _ (by unfold Fs.find;rw [if_pos rfl])
  ·have e:(n==x)=false:=by simpa using hx
   simp only [e,bne_self_eq_false,Bool.false_eq_true,if_false]
   refine ZhV r _ (fun m' k' hv=>h1 m' k' ?_) (fun hn=>h2 ?_)
   ·unfold Fs.find;rw [if_neg hx];exact hv
   ·unfold Fs.find;rw [if_neg hx];exact hn
theorem ZbC (T:Tx K mg base a):Df P w K mg base "_law_entry" 1 2 ZgY:=by
 refine mk0 T.Zeb rfl Zhe ZcY (fun ws G Q E ⟨x,e,_⟩=>by rw [e];rfl) (ZkV T) fun ws G Q E hC q=>?_
 obtain ⟨⟨fs,o,x⟩,rfl,q⟩:=q
 dsimp only at q
 unfold Zho
 simp only [Kd.enc]
 walk_at "rd"
 refine ZhV fs none (fun m k hv=>?_) (fun hn o''=>?_)
 ·unfold ent at q;rw [hv] at q;exact q
 ·unfold ent at q;rw [hn] at q
  simp only [List.getElem?_cons_zero,List.getElem?_cons_succ,Zc7,Zaf]
  refine ⟨by decide,by decide,by decide,fun p hp=>?_⟩
  have q1:=hC _ _ _ (Zbb (o:=.lst [.tup [.str "none"],.tup [.str "free"]]) hp) q
  cases o with
  | true =>
   show opt (ixW (.ref p) (.int 1) _) _
   rw [ZcJ Zah,ZbZ,Zaf];exact q1
  | false =>
   show opt (ixW (.ref p) (.int 0) _) _
   rw [ZcJ Zah,Zc9,Zaf];exact q1
section
variable {P:Program} {w:World} {K:PySem.W.Frag} {mg:Str→Option Value} {base:Heap} {a:Adr}
abbrev Zgs:List Str:=["one","other","fields","is_open","name","a","b"]
theorem ZbN:ZaH Zgs ["one","other"] (Zac ZbM):=⟨rfl,rfl,rfl,by decide +kernel,rfl,by decide +kernel,by decide +kernel⟩
def ZgF (ZaI:Spw) (Zba:Spw) (ZaV:Spw):GS:=(ZaB (gIf (gTB (Zal (Zaq (eqF true)) (Zal (Zaq ixW) (Zag 0) (gC (.int 0))) (Zal (Zaq ixW) (Zag 1) (gC (.int 0))))) (ZaL (ZaN (Zab (gC (.str "any")) Zan))) Zax) (ZaB (gIf (gTB (Zal (Zaq (eqF false)) (Zal (Zaq ixW) (Zag 0) (gC (.int 0))) (gC (.str "to")))) (ZaL (ZaN (Zab (gC (.str "to")) (Zab (Zap ZaI (fun _ _ _=>False) (Zab (Zal (Zaq ixW) (Zag 0) (gC (.int 1))) (Zab (Zal (Zaq ixW) (Zag 1) (gC (.int 1))) Zan))) (Zab (Zap ZaI (fun _ _ _=>False) (Zab (Zal (Zaq ixW) (Zag 0) (gC (.int 2))) (Zab (Zal (Zaq ixW) (Zag 1) (gC (.int 2))) Zan))) Zan))))) Zax) (ZaB (gIf (gTB (Zal (Zaq (eqF false)) (Zal (Zaq ixW) (Zag 0) (gC (.int 0))) (gC (.str "box")))) (ZaL (ZaN (Zab (gC (.str "box")) (Zab (Zap ZaI (fun _ _ _=>False) (Zab (Zal (Zaq ixW) (Zag 0) (gC (.int 1))) (Zab (Zal (Zaq ixW) (Zag 1) (gC (.int 1))) Zan))) Zan)))) Zax) (ZaB (gIf (gTB (Zal (Zaq (eqF true)) (Zal (Zaq ixW) (Zag 0) (gC (.int 0))) (gC (.str "row")))) (ZaL (Zag 0)) Zax) (ZaB (Zbh 2 (Zcr Zan)) (ZaB (Zbh 3 (Zht (Zal (Zaq ixW) (Zag 0) (gC (.int 2))) (Zal (Zaq ixW) (Zag 1) (gC (.int 2))))) (ZaB (Zgo (Zbv (Zap Zba (fun _ _ _=>False) (Zab (Zag 0) (Zab (Zag 1) Zan)))) (gNm 4) (ZaB (Zbh 5 (Zap ZaV (fun _ _ _=>False) (Zab (Zag 0) (Zab (Zag 4) Zan)))) (ZaB (Zbh 6 (Zap ZaV (fun _ _ _=>False) (Zab (Zag 1) (Zab (Zag 4) Zan)))) (gIf (Zhs (gTB (Zal (Zaq (eqF false)) (gB (rF ZfM) (Zab (Zag 5) Zan)) (gC (.int 2)))) (gTB (Zal (Zaq (eqF false)) (Zal (Zaq ixW) (Zag 5) (gC (.int 0))) (Zal (Zaq ixW) (Zag 6) (gC (.int 0)))))) (ZbA (gMt Zfc Zlb (Zag 2) (Zab (ZaN (Zab (Zag 4) (Zab (Zal (Zaq ixW) (Zag 5) (gC (.int 0))) (Zab (Zap ZaI (fun _ _ _=>False) (Zab (Zal (Zaq ixW) (Zag 5) (gC (.int 1))) (Zab (Zal (Zaq ixW) (Zag 6) (gC (.int 1))) Zan))) Zan)))) Zan))) (Zbh 3 (gC (.bl true))))))) (ZaL (ZaN (Zab (gC (.str "row")) (Zab (gB (rF Zfv) (Zab (Zag 2) Zan)) (Zab (Zag 3) Zan))))))))))))
theorem Zjt {k:Nat} (T:Tx K mg base a) {Zbp:Nat} {ZaI:Spw} (ZbG:Df P w K mg base "_law_joined" Zbp 2 ZaI) (ZbI:Zbp≤k) {ZbD:Nat} {Zba:Spw} (Zfr:Df P w K mg base "_law_names" ZbD 2 Zba) (Zfl:ZbD≤k) {ZbC:Nat} {ZaV:Spw} (Zdp:Df P w K mg base "_law_entry" ZbC 2 ZaV) (Zdl:ZbC≤k) {f:Addr} {cdv:Value} {A:Around} {outer:List Env} {s:Shared} {H:Hp} {E:XK} (hr:Room k (A.deeper (envOfC "_law_joined" (Zac ZbM) s.heap.objs.size f cdv))):Ssm (cxW P w K mg base Zgs "_law_joined" (Zac ZbM) f cdv A outer s H E).nox (fun B=>B=H) (ZaC ZbM) (ZgF ZaI Zba ZaV) :=
 have hu:=Zfb hr
 (Zai (ZaZ (ZaG (Zd7 hu) rfl (Zas (fun _ _=>rfl) (Zam (i:=0) rfl rfl rfl rfl) Zae) (Zas (fun _ _=>rfl) (Zam (i:=1) rfl rfl rfl rfl) Zae)) (Zak (Zav (ZaE (Zaa rfl Zar Zad)))) Zay) (Zai (ZaZ (ZaG (ZaT hu) rfl (Zas (fun _ _=>rfl) (Zam (i:=0) rfl rfl rfl rfl) Zae) Zar) (Zak (Zav (ZaE (Zaa rfl Zar (Zaa rfl (Zao ZbG (hr.mono ZbI) rfl ZaD rfl rfl rfl (Zaa rfl (Zas (fun _ _=>rfl) (Zam (i:=0) rfl rfl rfl rfl) Zae) (Zaa rfl (Zas (fun _ _=>rfl) (Zam (i:=1) rfl rfl rfl rfl) Zae) Zad))) (Zaa rfl (Zao ZbG (hr.mono ZbI) rfl ZaD rfl rfl rfl (Zaa rfl (Zas (fun _ _=>rfl) (Zam (i:=0) rfl rfl rfl rfl) Zae) (Zaa rfl (Zas (fun _ _=>rfl) (Zam (i:=1) rfl rfl rfl rfl) Zae) Zad))) Zad)))))) Zay) (Zai (ZaZ (ZaG (ZaT hu) rfl (Zas (fun _ _=>rfl) (Zam (i:=0) rfl rfl rfl rfl) Zae) Zar) (Zak (Zav (ZaE (Zaa rfl Zar (Zaa rfl (Zao ZbG (hr.mono ZbI) rfl ZaD rfl rfl rfl (Zaa rfl (Zas (fun _ _=>rfl) (Zam (i:=0) rfl rfl rfl rfl) Zae) (Zaa rfl (Zas (fun _ _=>rfl) (Zam (i:=1) rfl rfl rfl rfl) Zae) Zad))) Zad))))) Zay) (Zai (ZaZ (ZaG (Zd7 hu) rfl (Zas (fun _ _=>rfl) (Zam (i:=0) rfl rfl rfl rfl) Zae) Zar) (Zak (Zav (Zam (i:=0) rfl rfl rfl rfl))) Zay) (Zai (Ze5 (i:=2) ZbN.nd rfl rfl rfl (ZbR Zad)) (Zai (Ze5 (i:=3) ZbN.nd rfl rfl rfl (Znd (Zas (fun _ _=>rfl) (Zam (i:=0) rfl rfl rfl rfl) Zae) (Zf1 (Zas (fun _ _=>rfl) (Zam (i:=1) rfl rfl rfl rfl) Zae)))) (Zai (Zhj PassesOwn.never rfl (fun _=>rfl) (Zc0 (fun _ _=>rfl) (Zao Zfr (hr.mono Zfl) rfl ZaD rfl rfl rfl (Zaa rfl (Zam (i:=0) rfl rfl rfl rfl) (Zaa rfl (Zam (i:=1) rfl rfl rfl rfl) Zad)))) (Zgc (i:=4) ZbN.nd rfl (.inl rfl) (.inr rfl)) (Zai (Ze5 (i:=5) ZbN.nd rfl rfl rfl (Zao Zdp (hr.mono Zdl) rfl ZaD rfl rfl rfl (Zaa rfl (Zam (i:=0) rfl rfl rfl rfl) (Zaa rfl (Zam (i:=4) rfl rfl rfl rfl) Zad)))) (Zai (Ze5 (i:=6) ZbN.nd rfl rfl rfl (Zao Zdp (hr.mono Zdl) rfl ZaD rfl rfl rfl (Zaa rfl (Zam (i:=1) rfl rfl rfl rfl) (Zaa rfl (Zam (i:=4) rfl rfl rfl rfl) Zad)))) (Zak (ZaZ (Zeo (ZmH (ZaG (ZaT hu) rfl (ZfL Zfp (ZdV) rfl T.ZfK (by decide) rfl rfl rfl (Zaa rfl (Zam (i:=5) rfl rfl rfl rfl) Zad)) Zae) (Zkb (ZaG (ZaT hu) rfl (Zas (fun _ _=>rfl) (Zam (i:=5) rfl rfl rfl rfl) Zae) (Zas (fun _ _=>rfl) (Zam (i:=6) rfl rfl rfl rfl) Zae))))) (Zak (Zen rfl (ZhT ZdH rfl rfl rfl rfl rfl (Zam (i:=2) rfl rfl rfl rfl) (Zaa rfl (ZaE (Zaa rfl (Zam (i:=4) rfl rfl rfl rfl) (Zaa rfl (Zas (fun _ _=>rfl) (Zam (i:=5) rfl rfl rfl rfl) Zae) (Zaa rfl (Zao ZbG (hr.mono ZbI) rfl ZaD rfl rfl rfl (Zaa rfl (Zas (fun _ _=>rfl) (Zam (i:=5) rfl rfl rfl rfl) Zae) (Zaa rfl (Zas (fun _ _=>rfl) (Zam (i:=6) rfl rfl rfl rfl) Zae) Zad))) Zad)))) Zad)))) (Zak (Ze5 (i:=3) ZbN.nd rfl rfl rfl Zfs))))))) (Zak (Zav (ZaE (Zaa rfl Zar (Zaa rfl (ZgD Zcx (Zdq) rfl T.Zcf (by decide) rfl rfl rfl (Zaa rfl (Zam (i:=2) rfl rfl rfl rfl) Zad)) (Zaa rfl (Zam (i:=3) rfl rfl rfl rfl) Zad)))))))))))))
abbrev ZgC:List Str:=["one","other","fields","name","a","b","mark"]
theorem Zcp:ZaH ZgC ["one","other"] (Zac ZbL):=⟨rfl,rfl,rfl,by decide +kernel,rfl,by decide +kernel,by decide +kernel⟩
def Zgn (ZaI:Spw) (ZaU:Spw) (Zba:Spw) (ZaV:Spw):GS:=(ZaB (gIf (gTB (Zal (Zaq (eqF true)) (Zal (Zaq ixW) (Zag 0) (gC (.int 0))) (Zal (Zaq ixW) (Zag 1) (gC (.int 0))))) (ZaL (ZaN (Zab (gC (.str "any")) Zan))) Zax) (ZaB (gIf (gTB (Zal (Zaq (eqF false)) (Zal (Zaq ixW) (Zag 0) (gC (.int 0))) (gC (.str "to")))) (ZaL (ZaN (Zab (gC (.str "to")) (Zab (Zap ZaI (fun _ _ _=>False) (Zab (Zal (Zaq ixW) (Zag 0) (gC (.int 1))) (Zab (Zal (Zaq ixW) (Zag 1) (gC (.int 1))) Zan))) (Zab (Zap ZaU (fun _ _ _=>False) (Zab (Zal (Zaq ixW) (Zag 0) (gC (.int 2))) (Zab (Zal (Zaq ixW) (Zag 1) (gC (.int 2))) Zan))) Zan))))) Zax) (ZaB (gIf (gTB (Zal (Zaq (eqF false)) (Zal (Zaq ixW) (Zag 0) (gC (.int 0))) (gC (.str "box")))) (ZaL (Zap ZaI (fun _ _ _=>False) (Zab (Zag 0) (Zab (Zag 1) Zan)))) Zax) (ZaB (gIf (gTB (Zal (Zaq (eqF true)) (Zal (Zaq ixW) (Zag 0) (gC (.int 0))) (gC (.str "row")))) (ZaL (Zag 0)) Zax) (ZaB (Zbh 2 (Zcr Zan)) (ZaB (Zgo (Zbv (Zap Zba (fun _ _ _=>False) (Zab (Zag 0) (Zab (Zag 1) Zan)))) (gNm 3) (ZaB (Zbh 4 (Zap ZaV (fun _ _ _=>False) (Zab (Zag 0) (Zab (Zag 3) Zan)))) (ZaB (Zbh 5 (Zap ZaV (fun _ _ _=>False) (Zab (Zag 1) (Zab (Zag 3) Zan)))) (gIf (gTB (Zal (Zaq (eqF false)) (Zal (Zem) (gB (rF ZfM) (Zab (Zag 4) Zan)) (gB (rF ZfM) (Zab (Zag 5) Zan))) (gC (.int 4)))) (ZaB (Zbh 6 (Zal (Zaq ixW) (Zcr (Zab (gC (.str "may")) (Zab (gC (.str "must")) Zan))) (gB (rF Zlq) (Zab (Zdx (Zal (Zaq (eqF false)) (Zal (Zaq ixW) (Zag 4) (gC (.int 0))) (gC (.str "must"))) (Zal (Zaq (eqF false)) (Zal (Zaq ixW) (Zag 5) (gC (.int 0))) (gC (.str "must")))) Zan)))) (ZbA (gMt Zfc Zlb (Zag 2) (Zab (ZaN (Zab (Zag 3) (Zab (Zag 6) (Zab (Zap ZaU (fun _ _ _=>False) (Zab (Zal (Zaq ixW) (Zag 4) (gC (.int 1))) (Zab (Zal (Zaq ixW) (Zag 5) (gC (.int 1))) Zan))) Zan)))) Zan)))) (gIf (gTB (Zal (Zaq inT) (ZaN (Zab (gC (.str "none")) Zan)) (Zcr (Zab (Zag 4) (Zab (Zag 5) Zan))))) (ZbA (gMt Zfc Zlb (Zag 2) (Zab (ZaN (Zab (Zag 3) (Zab (gC (.str "may")) (Zab (Zal (Zaq ixW) (Zal (Zem) (Zal (Zem) (Zag 4) (Zag 5)) (Zag 4)) (Zal (Zaq ixW) (Zcr (Zab (gC (.int 2)) (Zab (gC (.int 1)) Zan))) (gB (rF Zlq) (Zab (Zal (Zaq (eqF false)) (gB (rF ZfM) (Zab (Zag 4) Zan)) (gC (.int 2))) Zan)))) Zan)))) Zan))) Zax))))) (ZaL (ZaN (Zab (gC (.str "row")) (Zab (gB (rF Zfv) (Zab (Zag 2) Zan)) (Zab (Zht (Zal (Zaq ixW) (Zag 0) (gC (.int 2))) (Zal (Zaq ixW) (Zag 1) (gC (.int 2)))) Zan)))))))))))
theorem Zj2 {k:Nat} (T:Tx K mg base a) {Zbp:Nat} {ZaI:Spw} (ZbG:Df P w K mg base "_law_joined" Zbp 2 ZaI) (ZbI:Zbp≤k) {Zbo:Nat} {ZaU:Spw} (ZdE:Df P w K mg base "_law_either" Zbo 2 ZaU) (ZdB:Zbo≤k) {ZbD:Nat} {Zba:Spw} (Zfr:Df P w K mg base "_law_names" ZbD 2 Zba) (Zfl:ZbD≤k) {ZbC:Nat} {ZaV:Spw} (Zdp:Df P w K mg base "_law_entry" ZbC 2 ZaV) (Zdl:ZbC≤k) {f:Addr} {cdv:Value} {A:Around} {outer:List Env} {s:Shared} {H:Hp} {E:XK} (hr:Room k (A.deeper (envOfC "_law_either" (Zac ZbL) s.heap.objs.size f cdv))):Ssm (cxW P w K mg base ZgC "_law_either" (Zac ZbL) f cdv A outer s H E).nox (fun B=>B=H) (ZaC ZbL) (Zgn ZaI ZaU Zba ZaV) :=
 have hu:=Zfb hr
 (Zai (ZaZ (ZaG (Zd7 hu) rfl (Zas (fun _ _=>rfl) (Zam (i:=0) rfl rfl rfl rfl) Zae) (Zas (fun _ _=>rfl) (Zam (i:=1) rfl rfl rfl rfl) Zae)) (Zak (Zav (ZaE (Zaa rfl Zar Zad)))) Zay) (Zai (ZaZ (ZaG (ZaT hu) rfl (Zas (fun _ _=>rfl) (Zam (i:=0) rfl rfl rfl rfl) Zae) Zar) (Zak (Zav (ZaE (Zaa rfl Zar (Zaa rfl (Zao ZbG (hr.mono ZbI) rfl ZaD rfl rfl rfl (Zaa rfl (Zas (fun _ _=>rfl) (Zam (i:=0) rfl rfl rfl rfl) Zae) (Zaa rfl (Zas (fun _ _=>rfl) (Zam (i:=1) rfl rfl rfl rfl) Zae) Zad))) (Zaa rfl (Zao ZdE (hr.mono ZdB) rfl ZaD rfl rfl rfl (Zaa rfl (Zas (fun _ _=>rfl) (Zam (i:=0) rfl rfl rfl rfl) Zae) (Zaa rfl (Zas (fun _ _=>rfl) (Zam (i:=1) rfl rfl rfl rfl) Zae) Zad))) Zad)))))) Zay) (Zai (ZaZ (ZaG (ZaT hu) rfl (Zas (fun _ _=>rfl) (Zam (i:=0) rfl rfl rfl rfl) Zae) Zar) (Zak (Zav (Zao ZbG (hr.mono ZbI) rfl ZaD rfl rfl rfl (Zaa rfl (Zam (i:=0) rfl rfl rfl rfl) (Zaa rfl (Zam (i:=1) rfl rfl rfl rfl) Zad))))) Zay) (Zai (ZaZ (ZaG (Zd7 hu) rfl (Zas (fun _ _=>rfl) (Zam (i:=0) rfl rfl rfl rfl) Zae) Zar) (Zak (Zav (Zam (i:=0) rfl rfl rfl rfl))) Zay) (Zai (Ze5 (i:=2) Zcp.nd rfl rfl rfl (ZbR Zad)) (Zai (Zhj PassesOwn.never rfl (fun _=>rfl) (Zc0 (fun _ _=>rfl) (Zao Zfr (hr.mono Zfl) rfl ZaD rfl rfl rfl (Zaa rfl (Zam (i:=0) rfl rfl rfl rfl) (Zaa rfl (Zam (i:=1) rfl rfl rfl rfl) Zad)))) (Zgc (i:=3) Zcp.nd rfl (.inl rfl) (.inr rfl)) (Zai (Ze5 (i:=4) Zcp.nd rfl rfl rfl (Zao Zdp (hr.mono Zdl) rfl ZaD rfl rfl rfl (Zaa rfl (Zam (i:=0) rfl rfl rfl rfl) (Zaa rfl (Zam (i:=3) rfl rfl rfl rfl) Zad)))) (Zai (Ze5 (i:=5) Zcp.nd rfl rfl rfl (Zao Zdp (hr.mono Zdl) rfl ZaD rfl rfl rfl (Zaa rfl (Zam (i:=1) rfl rfl rfl rfl) (Zaa rfl (Zam (i:=3) rfl rfl rfl rfl) Zad)))) (Zak (ZaZ (ZaG (ZaT hu) rfl (Ze0 (ZfL Zfp (ZdV) rfl T.ZfK (by decide) rfl rfl rfl (Zaa rfl (Zam (i:=4) rfl rfl rfl rfl) Zad)) (ZfL Zfp (ZdV) rfl T.ZfK (by decide) rfl rfl rfl (Zaa rfl (Zam (i:=5) rfl rfl rfl rfl) Zad))) Zae) (Zai (Ze5 (i:=6) Zcp.nd rfl rfl rfl (Zas (fun _ _=>rfl) (ZbR (Zaa rfl Zar (Zaa rfl Zar Zad))) (ZgD Zk0 (Zh3) rfl T.ZiN (by decide) rfl rfl rfl (Zaa rfl (Zkl (ZfU (ZaT hu) rfl (Zas (fun _ _=>rfl) (Zam (i:=4) rfl rfl rfl rfl) Zae) Zar) (Zf1 (ZfU (ZaT hu) rfl (Zas (fun _ _=>rfl) (Zam (i:=5) rfl rfl rfl rfl) Zae) Zar))) Zad)))) (Zak (Zen rfl (ZhT ZdH rfl rfl rfl rfl rfl (Zam (i:=2) rfl rfl rfl rfl) (Zaa rfl (ZaE (Zaa rfl (Zam (i:=3) rfl rfl rfl rfl) (Zaa rfl (Zam (i:=6) rfl rfl rfl rfl) (Zaa rfl (Zao ZdE (hr.mono ZdB) rfl ZaD rfl rfl rfl (Zaa rfl (Zas (fun _ _=>rfl) (Zam (i:=4) rfl rfl rfl rfl) Zae) (Zaa rfl (Zas (fun _ _=>rfl) (Zam (i:=5) rfl rfl rfl rfl) Zae) Zad))) Zad)))) Zad))))) (Zak (ZaZ (ZaG (Zpg hu) rfl (ZaE (Zaa rfl Zar Zad)) (ZbR (Zaa rfl (Zam (i:=4) rfl rfl rfl rfl) (Zaa rfl (Zam (i:=5) rfl rfl rfl rfl) Zad)))) (Zak (Zen rfl (ZhT ZdH rfl rfl rfl rfl rfl (Zam (i:=2) rfl rfl rfl rfl) (Zaa rfl (ZaE (Zaa rfl (Zam (i:=3) rfl rfl rfl rfl) (Zaa rfl Zar (Zaa rfl (Zas (fun _ _=>rfl) (Ze0 (Ze0 (Zam (i:=4) rfl rfl rfl rfl) (Zam (i:=5) rfl rfl rfl rfl)) (Zam (i:=4) rfl rfl rfl rfl)) (Zas (fun _ _=>rfl) (ZbR (Zaa rfl Zae (Zaa rfl Zae Zad))) (ZgD Zk0 (Zh3) rfl T.ZiN (by decide) rfl rfl rfl (Zaa rfl (ZfU (ZaT hu) rfl (ZfL Zfp (ZdV) rfl T.ZfK (by decide) rfl rfl rfl (Zaa rfl (Zam (i:=4) rfl rfl rfl rfl) Zad)) Zae) Zad)))) Zad)))) Zad)))) Zay))))))) (Zak (Zav (ZaE (Zaa rfl Zar (Zaa rfl (ZgD Zcx (Zdq) rfl T.Zcf (by decide) rfl rfl rfl (Zaa rfl (Zam (i:=2) rfl rfl rfl rfl) Zad)) (Zaa rfl (Znd (Zas (fun _ _=>rfl) (Zam (i:=0) rfl rfl rfl rfl) Zae) (Zf1 (Zas (fun _ _=>rfl) (Zam (i:=1) rfl rfl rfl rfl) Zae))) Zad))))))))))))
abbrev Zes:List Str:=["found"]
theorem ZfQ:ZaH Zes ["found"] (Zac Zbw):=⟨rfl,rfl,rfl,by decide +kernel,rfl,by decide +kernel,by decide +kernel⟩
def Zel (ZaW:Spw):GS:=(ZaB (gIf (gNt (Zfd (ZdF "tuple" (Zag 0)))) (ZaL (Zkk "str" "bool" (Zag 0))) Zax) (ZaL (gB (rF Zib) (Zab (ZcX (Zbv (Zag 0)) 1 (gNm 0) ZgR (Zap ZaW (fun _ _ _=>False) (Zab (Zag 0) Zan))) Zan))))
theorem ZfT {k:Nat} (T:Tx K mg base a) {Zbe:Nat} {ZaW:Spw} (Zei:Df P w K mg base "_law_is_kind" Zbe 1 ZaW) (Zek:Zbe≤k) {f:Addr} {cdv:Value} {A:Around} {outer:List Env} {s:Shared} {H:Hp} {E:XK} (hr:Room k (A.deeper (envOfC "_law_is_kind" (Zac Zbw) s.heap.objs.size f cdv))):Ssm (cxW P w K mg base Zes "_law_is_kind" (Zac Zbw) f cdv A outer s H E).nox (fun B=>B=H) (ZaC Zbw) (Zel ZaW) :=
 have hu:=Zfb hr
 (Zai (ZaZ (Zfa (ZeN (fun _=>rfl) (Zge (T:="tuple") (by decide) Zcx T.Zcf T.ZaS rfl rfl (by decide) rfl rfl rfl (Zam (i:=0) rfl rfl rfl rfl)))) (Zak (Zav (ZpW (T:="str") (U:="bool") (by decide) (by decide) Zoc Zn1 T.ZkH T.Zil T.ZaS rfl rfl rfl (by decide) (by decide) rfl rfl rfl rfl rfl rfl (Zam (i:=0) rfl rfl rfl rfl)))) Zay) (Zak (Zav (ZfL Zkj (Zim rfl) rfl T.ZiK (by decide) rfl rfl rfl (Zaa rfl (ZeU (Nc:=["part"]) rfl (ZqD rfl (by decide +kernel) (by decide +kernel)) (fun _=>rfl) (Zc0 (fun _ _=>rfl) (Zam (i:=0) rfl rfl rfl rfl)) (Ze2 (i:=0) (by decide) rfl rfl) (fun C fp s1 H1=>Zex) (fun C fp s1 H1=>(Zao Zei (hr.mono Zek) rfl ZaD rfl rfl rfl (Zaa rfl (Zam (i:=0) rfl rfl rfl rfl) Zad)))) Zad)))))
abbrev ZuN:List Str:=["script","one","other","due","found"]
theorem ZpX:ZaH ZuN ["script"] (Zac Zkz):=⟨rfl,rfl,rfl,by decide +kernel,rfl,by decide +kernel,by decide +kernel⟩
def Zvn (Zd9:Spw) (ZaU:Spw) (Zey:Spw) (ZaW:Spw):GS:=(ZaB (Zv4 (ZiL 1 2) (Zap Zd9 (fun _ _ _=>False) (Zab (Zag 0) (Zab (gC (.int 0)) (Zab (gC (.bl false)) Zan))))) (ZaB (Zbh 3 (Zap ZaU (fun _ _ _=>False) (Zab (Zag 1) (Zab (Zag 2) Zan)))) (ZaB (Zgo (Zbv (Zcr (Zab (Zap Zey (fun _ _ _=>False) (Zab (Zag 1) (Zab (Zag 2) Zan))) (Zab (Zap Zey (fun _ _ _=>False) (Zab (Zag 2) (Zab (Zag 1) Zan))) Zan)))) (gNm 4) (gIf (gOr (gNt (Zfd (Zap ZaW (fun _ _ _=>False) (Zab (Zag 4) Zan)))) (gTB (Zal (Zaq (eqF true)) (Zag 4) (Zag 3)))) (ZaL (gC (.bl false))) Zax)) (ZaL (Zal (Zaq (eqF false)) (Zap Zey (fun _ _ _=>False) (Zab (Zag 1) (Zab (Zag 1) Zan))) (Zag 1))))))
theorem Zwy {k:Nat} (T:Tx K mg base a) {ZeZ:Nat} {Zd9:Spw} (ZlU:Df P w K mg base "_law_pair" ZeZ 3 Zd9) (Zl9:ZeZ≤k) {Zbo:Nat} {ZaU:Spw} (ZdE:Df P w K mg base "_law_either" Zbo 2 ZaU) (ZdB:Zbo≤k) {ZhL:Nat} {Zey:Spw} (ZjC:Df P w K mg base "either" ZhL 2 Zey) (ZjO:ZhL≤k) {Zbe:Nat} {ZaW:Spw} (Zei:Df P w K mg base "_law_is_kind" Zbe 1 ZaW) (Zek:Zbe≤k) {f:Addr} {cdv:Value} {A:Around} {outer:List Env} {s:Shared} {H:Hp} {E:XK} (hr:Room k (A.deeper (envOfC "law" (Zac Zkz) s.heap.objs.size f cdv))):Ssm (cxW P w K mg base ZuN "law" (Zac Zkz) f cdv A outer s H E).nox (fun B=>B=H) (ZaC Zkz) (Zvn Zd9 ZaU Zey ZaW) :=
 have hu:=Zfb hr
 (Zai (ZtH rfl rfl rfl (ZuT (i:=1) (j:=2) rfl ZpX.nd rfl (.inl rfl) (.inr rfl) rfl (.inl rfl) (.inr rfl)) (Zao ZlU (hr.mono Zl9) rfl ZaD rfl rfl rfl (Zaa rfl (Zam (i:=0) rfl rfl rfl rfl) (Zaa rfl Zae (Zaa rfl Zfs Zad))))) (Zai (Ze5 (i:=3) ZpX.nd rfl rfl rfl (Zao ZdE (hr.mono ZdB) rfl ZaD rfl rfl rfl (Zaa rfl (Zam (i:=1) rfl rfl rfl rfl) (Zaa rfl (Zam (i:=2) rfl rfl rfl rfl) Zad)))) (Zai (Zhj PassesOwn.never rfl (fun _=>rfl) (Zc0 (fun _ _=>rfl) (ZbR (Zaa rfl (Zao ZjC (hr.mono ZjO) rfl ZaD rfl rfl rfl (Zaa rfl (Zam (i:=1) rfl rfl rfl rfl) (Zaa rfl (Zam (i:=2) rfl rfl rfl rfl) Zad))) (Zaa rfl (Zao ZjC (hr.mono ZjO) rfl ZaD rfl rfl rfl (Zaa rfl (Zam (i:=2) rfl rfl rfl rfl) (Zaa rfl (Zam (i:=1) rfl rfl rfl rfl) Zad))) Zad)))) (Zgc (i:=4) ZpX.nd rfl (.inl rfl) (.inr rfl)) (Zak (ZaZ (Zeo (Zkf (Zfa (ZeN (fun _=>rfl) (Zao Zei (hr.mono Zek) rfl ZaD rfl rfl rfl (Zaa rfl (Zam (i:=4) rfl rfl rfl rfl) Zad)))) (Zjf (ZaG (Zd7 hu) rfl (Zam (i:=4) rfl rfl rfl rfl) (Zam (i:=3) rfl rfl rfl rfl))))) (Zak (Zav Zfs)) Zay))) (Zak (Zav (ZfU (ZaT hu) rfl (Zao ZjC (hr.mono ZjO) rfl ZaD rfl rfl rfl (Zaa rfl (Zam (i:=1) rfl rfl rfl rfl) (Zaa rfl (Zam (i:=1) rfl rfl rfl rfl) Zad))) (Zam (i:=1) rfl rfl rfl rfl)))))))
end
def ZnL:En→Int
 | .told _ _=>2
 | _=>1
theorem Zn4 {e:En} {G:Hw}:ZfM [e.enc] G=some (.int (ZnL e)):=by cases e <;> rfl
theorem Zw1 {i j:Int} {G:Hw}:eqF false (.int i) (.int j) G=some (.bl (i==j)):=by unfold eqF eqW;show some (W.bl ((i==j) != false))=_;cases (i==j) <;> rfl
theorem Zwp {s t:Str} {G:Hw}:eqF false (.str s) (.str t) G=some (.bl (s==t)):=by unfold eqF eqW;show some (W.bl ((s==t) != false))=_;cases (s==t) <;> rfl
abbrev Ztn (n:Nat):Spw:=spR (fun (x:Kd×Kd) ws _=>ws=[x.1.enc,x.2.enc]∧wf x.1∧wf x.2∧x.1.dp≤n) fun x=>(Za6 n x.1 x.2).enc
abbrev Ztr (sp:Spw):GS:=(ZaB (Zbh 5 (Zap ZgY (fun _ _ _=>False) (L3.Zab (Zag 0) (L3.Zab (Zag 4) L3.Zan)))) (ZaB (Zbh 6 (Zap ZgY (fun _ _ _=>False) (L3.Zab (Zag 1) (L3.Zab (Zag 4) L3.Zan)))) (gIf (Zhs (gTB (Zal (Zaq (eqF false)) (gB (rF ZfM) (L3.Zab (Zag 5) L3.Zan)) (gC (.int 2)))) (gTB (Zal (Zaq (eqF false)) (Zal (Zaq ixW) (Zag 5) (gC (.int 0))) (Zal (Zaq ixW) (Zag 6) (gC (.int 0)))))) (ZbA (gMt Zfc Zlb (Zag 2) (L3.Zab (L3.ZaN (L3.Zab (Zag 4) (L3.Zab (Zal (Zaq ixW) (Zag 5) (gC (.int 0))) (L3.Zab (Zap sp (fun _ _ _=>False) (L3.Zab (Zal (Zaq ixW) (Zag 5) (gC (.int 1))) (L3.Zab (Zal (Zaq ixW) (Zag 6) (gC (.int 1))) L3.Zan))) L3.Zan)))) L3.Zan))) (Zbh 3 (gC (.bl true))))))
theorem Zwv {f:Kd→Kd→Kd} {e e':En} (h:e.hd≠e'.hd):jE f e e'=none:=by
 cases e <;> cases e' <;> first | rfl | skip
 rename_i m k m' k'
 exact if_neg fun z=>h (by rw [z];rfl)
theorem ZlE {n:Nat} {D:Ew} {fs gs:Fs} {o o':Bool} {pp q0:Addr} {items:List W} (npq:q0≠pp) (hs:∀ x m k m' k',ent fs o x=.told m k→ent gs o' x=.told m' k'→wf k∧wf k'∧k.dp≤n):∀ (xs:List Str) (op:Bool) (o4 o5 o6:Option W) (dn:List (Str×Bool×Kd)) (G:Hw),G pp=some (.lst (dn.map ZbT))→G q0=some (.lst items)→dn.length+xs.length≤100 →
  (∀ o4 o5 o6 G',G' pp=some (.lst ((dn++xs.filterMap (jF (Za6 n) fs gs o o')).map ZbT))→(∀ b,b≠pp→∀ u,G b=some u→G' b=some u)→D.nx [some (Kd.row fs o).enc,some (Kd.row gs o').enc,some (.ref pp),some (.bl (op||xs.any fun x=>(jE (Za6 n) (ent fs o x) (ent gs o' x)).isNone)),o4,o5,o6] G') →
  Zdn (holds q0 items) (gNm 4) (Ztr (Ztn n)) D (xs.map W.str) [some (Kd.row fs o).enc,some (Kd.row gs o').enc,some (.ref pp),some (.bl op),o4,o5,o6] G
 | [],op,o4,o5,o6,dn,G,hp,hq,_,h=>⟨hq,by have:=h o4 o5 o6 G (by rw [List.filterMap_nil,List.append_nil];exact hp) (fun _ _ _ z=>z);rw [List.any_nil,Bool.or_false] at this;exact this⟩
 | x::xs,op,o4,o5,o6,dn,G,hp,hq,hl,h=>by
  refine ⟨hq,?_⟩
  rw [List.length_cons] at hl
  show Ztr (Ztn n) _ [some (Kd.row fs o).enc,some (Kd.row gs o').enc,some (.ref pp),some (.bl op),some (.str x),o5,o6] G
  unfold Ztr
  refine ⟨(fs,o,x),rfl,?_⟩
  dsimp only
  refine ⟨(gs,o',x),rfl,?_⟩
  simp only [List.set_cons_zero,List.set_cons_succ]
  have hx:=hs x
  rw [List.any_cons] at h
  have none_case:jE (Za6 n) (ent fs o x) (ent gs o' x)=none→∀ o4 o5 o6,Zdn (holds q0 items) (gNm 4) (Ztr (Ztn n)) D (xs.map W.str) [some (Kd.row fs o).enc,some (Kd.row gs o').enc,some (.ref pp),some (.bl true),o4,o5,o6] G:=fun z o4 o5 o6=>by
   refine ZlE npq hs xs true o4 o5 o6 dn G hp hq (by omega) fun o4 o5 o6 G' f1 f2=>?_
   have e1:jF (Za6 n) fs gs o o' x=none:=by unfold jF;rw [z];rfl
   have:=h o4 o5 o6 G' (by rw [List.filterMap_cons_none e1];exact f1) f2
   rw [z,show ((op||((none:Option (Bool×Kd)).isNone||xs.any fun x=>(jE (Za6 n) (ent fs o x) (ent gs o' x)).isNone)))=true by cases op <;> rfl] at this
   exact this
  have some_case:∀ m k,jE (Za6 n) (ent fs o x) (ent gs o' x)=some (m,k)→∀ o4 o5 o6,Zdn (holds q0 items) (gNm 4) (Ztr (Ztn n)) D (xs.map W.str) [some (Kd.row fs o).enc,some (Kd.row gs o').enc,some (.ref pp),some (.bl op),o4,o5,o6] (put G pp (.lst (dn.map ZbT++[ZbT (x,m,k)]))):=fun m k z o4 o5 o6=>by
   refine ZlE npq hs xs op o4 o5 o6 (dn++[(x,m,k)]) _ (by rw [Zah,List.map_append];rfl) (by rw [Zat npq];exact hq) (by rw [List.length_append];simp only [List.length_cons,List.length_nil];omega) fun o4 o5 o6 G' f1 f2=>?_
   have e1:jF (Za6 n) fs gs o o' x=some (x,m,k):=by unfold jF;rw [z];rfl
   have:=h o4 o5 o6 G' (by rw [List.filterMap_cons_some e1];rw [List.append_assoc] at f1;exact f1) fun b hb u hu=>f2 b hb u (by rw [Zat hb];exact hu)
   rw [z,show ((op||((some (m,k):Option (Bool×Kd)).isNone||xs.any fun x=>(jE (Za6 n) (ent fs o x) (ent gs o' x)).isNone)))=(op||xs.any fun x=>(jE (Za6 n) (ent fs o x) (ent gs o' x)).isNone) by rfl] at this
   exact this
  generalize ent fs o x=e at hx none_case some_case ⊢
  generalize ent gs o' x=e' at hx none_case some_case ⊢
  have hlen:(dn.map ZbT).length < sizeLine:=by rw [List.length_map];exact ZfH (by omega)
  simp only [gIf,Zhs,gTB,Zal,gB,rF,Zaq,Zag,gC,L3.Zab,L3.Zan,List.getElem?_cons_zero,List.getElem?_cons_succ]
  rw [Zn4,Zaf,Zw1,Zaf]
  cases e with
  | free=>exact none_case rfl _ _ _
  | nope=>exact none_case rfl _ _ _
  | told m k =>
   show if ((2:Int)==2)=true then _ else _
   rw [if_pos (by decide),Zhh,Zaf,Zhh,Zaf,Zwp,Zaf]
   by_cases z:(En.told m k).hd=e'.hd
   ·rw [show ((En.told m k).hd==e'.hd)=true by simp [z]]
    simp only [if_true]
    cases e' with
    | free=>exact absurd z (Zdr m).1
    | nope=>exact absurd z (Zdr m).2.1
    | told m' k' =>
     obtain rfl:m=m':=Zj5 z
     obtain ⟨v1,v2,v3⟩:=hx m k m k' rfl rfl
     simp only [ZbA,gMt,Zap,Zal,Zaq,Zag,gC,L3.ZaN,L3.Zab,L3.Zan,En.enc,List.getElem?_cons_zero,List.getElem?_cons_succ,ixW,Zc9,ZbZ,Zaf]
     exact ⟨Zd2 hp,(k,k'),⟨rfl,v1,v2,v3⟩,(show 3≤sizeLine by decide),Zh5 hp hlen (some_case m (Za6 n k k') ZlT _ _ _)⟩
   ·rw [show ((En.told m k).hd==e'.hd)=false by simp [z]]
    exact none_case (Zwv z) _ _ _
theorem ZkG {k:Kd} {t:Str} {e:GE} {Zcg:GS} {D:Ew} {ω:Sw} {G:Hw} (h1:ω[0]?=some (some k.enc)) (h:if k.hd=t then Zcg D ω G else e ω G D.rt) :
  ZaB (gIf (gTB (Zal (Zaq (eqF true)) (Zal (Zaq ixW) (Zag 0) (gC (.int 0))) (gC (.str t)))) (ZaL e) Zax) Zcg D ω G:=by
 simp only [ZaB,gIf,gTB,Zal,Zaq,Zag,h1,gC,ZaL,Zax]
 rw [ZcD]
 simp only [Zaf,eqF,eqW,Option.map_some]
 by_cases z:k.hd=t
 ·rw [if_pos z] at h
  simp only [z,beq_self_eq_true,bne_self_eq_false,Bool.false_eq_true,if_false]
  exact h
 ·rw [if_neg z] at h
  have:(k.hd==t)=false:=by simpa using z
  simp only [this,show (false != true)=true from rfl,if_true]
  exact h
theorem Zbp (T:Tx K mg base a):∀ n:Nat,Df P w K mg base "_law_joined" (n+3) 2 (Ztn n)
 | 0=>Zj1 T.ZcQ ZcY fun ws G Q E ⟨x,⟨_,_,_,h⟩,_⟩=>by have:=ZcZ x.1;omega
 | n+1=>by
  have D:=Zbp T n
  refine mk0 (k:=n+3) T.ZcQ rfl ZbN ZcY (fun ws G Q E ⟨x,⟨e,_⟩,_⟩=>by rw [e];rfl) (Zjt T D (Nat.le_refl _) (ZbD T) (by omega) (ZbC T) (by omega)) fun ws G Q E hC q=>?_
  obtain ⟨⟨k,l⟩,⟨rfl,w1,w2,hd⟩,q⟩:=q
  dsimp only at w1 w2 hd q
  unfold ZgF
  show ZaB (gIf _ _ Zax) _ (ZaX Q) [some k.enc,some l.enc,none,none,none,none,none] G
  refine Zgv rfl rfl (ZcD k G) (ZcD l G) ?_
  by_cases hh:k.hd=l.hd
  ·rw [if_pos hh]
   refine Zfu (k:=k) rfl ?_
   by_cases ht:k.hd="to"
   ·rw [if_pos ht]
    cases k <;> cases l <;> first | exact absurd ht (by simp only [Kd.hd];decide) | exact absurd hh (by simp only [Kd.hd];decide) | skip
    rename_i a1 a2 b1 b2
    have d1:=ZaF (k:=.to a1 a2) (c:=a1) (by simp [Kd.kids])
    have d2:=ZaF (k:=.to a1 a2) (c:=a2) (by simp [Kd.kids])
    simp only [L3.ZaN,Zap,L3.Zab,L3.Zan,Zal,Zaq,Zag,gC,Kd.enc,List.getElem?_cons_zero,List.getElem?_cons_succ,ixW,ZbZ,Zc7,Zaf]
    exact ⟨(a1,b1),⟨rfl,Zaw w1 (by simp [Kd.kids]),Zaw w2 (by simp [Kd.kids]),by dsimp only;omega⟩,(a2,b2),⟨rfl,Zaw w1 (by simp [Kd.kids]),Zaw w2 (by simp [Kd.kids]),by dsimp only;omega⟩,(show 3≤sizeLine by decide),q⟩
   ·rw [if_neg ht]
    refine Zfu (k:=k) rfl ?_
    by_cases hb:k.hd="box"
    ·rw [if_pos hb]
     cases k <;> cases l <;> first | exact absurd hb (by simp only [Kd.hd];decide) | exact absurd hh (by simp only [Kd.hd];decide) | skip
     rename_i a1 b1
     have d1:=ZaF (k:=.box a1) (c:=a1) (by simp [Kd.kids])
     simp only [L3.ZaN,Zap,L3.Zab,L3.Zan,Zal,Zaq,Zag,gC,Kd.enc,List.getElem?_cons_zero,List.getElem?_cons_succ,ixW,ZbZ,Zaf]
     exact ⟨(a1,b1),⟨rfl,Zaw w1 (by simp [Kd.kids]),Zaw w2 (by simp [Kd.kids]),by dsimp only;omega⟩,(show 2≤sizeLine by decide),q⟩
    ·rw [if_neg hb]
     refine ZkG (k:=k) rfl ?_
     by_cases hr:k.hd="row"
     ·rw [if_pos hr]
      obtain ⟨fs,o,rfl⟩:=ZfO hr
      obtain ⟨gs,o',rfl⟩:=ZfO (hh▸hr)
      simp only [ZaB,Zbh,Zcr,L3.Zan]
      refine ⟨(show 0≤sizeLine by decide),fun p1 e1=>?_⟩
      have s1:Sub G (put G p1 (.lst [])):=Zbb e1
      have f1:put G p1 (.lst []) p1=some (.lst ([].map ZbT)):=Zah
      have n1:∀ b u,G b=some u→b≠p1:=fun b u z=>ZaK z e1
      generalize put G p1 (.lst [])=G1 at s1 f1 ⊢
      have go:∀ op:Bool,op=(o||o')→(Zgo (Zbv (Zap ZmC (fun _ _ _=>False) (L3.Zab (Zag 0) (L3.Zab (Zag 1) L3.Zan)))) (gNm 4) (Ztr (Ztn n))) { ZaX Q with nx:=ZaL (L3.ZaN (L3.Zab (gC (.str "row")) (L3.Zab (gB (rF Zfv) (L3.Zab (Zag 2) L3.Zan)) (L3.Zab (Zag 3) L3.Zan)))) (ZaX Q) } [some (Kd.row fs o).enc,some (Kd.row gs o').enc,some (.ref p1),some (.bl op),none,none,none] G1:=fun op hop=>by
       subst hop
       simp only [Zgo,Zbv,Zap,Zag,L3.Zab,L3.Zan,List.getElem?_cons_zero,List.getElem?_cons_succ]
       refine ⟨fs,gs,o,o',rfl,Zea w1,Zea w2,fun zs r z1 z2 z3 z4=>?_⟩
       have hz:=ZjT z1 z2 z3
       have hzl:zs.length≤10:=by rw [hz];exact ZfJ w1 w2
       have nr:r≠p1:=Ne.symm (ZaK f1 z4)
       have s2:Sub G (put G1 r (.lst (zs.map W.str))):=Zcw s1 z4
       have f2:put G1 r (.lst (zs.map W.str)) p1=some (.lst ([].map ZbT)):=by rw [Zat (Ne.symm nr)];exact f1
       simp only [Zah]
       refine ZlE (n:=n) nr (fun x m k m' k' u1 u2=>?_) zs _ none none none [] _ f2 Zah (by simp only [List.length_nil];omega) fun o4 o5 o6 G' g1 g2=>?_
       ·have h1:=Zcq u1
        have h2:=Zcq u2
        have hk:=ZaF (k:=.row fs o) (c:=k) h1
        exact ⟨Zaw w1 h1,Zaw w2 h2,by omega⟩
       ·rw [List.nil_append] at g1
        have s3:Sub G G':=fun b u hu=>g2 b (n1 b u hu) u (s2 _ _ hu)
        simp only [ZaL,L3.ZaN,gB,rF,Zag,gC,L3.Zab,L3.Zan,List.getElem?_cons_zero,List.getElem?_cons_succ]
        rw [show Zfv [.ref p1] G'=some (.tup ((zs.filterMap (jF (Za6 n) fs gs o o')).map ZbT)) by unfold Zfv;dsimp only;rw [Zfo g1];rfl,Zaf]
        refine ⟨(show 3≤sizeLine by decide),?_⟩
        have e3:(Za6 (n+1) (.row fs o) (.row gs o')).enc=.tup [.str "row",.tup ((zs.filterMap (jF (Za6 n) fs gs o o')).map ZbT),.bl (o||o'||zs.any fun x=>(jE (Za6 n) (ent fs o x) (ent gs o' x)).isNone)]:=by
         show W.tup [.str "row",.tup (ofL (jL (Za6 n) fs gs o o')).enc,.bl (o||o'||jN (Za6 n) fs gs o o')]=_
         rw [Zer];unfold jL jN;rw [hz]
        rw [e3] at q
        exact hC _ _ _ s3 q
      have ea:(Kd.row fs o).enc=.tup [.str "row",.tup fs.enc,.bl o]:=rfl
      have eb:(Kd.row gs o').enc=.tup [.str "row",.tup gs.enc,.bl o']:=rfl
      rw [ea,eb] at go ⊢
      simp only [Zht,Zal,Zaq,Zag,gC,List.set_cons_zero,List.set_cons_succ,List.getElem?_cons_zero,List.getElem?_cons_succ,ixW,Zc7,Zaf]
      cases o with
      | true=>exact go true rfl
      | false=>exact go o' rfl
     ·rw [if_neg hr]
      cases k <;> cases l <;> first | exact absurd hh (by simp only [Kd.hd];decide) | exact absurd rfl hr | exact absurd rfl hb | exact absurd rfl ht | exact q
  ·rw [if_neg hh]
   rw [ZoQ hh] at q
   exact ⟨by decide,q⟩
theorem Zw4 {k:Kd} (hd:k.dp≤20):dpW k.enc < 90:=by have:=Zgy k;omega
def Zto:En→Nat
 | .told _ k=>k.dp
 | _=>1
theorem ZwI {e:En} (h:Zto e≤20):dpW e.enc < 90:=by
 cases e with
 | free=>decide
 | nope=>decide
 | told m k =>
  have:=Zgy k
  have h':k.dp≤20:=h
  show max 0 (max (dpW k.enc) 0)+1 < 90
  omega
theorem Zp4 (e:En):eqD e.enc (.tup [.str "none"])=some (e.hd=="none"):=by
 cases e with
 | free=>show some (("free":Str)=="none"&&true)=_;rw [Bool.and_true];rfl
 | nope=>show some (("none":Str)=="none"&&true)=_;rw [Bool.and_true];rfl
 | told m k =>
  show (match some (Zdf m=="none"),some false with | some a,some b=>some (a&&b) | _,_=>none)=some (Zdf m=="none")
  have:(Zdf m=="none")=false:=by cases m <;> decide +kernel
  rw [this];rfl
theorem Zwe {e e':En} {G:Hw} {p:Addr} (d1:Zto e≤20) (d2:Zto e'≤20):inT (.tup [.str "none"]) (.ref p) (put G p (.lst [e.enc,e'.enc]))=some (.bl ((e.hd=="none")||((e'.hd=="none")||false))):=by
 unfold inT
 rw [Zgr Zah,Option.bind_some]
 simp only [Zrr,ZwI d1,ZwI d2,if_true,Zp4,Option.map_some]
theorem ZmQ {fs:Fs} {o:Bool} {x:Str} (h:(Kd.row fs o).dp≤20):Zto (ent fs o x)≤20:=by
 cases e:ent fs o x with
 | free=>show 1≤20;decide
 | nope=>show 1≤20;decide
 | told m k =>
  have h1:=ZaF (k:=.row fs o) (c:=k) (Zcq e)
  show k.dp≤20
  omega
abbrev gEB (sp:Spw):GS:=(ZaB (Zbh 4 (Zap ZgY (fun _ _ _=>False) (L3.Zab (Zag 0) (L3.Zab (Zag 3) L3.Zan)))) (ZaB (Zbh 5 (Zap ZgY (fun _ _ _=>False) (L3.Zab (Zag 1) (L3.Zab (Zag 3) L3.Zan)))) (gIf (gTB (Zal (Zaq (eqF false)) (Zal (Zem) (gB (rF ZfM) (L3.Zab (Zag 4) L3.Zan)) (gB (rF ZfM) (L3.Zab (Zag 5) L3.Zan))) (gC (.int 4)))) (ZaB (Zbh 6 (Zal (Zaq ixW) (Zcr (L3.Zab (gC (.str "may")) (L3.Zab (gC (.str "must")) L3.Zan))) (gB (rF Zlq) (L3.Zab (Zdx (Zal (Zaq (eqF false)) (Zal (Zaq ixW) (Zag 4) (gC (.int 0))) (gC (.str "must"))) (Zal (Zaq (eqF false)) (Zal (Zaq ixW) (Zag 5) (gC (.int 0))) (gC (.str "must")))) L3.Zan)))) (ZbA (gMt Zfc Zlb (Zag 2) (L3.Zab (L3.ZaN (L3.Zab (Zag 3) (L3.Zab (Zag 6) (L3.Zab (Zap sp (fun _ _ _=>False) (L3.Zab (Zal (Zaq ixW) (Zag 4) (gC (.int 1))) (L3.Zab (Zal (Zaq ixW) (Zag 5) (gC (.int 1))) L3.Zan))) L3.Zan)))) L3.Zan)))) (gIf (gTB (Zal (Zaq inT) (L3.ZaN (L3.Zab (gC (.str "none")) L3.Zan)) (Zcr (L3.Zab (Zag 4) (L3.Zab (Zag 5) L3.Zan))))) (ZbA (gMt Zfc Zlb (Zag 2) (L3.Zab (L3.ZaN (L3.Zab (Zag 3) (L3.Zab (gC (.str "may")) (L3.Zab (Zal (Zaq ixW) (Zal (Zem) (Zal (Zem) (Zag 4) (Zag 5)) (Zag 4)) (Zal (Zaq ixW) (Zcr (L3.Zab (gC (.int 2)) (L3.Zab (gC (.int 1)) L3.Zan))) (gB (rF Zlq) (L3.Zab (Zal (Zaq (eqF false)) (gB (rF ZfM) (L3.Zab (Zag 4) L3.Zan)) (gC (.int 2))) L3.Zan)))) L3.Zan)))) L3.Zan))) Zax))))
theorem Zlu {n:Nat} {D:Ew} {fs gs:Fs} {o o':Bool} {pp q0:Addr} {items:List W} (h1:(Kd.row fs o).dp≤20) (h2:(Kd.row gs o').dp≤20) (npq:q0≠pp) (hs:∀ x m k m' k',ent fs o x=.told m k→ent gs o' x=.told m' k'→wf k∧wf k'∧k.dp≤n∧k'.dp≤n):∀ (xs:List Str) (o3 o4 o5 o6:Option W) (dn:List (Str×Bool×Kd)) (G:Hw),(∀ x∈xs,tld (ent fs o x)∨tld (ent gs o' x))→G pp=some (.lst (dn.map ZbT))→G q0=some (.lst items)→dn.length+xs.length≤100 →
  (∀ o3 o4 o5 o6 G',G' pp=some (.lst ((dn++xs.filterMap (eF (Zdu n) fs gs o o')).map ZbT))→(∀ b,b≠pp→∀ u,G b=some u→G' b=some u)→D.nx [some (Kd.row fs o).enc,some (Kd.row gs o').enc,some (.ref pp),o3,o4,o5,o6] G') →
  Zdn (holds q0 items) (gNm 3) (gEB (Zon n)) D (xs.map W.str) [some (Kd.row fs o).enc,some (Kd.row gs o').enc,some (.ref pp),o3,o4,o5,o6] G
 | [],o3,o4,o5,o6,dn,G,_,hp,hq,_,h=>⟨hq,h o3 o4 o5 o6 G (by rw [List.filterMap_nil,List.append_nil];exact hp) (fun _ _ _ z=>z)⟩
 | x::xs,o3,o4,o5,o6,dn,G,ht,hp,hq,hl,h=>by
  refine ⟨hq,?_⟩
  rw [List.length_cons] at hl
  show gEB (Zon n) _ [some (Kd.row fs o).enc,some (Kd.row gs o').enc,some (.ref pp),some (.str x),o4,o5,o6] G
  unfold gEB
  refine ⟨(fs,o,x),rfl,?_⟩
  dsimp only
  refine ⟨(gs,o',x),rfl,?_⟩
  simp only [List.set_cons_zero,List.set_cons_succ]
  have hx:=hs x
  have htx:=ht x List.mem_cons_self
  have d1:Zto (ent fs o x)≤20:=ZmQ h1
  have d2:Zto (ent gs o' x)≤20:=ZmQ h2
  have ht':∀ y∈xs,tld (ent fs o y)∨tld (ent gs o' y):=fun y hy=>ht y (List.mem_cons_of_mem _ hy)
  have none_case:eE (Zdu n) (ent fs o x) (ent gs o' x)=none→∀ G1,(∀ b u,G b=some u→G1 b=some u)→∀ o3 o4 o5 o6,Zdn (holds q0 items) (gNm 3) (gEB (Zon n)) D (xs.map W.str) [some (Kd.row fs o).enc,some (Kd.row gs o').enc,some (.ref pp),o3,o4,o5,o6] G1:=fun z G1 hk o3 o4 o5 o6=>by
   refine Zlu h1 h2 npq hs xs o3 o4 o5 o6 dn G1 ht' (hk _ _ hp) (hk _ _ hq) (by omega) fun o3 o4 o5 o6 G' f1 f2=>?_
   have e1:eF (Zdu n) fs gs o o' x=none:=by unfold eF;rw [z];rfl
   exact h o3 o4 o5 o6 G' (by rw [List.filterMap_cons_none e1];exact f1) fun b hb u hu=>f2 b hb u (hk b u hu)
  have some_case:∀ m k,eE (Zdu n) (ent fs o x) (ent gs o' x)=some (m,k)→∀ G1,(∀ b u,G b=some u→G1 b=some u)→∀ o3 o4 o5 o6,Zdn (holds q0 items) (gNm 3) (gEB (Zon n)) D (xs.map W.str) [some (Kd.row fs o).enc,some (Kd.row gs o').enc,some (.ref pp),o3,o4,o5,o6] (put G1 pp (.lst (dn.map ZbT++[ZbT (x,m,k)]))):=fun m k z G1 hk o3 o4 o5 o6=>by
   refine Zlu h1 h2 npq hs xs o3 o4 o5 o6 (dn++[(x,m,k)]) _ ht' (by rw [Zah,List.map_append];rfl) (by rw [Zat npq];exact hk _ _ hq) (by rw [List.length_append];simp only [List.length_cons,List.length_nil];omega) fun o3 o4 o5 o6 G' f1 f2=>?_
   have e1:eF (Zdu n) fs gs o o' x=some (x,m,k):=by unfold eF;rw [z];rfl
   exact h o3 o4 o5 o6 G' (by rw [List.filterMap_cons_some e1];rw [List.append_assoc] at f1;exact f1) fun b hb u hu=>f2 b hb u (by rw [Zat hb];exact hk b u hu)
  generalize ent fs o x=e at hx htx d1 none_case some_case ⊢
  generalize ent gs o' x=e' at hx htx d2 none_case some_case ⊢
  have hlen:(dn.map ZbT).length < sizeLine:=by rw [List.length_map];exact ZfH (by omega)
  simp only [gIf,gTB,Zal,gB,rF,Zaq,Zag,gC,L3.Zab,L3.Zan,List.getElem?_cons_zero,List.getElem?_cons_succ]
  rw [Zn4,Zaf,Zn4,Zaf,ZhI (by rintro ⟨⟨_,h⟩,_⟩;cases h)]
  simp only [L3.ZgJ]
  rw [Zw1,Zaf]
  have two:(∃ m k m' k',e=.told m k∧e'=.told m' k')∨((ZnL e+ZnL e')==4)=false∧¬ (tld e∧tld e'):=by
   cases e with
   | free=>exact .inr ⟨by cases e' <;> rfl,by rintro ⟨⟨m,k,z⟩,_⟩;cases z⟩
   | nope=>exact .inr ⟨by cases e' <;> rfl,by rintro ⟨⟨m,k,z⟩,_⟩;cases z⟩
   | told m k =>
    cases e' with
    | free=>exact .inr ⟨rfl,by rintro ⟨_,⟨m,k,z⟩⟩;cases z⟩
    | nope=>exact .inr ⟨rfl,by rintro ⟨_,⟨m,k,z⟩⟩;cases z⟩
    | told m' k'=>exact .inl ⟨m,k,m',k',rfl,rfl⟩
  rcases two with ⟨m,k,m',k',rfl,rfl⟩ | ⟨hno,hnb⟩
  ·dsimp only
   rw [if_pos (show ((ZnL (.told m k)+ZnL (.told m' k')==4))=true from rfl)]
   obtain ⟨v1,v2,v3,v4⟩:=hx m k m' k' rfl rfl
   simp only [ZaB,Zbh,Zal,Zcr,gB,rF,Zdx,Zaq,Zag,gC,L3.Zab,L3.Zan,En.enc,List.getElem?_cons_zero,List.getElem?_cons_succ,ixW,Zc9,Zaf]
   refine ⟨(show 2≤sizeLine by decide),fun p2 e2=>?_⟩
   have np:pp≠p2:=ZaK hp e2
   have hk:∀ b u,G b=some u→put G p2 (.lst [.str "may",.str "must"]) b=some u:=fun b u z=>by rw [Zat (ZaK z e2)];exact z
   have f2:put G p2 (.lst [.str "may",.str "must"]) p2=some (.lst [.str "may",.str "must"]):=Zah
   have hp':=hk _ _ hp
   generalize put G p2 (.lst [.str "may",.str "must"])=G1 at hk f2 hp' ⊢
   have fin:∀ b:Bool,b=(m&&m')→(ZbA (gMt Zfc Zlb (Zag 2) (L3.Zab (L3.ZaN (L3.Zab (Zag 3) (L3.Zab (Zag 6) (L3.Zab (Zap (Zon n) (fun _ _ _=>False) (L3.Zab (Zal (Zaq ixW) (Zag 4) (gC (.int 1))) (L3.Zab (Zal (Zaq ixW) (Zag 5) (gC (.int 1))) L3.Zan))) L3.Zan)))) L3.Zan))) { nx:=Zdn (holds q0 items) (gNm 3) (gEB (Zon n)) D (xs.map W.str),rt:=D.rt,bk:=D.nx,ct:=Zdn (holds q0 items) (gNm 3) (gEB (Zon n)) D (xs.map W.str) } [some (Kd.row fs o).enc,some (Kd.row gs o').enc,some (.ref pp),some (.str x),some (.tup [.str (Zdf m),k.enc]),some (.tup [.str (Zdf m'),k'.enc]),some (.str (Zdf b))] G1:=fun b hb=>by
    subst hb
    simp only [ZbA,gMt,Zap,Zal,Zaq,Zag,gC,L3.ZaN,L3.Zab,L3.Zan,List.getElem?_cons_zero,List.getElem?_cons_succ,ixW,ZbZ,Zaf]
    exact ⟨Zd2 hp',(k,k'),⟨rfl,v1,v2,v3,v4⟩,(show 3≤sizeLine by decide),Zh5 hp' hlen (some_case (m&&m') (Zdu n k k') rfl G1 hk _ _ _ _)⟩
   rw [Zwp,Zaf]
   simp only [ZlF]
   cases m with
   | false =>
    show opt (ixW (.ref p2) (.int 0) G1) _
    rw [ZcJ f2,Zc9,Zaf]
    exact fin false rfl
   | true =>
    simp only [if_true]
    rw [Zwp,Zaf]
    simp only [ZlF]
    cases m' with
    | false =>
     show opt (ixW (.ref p2) (.int 0) G1) _
     rw [ZcJ f2,Zc9,Zaf]
     exact fin false rfl
    | true =>
     show opt (ixW (.ref p2) (.int 1) G1) _
     rw [ZcJ f2,ZbZ,Zaf]
     exact fin true rfl
  ·dsimp only
   rw [hno]
   simp only [Bool.false_eq_true,if_false,gIf,gTB,Zal,Zaq,Zag,gC,L3.ZaN,Zcr,L3.Zab,L3.Zan,List.getElem?_cons_zero,List.getElem?_cons_succ]
   refine ⟨by decide,(show 2≤sizeLine by decide),fun p0 e0=>?_⟩
   rw [Zwe d1 d2,Zaf]
   have hk:∀ b u,G b=some u→put G p0 (.lst [e.enc,e'.enc]) b=some u:=fun b u z=>by rw [Zat (ZaK z e0)];exact z
   have hp':=hk _ _ hp
   generalize put G p0 (.lst [e.enc,e'.enc])=G1 at hk hp' ⊢
   cases e with
   | free =>
    obtain ⟨m,k,z⟩:=htx.resolve_left (by rintro ⟨m,k,z⟩;cases z)
    subst z
    have:((En.free.hd=="none")||(((En.told m k).hd=="none")||false))=false:=by
     have h1:((En.told m k).hd=="none")=false:=by show (Zdf m=="none")=false;simpa using (Zdr m).2.1
     rw [h1];rfl
    rw [this]
    exact none_case rfl G1 hk _ _ _ _
   | nope =>
    obtain ⟨m,k,z⟩:=htx.resolve_left (by rintro ⟨m,k,z⟩;cases z)
    subst z
    have:((En.nope.hd=="none")||(((En.told m k).hd=="none")||false))=true:=rfl
    rw [this]
    simp only [if_true,ZbA,gMt,Zal,gB,rF,Zcr,Zaq,Zag,gC,L3.ZaN,L3.Zab,L3.Zan,En.enc,List.getElem?_cons_zero,List.getElem?_cons_succ]
    refine ⟨Zd2 hp',?_⟩
    rw [Zby]
    refine ⟨(show 3≤sizeLine by decide),?_⟩
    rw [Zby]
    refine ⟨(show 4≤sizeLine by decide),(show 2≤sizeLine by decide),fun p3 e3=>?_⟩
    have hk3:∀ b u,G b=some u→put G1 p3 (.lst [.int 2,.int 1]) b=some u:=fun b u z=>by rw [Zat (ZaK (hk b u z) e3)];exact hk b u z
    have hp3:=hk3 _ _ hp
    have f3:put G1 p3 (.lst [.int 2,.int 1]) p3=some (.lst [.int 2,.int 1]):=Zah
    generalize put G1 p3 (.lst [.int 2,.int 1])=G2 at hk3 hp3 f3 ⊢
    show opt (ixW (.ref p3) (.int 0) G2) _
    rw [ZcJ f3,Zc9,Zaf]
    show opt (some k.enc) _
    rw [Zaf]
    exact ⟨(show 3≤sizeLine by decide),Zh5 hp3 hlen (some_case false k rfl G2 hk3 _ _ _ _)⟩
   | told m k =>
    cases e' with
    | told m' k'=>exact absurd ⟨⟨m,k,rfl⟩,⟨m',k',rfl⟩⟩ hnb
    | free =>
     have:(((En.told m k).hd=="none")||((En.free.hd=="none")||false))=false:=by
      have h1:((En.told m k).hd=="none")=false:=by show (Zdf m=="none")=false;simpa using (Zdr m).2.1
      rw [h1];rfl
     rw [this]
     exact none_case rfl G1 hk _ _ _ _
    | nope =>
     have:(((En.told m k).hd=="none")||((En.nope.hd=="none")||false))=true:=by
      have h1:((En.told m k).hd=="none")=false:=by show (Zdf m=="none")=false;simpa using (Zdr m).2.1
      rw [h1];rfl
     rw [this]
     simp only [if_true,ZbA,gMt,Zal,gB,rF,Zcr,Zaq,Zag,gC,L3.ZaN,L3.Zab,L3.Zan,En.enc,List.getElem?_cons_zero,List.getElem?_cons_succ]
     refine ⟨Zd2 hp',?_⟩
     rw [Zby]
     refine ⟨(show 3≤sizeLine by decide),?_⟩
     rw [Zby]
     refine ⟨(show 5≤sizeLine by decide),(show 2≤sizeLine by decide),fun p3 e3=>?_⟩
     have hk3:∀ b u,G b=some u→put G1 p3 (.lst [.int 2,.int 1]) b=some u:=fun b u z=>by rw [Zat (ZaK (hk b u z) e3)];exact hk b u z
     have hp3:=hk3 _ _ hp
     have f3:put G1 p3 (.lst [.int 2,.int 1]) p3=some (.lst [.int 2,.int 1]):=Zah
     generalize put G1 p3 (.lst [.int 2,.int 1])=G2 at hk3 hp3 f3 ⊢
     show opt (ixW (.ref p3) (.int 1) G2) _
     rw [ZcJ f3,ZbZ,Zaf]
     show opt (some k.enc) _
     rw [Zaf]
     exact ⟨(show 3≤sizeLine by decide),Zh5 hp3 hlen (some_case false k rfl G2 hk3 _ _ _ _)⟩
theorem Zis:∀ (n:Nat) (a b:Kd),a.dp≤n→Za6 (n+1) a b=Za6 n a b
 | 0,a,_,h=>by have:=ZcZ a;omega
 | n+1,a,b,h=>by
  cases a <;> cases b <;> first | rfl | skip
  ·rename_i a1 a2 b1 b2
   have d1:=ZaF (k:=.to a1 a2) (c:=a1) (by simp [Kd.kids])
   have d2:=ZaF (k:=.to a1 a2) (c:=a2) (by simp [Kd.kids])
   show Kd.to (Za6 (n+1) a1 b1) (Za6 (n+1) a2 b2)=Kd.to (Za6 n a1 b1) (Za6 n a2 b2)
   rw [Zis n a1 b1 (by omega),Zis n a2 b2 (by omega)]
  ·rename_i a1 b1
   have d1:=ZaF (k:=.box a1) (c:=a1) (by simp [Kd.kids])
   show Kd.box (Za6 (n+1) a1 b1)=Kd.box (Za6 n a1 b1)
   rw [Zis n a1 b1 (by omega)]
  ·rename_i fs o gs p
   have hE:∀ x,jE (Za6 (n+1)) (ent fs o x) (ent gs p x)=jE (Za6 n) (ent fs o x) (ent gs p x):=fun x=>by
    cases e:ent fs o x with
    | free=>rfl
    | nope=>rfl
    | told m k =>
     have hk:=ZaF (k:=.row fs o) (c:=k) (Zcq e)
     cases ent gs p x with
     | free=>rfl
     | nope=>rfl
     | told m' k' =>
      show (if m=m' then some (m,Za6 (n+1) k k') else none)=if m=m' then some (m,Za6 n k k') else none
      rw [Zis n k k' (by omega)]
   show Kd.row (ofL (jL (Za6 (n+1)) fs gs o p)) (o||p||jN (Za6 (n+1)) fs gs o p)=Kd.row (ofL (jL (Za6 n) fs gs o p)) (o||p||jN (Za6 n) fs gs o p)
   have e1:jL (Za6 (n+1)) fs gs o p=jL (Za6 n) fs gs o p:=by unfold jL;congr 1;funext x;unfold jF;rw [hE]
   have e2:jN (Za6 (n+1)) fs gs o p=jN (Za6 n) fs gs o p:=by unfold jN;congr 1;funext x;rw [hE]
   rw [e1,e2]
theorem Zbo (T:Tx K mg base a):∀ n:Nat,n≤20→Df P w K mg base "_law_either" (n+4) 2 (Zon n)
 | 0,_=>Zj1 T.ZcP ZcY fun ws G Q E ⟨x,⟨_,_,_,h,_⟩,_⟩=>by have:=ZcZ x.1;omega
 | n+1,hn=>by
  have D:=Zbo T n (by omega)
  refine mk0 (k:=n+4) T.ZcP rfl Zcp ZcY (fun ws G Q E ⟨x,⟨e,_⟩,_⟩=>by rw [e];rfl) (Zj2 T (Zbp T (n+1)) (Nat.le_refl _) D (Nat.le_refl _) (ZbD T) (by omega) (ZbC T) (by omega)) fun ws G Q E hC q=>?_
  obtain ⟨⟨k,l⟩,⟨rfl,w1,w2,hd,hd'⟩,q⟩:=q
  dsimp only at w1 w2 hd hd' q
  unfold Zgn
  show ZaB (gIf _ _ Zax) _ (ZaX Q) [some k.enc,some l.enc,none,none,none,none,none] G
  refine Zgv rfl rfl (ZcD k G) (ZcD l G) ?_
  by_cases hh:k.hd=l.hd
  ·rw [if_pos hh]
   refine Zfu (k:=k) rfl ?_
   by_cases ht:k.hd="to"
   ·rw [if_pos ht]
    cases k <;> cases l <;> first | exact absurd ht (by simp only [Kd.hd];decide) | exact absurd hh (by simp only [Kd.hd];decide) | skip
    rename_i a1 a2 b1 b2
    have d1:=ZaF (k:=.to a1 a2) (c:=a1) (by simp [Kd.kids])
    have d2:=ZaF (k:=.to a1 a2) (c:=a2) (by simp [Kd.kids])
    have d4:=ZaF (k:=.to b1 b2) (c:=b2) (by simp [Kd.kids])
    simp only [L3.ZaN,Zap,L3.Zab,L3.Zan,Zal,Zaq,Zag,gC,Kd.enc,List.getElem?_cons_zero,List.getElem?_cons_succ,ixW,ZbZ,Zc7,Zaf]
    exact ⟨(a1,b1),⟨rfl,Zaw w1 (by simp [Kd.kids]),Zaw w2 (by simp [Kd.kids]),by dsimp only;omega⟩,(a2,b2),⟨rfl,Zaw w1 (by simp [Kd.kids]),Zaw w2 (by simp [Kd.kids]),by dsimp only;omega,by dsimp only;omega⟩,(show 3≤sizeLine by decide),by dsimp only;rw [Zis n a1 b1 (by omega)];exact q⟩
   ·rw [if_neg ht]
    refine Zfu (k:=k) rfl ?_
    by_cases hb:k.hd="box"
    ·rw [if_pos hb]
     cases k <;> cases l <;> first | exact absurd hb (by simp only [Kd.hd];decide) | exact absurd hh (by simp only [Kd.hd];decide) | skip
     rename_i a1 b1
     simp only [Zap,L3.Zab,L3.Zan,Zag,List.getElem?_cons_zero,List.getElem?_cons_succ]
     exact ⟨(.box a1,.box b1),⟨rfl,w1,w2,hd⟩,q⟩
    ·rw [if_neg hb]
     refine ZkG (k:=k) rfl ?_
     by_cases hr:k.hd="row"
     ·rw [if_pos hr]
      obtain ⟨fs,o,rfl⟩:=ZfO hr
      obtain ⟨gs,o',rfl⟩:=ZfO (hh▸hr)
      simp only [ZaB,Zbh,Zcr,L3.Zan,List.set_cons_zero,List.set_cons_succ]
      refine ⟨(show 0≤sizeLine by decide),fun p1 e1=>?_⟩
      have s1:Sub G (put G p1 (.lst [])):=Zbb e1
      have f1:put G p1 (.lst []) p1=some (.lst ([].map ZbT)):=Zah
      have n1:∀ b u,G b=some u→b≠p1:=fun b u z=>ZaK z e1
      generalize put G p1 (.lst [])=G1 at s1 f1 ⊢
      simp only [Zgo,Zbv,Zap,Zag,L3.Zab,L3.Zan,List.getElem?_cons_zero,List.getElem?_cons_succ]
      refine ⟨fs,gs,o,o',rfl,Zea w1,Zea w2,fun zs r z1 z2 z3 z4=>?_⟩
      have hz:=ZjT z1 z2 z3
      have hzl:zs.length≤10:=by rw [hz];exact ZfJ w1 w2
      have nr:r≠p1:=Ne.symm (ZaK f1 z4)
      have s2:Sub G (put G1 r (.lst (zs.map W.str))):=Zcw s1 z4
      have f2:put G1 r (.lst (zs.map W.str)) p1=some (.lst ([].map ZbT)):=by rw [Zat (Ne.symm nr)];exact f1
      simp only [Zah]
      refine Zlu (n:=n) (by omega) (by omega) nr (fun x m k m' k' u1 u2=>?_) zs none none none none [] _ (fun x hx=>Zor ((z3 x).mp hx)) f2 Zah (by simp only [List.length_nil];omega) fun o3 o4 o5 o6 G' g1 g2=>?_
      ·have h1:=Zcq u1
       have h2:=Zcq u2
       have hk:=ZaF (k:=.row fs o) (c:=k) h1
       have hk':=ZaF (k:=.row gs o') (c:=k') h2
       exact ⟨Zaw w1 h1,Zaw w2 h2,by omega,by omega⟩
      ·rw [List.nil_append] at g1
       have s3:Sub G G':=fun b u hu=>g2 b (n1 b u hu) u (s2 _ _ hu)
       have ea:(Kd.row fs o).enc=.tup [.str "row",.tup fs.enc,.bl o]:=rfl
       have eb:(Kd.row gs o').enc=.tup [.str "row",.tup gs.enc,.bl o']:=rfl
       have e3:(Zdu (n+1) (.row fs o) (.row gs o')).enc=.tup [.str "row",.tup ((zs.filterMap (eF (Zdu n) fs gs o o')).map ZbT),.bl (o||o')]:=by
        show W.tup [.str "row",.tup (ofL (eL (Zdu n) fs gs o o')).enc,.bl (o||o')]=_
        rw [Zer];unfold eL;rw [hz]
       rw [e3] at q
       have q':=hC _ _ _ s3 q
       rw [ea,eb]
       simp only [ZaL,L3.ZaN,gB,rF,Zht,Zal,Zaq,Zag,gC,L3.Zab,L3.Zan,List.getElem?_cons_zero,List.getElem?_cons_succ,ixW,Zc7,Zaf]
       rw [show Zfv [.ref p1] G'=some (.tup ((zs.filterMap (eF (Zdu n) fs gs o o')).map ZbT)) by unfold Zfv;dsimp only;rw [Zfo g1];rfl,Zaf]
       cases o with
       | true=>exact ⟨(show 3≤sizeLine by decide),q'⟩
       | false=>exact ⟨(show 3≤sizeLine by decide),q'⟩
     ·rw [if_neg hr]
      cases k <;> cases l <;> first | exact absurd hh (by simp only [Kd.hd];decide) | exact absurd rfl hr | exact absurd rfl hb | exact absurd rfl ht | exact q
  ·rw [if_neg hh]
   rw [Zou hh] at q
   exact ⟨by decide,q⟩
set_option Elab.async false
set_option linter.all false
set_option maxRecDepth 100000
set_option maxHeartbeats 1000000
mutual
def plS:W→Bool
 | .str _=>true
 | .bl _=>true
 | .tup xs=>decide (xs.length≤1000)&&Zrq xs
 | _=>false
def Zrq:List W→Bool
 | []=>true
 | x::xs=>plS x&&Zrq xs
end
theorem Zml:∀ {xs:List W},Zrq xs=true→∀ x∈xs,plS x=true
 | [],_,x,h=>by cases h
 | y::xs,h,x,hx=>by
  have h':(plS y&&Zrq xs)=true:=h
  simp only [Bool.and_eq_true] at h'
  rcases List.mem_cons.mp hx with rfl | hx
  ·exact h'.1
  ·exact Zml h'.2 x hx
theorem Zm0:∀ {xs:List W},∀ x∈xs,dpW x≤L3.dpL xs
 | [],x,h=>by cases h
 | y::xs,x,hx=>by
  show dpW x≤max (dpW y) (L3.dpL xs)
  rcases List.mem_cons.mp hx with rfl | hx
  ·exact Nat.le_max_left _ _
  ·exact Nat.le_trans (Zm0 x hx) (Nat.le_max_right _ _)
mutual
theorem Zkx:∀ {k:Kd},k.ten=true→plS k.enc=true
 | .any,_=>rfl
 | .num,_=>rfl
 | .truth,_=>rfl
 | .to a b,h=>by
  have h':(a.ten&&b.ten)=true:=h
  simp only [Bool.and_eq_true] at h'
  show (decide (3≤1000)&&(true&&(plS a.enc&&(plS b.enc&&true))))=true
  rw [Zkx h'.1,Zkx h'.2];rfl
 | .box a,h=>by
  show (decide (2≤1000)&&(true&&(plS a.enc&&true)))=true
  rw [Zkx (k:=a) h];rfl
 | .row fs o,h=>by
  have h':(decide (fs.names.length≤10)&&fs.ten)=true:=h
  simp only [Bool.and_eq_true,decide_eq_true_eq] at h'
  show (decide (3≤1000)&&(true&&((decide (fs.enc.length≤1000)&&Zrq fs.enc)&&(true&&true))))=true
  have:fs.enc.length≤1000:=by rw [← ZcN];omega
  rw [decide_eq_true this,Zpa h'.2];rfl
theorem Zpa:∀ {fs:Fs},fs.ten=true→Zrq fs.enc=true
 | .nil,_=>rfl
 | .cons n m k r,h=>by
  have h':(k.ten&&r.ten)=true:=h
  simp only [Bool.and_eq_true] at h'
  show ((decide (3≤1000)&&(true&&(true&&(plS k.enc&&true))))&&Zrq r.enc)=true
  rw [Zkx h'.1,Zpa h'.2];rfl
end
abbrev ZvE (n:Nat):Spw:=spR (fun (w:W) ws _=>ws=[w]∧plS w=true∧dpW w≤n) fun _=>.bl true
theorem Zvx {G:Hw} {p:Addr} {xs:List W} (h:G p=some (.lst (xs.map fun _=>W.bl true))):Zib [.ref p] G=some (.bl true):=by
 unfold Zib
 dsimp only
 rw [Zeq h,Option.bind_some,show (xs.map fun _=>W.bl true)=(xs.map fun _=>true).map W.bl by rw [List.map_map];rfl,ZeK]
 show some (W.bl ((xs.map fun _=>true).all id))=_
 rw [List.all_map]
 simp
theorem Zux {n:Nat} {sp:Spw} {ws:List W} {G:Hw} {Q:Kw} {E:Addr→Hw→Prop} (hC:Kw.C Q) (q:ZvE n ws G Q E) (hsp:n=0∨∃ m,n=m+1∧sp=ZvE m):Zel sp (ZaX Q) (Zcs Zes ws) G:=by
 obtain ⟨w,⟨rfl,h1,h2⟩,q⟩:=q
 dsimp only at h1 h2 q
 unfold Zel
 show ZaB (gIf _ _ Zax) _ (ZaX Q) [some w] G
 have i1:ZgP "str" "tuple"=false:=by first | rfl | decide +kernel
 have i2:ZgP "bool" "tuple"=false:=by first | rfl | decide +kernel
 have i3:ZgP "tuple" "tuple"=true:=by first | rfl | decide +kernel
 have i4:(ZgP "str" "str"||ZgP "str" "bool")=true:=by first | rfl | decide +kernel
 have i5:(ZgP "bool" "str"||ZgP "bool" "bool")=true:=by first | rfl | decide +kernel
 cases w with
 | non=>cases h1
 | int i=>cases h1
 | rol xs=>cases h1
 | ref a=>cases h1
 | str s =>
  simp only [ZaB,gIf,gNt,Zfd,ZdF,Zkk,Zag,ZaL,List.getElem?_cons_zero,tyN,Zhv,i1,i4,Bool.not_false,if_true]
  exact q
 | bl b =>
  simp only [ZaB,gIf,gNt,Zfd,ZdF,Zkk,Zag,ZaL,List.getElem?_cons_zero,tyN,Zhv,i2,i5,Bool.not_false,if_true]
  exact q
 | tup xs =>
  have hd:L3.dpL xs+1≤n:=h2
  have h1':(decide (xs.length≤1000)&&Zrq xs)=true:=h1
  simp only [Bool.and_eq_true,decide_eq_true_eq] at h1'
  rcases hsp with rfl | ⟨m,rfl,rfl⟩
  ·omega
  simp only [ZaB,gIf,gNt,Zfd,ZdF,Zag,ZaL,List.getElem?_cons_zero,tyN,Zhv,i3,Bool.not_true,Bool.false_eq_true,if_false,Zax,gB,rF,L3.Zab,L3.Zan,ZcX,Zbv,List.replicate]
  refine ZkQ (f:=fun _=>W.bl true) trivial xs none [] (fun x hx Q' q'=>?_) (by simp only [List.length_nil];exact Zbq (by omega)) fun p hp=>?_
  ·have hm:=Zm0 x hx
   exact ⟨x,⟨rfl,Zml h1'.2 x hx,by omega⟩,q'⟩
  ·rw [List.nil_append]
   show opt (Zib [.ref p] _) _
   rw [Zvx Zah,Zaf]
   exact hC _ _ _ (Zbb hp) q
theorem Zbe (T:Tx K mg base a):∀ n:Nat,Df P w K mg base "_law_is_kind" (n+1) 1 (ZvE n)
 | 0=>mk0 (k:=0) T.ZbV rfl ZfQ ZcY (fun ws G Q E ⟨x,⟨e,_⟩,_⟩=>by rw [e];rfl) (ZfT T (Zj1 (sp:=ZvG) (k:=0) T.ZbV Zo5 fun _ _ _ _ h=>h) (Nat.le_refl _)) fun ws G Q E hC q=>Zux hC q (.inl rfl)
 | n+1=>mk0 (k:=n+1) T.ZbV rfl ZfQ ZcY (fun ws G Q E ⟨x,⟨e,_⟩,_⟩=>by rw [e];rfl) (ZfT T (Zbe T n) (Nat.le_refl _)) fun ws G Q E hC q=>Zux hC q (.inr ⟨n,rfl,rfl⟩)
theorem Zr4 {xs ys:List W} (h:L3.dpL xs < 90) (G:Hw):eqW (.tup xs) (.tup ys) G=eqD (.tup xs) (.tup ys):=by
 show (if L3.dpL xs < 90 then Zio xs ys else none)=_
 rw [if_pos h,eqD]
theorem Zo7 (neg:Bool) {k:Kd} (h:k.dp≤20) (G:Hw):eqF neg k.enc k.enc G=some (.bl (true != neg)):=by
 obtain ⟨b,e,i⟩:=plD k.enc k.enc (ZiZ k) (ZiZ k)
 obtain rfl:b=true:=i.mpr rfl
 have h':=Zw4 h
 obtain ⟨xs,hx⟩:∃ xs,k.enc=.tup xs:=by cases k <;> exact ⟨_,rfl⟩
 rw [hx] at e h' ⊢
 have h2:L3.dpL xs+1 < 90:=h'
 unfold eqF
 rw [Zr4 (by omega),e];rfl
theorem Zp7 {i:Nat} {ge:GE} {Zcg:GS} {D:Ew} {ω:Sw} {G:Hw} (h:ge ω G fun w G1=>Zcg D (ω.set i (some w)) G1):ZaB (Zbh i ge) Zcg D ω G:=h
abbrev gWB:GS:=(gIf (gOr (gNt (Zfd (Zap (ZvE 30) (fun _ _ _=>False) (L3.Zab (Zag 4) L3.Zan)))) (gTB (Zal (Zaq (eqF true)) (Zag 4) (Zag 3)))) (ZaL (gC (.bl false))) Zax)
theorem ZuA {d:Kd} {D:Ew} {w0 w1 w2:Option W} {G:Hw} (ht:d.ten=true) (hd:d.dp≤8) (h:D.nx [w0,w1,w2,some d.enc,some d.enc] G):gWB D [w0,w1,w2,some d.enc,some d.enc] G:=by
 unfold gWB
 have h3:=Zgy d
 simp only [gIf,gOr,gNt,Zfd,gTB,Zap,Zal,Zaq,Zag,gC,L3.Zab,L3.Zan,List.getElem?_cons_zero,List.getElem?_cons_succ]
 refine ⟨d.enc,⟨rfl,Zkx ht,by omega⟩,?_⟩
 simp only [Zhv,Bool.not_true,Bool.false_eq_true,if_false]
 rw [Zo7 true (by omega),Zaf]
 exact h
theorem Zwx (T:Tx K mg base a) {f:Addr} {fd:FuncData} (F:Fun K "law" "law" Zkz f fd):FnOk P w K mg base (CXe P w) 32 f fd ["script"] (Ztq K ZpI):=by
 refine ok0 F ZpX (fun ws G Q E ⟨ns,e,_⟩=>by rw [e];rfl) (Zwy (k:=31) T (ZeZ T) (by omega) (Zbo T 8 (by omega)) (by omega) (ZhL T) (by omega) (Zbe T 30) (by omega)) fun ws G Q E hC q=>?_
 obtain ⟨ns,rfl,hns,q⟩:=q
 unfold Zvn
 show ZaB (Zv4 _ _) _ (ZaX Q) [some (.rol (ns.map W.int)),none,none,none,none] G
 refine ⟨ns,0,false,rfl,by decide,fun k l hk hl=>?_⟩
 simp only [ZiL,List.set_cons_zero,List.set_cons_succ]
 refine Zp7 ?_
 refine ⟨(k,l),⟨rfl,hk.1,hl.1,hk.2.2,hl.2.2⟩,?_⟩
 simp only [List.set_cons_zero,List.set_cons_succ]
 have ht:=Zkd 8 hk.1 hl.1
 have hd:(Zdu 8 k l).dp≤8:=Nat.le_trans (Zjx 8 k l) (by have:=hk.2.2;have:=hl.2.2;omega)
 show ZaB (Zgo _ _ gWB) _ (ZaX Q) [some (.rol (ns.map W.int)),some k.enc,some l.enc,some (Zdu 8 k l).enc,none] G
 simp only [ZaB,Zgo,Zbv,Zcr,Zap,L3.Zab,L3.Zan,Zag,List.getElem?_cons_zero,List.getElem?_cons_succ]
 refine ⟨(k,l),⟨rfl,hk,hl⟩,(l,k),⟨rfl,hl,hk⟩,(show 2≤sizeLine by decide),fun p hp=>?_⟩
 dsimp only
 rw [Zh0 8 l k,Zah]
 refine ⟨Zah,ZuA ht hd ⟨Zah,ZuA ht hd ⟨Zah,?_⟩⟩⟩
 simp only [ZaL,Zal,Zap,Zaq,Zag,L3.Zab,L3.Zan,List.getElem?_cons_zero,List.getElem?_cons_succ]
 refine ⟨(k,k),⟨rfl,hk,hk⟩,?_⟩
 dsimp only
 rw [ZhW 8 hk.1 hk.2.2,Zo7 false (by have:=hk.2.2;omega),Zaf]
 exact q _
set_option maxHeartbeats 4000000
theorem ZnC {base:Heap} {e:DictEntry} {x:Str} {i:Int} {t u:Tok} {es:List DictEntry} {D:List (Str×KTD.Dat)} (h1:e.key=.str x t) (h2:e.val=.int i u) (r:KTD.Rows (KTD.Dat.At base) es D):KTD.Rows (KTD.Dat.At base) (e::es) ((x,KTD.Dat.flat (.int i))::D) :=
 .cons h1 (by rw [h2];exact PyProof.V.Flat.int i u) r
theorem ZvO {K:PySem.W.Frag} {h:Heap} {mg:Str→Option Value} (X:K.In h) (G:h.Ns mainGlobals mg) (Zco:Fn K mg Za2 "is_small_letter" ["sign"]) (Zef:Fn K mg Zce "names_rise" ["names"]) (Zgu:Fn K mg ZdL "is_name" ["thing"]) (Zfw:Fn K mg Zc4 "is_field" ["thing"]) (Zeg:Fn K mg Zb5 "are_fields" ["thing"]) (ZfB:Fn K mg Zda "has_form" ["thing"]) (Zdc:Fn K mg Zbu "kinds_within" ["kind"]) (Zdb:Fn K mg Zbs "layer_within" ["layer","things_within"]) (ZdZ:Fn K mg ZbE "is_made_of" ["thing","is_formed","things_within","most","deepest"]) (ZgI:Fn K mg ZdP "is_kind" ["thing"]) (Zd5:Fn K mg Zb2 "check_kind" ["thing"]) (ZfE:Fn K mg Zc5 "entry_of" ["row","name"]) (Zfz:Fn K mg Zc2 "names_of" ["row"]) (ZcT:Fn K mg Zbj "names_of_both" ["one","other"]) (ZdD:Fn K mg ZbP "check_kinds" ["one","other"]) (Zeb:Fn K mg Zb6 "_law_entry" ["kind","name"]) (Zd6:Fn K mg Zb8 "_law_names" ["one","other"]) (Zhx:Fn K mg Zec "row_of" ["names","entries","is_open"]) (Zcl:Fn K mg Za1 "join_of_entries" ["one","other"]) (Zde:Fn K mg Zbc "join_of_rows" ["one","other"]) (Zfg:Fn K mg ZdT "join_of" ["one","other"]) (ZbJ:Fn K mg ZaQ "either_of_entries" ["one","other"]) (Zcu:Fn K mg ZaY "either_of_rows" ["one","other"]) (ZdK:Fn K mg ZcF "either_of" ["one","other"]) (ZhF:Fn K mg Ze1 "either" ["one","other"]) (Zdi:Fn K mg Zbt "_law_cell_at" ["script","k"]) (Zee:Fn K mg Zb7 "_law_state" ["script","k"]) (Zdy:Fn K mg ZbQ "_law_choice" ["state","many"]) (ZeP:Fn K mg Zc8 "_law_row" ["state","deep","plain","known"]) (Zc3:Fn K mg Zcy "_law_kind" ["state","deep","plain","known"]) (Zcn:Fn K mg Za3 "_law_drawn_kind" ["script","k","plain","known"]) (ZdU:Fn K mg ZbK "_law_less" ["state","kind"]) (Zdo:Fn K mg Zcb "_law_other" ["state","kind"]) (ZeT:Fn K mg ZcB "_law_pair" ["script","k","plain"]) (ZcQ:Fn K mg ZbM "_law_joined" ["one","other"]) (ZcP:Fn K mg ZbL "_law_either" ["one","other"]) (ZbV:Fn K mg Zbw "_law_is_kind" ["found"]) (Zr8:Fn K mg Zkz "law" ["script"]) {c_CastError c_NoKind:Addr} {z_MARKS:Addr} {w0_MARKS w1_MARKS:Tok} {dd_MARKS:Option Addr} {nn_MARKS:Nat} {sl_MARKS:Array (Option Value)} {w_MOST_DEPTH:Tok} {w_MOST_KINDS:Tok} {w_MOST_LETTERS:Tok} {z_LENGTHS:Addr} {ep_LENGTHS:Nat} {e0_LENGTHS e1_LENGTHS e2_LENGTHS e3_LENGTHS e4_LENGTHS e5_LENGTHS:DictEntry} {a0_LENGTHS b0_LENGTHS:Tok} {a1_LENGTHS b1_LENGTHS:Tok} {a2_LENGTHS b2_LENGTHS:Tok} {a3_LENGTHS b3_LENGTHS:Tok} {a4_LENGTHS b4_LENGTHS:Tok} {a5_LENGTHS b5_LENGTHS:Tok}
  (e_CastError:PySem.W.nsIn K mainGlobals "CastError"=some (some (.ref c_CastError)))
  (e_NoKind:PySem.W.nsIn K mainGlobals "NoKind"=some (some (.ref c_NoKind)))
  (ZiK:PySem.W.nsIn K mainGlobals "all"=some none)
  (Zil:PySem.W.nsIn K mainGlobals "bool"=some none)
  (ZiN:PySem.W.nsIn K mainGlobals "int"=some none)
  (ZaS:PySem.W.nsIn K mainGlobals "isinstance"=some none)
  (ZfK:PySem.W.nsIn K mainGlobals "len"=some none)
  (Zjh:PySem.W.nsIn K mainGlobals "list"=some none)
  (ZlN:PySem.W.nsIn K mainGlobals "set"=some none)
  (ZeR:PySem.W.nsIn K mainGlobals "sorted"=some none)
  (ZkH:PySem.W.nsIn K mainGlobals "str"=some none)
  (Zcf:PySem.W.nsIn K mainGlobals "tuple"=some none)
  (Zkg:PySem.W.nsIn K mainGlobals "zip"=some none)
  (ZgM:PySem.W.nsIn K mainGlobals "MARKS"=some (some (.ref z_MARKS)))
  (l_MARKS:K.lookup z_MARKS=some ⟨.type "tuple",dd_MARKS,.seq #[.str "must" w0_MARKS,.str "may" w1_MARKS] nn_MARKS,sl_MARKS⟩)
  (ZcL:PySem.W.nsIn K mainGlobals "MOST_DEPTH"=some (some (.int 8 w_MOST_DEPTH)))
  (ZcI:PySem.W.nsIn K mainGlobals "MOST_KINDS"=some (some (.int 40 w_MOST_KINDS)))
  (ZbU:PySem.W.nsIn K mainGlobals "MOST_LETTERS"=some (some (.int 8 w_MOST_LETTERS)))
  (v_LENGTHS:PySem.W.nsIn K mainGlobals "LENGTHS"=some (some (.ref z_LENGTHS)))
  (l_LENGTHS:K.lookup z_LENGTHS=some ⟨.type "dict",none,.dict #[e0_LENGTHS,e1_LENGTHS,e2_LENGTHS,e3_LENGTHS,e4_LENGTHS,e5_LENGTHS] ep_LENGTHS,#[]⟩)
  (u_LENGTHS:(z_LENGTHS==sysModules)=false)
  (a0_LENGTHS_:e0_LENGTHS.key=.str "any" a0_LENGTHS)
  (b0_LENGTHS_:e0_LENGTHS.val=.int 1 b0_LENGTHS)
  (a1_LENGTHS_:e1_LENGTHS.key=.str "num" a1_LENGTHS)
  (b1_LENGTHS_:e1_LENGTHS.val=.int 1 b1_LENGTHS)
  (a2_LENGTHS_:e2_LENGTHS.key=.str "truth" a2_LENGTHS)
  (b2_LENGTHS_:e2_LENGTHS.val=.int 1 b2_LENGTHS)
  (a3_LENGTHS_:e3_LENGTHS.key=.str "to" a3_LENGTHS)
  (b3_LENGTHS_:e3_LENGTHS.val=.int 3 b3_LENGTHS)
  (a4_LENGTHS_:e4_LENGTHS.key=.str "box" a4_LENGTHS)
  (b4_LENGTHS_:e4_LENGTHS.val=.int 2 b4_LENGTHS)
  (a5_LENGTHS_:e5_LENGTHS.key=.str "row" a5_LENGTHS)
  (b5_LENGTHS_:e5_LENGTHS.val=.int 3 b5_LENGTHS)
 :
  ∃ a:Adr,∀ base:Heap,K.In base→Tx K mg base a:=by
 refine ⟨⟨c_CastError,c_NoKind⟩,fun base B=>?_⟩
 exact {
  ZiK:=PySem.W.mg_none_of X G ZiK
  Zil:=PySem.W.mg_none_of X G Zil
  ZiN:=PySem.W.mg_none_of X G ZiN
  ZaS:=PySem.W.mg_none_of X G ZaS
  ZfK:=PySem.W.mg_none_of X G ZfK
  Zjh:=PySem.W.mg_none_of X G Zjh
  ZlN:=PySem.W.mg_none_of X G ZlN
  ZeR:=PySem.W.mg_none_of X G ZeR
  ZkH:=PySem.W.mg_none_of X G ZkH
  Zcf:=PySem.W.mg_none_of X G Zcf
  Zkg:=PySem.W.mg_none_of X G Zkg
  Zls:=PySem.W.mg_of X G e_CastError
  Zq1:=PySem.W.mg_of X G e_NoKind
  ZgM:=Zsm X G (ts:=[("must",w0_MARKS),("may",w1_MARKS)]) ZgM l_MARKS (by simp)
  ZcL:=ZlO X G ZcL
  ZcI:=ZlO X G ZcI
  ZbU:=ZlO X G ZbU
  Zlk:=Zuf X G B v_LENGTHS l_LENGTHS u_LENGTHS ⟨rfl,rfl,rfl⟩ rfl (ZnC a0_LENGTHS_ b0_LENGTHS_ (ZnC a1_LENGTHS_ b1_LENGTHS_ (ZnC a2_LENGTHS_ b2_LENGTHS_ (ZnC a3_LENGTHS_ b3_LENGTHS_ (ZnC a4_LENGTHS_ b4_LENGTHS_ (ZnC a5_LENGTHS_ b5_LENGTHS_ .nil))))))
  Zco:=Zco
  Zef:=Zef
  Zgu:=Zgu
  Zfw:=Zfw
  Zeg:=Zeg
  ZfB:=ZfB
  Zdc:=Zdc
  Zdb:=Zdb
  ZdZ:=ZdZ
  ZgI:=ZgI
  Zd5:=Zd5
  ZfE:=ZfE
  Zfz:=Zfz
  ZcT:=ZcT
  ZdD:=ZdD
  Zeb:=Zeb
  Zd6:=Zd6
  Zhx:=Zhx
  Zcl:=Zcl
  Zde:=Zde
  Zfg:=Zfg
  ZbJ:=ZbJ
  Zcu:=Zcu
  ZdK:=ZdK
  ZhF:=ZhF
  Zdi:=Zdi
  Zee:=Zee
  Zdy:=Zdy
  ZeP:=ZeP
  Zc3:=Zc3
  Zcn:=Zcn
  ZdU:=ZdU
  Zdo:=Zdo
  ZeT:=ZeT
  ZcQ:=ZcQ
  ZcP:=ZcP
  ZbV:=ZbV
  Zr8:=Zr8 }
end KG
open PySem PySem.W PyProof.Rows
set_option maxRecDepth 100000 in
set_option maxHeartbeats 0 in
theorem PySem.Challenge.cw_castwright_k26_either_of_two_holds : PySem.Challenge.rw_castwright_k26_either_of_two.Holds := by
 show KG.rwS.Holds
 w_on;o_law
 refine holds_open (r:=KG.rwS.row) (q:=KG.vwS) (loose:=["LENGTHS"]) (N:=3692)
  (Yf:=(kHook KG.KF KG.KL KG.kfe).obs) (Ya:=(kHook KG.KF KG.KL KG.kfe).val) (YP:=(kHook KG.KF KG.KL KG.kfe).says)
  (Xt:=fun s=>xlAt KG.vwS [] s&&recOk (RowW.records KG.rwS.row.toRowW) s)
  (XP:=XL KG.vwS []) ?hl (kHook KG.KF KG.KL KG.kfe).of (kHook KG.KF KG.KL KG.kfe).keeps ?g1 XL.keeps rfl rfl rfl ?g2 rfl
  ?g3 (by decide +kernel) ?g4 ?hw ?hc
 case g1=>exact fun s e=>xl_of s (Bool.and_eq_true_iff.mp e).1
 case g2=>exact fun s e=>recFacts_of (Bool.and_eq_true_iff.mp e).2
 case g3=>first | assumption | decide +kernel
 case g4=>exact ⟨rfl,rfl,rfl,rfl,rfl,by decide +kernel⟩
 case hw=>w_witness2
 case hl=>exact byRow2 "special-get-raises" KG.lbf KG.lbt
 k_fill
 refine L3.ZwD (l:=KG.rwS) (k:=32) ⟨rfl,by decide,by decide⟩ rfl rfl (fun w h Y=>PySem.W.kIn_of Y) ?F
 case F =>
  intro w mg fa h KX G hmg
  have F_is_small_letter:L3.Fn (L2.KOf KX) mg KG.Za2 "is_small_letter" ["sign"]:=by
   dsimp only [L2.KOf]
   refine' L3.ZbS KX G ?e ?l ?c ?k ?b
   (case e=>k_is);(case l=>k_is);(case c=>k_is);(case k=>k_is)
   (case b=>exact fun _ _ _ _ _ _ us hl=>by obtain ⟨_,_,rfl,g0⟩:=L3.ln1 hl;obtain rfl:=L3.ln0 g0;rfl)
  have F_names_rise:L3.Fn (L2.KOf KX) mg KG.Zce "names_rise" ["names"]:=by
   dsimp only [L2.KOf]
   refine' L3.ZbS KX G ?e ?l ?c ?k ?b
   (case e=>k_is);(case l=>k_is);(case c=>k_is);(case k=>k_is)
   (case b=>exact fun _ _ _ _ _ _ us hl=>by obtain ⟨_,_,rfl,g0⟩:=L3.ln1 hl;obtain rfl:=L3.ln0 g0;rfl)
  have F_is_name:L3.Fn (L2.KOf KX) mg KG.ZdL "is_name" ["thing"]:=by
   dsimp only [L2.KOf]
   refine' L3.ZbS KX G ?e ?l ?c ?k ?b
   (case e=>k_is);(case l=>k_is);(case c=>k_is);(case k=>k_is)
   (case b=>exact fun _ _ _ _ _ _ us hl=>by obtain ⟨_,_,rfl,g0⟩:=L3.ln1 hl;obtain rfl:=L3.ln0 g0;rfl)
  have F_is_field:L3.Fn (L2.KOf KX) mg KG.Zc4 "is_field" ["thing"]:=by
   dsimp only [L2.KOf]
   refine' L3.ZbS KX G ?e ?l ?c ?k ?b
   (case e=>k_is);(case l=>k_is);(case c=>k_is);(case k=>k_is)
   (case b=>exact fun _ _ _ _ _ _ us hl=>by obtain ⟨_,_,rfl,g0⟩:=L3.ln1 hl;obtain rfl:=L3.ln0 g0;rfl)
  have F_are_fields:L3.Fn (L2.KOf KX) mg KG.Zb5 "are_fields" ["thing"]:=by
   dsimp only [L2.KOf]
   refine' L3.ZbS KX G ?e ?l ?c ?k ?b
   (case e=>k_is);(case l=>k_is);(case c=>k_is);(case k=>k_is)
   (case b=>exact fun _ _ _ _ _ _ us hl=>by obtain ⟨_,_,rfl,g0⟩:=L3.ln1 hl;obtain rfl:=L3.ln0 g0;rfl)
  have F_has_form:L3.Fn (L2.KOf KX) mg KG.Zda "has_form" ["thing"]:=by
   dsimp only [L2.KOf]
   refine' L3.ZbS KX G ?e ?l ?c ?k ?b
   (case e=>k_is);(case l=>k_is);(case c=>k_is);(case k=>k_is)
   (case b=>exact fun _ _ _ _ _ _ us hl=>by obtain ⟨_,_,rfl,g0⟩:=L3.ln1 hl;obtain rfl:=L3.ln0 g0;rfl)
  have F_kinds_within:L3.Fn (L2.KOf KX) mg KG.Zbu "kinds_within" ["kind"]:=by
   dsimp only [L2.KOf]
   refine' L3.ZbS KX G ?e ?l ?c ?k ?b
   (case e=>k_is);(case l=>k_is);(case c=>k_is);(case k=>k_is)
   (case b=>exact fun _ _ _ _ _ _ us hl=>by obtain ⟨_,_,rfl,g0⟩:=L3.ln1 hl;obtain rfl:=L3.ln0 g0;rfl)
  have F_layer_within:L3.Fn (L2.KOf KX) mg KG.Zbs "layer_within" ["layer","things_within"]:=by
   dsimp only [L2.KOf]
   refine' L3.ZbS KX G ?e ?l ?c ?k ?b
   (case e=>k_is);(case l=>k_is);(case c=>k_is);(case k=>k_is)
   (case b=>exact fun _ _ _ _ _ _ us hl=>by obtain ⟨_,_,rfl,g0⟩:=L3.ln1 hl;obtain ⟨_,_,rfl,g1⟩:=L3.ln1 g0;obtain rfl:=L3.ln0 g1;rfl)
  have F_is_made_of:L3.Fn (L2.KOf KX) mg KG.ZbE "is_made_of" ["thing","is_formed","things_within","most","deepest"]:=by
   dsimp only [L2.KOf]
   refine' L3.ZbS KX G ?e ?l ?c ?k ?b
   (case e=>k_is);(case l=>k_is);(case c=>k_is);(case k=>k_is)
   (case b=>exact fun _ _ _ _ _ _ us hl=>by obtain ⟨_,_,rfl,g0⟩:=L3.ln1 hl;obtain ⟨_,_,rfl,g1⟩:=L3.ln1 g0;obtain ⟨_,_,rfl,g2⟩:=L3.ln1 g1;obtain ⟨_,_,rfl,g3⟩:=L3.ln1 g2;obtain ⟨_,_,rfl,g4⟩:=L3.ln1 g3;obtain rfl:=L3.ln0 g4;rfl)
  have F_is_kind:L3.Fn (L2.KOf KX) mg KG.ZdP "is_kind" ["thing"]:=by
   dsimp only [L2.KOf]
   refine' L3.ZbS KX G ?e ?l ?c ?k ?b
   (case e=>k_is);(case l=>k_is);(case c=>k_is);(case k=>k_is)
   (case b=>exact fun _ _ _ _ _ _ us hl=>by obtain ⟨_,_,rfl,g0⟩:=L3.ln1 hl;obtain rfl:=L3.ln0 g0;rfl)
  have F_check_kind:L3.Fn (L2.KOf KX) mg KG.Zb2 "check_kind" ["thing"]:=by
   dsimp only [L2.KOf]
   refine' L3.ZbS KX G ?e ?l ?c ?k ?b
   (case e=>k_is);(case l=>k_is);(case c=>k_is);(case k=>k_is)
   (case b=>exact fun _ _ _ _ _ _ us hl=>by obtain ⟨_,_,rfl,g0⟩:=L3.ln1 hl;obtain rfl:=L3.ln0 g0;rfl)
  have F_entry_of:L3.Fn (L2.KOf KX) mg KG.Zc5 "entry_of" ["row","name"]:=by
   dsimp only [L2.KOf]
   refine' L3.ZbS KX G ?e ?l ?c ?k ?b
   (case e=>k_is);(case l=>k_is);(case c=>k_is);(case k=>k_is)
   (case b=>exact fun _ _ _ _ _ _ us hl=>by obtain ⟨_,_,rfl,g0⟩:=L3.ln1 hl;obtain ⟨_,_,rfl,g1⟩:=L3.ln1 g0;obtain rfl:=L3.ln0 g1;rfl)
  have F_names_of:L3.Fn (L2.KOf KX) mg KG.Zc2 "names_of" ["row"]:=by
   dsimp only [L2.KOf]
   refine' L3.ZbS KX G ?e ?l ?c ?k ?b
   (case e=>k_is);(case l=>k_is);(case c=>k_is);(case k=>k_is)
   (case b=>exact fun _ _ _ _ _ _ us hl=>by obtain ⟨_,_,rfl,g0⟩:=L3.ln1 hl;obtain rfl:=L3.ln0 g0;rfl)
  have F_names_of_both:L3.Fn (L2.KOf KX) mg KG.Zbj "names_of_both" ["one","other"]:=by
   dsimp only [L2.KOf]
   refine' L3.ZbS KX G ?e ?l ?c ?k ?b
   (case e=>k_is);(case l=>k_is);(case c=>k_is);(case k=>k_is)
   (case b=>exact fun _ _ _ _ _ _ us hl=>by obtain ⟨_,_,rfl,g0⟩:=L3.ln1 hl;obtain ⟨_,_,rfl,g1⟩:=L3.ln1 g0;obtain rfl:=L3.ln0 g1;rfl)
  have F_check_kinds:L3.Fn (L2.KOf KX) mg KG.ZbP "check_kinds" ["one","other"]:=by
   dsimp only [L2.KOf]
   refine' L3.ZbS KX G ?e ?l ?c ?k ?b
   (case e=>k_is);(case l=>k_is);(case c=>k_is);(case k=>k_is)
   (case b=>exact fun _ _ _ _ _ _ us hl=>by obtain ⟨_,_,rfl,g0⟩:=L3.ln1 hl;obtain ⟨_,_,rfl,g1⟩:=L3.ln1 g0;obtain rfl:=L3.ln0 g1;rfl)
  have F__law_entry:L3.Fn (L2.KOf KX) mg KG.Zb6 "_law_entry" ["kind","name"]:=by
   dsimp only [L2.KOf]
   refine' L3.ZbS KX G ?e ?l ?c ?k ?b
   (case e=>k_is);(case l=>k_is);(case c=>k_is);(case k=>k_is)
   (case b=>exact fun _ _ _ _ _ _ us hl=>by obtain ⟨_,_,rfl,g0⟩:=L3.ln1 hl;obtain ⟨_,_,rfl,g1⟩:=L3.ln1 g0;obtain rfl:=L3.ln0 g1;rfl)
  have F__law_names:L3.Fn (L2.KOf KX) mg KG.Zb8 "_law_names" ["one","other"]:=by
   dsimp only [L2.KOf]
   refine' L3.ZbS KX G ?e ?l ?c ?k ?b
   (case e=>k_is);(case l=>k_is);(case c=>k_is);(case k=>k_is)
   (case b=>exact fun _ _ _ _ _ _ us hl=>by obtain ⟨_,_,rfl,g0⟩:=L3.ln1 hl;obtain ⟨_,_,rfl,g1⟩:=L3.ln1 g0;obtain rfl:=L3.ln0 g1;rfl)
  have F_row_of:L3.Fn (L2.KOf KX) mg KG.Zec "row_of" ["names","entries","is_open"]:=by
   dsimp only [L2.KOf]
   refine' L3.ZbS KX G ?e ?l ?c ?k ?b
   (case e=>k_is);(case l=>k_is);(case c=>k_is);(case k=>k_is)
   (case b=>exact fun _ _ _ _ _ _ us hl=>by obtain ⟨_,_,rfl,g0⟩:=L3.ln1 hl;obtain ⟨_,_,rfl,g1⟩:=L3.ln1 g0;obtain ⟨_,_,rfl,g2⟩:=L3.ln1 g1;obtain rfl:=L3.ln0 g2;rfl)
  have F_join_of_entries:L3.Fn (L2.KOf KX) mg KG.Za1 "join_of_entries" ["one","other"]:=by
   dsimp only [L2.KOf]
   refine' L3.ZbS KX G ?e ?l ?c ?k ?b
   (case e=>k_is);(case l=>k_is);(case c=>k_is);(case k=>k_is)
   (case b=>exact fun _ _ _ _ _ _ us hl=>by obtain ⟨_,_,rfl,g0⟩:=L3.ln1 hl;obtain ⟨_,_,rfl,g1⟩:=L3.ln1 g0;obtain rfl:=L3.ln0 g1;rfl)
  have F_join_of_rows:L3.Fn (L2.KOf KX) mg KG.Zbc "join_of_rows" ["one","other"]:=by
   dsimp only [L2.KOf]
   refine' L3.ZbS KX G ?e ?l ?c ?k ?b
   (case e=>k_is);(case l=>k_is);(case c=>k_is);(case k=>k_is)
   (case b=>exact fun _ _ _ _ _ _ us hl=>by obtain ⟨_,_,rfl,g0⟩:=L3.ln1 hl;obtain ⟨_,_,rfl,g1⟩:=L3.ln1 g0;obtain rfl:=L3.ln0 g1;rfl)
  have F_join_of:L3.Fn (L2.KOf KX) mg KG.ZdT "join_of" ["one","other"]:=by
   dsimp only [L2.KOf]
   refine' L3.ZbS KX G ?e ?l ?c ?k ?b
   (case e=>k_is);(case l=>k_is);(case c=>k_is);(case k=>k_is)
   (case b=>exact fun _ _ _ _ _ _ us hl=>by obtain ⟨_,_,rfl,g0⟩:=L3.ln1 hl;obtain ⟨_,_,rfl,g1⟩:=L3.ln1 g0;obtain rfl:=L3.ln0 g1;rfl)
  have F_either_of_entries:L3.Fn (L2.KOf KX) mg KG.ZaQ "either_of_entries" ["one","other"]:=by
   dsimp only [L2.KOf]
   refine' L3.ZbS KX G ?e ?l ?c ?k ?b
   (case e=>k_is);(case l=>k_is);(case c=>k_is);(case k=>k_is)
   (case b=>exact fun _ _ _ _ _ _ us hl=>by obtain ⟨_,_,rfl,g0⟩:=L3.ln1 hl;obtain ⟨_,_,rfl,g1⟩:=L3.ln1 g0;obtain rfl:=L3.ln0 g1;rfl)
  have F_either_of_rows:L3.Fn (L2.KOf KX) mg KG.ZaY "either_of_rows" ["one","other"]:=by
   dsimp only [L2.KOf]
   refine' L3.ZbS KX G ?e ?l ?c ?k ?b
   (case e=>k_is);(case l=>k_is);(case c=>k_is);(case k=>k_is)
   (case b=>exact fun _ _ _ _ _ _ us hl=>by obtain ⟨_,_,rfl,g0⟩:=L3.ln1 hl;obtain ⟨_,_,rfl,g1⟩:=L3.ln1 g0;obtain rfl:=L3.ln0 g1;rfl)
  have F_either_of:L3.Fn (L2.KOf KX) mg KG.ZcF "either_of" ["one","other"]:=by
   dsimp only [L2.KOf]
   refine' L3.ZbS KX G ?e ?l ?c ?k ?b
   (case e=>k_is);(case l=>k_is);(case c=>k_is);(case k=>k_is)
   (case b=>exact fun _ _ _ _ _ _ us hl=>by obtain ⟨_,_,rfl,g0⟩:=L3.ln1 hl;obtain ⟨_,_,rfl,g1⟩:=L3.ln1 g0;obtain rfl:=L3.ln0 g1;rfl)
  have F_either:L3.Fn (L2.KOf KX) mg KG.Ze1 "either" ["one","other"]:=by
   dsimp only [L2.KOf]
   refine' L3.ZbS KX G ?e ?l ?c ?k ?b
   (case e=>k_is);(case l=>k_is);(case c=>k_is);(case k=>k_is)
   (case b=>exact fun _ _ _ _ _ _ us hl=>by obtain ⟨_,_,rfl,g0⟩:=L3.ln1 hl;obtain ⟨_,_,rfl,g1⟩:=L3.ln1 g0;obtain rfl:=L3.ln0 g1;rfl)
  have F__law_cell_at:L3.Fn (L2.KOf KX) mg KG.Zbt "_law_cell_at" ["script","k"]:=by
   dsimp only [L2.KOf]
   refine' L3.ZbS KX G ?e ?l ?c ?k ?b
   (case e=>k_is);(case l=>k_is);(case c=>k_is);(case k=>k_is)
   (case b=>exact fun _ _ _ _ _ _ us hl=>by obtain ⟨_,_,rfl,g0⟩:=L3.ln1 hl;obtain ⟨_,_,rfl,g1⟩:=L3.ln1 g0;obtain rfl:=L3.ln0 g1;rfl)
  have F__law_state:L3.Fn (L2.KOf KX) mg KG.Zb7 "_law_state" ["script","k"]:=by
   dsimp only [L2.KOf]
   refine' L3.ZbS KX G ?e ?l ?c ?k ?b
   (case e=>k_is);(case l=>k_is);(case c=>k_is);(case k=>k_is)
   (case b=>exact fun _ _ _ _ _ _ us hl=>by obtain ⟨_,_,rfl,g0⟩:=L3.ln1 hl;obtain ⟨_,_,rfl,g1⟩:=L3.ln1 g0;obtain rfl:=L3.ln0 g1;rfl)
  have F__law_choice:L3.Fn (L2.KOf KX) mg KG.ZbQ "_law_choice" ["state","many"]:=by
   dsimp only [L2.KOf]
   refine' L3.ZbS KX G ?e ?l ?c ?k ?b
   (case e=>k_is);(case l=>k_is);(case c=>k_is);(case k=>k_is)
   (case b=>exact fun _ _ _ _ _ _ us hl=>by obtain ⟨_,_,rfl,g0⟩:=L3.ln1 hl;obtain ⟨_,_,rfl,g1⟩:=L3.ln1 g0;obtain rfl:=L3.ln0 g1;rfl)
  have F__law_row:L3.Fn (L2.KOf KX) mg KG.Zc8 "_law_row" ["state","deep","plain","known"]:=by
   dsimp only [L2.KOf]
   refine' L3.ZbS KX G ?e ?l ?c ?k ?b
   (case e=>k_is);(case l=>k_is);(case c=>k_is);(case k=>k_is)
   (case b=>exact fun _ _ _ _ _ _ us hl=>by obtain ⟨_,_,rfl,g0⟩:=L3.ln1 hl;obtain ⟨_,_,rfl,g1⟩:=L3.ln1 g0;obtain ⟨_,_,rfl,g2⟩:=L3.ln1 g1;obtain ⟨_,_,rfl,g3⟩:=L3.ln1 g2;obtain rfl:=L3.ln0 g3;rfl)
  have F__law_kind:L3.Fn (L2.KOf KX) mg KG.Zcy "_law_kind" ["state","deep","plain","known"]:=by
   dsimp only [L2.KOf]
   refine' L3.ZbS KX G ?e ?l ?c ?k ?b
   (case e=>k_is);(case l=>k_is);(case c=>k_is);(case k=>k_is)
   (case b=>exact fun _ _ _ _ _ _ us hl=>by obtain ⟨_,_,rfl,g0⟩:=L3.ln1 hl;obtain ⟨_,_,rfl,g1⟩:=L3.ln1 g0;obtain ⟨_,_,rfl,g2⟩:=L3.ln1 g1;obtain ⟨_,_,rfl,g3⟩:=L3.ln1 g2;obtain rfl:=L3.ln0 g3;rfl)
  have F__law_drawn_kind:L3.Fn (L2.KOf KX) mg KG.Za3 "_law_drawn_kind" ["script","k","plain","known"]:=by
   dsimp only [L2.KOf]
   refine' L3.ZbS KX G ?e ?l ?c ?k ?b
   (case e=>k_is);(case l=>k_is);(case c=>k_is);(case k=>k_is)
   (case b=>exact fun _ _ _ _ _ _ us hl=>by obtain ⟨_,_,rfl,g0⟩:=L3.ln1 hl;obtain ⟨_,_,rfl,g1⟩:=L3.ln1 g0;obtain ⟨_,_,rfl,g2⟩:=L3.ln1 g1;obtain ⟨_,_,rfl,g3⟩:=L3.ln1 g2;obtain rfl:=L3.ln0 g3;rfl)
  have F__law_less:L3.Fn (L2.KOf KX) mg KG.ZbK "_law_less" ["state","kind"]:=by
   dsimp only [L2.KOf]
   refine' L3.ZbS KX G ?e ?l ?c ?k ?b
   (case e=>k_is);(case l=>k_is);(case c=>k_is);(case k=>k_is)
   (case b=>exact fun _ _ _ _ _ _ us hl=>by obtain ⟨_,_,rfl,g0⟩:=L3.ln1 hl;obtain ⟨_,_,rfl,g1⟩:=L3.ln1 g0;obtain rfl:=L3.ln0 g1;rfl)
  have F__law_other:L3.Fn (L2.KOf KX) mg KG.Zcb "_law_other" ["state","kind"]:=by
   dsimp only [L2.KOf]
   refine' L3.ZbS KX G ?e ?l ?c ?k ?b
   (case e=>k_is);(case l=>k_is);(case c=>k_is);(case k=>k_is)
   (case b=>exact fun _ _ _ _ _ _ us hl=>by obtain ⟨_,_,rfl,g0⟩:=L3.ln1 hl;obtain ⟨_,_,rfl,g1⟩:=L3.ln1 g0;obtain rfl:=L3.ln0 g1;rfl)
  have F__law_pair:L3.Fn (L2.KOf KX) mg KG.ZcB "_law_pair" ["script","k","plain"]:=by
   dsimp only [L2.KOf]
   refine' L3.ZbS KX G ?e ?l ?c ?k ?b
   (case e=>k_is);(case l=>k_is);(case c=>k_is);(case k=>k_is)
   (case b=>exact fun _ _ _ _ _ _ us hl=>by obtain ⟨_,_,rfl,g0⟩:=L3.ln1 hl;obtain ⟨_,_,rfl,g1⟩:=L3.ln1 g0;obtain ⟨_,_,rfl,g2⟩:=L3.ln1 g1;obtain rfl:=L3.ln0 g2;rfl)
  have F__law_joined:L3.Fn (L2.KOf KX) mg KG.ZbM "_law_joined" ["one","other"]:=by
   dsimp only [L2.KOf]
   refine' L3.ZbS KX G ?e ?l ?c ?k ?b
   (case e=>k_is);(case l=>k_is);(case c=>k_is);(case k=>k_is)
   (case b=>exact fun _ _ _ _ _ _ us hl=>by obtain ⟨_,_,rfl,g0⟩:=L3.ln1 hl;obtain ⟨_,_,rfl,g1⟩:=L3.ln1 g0;obtain rfl:=L3.ln0 g1;rfl)
  have F__law_either:L3.Fn (L2.KOf KX) mg KG.ZbL "_law_either" ["one","other"]:=by
   dsimp only [L2.KOf]
   refine' L3.ZbS KX G ?e ?l ?c ?k ?b
   (case e=>k_is);(case l=>k_is);(case c=>k_is);(case k=>k_is)
   (case b=>exact fun _ _ _ _ _ _ us hl=>by obtain ⟨_,_,rfl,g0⟩:=L3.ln1 hl;obtain ⟨_,_,rfl,g1⟩:=L3.ln1 g0;obtain rfl:=L3.ln0 g1;rfl)
  have F__law_is_kind:L3.Fn (L2.KOf KX) mg KG.Zbw "_law_is_kind" ["found"]:=by
   dsimp only [L2.KOf]
   refine' L3.ZbS KX G ?e ?l ?c ?k ?b
   (case e=>k_is);(case l=>k_is);(case c=>k_is);(case k=>k_is)
   (case b=>exact fun _ _ _ _ _ _ us hl=>by obtain ⟨_,_,rfl,g0⟩:=L3.ln1 hl;obtain rfl:=L3.ln0 g0;rfl)
  have F_law:L3.Fn (L2.KOf KX) mg KG.Zkz "law" ["script"]:=by
   dsimp only [L2.KOf]
   refine' L3.ZbS KX G ?e ?l ?c ?k ?b
   (case e=>k_is);(case l=>k_is);(case c=>k_is);(case k=>k_is)
   (case b=>exact fun _ _ _ _ _ _ us hl=>by obtain ⟨_,_,rfl,g0⟩:=L3.ln1 hl;obtain rfl:=L3.ln0 g0;rfl)
  have T:∃ a:KG.Adr,∀ base:Heap,(L2.KOf KX).In base→KG.Tx (L2.KOf KX) mg base a:=by
   dsimp only [L2.KOf] at *
   refine' KG.ZvO KX G F_is_small_letter F_names_rise F_is_name F_is_field F_are_fields F_has_form F_kinds_within F_layer_within F_is_made_of F_is_kind F_check_kind F_entry_of F_names_of F_names_of_both F_check_kinds F__law_entry F__law_names F_row_of F_join_of_entries F_join_of_rows F_join_of F_either_of_entries F_either_of_rows F_either_of F_either F__law_cell_at F__law_state F__law_choice F__law_row F__law_kind F__law_drawn_kind F__law_less F__law_other F__law_pair F__law_joined F__law_either F__law_is_kind F_law ?e_CastError ?e_NoKind ?ZiK ?Zil ?ZiN ?ZaS ?ZfK ?Zjh ?ZlN ?ZeR ?ZkH ?Zcf ?Zkg ?ZgM ?l_MARKS ?ZcL ?ZcI ?ZbU ?v_LENGTHS ?l_LENGTHS ?u_LENGTHS ?a0_LENGTHS_ ?b0_LENGTHS_ ?a1_LENGTHS_ ?b1_LENGTHS_ ?a2_LENGTHS_ ?b2_LENGTHS_ ?a3_LENGTHS_ ?b3_LENGTHS_ ?a4_LENGTHS_ ?b4_LENGTHS_ ?a5_LENGTHS_ ?b5_LENGTHS_
   (case e_CastError=>k_is)
   (case e_NoKind=>k_is)
   (case ZiK=>k_is)
   (case Zil=>k_is)
   (case ZiN=>k_is)
   (case ZaS=>k_is)
   (case ZfK=>k_is)
   (case Zjh=>k_is)
   (case ZlN=>k_is)
   (case ZeR=>k_is)
   (case ZkH=>k_is)
   (case Zcf=>k_is)
   (case Zkg=>k_is)
   (case ZgM=>k_is)
   (case l_MARKS=>k_is)
   (case ZcL=>k_is)
   (case ZcI=>k_is)
   (case ZbU=>k_is)
   (case v_LENGTHS=>k_is)
   (case l_LENGTHS=>k_is)
   (case u_LENGTHS=>decide)
   (case a0_LENGTHS_=>exact rfl)
   (case b0_LENGTHS_=>exact rfl)
   (case a1_LENGTHS_=>exact rfl)
   (case b1_LENGTHS_=>exact rfl)
   (case a2_LENGTHS_=>exact rfl)
   (case b2_LENGTHS_=>exact rfl)
   (case a3_LENGTHS_=>exact rfl)
   (case b3_LENGTHS_=>exact rfl)
   (case a4_LENGTHS_=>exact rfl)
   (case b4_LENGTHS_=>exact rfl)
   (case a5_LENGTHS_=>exact rfl)
   (case b5_LENGTHS_=>exact rfl)
  obtain ⟨a,T⟩:=T
  obtain ⟨f,fd,hm,F,_⟩:=F_law
  have e0:=hmg.symm.trans hm
  cases e0
  obtain ⟨oc,od,kV,doc,pm,an,cdv,ct,osl,rfl,lk,hcd⟩:=F.ex
  exact ⟨_,fun s u=>.of_eq rfl,fun base kb nb=>KG.Zwx (T base kb) F⟩
