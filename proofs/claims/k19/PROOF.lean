import PyProof.Rows.All
import Wide.All
import OpenK.AllK
import Wide.FinOn
import Lean
import PyProof.EqAt
import PyProof.EqKinds
import PyProof.TupleCall
import PyProof.SetRoads
import PyProof.CollectWalk
import PyProof.ZipIter
import PyProof.TupleIter
import PyProof.NeKinds
import PyProof.AttrMissHeap
import KE.KDictOf
import PySem.Challenge.RW_castwright_k19_clashes_judged
set_option Elab.async false
set_option linter.all false
set_option maxRecDepth 100000
set_option maxHeartbeats 4000000
namespace L2
open PySem PySem.Spec PyProof.Rows
def Zfd (s:Stmt):Arguments:=match s with
 | .FunctionDef _ a _ _ _ _ _ _ _ _=>a
 | _=>{ posonlyargs:=[],args:=[],vararg:=none,kwonlyargs:=[],kw_defaults:=[],kwarg:=none,defaults:=[] }
def Zaz (s:Stmt):List Stmt:=match s with
 | .FunctionDef _ _ b _ _ _ _ _ _ _=>b
 | _=>[]
def Zac (s:Stmt):Scope:=match s with
 | .FunctionDef _ _ _ _ _ _ sc _ _ _=>sc
 | _=>{ kind:=.function,names:=[],isGenerator:=false,isCoroutine:=false }
end L2
namespace K2
open PySem PySem.Spec PyProof.Rows L2
 def top (i:Nat):Stmt:=PySem.Challenge.pw_castwright_k19_clashes_judged.main.body.getD i (.Pass ⟨0,0,0,0⟩)
abbrev pwS:Program:=PySem.Challenge.pw_castwright_k19_clashes_judged
abbrev rwS:PySem.W.OpenLaw:=PySem.Challenge.rw_castwright_k19_clashes_judged
def vwS:Program:=PySem.W.view pwS [1,2,4,5,6,7,8,9,10,11,12,13,14,15,16,17,18,19,20,21,22,23,25,26,27,28,29,30,31,32,33,35,36,37,38,39,40,41,42,43,44,45,46]
abbrev en (P:Params) (k:Str) (t:Tok) (v:Value):DictEntry:=⟨PyData.keyHash P k,.str k t,v⟩
abbrev co (n:Str) (a l g r f e:Nat) (x y:Value) (z t u:Nat):Obj:=.mk (.type "code") Option.none (.fields #[.str n a,.str n (a+1),.str "/claim/cut.py" (a+2),.int l 0,.int g 0,.int 0 0,.int 0 0,.int 3 0,.ref r,.bool Bool.true,.int f 0,.ref e,.none,x,y,.ref z,.int t 0,.int l 0,.str "/claim/cut.py" u]) #[]
abbrev fo (n:Str) (s:Stmt) (q:Str) (t c:Nat):Obj:=.mk (.type "function") Option.none (.func (PySem.W.fnOf n n (Zfd s) (Zaz s) (Zac s) .none .none .none (.str q t) Option.none (.ref c) .none)) #[]
def KF:Params→PySem.W.Frag:=fun P =>
 (nat_lit 2,.mk .none Option.none (.dict #[]) #[]) ::
 (nat_lit 3,.mk (.type "dict") Option.none (.dict #[en P "__name__" 165 (.str "law_castwright_k19_clashes_judged" 451),en P "__doc__" 166 .none,en P "__package__" 167 .none,en P "__loader__" 168 (.builtin "__main__.__loader__#opaque"),en P "__spec__" 169 .none,en P "__annotations__" 170 (.ref 6),en P "__builtins__" 171 (.ref 4),en P "__file__" 173 (.str "/claim/cut.py" 172),en P "__cached__" 174 .none,en P "CastError" 206 (.ref 24),en P "NoKind" 222 (.ref 37),en P "MOST_KINDS" 226 (.int 40 225),en P "MOST_DEPTH" 228 (.int 8 227),en P "MOST_LETTERS" 230 (.int 8 229),en P "MARKS" 233 (.ref 40),en P "LENGTHS" 252 (.ref 41),en P "entry_of" 261 (.ref 48),en P "names_of" 267 (.ref 53),en P "names_of_both" 275 (.ref 60),en P "check_kind" 282 (.ref 67),en P "check_kinds" 290 (.ref 74),en P "is_kind" 297 (.ref 81),en P "is_made_of" 303 (.ref 86),en P "layer_within" 313 (.ref 93),en P "kinds_within" 319 (.ref 98),en P "has_form" 326 (.ref 105),en P "are_fields" 332 (.ref 110),en P "is_field" 339 (.ref 117),en P "is_name" 345 (.ref 122),en P "is_small_letter" 352 (.ref 129),en P "names_rise" 358 (.ref 134),en P "STEPS" 374 (.ref 135),en P "first_clash" 382 (.ref 147),en P "clashes" 391 (.ref 154),en P "behind" 399 (.ref 161),en P "clash_of" 411 (.ref 168),en P "clash_of_rows" 421 (.ref 175),en P "clash_of_entries" 429 (.ref 182),en P "clash_at" 441 (.ref 189),en P "clash_at_name" 450 (.ref 196),en P "_law_state" 461 (.ref 203),en P "_law_take" 471 (.ref 210),en P "_law_kind" 483 (.ref 217),en P "_law_renamed" 489 (.ref 222),en P "_law_some_names" 497 (.ref 229),en P "_law_near" 503 (.ref 234),en P "_law_entries" 509 (.ref 239),en P "_law_names" 515 (.ref 244),en P "_law_less" 521 (.ref 249),en P "_law_there" 534 (.ref 256),en P "_law_path" 540 (.ref 261),en P "law" 554 (.ref 268)] 52) #[]) ::
 (nat_lit 15,.mk (.type "tuple") Option.none (.seq #[.type "ValueError"]) #[]) ::
 (nat_lit 22,.mk (.type "tuple") Option.none (.seq #[]) #[]) ::
 (nat_lit 23,.mk (.type "dict") Option.none (.dict #[en P "__module__" 196 (.str "castwright.errors" 187),en P "__firstlineno__" 200 (.int 2 199),en P "__static_attributes__" 201 (.ref 22),en P "__weakref__" 203 (.ref 25),en P "__doc__" 204 .none] 3) #[]) ::
 (nat_lit 24,.mk (.type "type") Option.none (.cls (.mk "CastError" [.type "ValueError"] [.ref 24,.type "ValueError",.type "Exception",.type "BaseException",.type "object"] 23 "CastError" Bool.true [] [.ref 37] Bool.false Option.none Bool.false)) #[Option.some (.ref 15),Option.none,Option.some (.str "CastError" 189),Option.some (.str "CastError" 197),Option.some (.builtin "ValueError.__new__"),Option.some (.bool Bool.true)]) ::
 (nat_lit 25,.mk (.type "getset_descriptor") Option.none (.fields #[.str "__weakref__" 202,.ref 24,.builtin "ExceptionGroup.__weakref__",.none]) #[]) ::
 (nat_lit 28,.mk (.type "tuple") Option.none (.seq #[.ref 24]) #[]) ::
 (nat_lit 35,.mk (.type "tuple") Option.none (.seq #[]) #[]) ::
 (nat_lit 36,.mk (.type "dict") Option.none (.dict #[en P "__module__" 214 (.str "castwright.errors" 187),en P "__firstlineno__" 218 (.int 4 217),en P "__static_attributes__" 219 (.ref 35),en P "__doc__" 220 .none] 2) #[]) ::
 (nat_lit 37,.mk (.type "type") Option.none (.cls (.mk "NoKind" [.ref 24] [.ref 37,.ref 24,.type "ValueError",.type "Exception",.type "BaseException",.type "object"] 36 "NoKind" Bool.true [] [] Bool.false Option.none Bool.false)) #[Option.some (.ref 28),Option.none,Option.some (.str "NoKind" 207),Option.some (.str "NoKind" 215),Option.some (.builtin "ValueError.__new__"),Option.some (.bool Bool.true)]) ::
 (nat_lit 40,.mk (.type "tuple") Option.none (.seq #[.str "must" 231,.str "may" 232]) #[]) ::
 (nat_lit 41,.mk (.type "dict") Option.none (.dict #[en P "any" 234 (.int 1 235),en P "num" 236 (.int 1 237),en P "truth" 238 (.int 1 239),en P "to" 240 (.int 3 241),en P "box" 242 (.int 2 243),en P "row" 244 (.int 3 245)] 6) #[]) ::
 (nat_lit 47,co "entry_of" 253 12 2 42 181 43 (.ref 44) (.ref 45) 46 259 260) ::
 (nat_lit 48,fo "entry_of" (top 9) "castwright.kinds" 223 47) ::
 (nat_lit 52,co "names_of" 262 17 1 49 181 50 .none .none 51 265 266) ::
 (nat_lit 53,fo "names_of" (top 10) "castwright.kinds" 223 52) ::
 (nat_lit 59,co "names_of_both" 268 19 2 54 181 55 (.ref 56) (.ref 57) 58 273 274) ::
 (nat_lit 60,fo "names_of_both" (top 11) "castwright.kinds" 223 59) ::
 (nat_lit 66,co "check_kind" 276 21 1 61 181 62 (.ref 63) (.ref 64) 65 280 281) ::
 (nat_lit 67,fo "check_kind" (top 12) "castwright.kinds" 223 66) ::
 (nat_lit 73,co "check_kinds" 283 24 2 68 181 69 (.ref 70) (.ref 71) 72 288 289) ::
 (nat_lit 74,fo "check_kinds" (top 13) "castwright.kinds" 223 73) ::
 (nat_lit 80,co "is_kind" 291 27 1 75 181 76 (.ref 77) (.ref 78) 79 295 296) ::
 (nat_lit 81,fo "is_kind" (top 14) "castwright.kinds" 223 80) ::
 (nat_lit 85,co "is_made_of" 298 29 5 82 181 83 .none .none 84 301 302) ::
 (nat_lit 86,fo "is_made_of" (top 15) "castwright.kinds" 223 85) ::
 (nat_lit 92,co "layer_within" 304 42 2 87 181 88 (.ref 89) (.ref 90) 91 311 312) ::
 (nat_lit 93,fo "layer_within" (top 16) "castwright.kinds" 223 92) ::
 (nat_lit 97,co "kinds_within" 314 47 1 94 181 95 .none .none 96 317 318) ::
 (nat_lit 98,fo "kinds_within" (top 17) "castwright.kinds" 223 97) ::
 (nat_lit 104,co "has_form" 320 51 1 99 181 100 (.ref 101) (.ref 102) 103 324 325) ::
 (nat_lit 105,fo "has_form" (top 18) "castwright.kinds" 223 104) ::
 (nat_lit 109,co "are_fields" 327 57 1 106 181 107 .none .none 108 330 331) ::
 (nat_lit 110,fo "are_fields" (top 19) "castwright.kinds" 223 109) ::
 (nat_lit 116,co "is_field" 333 61 1 111 181 112 (.ref 113) (.ref 114) 115 337 338) ::
 (nat_lit 117,fo "is_field" (top 20) "castwright.kinds" 223 116) ::
 (nat_lit 121,co "is_name" 340 65 1 118 181 119 .none .none 120 343 344) ::
 (nat_lit 122,fo "is_name" (top 21) "castwright.kinds" 223 121) ::
 (nat_lit 128,co "is_small_letter" 346 69 1 123 181 124 (.ref 125) (.ref 126) 127 350 351) ::
 (nat_lit 129,fo "is_small_letter" (top 22) "castwright.kinds" 223 128) ::
 (nat_lit 133,co "names_rise" 353 71 1 130 181 131 .none .none 132 356 357) ::
 (nat_lit 134,fo "names_rise" (top 23) "castwright.kinds" 223 133) ::
 (nat_lit 135,.mk (.type "dict") Option.none (.dict #[en P "any" 361 (.ref 136),en P "num" 362 (.ref 137),en P "truth" 363 (.ref 138),en P "to" 364 (.ref 139),en P "box" 367 (.ref 140)] 5) #[]) ::
 (nat_lit 136,.mk (.type "tuple") Option.none (.seq #[]) #[]) ::
 (nat_lit 137,.mk (.type "tuple") Option.none (.seq #[]) #[]) ::
 (nat_lit 138,.mk (.type "tuple") Option.none (.seq #[]) #[]) ::
 (nat_lit 139,.mk (.type "tuple") Option.none (.seq #[.str "in" 365,.str "out" 366]) #[]) ::
 (nat_lit 140,.mk (.type "tuple") Option.none (.seq #[.str "inside" 368]) #[]) ::
 (nat_lit 146,co "first_clash" 375 75 2 141 181 142 (.ref 143) (.ref 144) 145 380 381) ::
 (nat_lit 147,fo "first_clash" (top 26) "castwright.known" 359 146) ::
 (nat_lit 153,co "clashes" 383 78 3 148 181 149 (.ref 150) (.ref 151) 152 389 390) ::
 (nat_lit 154,fo "clashes" (top 27) "castwright.known" 359 153) ::
 (nat_lit 160,co "behind" 392 81 2 155 181 156 (.ref 157) (.ref 158) 159 397 398) ::
 (nat_lit 161,fo "behind" (top 28) "castwright.known" 359 160) ::
 (nat_lit 167,co "clash_of" 400 83 2 162 181 163 (.ref 164) (.ref 165) 166 409 410) ::
 (nat_lit 168,fo "clash_of" (top 29) "castwright.known" 359 167) ::
 (nat_lit 174,co "clash_of_rows" 412 95 2 169 181 170 (.ref 171) (.ref 172) 173 419 420) ::
 (nat_lit 175,fo "clash_of_rows" (top 30) "castwright.known" 359 174) ::
 (nat_lit 181,co "clash_of_entries" 422 101 2 176 181 177 (.ref 178) (.ref 179) 180 427 428) ::
 (nat_lit 182,fo "clash_of_entries" (top 31) "castwright.known" 359 181) ::
 (nat_lit 188,co "clash_at" 430 107 3 183 181 184 (.ref 185) (.ref 186) 187 439 440) ::
 (nat_lit 189,fo "clash_at" (top 32) "castwright.known" 359 188) ::
 (nat_lit 195,co "clash_at_name" 442 118 3 190 181 191 (.ref 192) (.ref 193) 194 448 449) ::
 (nat_lit 196,fo "clash_at_name" (top 33) "castwright.known" 359 195) ::
 (nat_lit 202,co "_law_state" 453 125 2 197 181 198 (.ref 199) (.ref 200) 201 459 460) ::
 (nat_lit 203,fo "_law_state" (top 35) "law_castwright_k19_clashes_judged" 451 202) ::
 (nat_lit 209,co "_law_take" 462 132 2 204 181 205 (.ref 206) (.ref 207) 208 469 470) ::
 (nat_lit 210,fo "_law_take" (top 36) "law_castwright_k19_clashes_judged" 451 209) ::
 (nat_lit 216,co "_law_kind" 472 142 2 211 181 212 (.ref 213) (.ref 214) 215 481 482) ::
 (nat_lit 217,fo "_law_kind" (top 37) "law_castwright_k19_clashes_judged" 451 216) ::
 (nat_lit 221,co "_law_renamed" 484 156 2 218 181 219 .none .none 220 487 488) ::
 (nat_lit 222,fo "_law_renamed" (top 38) "law_castwright_k19_clashes_judged" 451 221) ::
 (nat_lit 228,co "_law_some_names" 490 163 1 223 181 224 (.ref 225) (.ref 226) 227 495 496) ::
 (nat_lit 229,fo "_law_some_names" (top 39) "law_castwright_k19_clashes_judged" 451 228) ::
 (nat_lit 233,co "_law_near" 498 166 3 230 181 231 .none .none 232 501 502) ::
 (nat_lit 234,fo "_law_near" (top 40) "law_castwright_k19_clashes_judged" 451 233) ::
 (nat_lit 238,co "_law_entries" 504 184 2 235 181 236 .none .none 237 507 508) ::
 (nat_lit 239,fo "_law_entries" (top 41) "law_castwright_k19_clashes_judged" 451 238) ::
 (nat_lit 255,co "_law_there" 522 206 3 250 181 251 (.ref 252) (.ref 253) 254 532 533) ::
 (nat_lit 256,fo "_law_there" (top 44) "law_castwright_k19_clashes_judged" 451 255) ::
 (nat_lit 260,co "_law_path" 535 226 2 257 181 258 .none .none 259 538 539) ::
 (nat_lit 261,fo "_law_path" (top 45) "law_castwright_k19_clashes_judged" 451 260) ::
 (nat_lit 267,co "law" 541 238 1 262 181 263 (.ref 264) (.ref 265) 266 552 553) ::
 (nat_lit 268,fo "law" (top 46) "law_castwright_k19_clashes_judged" 451 267) ::
 []
def KL:List Addr:=2::3::15::22::23::24::25::28::35::36::37::40::41::47::48::52::53::59::60::66::67::73::74::80::81::85::86::92::93::97::98::104::105::109::110::116::117::121::122::128::129::133::134::135::136::137::138::139::140::146::147::153::154::160::161::167::168::174::175::181::182::188::189::195::196::202::203::209::210::216::217::221::222::228::229::233::234::238::239::255::256::260::261::267::268::[]
theorem kfe (P:Params):KL=(KF P).map (·.1):=by kernel_rfl
section
open PySem.W
abbrev LB (w:World):Prop:=(openEnds treeTable pwS w 3520).map (fun s=>(openSeen vwS ["LENGTHS","STEPS"] (importedModules pwS.main.body) (fun s=>xlAt vwS [] s&&recOk (RowW.records rwS.row.toRowW) s) true s,(kHook KF KL kfe).obs s))=some (openGood vwS ["LENGTHS","STEPS"],(kHook KF KL kfe).val w)
theorem lbf (w:World):LB (w.withFollow "special-get-raises" false):=by kernel_rfl
theorem lbt (w:World):LB (w.withFollow "special-get-raises" true):=by kernel_rfl
end
end K2
set_option Elab.async false
set_option linter.all false
set_option maxRecDepth 100000
namespace L2
open PySem PySem.Spec PyProof.Rows
abbrev Key:=Sum Int Str
def Zm6:Key→Value→Bool
 | .inl k,v=>Value.isInt k v
 | .inr x,v=>Value.isStrOf x v
def ZxT (w:World):Key→Int
 | .inl k=>hashInt k
 | .inr x=>hashStr w x
theorem Zbv:∀ {k:Key} {v:Value},Zm6 k v=true→(∃ i t,k=Sum.inl i∧v=Value.int i t)∨(∃ x t,k=Sum.inr x∧v=Value.str x t)
 | .inl i,v,h=>by
  obtain ⟨t,e⟩:=Value.isInt_shape (k:=i) (v:=v) h
  exact .inl ⟨i,t,rfl,e⟩
 | .inr x,v,h=>by
  obtain ⟨t,e⟩:=Value.isStrOf_shape (x:=x) (v:=v) h
  exact .inr ⟨x,t,rfl,e⟩
theorem ZoP (x:Str) (t:Tok):Zm6 (.inr x) (.str x t)=true:=by simp [Zm6,Value.isStrOf]
theorem Zup (a b:Int):decide ((Sum.inl a:Key)=Sum.inl b)=(a==b):=by
 by_cases e:a=b
 ·subst e;simp
 ·have h:¬ (Sum.inl a:Key)=Sum.inl b:=fun q=>e (Sum.inl.inj q)
  rw [decide_eq_false h]
  exact (beq_eq_false_iff_ne.mpr e).symm
theorem Zt3 (a b:Str):decide ((Sum.inr a:Key)=Sum.inr b)=decide (a=b):=by
 by_cases e:a=b
 ·subst e;simp
 ·have h:¬ (Sum.inr a:Key)=Sum.inr b:=fun q=>e (Sum.inr.inj q)
  rw [decide_eq_false h,decide_eq_false e]
theorem ZtX (a:Int) (b:Str):decide ((Sum.inl a:Key)=Sum.inr b)=false:=decide_eq_false (fun q=>nomatch q)
theorem Zux (a:Str) (b:Int):decide ((Sum.inr a:Key)=Sum.inl b)=false:=decide_eq_false (fun q=>nomatch q)
def Zby (prog:Program) (w:World):PySem.KeyKind prog w Key where
 is:=Zm6
 hash:=ZxT w
 inj:=fun v a b ha hb=>by
  rcases Zbv ha with ⟨i,t,rfl,rfl⟩ | ⟨x,t,rfl,rfl⟩
  ·rcases Zbv hb with ⟨j,u,rfl,e⟩ | ⟨y,u,rfl,e⟩
   ·injection e with e1 _;rw [e1]
   ·exact nomatch e
  ·rcases Zbv hb with ⟨j,u,rfl,e⟩ | ⟨y,u,rfl,e⟩
   ·exact nomatch e
   ·injection e with e1 _;rw [e1]
 byValue:=fun k v h=>by
  rcases Zbv h with ⟨i,t,rfl,rfl⟩ | ⟨x,t,rfl,rfl⟩ <;> rfl
 pyHash:=fun hv h=>by
  rcases Zbv hv with ⟨i,t,rfl,rfl⟩ | ⟨x,t,rfl,rfl⟩
  ·exact wpAny_pyHash_int h
  ·exact wpAny_pyHash_str h
 eqBool:=fun hu hv h=>by
  rcases Zbv hu with ⟨i,t,rfl,rfl⟩ | ⟨x,t,rfl,rfl⟩
  ·rcases Zbv hv with ⟨j,u,rfl,rfl⟩ | ⟨y,u,rfl,rfl⟩
   ·rw [Zup] at h;exact wpAny_eqBool_int h
   ·rw [ZtX] at h;exact SeqAt.EqAt.int_str i t y u _ _ _ _ h
  ·rcases Zbv hv with ⟨j,u,rfl,rfl⟩ | ⟨y,u,rfl,rfl⟩
   ·rw [Zux] at h;exact SeqAt.EqAt.str_int x t j u _ _ _ _ h
   ·rw [Zt3] at h;exact wpAny_eqBool_str h
 «strs»:=fun k x t v h=>by
  rcases Zbv h with ⟨i,u,rfl,e⟩ | ⟨y,u,rfl,e⟩
  ·exact nomatch e
  ·injection e with e1 _
   subst e1
   cases v <;> rfl
theorem Zhj (prog:Program) (w:World) (x:Str) (t:Tok):(Zby prog w).is (.inr x) (.str x t)=true:=ZoP x t
end L2
namespace L2
open PySem PySem.Spec PyProof.Rows
inductive V where
 | non | bl (b:Bool) | int (i:Int) | str (x:Str) | byt (b:Array UInt8) | flt (b:UInt64) | ref (a:Addr) | ty (n:String)
 deriving DecidableEq
def RelV:V→Value→Prop
 | .non,u=>u=Value.none
 | .bl b,u=>u=Value.bool b
 | .int i,u=>∃ t,u=Value.int i t
 | .str x,u=>∃ t,u=Value.str x t
 | .byt b,u=>∃ t,u=Value.bytes b t
 | .flt b,u=>∃ t,u=Value.float b t
 | .ref a,u=>u=Value.ref a
 | .ty n,u=>u=Value.type n
abbrev Vals:List V→List Value→Prop:=Paired RelV
theorem Vals.length {xs:List V} {us:List Value} (r:Vals xs us):xs.length=us.length:=Paired.length r
theorem Vals.get:∀ {xs:List V} {us:List Value} {i:Nat} {x:V},Vals xs us→xs[i]?=some x→∃ u,us[i]?=some u∧RelV x u
 | _,_,_,_,.nil,e=>by simp at e
 | _,_,0,_,.cons r _,e=>by simp at e;subst e;exact ⟨_,rfl,r⟩
 | _,_,i+1,x,.cons _ t,e=>by
  obtain ⟨u,h1,h2⟩:=Vals.get (i:=i) (x:=x) t (by simpa using e)
  exact ⟨u,by simpa using h1,h2⟩
theorem Vals.set {x:V} {u:Value} (r:RelV x u):∀ {xs:List V} {us:List Value} (i:Nat),Vals xs us→Vals (xs.set i x) (us.set i u)
 | _,_,_,.nil=>.nil
 | _,_,0,.cons _ t=>.cons r t
 | _,_,i+1,.cons q t=>.cons q (Vals.set r i t)
theorem Vals.append:∀ {xs ys:List V} {us ws:List Value},Vals xs us→Vals ys ws→Vals (xs++ys) (us++ws)
 | _,_,_,_,.nil,s=>s
 | _,_,_,_,.cons r t,s=>.cons r (Vals.append t s)
theorem Vals.take:∀ {xs:List V} {us:List Value} (n:Nat),Vals xs us→Vals (xs.take n) (us.take n)
 | _,_,0,_=>.nil
 | _,_,_+1,.nil=>.nil
 | _,_,n+1,.cons r t=>.cons r (Vals.take n t)
theorem Vals.drop:∀ {xs:List V} {us:List Value} (n:Nat),Vals xs us→Vals (xs.drop n) (us.drop n)
 | _,_,0,r=>r
 | _,_,_+1,.nil=>.nil
 | _,_,n+1,.cons _ t=>Vals.drop n t
def Zxr:Option V→Option Value→Prop
 | some v,some u=>RelV v u
 | none,none=>True
 | _,_=>False
def KV {κ:Type}:List (κ×V)→List (κ×Value)→Prop:=Paired fun (p:κ×V) (q:κ×Value)=>p.1=q.1∧RelV p.2 q.2
def kV:Key→V
 | .inl i=>.int i
 | .inr x=>.str x
inductive HO where
 | lst (xs:List V)
 | tup (xs:List V)
 | dK (kvs:List (Key×V)) | dT (kvs:List (List Key×V))
 | set (S:Int→Bool) (n:Nat)
 | ins (C dx:Addr) (fs:List (Str×V))
 | own (x:Addr)
 | xd (fs:List (Str×V))
 | met (f x:Addr)
 | rng (lo hi:Int)
 | frz (o:Obj) (u:HO)
 | tbl (ps:Array Value)
 | ext (φ:Heap→Prop)
abbrev Hp:=Addr→Option HO
def upd (H:Hp) (a:Addr) (o:HO):Hp:=fun b=>if b=a then some o else H b
theorem Zbt {H:Hp} {a:Addr} {o:HO}:upd H a o a=some o:=by unfold upd;rw [if_pos rfl]
theorem Za4 {H:Hp} {a b:Addr} {o:HO} (h:b≠a):upd H a o b=H b:=by unfold upd;rw [if_neg h]
theorem ZcH {H:Hp} {a b:Addr} {o:HO} (h:H a=some o) (h':H b=none):a≠b:=by
 intro e;subst e;rw [h] at h';cases h'
section
variable (P:Program) (w:World)
def ObjOk (H:Hp) (h:Heap) (a:Addr):HO→Prop
 | .lst xs=>xs.length≤sizeLine∧∃ (its:List Value) (n:Nat),Vals xs its∧h.get? a=some { cls:=.type "list",data:=.seq its.toArray n }
 | .tup xs=>xs.length≤sizeLine∧∃ its:List Value,Vals xs its∧IsTup h a its.toArray
 | .dK kvs=>kvs.length≤sizeLine∧(a==sysModules)=false∧∃ vs,KV kvs vs∧h.DictOf (Zby P w) a vs
 | .dT kvs=>kvs.length≤sizeLine∧(a==sysModules)=false∧∃ xs:List (List Key×Addr×Value),
   Paired (fun (p:List Key×V) (q:List Key×Addr×Value)=>p.1=q.1∧H q.2.1=some (.tup (p.1.map kV))∧RelV p.2 q.2.2) kvs xs ∧
   ∃ o es ep,h.get? a=some o∧o.ExactDict∧o.data=.dict es ep∧es.toList=xs.map (entryOfKey (tupleKind (Zby P w)))∧(xs.map (·.1)).Nodup
 | .set S n=>h.SetOf (intKind P w) a S n
 | .ins C dx fs=>H dx=some (.own a)∧fs.length≤1000∧dx≠a∧h.get? a=some (PySem.W.instObj C dx) ∧
   ∃ mA,h.Ns1 dx mA∧(∀ f,Zxr (fs.lookup f) (mA f))∧PySem.Within mA (fs.map (·.1))
 | .own _=>∃ o,h.get? a=some o
 | .xd fs=>∃ mA,h.Ns1 a mA∧∀ f,Zxr (fs.lookup f) (mA f)
 | .rng lo hi=>∃ t u v,h.get? a=some { cls:=.type "range",data:=.fields #[.int lo t,.int hi u,.int 1 v] }
 | .frz o u=>h.get? a=some o∧ObjOk H h a u
 | .tbl ps=>h.get? a=some { cls:=.none,data:=.fields ps }
 | .met f x=>h.get? a=some (PySem.W.methodObj (.ref f) (.ref x))
 | .ext φ=>φ h∧(∃ o,h.get? a=some o)∧∀ h1 h2:Heap,φ h1→(∀ o,h1.get? a=some o→h2.get? a=some o)→φ h2
def HOk (H:Hp) (h:Heap):Prop:=∀ a o,H a=some o→ObjOk P w H h a o
end
section
variable {P:Program} {w:World} {H H':Hp} {h h':Heap} {a:Addr} {o:HO}
theorem ObjOk.lt (x:ObjOk P w H h a o):a < h.objs.size:=by
 cases o with
 | lst xs=>obtain ⟨_,_,_,_,e⟩:=x;exact Heap.lt_size e
 | tup xs=>obtain ⟨_,_,_,p⟩:=x;exact p.lt
 | dK kvs=>obtain ⟨_,_,_,_,o,_,_,e,_⟩:=x;exact Heap.lt_size e
 | dT kvs=>obtain ⟨_,_,_,_,o,_,_,e,_⟩:=x;exact Heap.lt_size e
 | set S n=>obtain ⟨o,_,_,_,e,_⟩:=x;exact Heap.lt_size e
 | ins C dx fs=>obtain ⟨_,_,_,e,_⟩:=x;exact Heap.lt_size e
 | own y=>obtain ⟨_,e⟩:=x;exact Heap.lt_size e
 | xd fs=>obtain ⟨_,⟨_,_,_,e,_⟩,_⟩:=x;exact Heap.lt_size e
 | rng lo hi=>obtain ⟨_,_,_,e⟩:=x;exact Heap.lt_size e
 | frz ob u=>obtain ⟨e,_⟩:=x;exact Heap.lt_size e
 | tbl ps=>exact Heap.lt_size (show h.get? a=some _ from x)
 | met f y=>exact Heap.lt_size (show h.get? a=some _ from x)
 | ext φ=>obtain ⟨_,⟨_,e⟩,_⟩:=x;exact Heap.lt_size e
theorem Paired.mapP {α β:Type} {F G:α→β→Prop}:∀ {l₁:List α} {l₂:List β},Paired F l₁ l₂→(∀ a b,F a b→G a b)→Paired G l₁ l₂
 | _,_,.nil,_=>.nil
 | _,_,.cons r t,f=>.cons (f _ _ r) (Paired.mapP t f)
theorem ObjOk.stay (x:ObjOk P w H h a o) (k:∀ b u,(b=a∨H b=some (.own a))→h.get? b=some u→h'.get? b=some u)
  (ho:∀ b,H b=some (.own a)→H' b=some (.own a)) (ht:∀ b xs,H b=some (.tup xs)→H' b=some (.tup xs)):ObjOk P w H' h' a o:=by
 induction o with
 | lst xs=>obtain ⟨z,its,n,r,e⟩:=x;exact ⟨z,its,n,r,k _ _ (.inl rfl) e⟩
 | tup xs=>obtain ⟨z,its,r,ob,e,c⟩:=x;exact ⟨z,its,r,ob,k _ _ (.inl rfl) e,c⟩
 | dK kvs=>obtain ⟨z,y,vs,r,ob,es,ep,e,c⟩:=x;exact ⟨z,y,vs,r,ob,es,ep,k _ _ (.inl rfl) e,c⟩
 | dT kvs =>
  obtain ⟨z,y,xs,r,ob,es,ep,e,c⟩:=x
  exact ⟨z,y,xs,Paired.mapP r fun p q z=>⟨z.1,ht _ _ z.2.1,z.2.2⟩,ob,es,ep,k _ _ (.inl rfl) e,c⟩
 | set S n=>obtain ⟨ob,es,ep,t,e,c⟩:=x;exact ⟨ob,es,ep,t,k _ _ (.inl rfl) e,c⟩
 | ins C dx fs =>
  obtain ⟨d,z,ne,e,mA,⟨od,es,ep,e2,c⟩,r⟩:=x
  exact ⟨ho _ d,z,ne,k _ _ (.inl rfl) e,mA,⟨od,es,ep,k _ _ (.inr d) e2,c⟩,r⟩
 | own y=>obtain ⟨ob,e⟩:=x;exact ⟨ob,k _ _ (.inl rfl) e⟩
 | xd fs=>obtain ⟨mA,⟨od,es,ep,e,c⟩,r⟩:=x;exact ⟨mA,⟨od,es,ep,k _ _ (.inl rfl) e,c⟩,r⟩
 | rng lo hi=>obtain ⟨t,u,v,e⟩:=x;exact ⟨t,u,v,k _ _ (.inl rfl) e⟩
 | frz ob u ih=>obtain ⟨e,q⟩:=x;exact ⟨k _ _ (.inl rfl) e,ih q⟩
 | tbl ps =>
  have e:h.get? a=some { cls:=.none,data:=.fields ps }:=x
  show h'.get? a=some { cls:=.none,data:=.fields ps }
  exact k a _ (.inl rfl) e
 | met f y =>
  have e:h.get? a=some (PySem.W.methodObj (.ref f) (.ref y)):=x
  show h'.get? a=some (PySem.W.methodObj (.ref f) (.ref y))
  exact k a _ (.inl rfl) e
 | ext φ=>obtain ⟨p,⟨o,e⟩,st⟩:=x;exact ⟨st _ _ p fun o q=>k _ _ (.inl rfl) q,⟨o,k _ _ (.inl rfl) e⟩,st⟩
theorem HOk.lt (x:HOk P w H h) (e:H a=some o):a < h.objs.size:=(x a o e).lt
theorem HOk.fresh (x:HOk P w H h) (e:h.objs.size≤a):H a=none:=by
 cases q:H a with
 | none=>rfl
 | some u=>exact absurd (Nat.lt_of_lt_of_le (x.lt q) e) (Nat.lt_irrefl _)
theorem HOk.kept (x:HOk P w H h) (k:∀ b u,h.get? b=some u→h'.get? b=some u):HOk P w H h':=fun a o e =>
 (x a o e).stay (fun b u _ q=>k b u q) (fun _ q=>q) fun _ _ q=>q
theorem HOk.laid (x:HOk P w H h) (k:∀ b u,h.get? b=some u→h'.get? b=some u) (hp:h.objs.size≤a) (new:ObjOk P w (upd H a o) h' a o):HOk P w (upd H a o) h':=fun b u e=>by
 have hn:=x.fresh hp
 by_cases hb:b=a
 ·subst hb;rw [Zbt] at e;cases e;exact new
 ·rw [Za4 hb] at e
  exact (x b u e).stay (fun c v _ q=>k c v q) (fun c q=>by rw [Za4 (ZcH q hn)];exact q) fun c xs q=>by rw [Za4 (ZcH q hn)];exact q
end
def Rd (H:Hp) (a:Addr) (u:HO):Prop:=H a=some u∨∃ o,H a=some (.frz o u)
theorem Rd.of {H:Hp} {a:Addr} {u:HO} (h:H a=some u):Rd H a u:=.inl h
theorem Rd.ok {P:Program} {w:World} {H:Hp} {h:Heap} {a:Addr} {u:HO} (r:Rd H a u) (x:HOk P w H h):ObjOk P w H h a u:=by
 rcases r with r | ⟨o,r⟩
 ·exact x a u r
 ·obtain ⟨_,q⟩:=x a _ r
  exact q
def Mut:Option HO→Prop
 | some (.lst _)=>True
 | some (.dK _)=>True
 | some (.dT _)=>True
 | some (.set _ _)=>True
 | some (.ins _ _ _)=>True
 | some (.ext _)=>True
 | _=>False
section
variable {P:Program} {w:World} {H:Hp} {h h':Heap} {x e:Addr} {o':HO}
theorem HOk.write (ok:HOk P w H h) (mu:Mut (H x)) (he:e=x∨H e=some (.own x)) (k:∀ b u,b≠e→h.get? b=some u→h'.get? b=some u) (heo:∃ u,h'.get? e=some u)
  (new:ObjOk P w (upd H x o') h' x o'):HOk P w (upd H x o') h':=fun b u q=>by
 have nown:∀ c y,H c=some (.own y)→c≠x:=fun c y r z=>by subst z;rw [r] at mu;exact mu
 have ntup:∀ c xs,H c=some (.tup xs)→c≠x:=fun c xs r z=>by subst z;rw [r] at mu;exact mu
 by_cases hb:b=x
 ·subst hb;rw [Zbt] at q;cases q;exact new
 ·rw [Za4 hb] at q
  by_cases hbe:b=e
  ·have q':H b=some (.own x):=by
    rcases he with z | z
    ·exact absurd (hbe.trans z) hb
    ·rw [hbe];exact z
   rw [q] at q';cases q'
   obtain ⟨v,hv⟩:=heo
   exact ⟨v,by rw [hbe];exact hv⟩
  ·refine (ok b u q).stay (fun c v hc r=>k c v ?_ r) (fun c r=>by rw [Za4 (nown c b r)];exact r) fun c xs r=>by rw [Za4 (ntup c xs r)];exact r
   rcases hc with rfl | hc
   ·exact hbe
   ·rintro rfl
    rcases he with z | z
    ·exact nown c b hc z
    ·rw [hc] at z;cases z;exact hb rfl
end
structure Un (fs ex:List Addr) (H H':Hp) (h h':Heap):Prop where
 keep:∀ b o,h.get? b=some o→H b=none→b∉fs→b∉ex→h'.get? b=some o
 slot:∀ b o,h.get? b=some o→H b=none→b∈fs→b∉ex→∃ sl,h'.get? b=some { o with slots:=sl }
 free:∀ b o,h.get? b=some o→H b=none→b∉ex→H' b=none
 there:∀ b o,h.get? b=some o→b∉ex→∃ o',h'.get? b=some o'
 tups:∀ b xs,H b=some (.tup xs)→H' b=some (.tup xs)
 frzs:∀ b o u,H b=some (.frz o u)→H' b=some (.frz o u)
 tbls:∀ b ps,H b=some (.tbl ps)→∃ more,H' b=some (.tbl (ps++more))
section
variable {fs fs' ex ex':List Addr} {H H1 H2:Hp} {h h1 h2 h':Heap} {a x e:Addr} {o:HO}
theorem Un.any (u:Un fs ex H H1 h h1) {b:Addr} {ob:Obj} (q:h.get? b=some ob) (n:H b=none) (hx:b∉ex):∃ sl,h1.get? b=some { ob with slots:=sl }:=by
 by_cases hb:b∈fs
 ·exact u.slot b ob q n hb hx
 ·exact ⟨ob.slots,u.keep b ob q n hb hx⟩
theorem Un.trans (a:Un fs ex H H1 h h1) (b:Un fs ex H1 H2 h1 h2):Un fs ex H H2 h h2 where
 keep:=fun c ob q n hc hx=>b.keep c ob (a.keep c ob q n hc hx) (a.free c ob q n hx) hc hx
 slot:=fun c ob q n hc hx=>by
  obtain ⟨sl,e1⟩:=a.slot c ob q n hc hx
  obtain ⟨sl',e2⟩:=b.slot c _ e1 (a.free c ob q n hx) hc hx
  exact ⟨sl',e2⟩
 free:=fun c ob q n hx=>by
  obtain ⟨o',e1⟩:=a.there c ob q hx
  exact b.free c o' e1 (a.free c ob q n hx) hx
 there:=fun c ob q hx=>by
  obtain ⟨o',e1⟩:=a.there c ob q hx
  exact b.there c o' e1 hx
 tups:=fun c xs q=>b.tups c xs (a.tups c xs q)
 frzs:=fun c ob xs q=>b.frzs c ob xs (a.frzs c ob xs q)
 tbls:=fun c ps q=>by
  obtain ⟨m1,e1⟩:=a.tbls c ps q
  obtain ⟨m2,e2⟩:=b.tbls c _ e1
  exact ⟨m1++m2,by rw [e2,Array.append_assoc]⟩
theorem Un.kept (k:∀ b u,h.get? b=some u→h'.get? b=some u):Un fs ex H H h h' :=
 ⟨fun b ob q _ _ _=>k b ob q,fun b ob q _ _ _=>⟨ob.slots,k b ob q⟩,fun _ _ _ n _=>n,fun b ob q _=>⟨ob,k b ob q⟩,fun _ _ q=>q,fun _ _ _ q=>q,fun _ ps q=>⟨#[],by rw [q];simp⟩⟩
theorem Un.refl:Un fs ex H H h h:=Un.kept fun _ _ q=>q
theorem Un.laid (k:∀ b u,h.get? b=some u→h'.get? b=some u) (hp:h.objs.size≤a) (hn:H a=none):Un fs ex H (upd H a o) h h' where
 keep:=fun b u q _ _ _=>k b u q
 slot:=fun b u q _ _ _=>⟨u.slots,k b u q⟩
 free:=fun b u q n _=>by rw [Za4 (Nat.ne_of_lt (Nat.lt_of_lt_of_le (Heap.lt_size q) hp))];exact n
 there:=fun b u q _=>⟨u,k b u q⟩
 tups:=fun b xs q=>by rw [Za4 (ZcH q hn)];exact q
 frzs:=fun b u xs q=>by rw [Za4 (ZcH q hn)];exact q
 tbls:=fun b ps q=>⟨#[],by rw [Za4 (ZcH q hn),q];simp⟩
theorem Un.write (mu:Mut (H x)) (he:e=x∨H e=some (.own x)) (k:∀ b u,b≠e→h.get? b=some u→h'.get? b=some u) (heo:∃ u,h'.get? e=some u):Un fs ex H (upd H x o) h h':=by
 have hx:∀ b,H b=none→b≠x:=fun b n z=>by subst z;rw [n] at mu;exact mu
 have hb:∀ b,H b=none→b≠e:=fun b n z=>by
  subst z
  rcases he with r | r
  ·exact hx b n r
  ·rw [n] at r;cases r
 have hm:∀ b u,H b=some u→¬ Mut (some u)→b≠x:=fun b u q nm z=>by subst z;rw [q] at mu;exact nm mu
 refine ⟨fun b u q n _ _=>k b u (hb b n) q,fun b u q n _ _=>⟨u.slots,k b u (hb b n) q⟩,fun b u q n _=>by rw [Za4 (hx b n)];exact n,fun b u q _=>?_,
  fun b xs q=>by rw [Za4 (hm b _ q fun z=>z)];exact q,fun b u xs q=>by rw [Za4 (hm b _ q fun z=>z)];exact q,fun b ps q=>⟨#[],by rw [Za4 (hm b _ q fun z=>z),q];simp⟩⟩
 by_cases hbe:b=e
 ·subst hbe;exact heo
 ·exact ⟨u,k b u hbe q⟩
theorem Un.mono (u:Un fs ex H H1 h h1) (hs:∀ b∈fs,b∈fs') (hx:∀ b∈ex,b∈ex'):Un fs' ex' H H1 h h1 :=
 ⟨fun b ob q n hb he=>u.keep b ob q n (fun z=>hb (hs b z)) fun z=>he (hx b z),fun _ _ q n _ he=>u.any q n fun z=>he (hx _ z),fun b ob q n he=>u.free b ob q n fun z=>he (hx b z),fun b ob q he=>u.there b ob q fun z=>he (hx b z),u.tups,u.frzs,u.tbls⟩
end
def trk (h:Heap) (H:Hp):List Addr:=(List.range h.objs.size).filter fun a=>(H a).isSome
def ZqE (h:Heap) (H:Hp):Heap:=PySem.W.hideAll h (trk h H)
theorem Zny (h:Heap) (H:Hp):(ZqE h H).objs.size=h.objs.size:=PySem.W.hideAll_size _ _
theorem Zrd {h:Heap} {H:Hp} {b:Addr} {o:Obj} (e:h.get? b=some o) (n:H b=none):(ZqE h H).get? b=some o :=
 PySem.W.hideAll_get _ e fun hm=>by
  have q:(H b).isSome=true:=(List.mem_filter.mp hm).2
  rw [n] at q;simp at q
theorem Ztd {h:Heap} {H:Hp} {b:Addr} {o:Obj} (e:(ZqE h H).get? b=some o):h.get? b=some o∧H b=none:=by
 have e':h.get? b=some o:=PySem.W.of_hideAll (trk h H) e
 refine ⟨e',?_⟩
 cases q:H b with
 | none=>rfl
 | some x =>
  have hm:b∈trk h H:=List.mem_filter.mpr ⟨List.mem_range.mpr (Heap.lt_size e'),by simp [q]⟩
  have z:(ZqE h H).get? b=none:=PySem.W.hideAll_none (trk h H) hm
  rw [z] at e;cases e
def ZtC (g h:Heap) (L:Addr):List (Addr×Obj):=(List.range h.objs.size).filterMap fun a=>if a=L∨(g.get? a).isSome=true then none else (h.get? a).map fun o=>(a,o)
def Zcf (g h:Heap) (L d:Addr):List (Addr×Obj):=(ZtC g h L).filter fun p=>decide (p.1≠d)
end L2
namespace L2
open PySem PySem.Spec PyProof.Rows
structure Mod (K:PySem.W.Frag) (mg:Str→Option Value) (base:Heap):Prop where
 kin:K.In base
 glob:base.Ns mainGlobals mg
 blt:∃ mb,base.Ns builtinsNs mb∧∀ x:Str,x≠"__name__"→mb x=bootBuiltins x
 nolimit:base.NoLimit
structure Cx where
 prog:Program
 w:World
 K:PySem.W.Frag
 mg:Str→Option Value
 base:Heap
 A:Around
 N:List Str
 s₀:Shared
 H₀:Hp
 env:Env
 outer:List Env
 stack:List Env
 ex:List Addr
 fn:Str→Bool
 calm:Bool
 pn:List (Addr×Obj)
 xe:Value→Shared→Prop
def frs (l:List Env):List Addr:=l.filterMap (·.frame)
abbrev Cx.fs (X:Cx):List Addr:=frs X.outer
def Vis (sc:Scope) (x:Str):Prop:=sc.names.lookup x=some .local∨sc.names.lookup x=some .cell∨sc.names.lookup x=some .free
def Loc (sc:Scope) (x:Str):Prop:=sc.names.lookup x=some .local∨sc.names.lookup x=some .cell
def ZxA (env:Env) (h:Heap) (m:Str→Option Value) (x:Str) (u:Value):Prop :=
 (env.kindOf x=some .local∧m x=some u)∨((env.kindOf x=some .cell∨env.kindOf x=some .free)∧∃ c,env.cells.lookup x=some c∧h.IsCell c (some u))
structure Cx.Ok (X:Cx):Prop where
 mod:Mod X.K X.mg X.base
 kind:X.env.scope.kind=.function
 glob:X.env.globals=mainGlobals
 blt:X.env.builtins=builtinsNs
 above:X.s₀.heap.objs.size≤X.env.locals
 inj:∀ x y c,X.env.cells.lookup x=some c→X.env.cells.lookup y=some c→x=y
 has:∀ x,(X.env.kindOf x=some .cell∨X.env.kindOf x=some .free)→∃ c,X.env.cells.lookup x=some c
 cab:∀ x c,X.fn x=true→X.env.cells.lookup x=some c→X.s₀.heap.objs.size≤c
 hd:X.calm=true→X.A.handled=none
 frames:X.A.frames=some X.stack
 stk:X.stack=X.outer∨(X.stack=X.env::X.outer∧X.env.frame=some X.env.locals)
 exf:∀ b∈X.ex,b≠X.env.locals∧∀ x c,X.env.cells.lookup x=some c→c≠b
 bs:∀ b o,X.base.get? b=some o→X.s₀.heap.get? b=some o∧X.H₀ b=none
 bsz:X.base.objs.size≤X.s₀.heap.objs.size
 noex:∀ b o,X.base.get? b=some o→b∉X.ex
 exfs:∀ b∈X.ex,b∉X.fs
 funs:X.s₀.heap.FunFrames X.base X.outer
 frf:∀ b∈X.fs,X.H₀ b=none
structure Inv (X:Cx) (pins:List (Addr×Obj)) (σ:List (Option V)) (H:Hp) (s:Shared):Prop where
 ok:X.Ok
 os:s.os=X.s₀.os
 bare:AllBare s.gens
 base:Un X.fs X.ex X.H₀ H X.s₀.heap s.heap
 loc:∃ m,s.heap.Ns X.env.locals m∧∀ (i:Nat) (x:Str) (v:V),X.N[i]?=some x→σ[i]?=some (some v)→Vis X.env.scope x→∃ u,RelV v u∧ZxA X.env s.heap m x u
 cell:∀ x c,X.env.cells.lookup x=some c→∃ v,s.heap.IsCell c v
 free:H X.env.locals=none
 freeC:∀ x c,X.env.cells.lookup x=some c→H c=none
 pin:∀ p∈X.pn++pins,s.heap.get? p.1=some p.2∧H p.1=none∧p.1≠X.env.locals∧p.1∉X.fs∧∀ v,p.2.data≠.cell v
 hok:HOk X.prog X.w H s.heap
 len:σ.length=X.N.length
section
variable {X:Cx} {pins:List (Addr×Obj)} {σ:List (Option V)} {H H':Hp} {s:Shared} {h':Heap}
theorem Cx.Ok.nofr (ok:X.Ok) {b:Addr} {o:Obj} (e:X.base.get? b=some o):b∉X.fs:=fun hb=>by
 have:=(ok.funs.mem hb).1
 rw [e] at this;cases this
theorem Inv.bs (I:Inv X pins σ H s):∀ b o,X.base.get? b=some o→s.heap.get? b=some o∧H b=none:=fun b o e =>
 ⟨I.base.keep b o (I.ok.bs b o e).1 (I.ok.bs b o e).2 (I.ok.nofr e) (I.ok.noex b o e),I.base.free b o (I.ok.bs b o e).1 (I.ok.bs b o e).2 (I.ok.noex b o e)⟩
theorem Inv.bk (I:Inv X pins σ H s):∀ b o,X.base.get? b=some o→s.heap.get? b=some o:=fun b o e=>(I.bs b o e).1
theorem Inv.mod (I:Inv X pins σ H s):Mod X.K X.mg X.base:=I.ok.mod
theorem Inv.kIn (I:Inv X pins σ H s):X.K.In s.heap:=I.ok.mod.kin.keeps I.bk
theorem Inv.nolimit (I:Inv X pins σ H s):s.heap.NoLimit:=I.ok.mod.nolimit.keeps I.bk
theorem Inv.fr (I:Inv X pins σ H s):∃ m,Fr X.base X.env.locals s.heap m :=
 let ⟨m,hn,_⟩:=I.loc
 ⟨m,hn,I.bk,Nat.le_trans I.ok.bsz I.ok.above⟩
theorem Inv.lt (I:Inv X pins σ H s):X.env.locals < s.heap.objs.size:=let ⟨_,hn,_⟩:=I.loc;hn.lt
theorem Inv.sz (I:Inv X pins σ H s):X.s₀.heap.objs.size≤s.heap.objs.size:=Nat.le_trans I.ok.above (Nat.le_of_lt I.lt)
theorem Inv.nofs (I:Inv X pins σ H s) {a:Addr} (h:s.heap.objs.size≤a):a∉X.fs:=fun hb=>by
 obtain ⟨_,o,ho,_⟩:=I.ok.funs.mem hb
 exact absurd (Nat.lt_of_lt_of_le (Heap.lt_size ho) (Nat.le_trans I.sz h)) (Nat.lt_irrefl _)
theorem Inv.cne (I:Inv X pins σ H s):∀ x c,X.env.cells.lookup x=some c→c≠X.env.locals:=fun x c e z=>by
 obtain ⟨v,o,ho,hd⟩:=I.cell x c e
 obtain ⟨m,⟨o',es,ep,ho',hd',_⟩,_⟩:=I.loc
 rw [z,ho'] at ho;cases ho;rw [hd'] at hd;cases hd
theorem Inv.funs (I:Inv X pins σ H s):s.heap.FunFrames X.base X.outer:=by
 have all:∀ (l:List Env),(∀ b∈frs l,b∈X.fs)→X.s₀.heap.FunFrames X.base l→s.heap.FunFrames X.base l:=by
  intro l
  induction l with
  | nil=>intro _ _;trivial
  | cons env r ih =>
   intro hs hl
   obtain ⟨hk,⟨L,o,hf,hn,ho,hd⟩,hr⟩:=hl
   have hL:L∈X.fs:=hs L (by unfold frs;rw [List.filterMap_cons,hf];exact List.mem_cons_self)
   obtain ⟨sl,e⟩:=I.base.slot L o ho (I.ok.frf L hL) hL fun z=>I.ok.exfs L z hL
   exact ⟨hk,⟨L,_,hf,hn,e,hd⟩,ih (fun b hb=>hs b (by unfold frs;rw [List.filterMap_cons,hf];exact List.mem_cons_of_mem _ hb)) hr⟩
 exact all X.outer (fun _ hb=>hb) I.ok.funs
theorem Inv.stack (I:Inv X pins σ H s):s.heap.FunFrames X.base X.stack:=by
 rcases I.ok.stk with e | ⟨e,hf⟩
 ·rw [e];exact I.funs
 ·rw [e]
  obtain ⟨m,hn,_⟩:=I.loc
  refine .cons (by rw [I.ok.kind];decide) hf hn ?_ I.funs
  exact Heap.get?_none_of_le (Nat.le_trans I.ok.bsz I.ok.above)
theorem Inv.stkSub (I:Inv X pins σ H s):∀ b∈frs X.stack,b∈X.env.locals::X.fs:=fun b hb=>by
 rcases I.ok.stk with e | ⟨e,hf⟩
 ·rw [e] at hb;exact List.mem_cons_of_mem _ hb
 ·rw [e] at hb
  unfold frs at hb
  rw [List.filterMap_cons,hf] at hb
  exact hb
theorem Inv.stkFree (I:Inv X pins σ H s):∀ b∈frs X.stack,H b=none:=fun b hb=>by
 rcases List.mem_cons.mp (I.stkSub b hb) with e | hb
 ·rw [e];exact I.free
 ·obtain ⟨_,o,ho,_⟩:=I.ok.funs.mem hb
  exact I.base.free b o ho (I.ok.frf b hb) fun z=>I.ok.exfs b z hb
theorem Inv.step {g':Array GenState} {t':Nat} {d':Drawn} {ch:List Addr} (I:Inv X pins σ H s)
  (hch:∀ b∈ch,(b∈X.ex∨X.s₀.heap.objs.size≤b)∧b≠X.env.locals∧(∀ x c,X.env.cells.lookup x=some c→c≠b)∧∀ p∈X.pn++pins,p.1≠b)
  (keep:∀ b o,b≠X.env.locals→b∉X.fs→b∉ch→s.heap.get? b=some o→H b=none→h'.get? b=some o)
  (slot:∀ b o,b≠X.env.locals→b∈X.fs→b∉ch→s.heap.get? b=some o→H b=none→∃ sl,h'.get? b=some { o with slots:=sl }) (free:∀ b o,b∉ch→s.heap.get? b=some o→H b=none→H' b=none)
  (there:∀ b o,b∉ch→s.heap.get? b=some o→∃ o',h'.get? b=some o')
  (tups:∀ b xs,H b=some (.tup xs)→H' b=some (.tup xs)) (frzs:∀ b o u,H b=some (.frz o u)→H' b=some (.frz o u)) (tbls:∀ b ps,H b=some (.tbl ps)→∃ more,H' b=some (.tbl (ps++more)))
  (ns:∀ m,s.heap.Ns X.env.locals m→h'.Ns X.env.locals m) (hok:HOk X.prog X.w H' h') (hg:AllBare g') :
  Inv X pins σ H' { s with heap:=h',gens:=g',drawn:=d',toks:=t' }:=by
 have neL:∀ b o,X.s₀.heap.get? b=some o→b≠X.env.locals:=fun b o e=>Nat.ne_of_lt (Nat.lt_of_lt_of_le (Heap.lt_size e) I.ok.above)
 have neC:∀ b o,X.s₀.heap.get? b=some o→b∉X.ex→b∉ch:=fun b o e hx hb=>by
  rcases (hch b hb).1 with z | z
  ·exact hx z
  ·exact absurd (Nat.lt_of_lt_of_le (Heap.lt_size e) z) (Nat.lt_irrefl _)
 have cellK:∀ x c,X.env.cells.lookup x=some c→∀ v,s.heap.IsCell c v→h'.IsCell c v:=by
  rintro x c e v ⟨o,ho,hd⟩
  have nch:c∉ch:=fun z=>(hch c z).2.2.1 x c e rfl
  by_cases hc:c∈X.fs
  ·obtain ⟨sl,q⟩:=slot c o (I.cne x c e) hc nch ho (I.freeC x c e)
   exact ⟨_,q,hd⟩
  ·exact ⟨o,keep c o (I.cne x c e) hc nch ho (I.freeC x c e),hd⟩
 refine ⟨I.ok,I.os,hg,⟨fun b o e n hb hx=>?_,fun b o e n hb hx=>?_,fun b o e n hx=>?_,fun b o e hx=>?_,fun b xs e=>tups b xs (I.base.tups b xs e),fun b o xs e=>frzs b o xs (I.base.frzs b o xs e),fun b ps e=>?_⟩,?_,fun x c e=>?_,?_,fun x c e=>?_,fun p hp=>?_,hok,I.len⟩
 ·exact keep b o (neL b o e) hb (neC b o e hx) (I.base.keep b o e n hb hx) (I.base.free b o e n hx)
 ·obtain ⟨sl,e1⟩:=I.base.slot b o e n hb hx
  obtain ⟨sl',e2⟩:=slot b _ (neL b o e) hb (neC b o e hx) e1 (I.base.free b o e n hx)
  exact ⟨sl',e2⟩
 ·obtain ⟨o',e1⟩:=I.base.there b o e hx
  exact free b o' (neC b o e hx) e1 (I.base.free b o e n hx)
 ·obtain ⟨o',e1⟩:=I.base.there b o e hx
  exact there b o' (neC b o e hx) e1
 ·obtain ⟨m1,e1⟩:=I.base.tbls b ps e
  obtain ⟨m2,e2⟩:=tbls b _ e1
  exact ⟨m1++m2,by rw [e2,Array.append_assoc]⟩
 ·obtain ⟨m,hn,hl⟩:=I.loc
  refine ⟨m,ns m hn,fun i x v e1 e2 e3=>?_⟩
  obtain ⟨u,r,l⟩:=hl i x v e1 e2 e3
  refine ⟨u,r,?_⟩
  rcases l with l | ⟨k,c,e,z⟩
  ·exact .inl l
  ·exact .inr ⟨k,c,e,cellK x c e _ z⟩
 ·obtain ⟨v,z⟩:=I.cell x c e
  exact ⟨v,cellK x c e v z⟩
 ·obtain ⟨m,⟨o,_,_,ho,_⟩,_⟩:=I.loc
  exact free _ o (fun z=>(hch _ z).2.1 rfl) ho I.free
 ·obtain ⟨v,o,ho,hd⟩:=I.cell x c e
  exact free c o (fun z=>(hch c z).2.2.1 x c e rfl) ho (I.freeC x c e)
 ·obtain ⟨e,n,ne,nf,d⟩:=I.pin p hp
  have nch:p.1∉ch:=fun z=>(hch p.1 z).2.2.2 p hp rfl
  exact ⟨keep p.1 p.2 ne nf nch e n,free p.1 p.2 nch e n,ne,nf,d⟩
theorem Inv.un {t':Nat} (I:Inv X pins σ H s) (u:Un X.fs [] H H' s.heap h') (hok:HOk X.prog X.w H' h'):Inv X pins σ H' { s with heap:=h',toks:=t' }:=by
 obtain ⟨m,⟨o,es,ep,ho,r⟩,_⟩:=id I.loc
 obtain ⟨sl,hL⟩:=u.any ho I.free (by simp)
 exact I.step (g':=s.gens) (d':=s.drawn) (ch:=[]) (fun _ z=>nomatch z) (fun b o _ hb _ e n=>u.keep b o e n hb (by simp)) (fun b o _ hb _ e n=>u.slot b o e n hb (by simp)) (fun b o _ e n=>u.free b o e n (by simp)) (fun b o _ e=>u.there b o e (by simp)) u.tups u.frzs u.tbls (fun m' hm=>by
  obtain ⟨o',es',ep',ho',r'⟩:=hm
  rw [ho] at ho';cases ho'
  exact ⟨_,es',ep',hL,r'⟩) hok I.bare
theorem Inv.call {g':Array GenState} {t':Nat} {d':Drawn} {ch:List Addr} (I:Inv X pins σ H s) (u:Un (frs X.stack) ch H H' s.heap h') (hok:HOk X.prog X.w H' h') (hg:AllBare g')
  (hch:∀ b∈ch,(b∈X.ex∨X.s₀.heap.objs.size≤b)∧b≠X.env.locals∧(∀ x c,X.env.cells.lookup x=some c→c≠b)∧∀ p∈X.pn++pins,p.1≠b) :
  Inv X pins σ H' { s with heap:=h',gens:=g',drawn:=d',toks:=t' }:=by
 obtain ⟨m,⟨o,es,ep,ho,r⟩,_⟩:=id I.loc
 obtain ⟨sl,hL⟩:=u.any ho I.free fun z=>(hch _ z).2.1 rfl
 exact I.step (ch:=ch) hch (fun b o hL hb hc e n=>u.keep b o e n (fun z=>(List.mem_cons.mp (I.stkSub b z)).elim hL hb) hc) (fun b o _ _ hc e n=>u.any e n hc) (fun b o hc e n=>u.free b o e n hc) (fun b o hc e=>u.there b o e hc) u.tups u.frzs u.tbls (fun m' hm=>by
  obtain ⟨o',es',ep',ho',r'⟩:=hm
  rw [ho] at ho';cases ho'
  exact ⟨_,es',ep',hL,r'⟩) hok hg
theorem Inv.turned {t':Nat} {it:Addr} (I:Inv X pins σ H s) (k:∀ b o,b≠it→s.heap.get? b=some o→h'.get? b=some o) (hn:H it=none) (hL:it≠X.env.locals)
  (h1:it∈X.ex∨X.s₀.heap.objs.size≤it) (h2:∀ x c,X.env.cells.lookup x=some c→c≠it) (h3:∀ p∈X.pn++pins,p.1≠it):Inv X pins σ H { s with heap:=h',toks:=t' }:=by
 have nit:∀ b u,H b=some u→b≠it:=fun b u e z=>by rw [z,hn] at e;cases e
 refine I.step (g':=s.gens) (d':=s.drawn) (ch:=[it]) (fun b hb=>?_) (fun b o _ _ hc e _=>k b o (fun z=>hc (by simp [z])) e) (fun b o _ _ hc e _=>⟨o.slots,k b o (fun z=>hc (by simp [z])) e⟩) (fun _ _ _ _ n=>n)
  (fun b o hc e=>⟨o,k b o (fun z=>hc (by simp [z])) e⟩) (fun _ _ e=>e) (fun _ _ _ e=>e) (fun b ps e=>⟨#[],by rw [e];simp⟩) (fun m hm=>?_) (fun b u e=>?_) I.bare
 ·have e:b=it:=by simpa using hb
  subst e
  exact ⟨h1,hL,h2,h3⟩
 ·obtain ⟨o,es,ep,ho,r⟩:=hm
  exact ⟨o,es,ep,k _ o (Ne.symm hL) ho,r⟩
 ·refine (I.hok b u e).stay (fun c v hc q=>k c v ?_ q) (fun _ q=>q) fun _ _ q=>q
  rcases hc with z | z
  ·rw [z];exact nit b u e
  ·exact nit c _ z
theorem Inv.tok (I:Inv X pins σ H s) (t:Nat):Inv X pins σ H { s with toks:=t }:=I.un (h':=s.heap) (t':=t) Un.refl I.hok
theorem Inv.kept {t':Nat} (I:Inv X pins σ H s) (k:∀ b u,s.heap.get? b=some u→h'.get? b=some u):Inv X pins σ H { s with heap:=h',toks:=t' }:=I.un (Un.kept k) (I.hok.kept k)
theorem Inv.laid {a:Addr} {o:HO} {t':Nat} (I:Inv X pins σ H s) (k:∀ b u,s.heap.get? b=some u→h'.get? b=some u) (hp:s.heap.objs.size≤a) (new:ObjOk X.prog X.w (upd H a o) h' a o) :
  Inv X pins σ (upd H a o) { s with heap:=h',toks:=t' }:=I.un (Un.laid k hp (I.hok.fresh hp)) (I.hok.laid k hp new)
theorem Inv.write {x e:Addr} {o:HO} {t':Nat} (I:Inv X pins σ H s) (mu:Mut (H x)) (he:e=x∨H e=some (.own x)) (k:∀ b u,b≠e→s.heap.get? b=some u→h'.get? b=some u) (heo:∃ u,h'.get? e=some u)
  (new:ObjOk X.prog X.w (upd H x o) h' x o):Inv X pins σ (upd H x o) { s with heap:=h',toks:=t' }:=I.un (Un.write mu he k heo) (I.hok.write mu he k heo new)
theorem Inv.pins_of {pins':List (Addr×Obj)} (I:Inv X pins σ H s) (h:∀ p∈pins',s.heap.get? p.1=some p.2∧H p.1=none∧p.1≠X.env.locals∧p.1∉X.fs∧∀ v,p.2.data≠.cell v):Inv X pins' σ H s :=
 ⟨I.ok,I.os,I.bare,I.base,I.loc,I.cell,I.free,I.freeC,fun p hp=>(List.mem_append.mp hp).elim (fun z=>I.pin p (List.mem_append_left _ z)) (h p),I.hok,I.len⟩
theorem Zmg {N:List Str} (hN:N.Nodup) {i j:Nat} {x:Str} (a:N[i]?=some x) (b:N[j]?=some x):i=j:=by
 obtain ⟨h1,e1⟩:=List.getElem?_eq_some_iff.mp a
 obtain ⟨h2,e2⟩:=List.getElem?_eq_some_iff.mp b
 exact (List.getElem_inj hN).mp (e1.trans e2.symm)
theorem ZoC {M:Model} {A:Around} {E:Value→Shared→Prop} {i:Nat} {x:Str} {v:V} {u:Value} {Q:Unit→Shared→Prop} (I:Inv X pins σ H s) (hN:X.N.Nodup) (hi:X.N[i]?=some x) (hx:Loc X.env.scope x) (r:RelV v u)
  (h:∀ s',Inv X pins (σ.set i (some v)) H s'→(∃ a,Heap.SameBut a s.heap s'.heap∧(a=X.env.locals∨X.env.cells.lookup x=some a))→Q () s') (hf:X.fn x=true∨X.env.scope.names.lookup x=some .local:=by first | exact .inl rfl | exact .inr rfl | assumption):wpAny M A (storeName X.env x u) Q E s:=by
 obtain ⟨m,hn,hl⟩:=id I.loc
 have hcls:(X.env.scope.kind==.class||(X.env.scope.kind==.module&&X.env.locals != X.env.globals))=false:=by rw [I.ok.kind];rfl
 have hiσ:i < σ.length:=by rw [I.len];exact (List.getElem?_eq_some_iff.mp hi).1
 have cne:=I.cne
 have tracked:∀ {a:Addr} {h':Heap},(∃ o,s.heap.get? a=some o∧H a=none)→Heap.SameBut a s.heap h'→HOk X.prog X.w H h':=fun {a h'} ha hs b ob e=>by
  obtain ⟨_,_,hfree⟩:=ha
  refine (I.hok b ob e).stay (fun c w' hc q=>(hs.2 c ?_).trans q) (fun _ q=>q) fun _ _ q=>q
  rintro rfl
  rcases hc with rfl | hc
  ·rw [hfree] at e;cases e
  ·rw [hfree] at hc;cases hc
 rcases hx with hk | hk
 ·refine wpAny_storeName_local hk hn (fun h' hn' hs=>?_) hcls
  obtain ⟨oL,_,_,hoL,_⟩:=id hn
  refine h _ ⟨I.ok,I.os,I.bare,⟨fun b o e n hb hx=>?_,fun b o e n hb hx=>?_,I.base.free,fun b o e hx=>?_,I.base.tups,I.base.frzs,I.base.tbls⟩,⟨_,hn',fun j y v' e1 e2 e3=>?_⟩,fun y c e=>?_,I.free,I.freeC,fun p hp=>?_,tracked ⟨oL,hoL,I.free⟩ hs,by simpa using I.len⟩ ⟨_,hs,.inl rfl⟩
  ·exact (hs.2 b (Nat.ne_of_lt (Nat.lt_of_lt_of_le (Heap.lt_size e) I.ok.above))).trans (I.base.keep b o e n hb hx)
  ·obtain ⟨sl,e1⟩:=I.base.slot b o e n hb hx
   exact ⟨sl,(hs.2 b (Nat.ne_of_lt (Nat.lt_of_lt_of_le (Heap.lt_size e) I.ok.above))).trans e1⟩
  ·obtain ⟨o',e1⟩:=I.base.there b o e hx
   exact ⟨o',(hs.2 b (Nat.ne_of_lt (Nat.lt_of_lt_of_le (Heap.lt_size e) I.ok.above))).trans e1⟩
  ·by_cases hj:j=i
   ·subst hj
    rw [hi] at e1;cases e1
    rw [List.getElem?_set_self hiσ] at e2
    cases e2
    exact ⟨u,r,.inl ⟨hk,by simp⟩⟩
   ·rw [List.getElem?_set_ne (Ne.symm hj)] at e2
    obtain ⟨u',r',q⟩:=hl j y v' e1 e2 e3
    refine ⟨u',r',?_⟩
    rcases q with ⟨k,e⟩ | ⟨k,c,e,z⟩
    ·refine .inl ⟨k,?_⟩
     have:y≠x:=fun e=>hj (Zmg hN e1 (e▸hi))
     simp [this,e]
    ·exact .inr ⟨k,c,e,z.sameBut hs (cne y c e)⟩
  ·obtain ⟨w',z⟩:=I.cell y c e
   exact ⟨w',z.sameBut hs (cne y c e)⟩
  ·obtain ⟨e,n,ne,nf,d⟩:=I.pin p hp
   exact ⟨(hs.2 p.1 ne).trans e,n,ne,nf,d⟩
 ·have hfn:X.fn x=true:=by
   rcases hf with z | z
   ·exact z
   ·rw [z] at hk;cases hk
  obtain ⟨c,hc⟩:=I.ok.has x (.inl hk)
  obtain ⟨w',z⟩:=I.cell x c hc
  refine wpAny_storeName_cell I.ok.kind hk hc z (fun h' hc' hs=>?_)
  obtain ⟨oc,hoc,hocd⟩:=id z
  refine h { s with heap:=h' } ⟨I.ok,I.os,I.bare,⟨fun b o e n hb hx=>?_,fun b o e n hb hx=>?_,I.base.free,fun b o e hx=>?_,I.base.tups,I.base.frzs,I.base.tbls⟩,⟨m,hn.sameBut hs (Ne.symm (cne x c hc)),fun j y v' e1 e2 e3=>?_⟩,fun y c' e=>?_,I.free,I.freeC,fun p hp=>?_,tracked ⟨oc,hoc,I.freeC x c hc⟩ hs,by simpa using I.len⟩ ⟨c,hs,.inr hc⟩
  ·exact (hs.2 b (Nat.ne_of_lt (Nat.lt_of_lt_of_le (Heap.lt_size e) (I.ok.cab x c hfn hc)))).trans (I.base.keep b o e n hb hx)
  ·obtain ⟨sl,e1⟩:=I.base.slot b o e n hb hx
   exact ⟨sl,(hs.2 b (Nat.ne_of_lt (Nat.lt_of_lt_of_le (Heap.lt_size e) (I.ok.cab x c hfn hc)))).trans e1⟩
  ·obtain ⟨o',e1⟩:=I.base.there b o e hx
   exact ⟨o',(hs.2 b (Nat.ne_of_lt (Nat.lt_of_lt_of_le (Heap.lt_size e) (I.ok.cab x c hfn hc)))).trans e1⟩
  ·by_cases hj:j=i
   ·subst hj
    rw [hi] at e1;cases e1
    rw [List.getElem?_set_self hiσ] at e2
    cases e2
    exact ⟨u,r,.inr ⟨.inl hk,c,hc,hc'⟩⟩
   ·rw [List.getElem?_set_ne (Ne.symm hj)] at e2
    obtain ⟨u',r',q⟩:=hl j y v' e1 e2 e3
    refine ⟨u',r',?_⟩
    rcases q with q | ⟨k,c',e,z'⟩
    ·exact .inl q
    ·refine .inr ⟨k,c',e,z'.sameBut hs ?_⟩
     rintro rfl
     exact hj (Zmg hN e1 (I.ok.inj _ _ _ e hc▸hi))
  ·by_cases hcc:c'=c
   ·subst hcc;exact ⟨_,hc'⟩
   ·obtain ⟨w2,z2⟩:=I.cell y c' e
    exact ⟨w2,z2.sameBut hs hcc⟩
  ·obtain ⟨e,n,ne,nf,d⟩:=I.pin p hp
   refine ⟨(hs.2 p.1 ?_).trans e,n,ne,nf,d⟩
   intro q
   rw [q,hoc] at e
   have q':oc=p.2:=Option.some.inj e
   exact d w' (by rw [← q'];exact hocd)
theorem Zi3 {M:Model} {A:Around} {E:Value→Shared→Prop} {i:Nat} {x:Str} {v:V} {u:Value} {Q:Unit→Shared→Prop} (I:Inv X pins σ H s) (hN:X.N.Nodup) (hi:X.N[i]?=some x) (hx:Loc X.env.scope x) (r:RelV v u)
  (h:∀ s',Inv X pins (σ.set i (some v)) H s'→Q () s') (hf:X.fn x=true∨X.env.scope.names.lookup x=some .local:=by first | exact .inl rfl | exact .inr rfl | assumption):wpAny M A (storeName X.env x u) Q E s :=
 ZoC I hN hi hx r (fun s' I' _=>h s' I') hf
theorem Inv.call' {s':Shared} {ch:List Addr} (I:Inv X pins σ H s) (ho:s'.os=s.os) (u:Un (frs X.stack) ch H H' s.heap s'.heap) (hok:HOk X.prog X.w H' s'.heap) (hg:AllBare s'.gens)
  (hch:∀ b∈ch,(b∈X.ex∨X.s₀.heap.objs.size≤b)∧b≠X.env.locals∧(∀ x c,X.env.cells.lookup x=some c→c≠b)∧∀ p∈X.pn++pins,p.1≠b):Inv X pins σ H' s':=by
 obtain ⟨h',g',d',t',o'⟩:=s'
 have e:o'=s.os:=ho
 subst e
 exact I.call (g':=g') (t':=t') (d':=d') u hok hg hch
end
abbrev XK:=Value→Option Addr→Hp→Prop
abbrev St:=List (Option V)
abbrev VK:=V→Hp→Prop
abbrev TE:=St→Hp→VK→Prop
abbrev TT:=St→Hp→(Bool→Hp→Prop)→Prop
abbrev TA:=St→Hp→(List V→Hp→Prop)→Prop
structure ZtL where
 nx:St→Hp→Prop
 rt:VK
 bk:St→Hp→Prop:=fun _ _=>False
 ct:St→Hp→Prop:=fun _ _=>False
abbrev TS:=ZtL→St→Hp→Prop
def EP (X:Cx) (pins:List (Addr×Obj)) (σ:St) (Q:VK) (u:Value) (s':Shared):Prop:=∃ v H',Inv X pins σ H' s'∧RelV v u∧Q v H'
def TP (X:Cx) (pins:List (Addr×Obj)) (σ:St) (Q:Bool→Hp→Prop) (b:Bool) (s':Shared):Prop:=∃ H',Inv X pins σ H' s'∧Q b H'
def AP (X:Cx) (pins:List (Addr×Obj)) (σ:St) (Q:List V→Hp→Prop) (us:List Value) (s':Shared):Prop:=∃ vs H',Inv X pins σ H' s'∧Vals vs us∧Q vs H'
def SP (X:Cx) (pins:List (Addr×Obj)) (D:ZtL) (f:Flow) (s':Shared):Prop :=
 match f with
 | .next=>∃ σ' H',Inv X pins σ' H' s'∧D.nx σ' H'
 | .brk=>∃ σ' H',Inv X pins σ' H' s'∧D.bk σ' H'
 | .cont=>∃ σ' H',Inv X pins σ' H' s'∧D.ct σ' H'
 | .ret u=>∃ v σ' H',Inv X pins σ' H' s'∧RelV v u∧D.rt v H'
def PE (X:Cx) (e:Expr) (t:TE):Prop :=
 ∀ (pins:List (Addr×Obj)) (s:Shared) (σ:St) (H:Hp) (Q:VK),Inv X pins σ H s→t σ H Q→wpAny (model X.prog X.w) X.A (eval e X.env) (EP X pins σ Q) X.xe s
def PT (X:Cx) (e:Expr) (t:TT):Prop :=
 ∀ (pins:List (Addr×Obj)) (s:Shared) (σ:St) (H:Hp) (Q:Bool→Hp→Prop),Inv X pins σ H s→t σ H Q→wpAny (model X.prog X.w) X.A (isTrue e X.env (eval e X.env)) (TP X pins σ Q) X.xe s
def PW (X:Cx) (e:Expr) (t:TT):Prop :=
 ∀ (whole:Sem Value) (pins:List (Addr×Obj)) (s:Shared) (σ:St) (H:Hp) (Q:Bool→Hp→Prop),Inv X pins σ H s→t σ H Q→wpAny (model X.prog X.w) X.A (isTrue e X.env whole) (TP X pins σ Q) X.xe s
theorem PW.pt {X:Cx} {e:Expr} {t:TT} (h:PW X e t):PT X e t:=h _
def PA (X:Cx) (es:List Expr) (t:TA):Prop :=
 ∀ (pos:Pos) (pins:List (Addr×Obj)) (s:Shared) (σ:St) (H:Hp) (Q:List V→Hp→Prop),Inv X pins σ H s→t σ H Q→wpAny (model X.prog X.w) X.A (spliced (backTo pos (starEach es X.env))) (AP X pins σ Q) X.xe s
def PS (X:Cx) (st:Stmt) (t:TS):Prop :=
 ∀ (pins:List (Addr×Obj)) (s:Shared) (σ:St) (H:Hp) (D:ZtL),Inv X pins σ H s→t D σ H→wpAny (model X.prog X.w) X.A (exec st X.env) (SP X pins D) X.xe s
def PSs (X:Cx) (st:List Stmt) (t:TS):Prop :=
 ∀ (pins:List (Addr×Obj)) (s:Shared) (σ:St) (H:Hp) (D:ZtL),Inv X pins σ H s→t D σ H→wpAny (model X.prog X.w) X.A (execs st X.env) (SP X pins D) X.xe s
theorem thn {α:Type} {t:Sem α} {Q Q':α→Shared→Prop} {M:Model} {A:Around} {E:Value→Shared→Prop} {s:Shared} (h:wpAny M A t Q E s) (hQ:∀ a s,Q a s→Q' a s):wpAny M A t Q' E s:=wpAny_mono h hQ fun _ _ x=>x
end L2
namespace L2
open PySem PySem.Spec PyProof.Rows
section
variable {X:Cx}
theorem bin {a b:Expr} {ta tb:TE} (ha:PE X a ta) (hb:PE X b tb) {pins:List (Addr×Obj)} {s:Shared} {σ:St} {H:Hp} {R:V→V→Hp→Prop} (I:Inv X pins σ H s) (h:ta σ H fun x H1=>tb σ H1 fun y H2=>R x y H2)
  {α:Type} {Q:α→Shared→Prop} {f:Value→Value→Sem α}
  (hf:∀ v u s2 x y H2,Inv X pins σ H2 s2→RelV x v→RelV y u→R x y H2→wpAny (model X.prog X.w) X.A (f v u) Q X.xe s2) :
  wpAny (model X.prog X.w) X.A (eval a X.env) (fun v s₁=>wpAny (model X.prog X.w) X.A (eval b X.env) (fun u s₂=>wpAny (model X.prog X.w) X.A (f v u) Q X.xe s₂) X.xe s₁) X.xe s:=by
 refine thn (ha pins s σ H _ I h) fun v s1 zz1=>?_
 obtain ⟨x,H1,I1,r1,q1⟩:=zz1
 refine thn (hb pins s1 σ H1 _ I1 q1) fun u s2 zz2=>?_
 obtain ⟨y,H2,I2,r2,q2⟩:=zz2
 exact hf v u s2 x y H2 I2 r1 r2 q2
def Zxi (i:Nat):TE:=fun σ H Q=>∃ v,σ[i]?=some (some v)∧Q v H
def tC (v:V):TE:=fun _ H Q=>Q v H
theorem ZrA {i:Nat} {x:Str} {pos:Pos} (hN:X.N[i]?=some x) (hv:Vis X.env.scope x) (hd:(x==("__debug__":Str))=false:=by decide) (hcd:(x==("__classdict__":Str))=false:=by decide):PE X (.Name x pos) (Zxi i):=by
 intro pins s σ H Q I h
 obtain ⟨v,e,h⟩:=h
 obtain ⟨m,hn,hl⟩:=I.loc
 obtain ⟨u,r,l⟩:=hl i x v hN e hv
 have fin:EP X pins σ Q u s:=⟨v,H,I,r,h⟩
 rcases l with ⟨hk,hm⟩ | ⟨hk,c,hc,hcell⟩
 ·exact wpAny_Name (wpAny_loadName_local I.ok.kind hk hn hm fin) hd
 ·rcases hk with hk | hk
  ·exact wpAny_Name (wpAny_loadName_cell I.ok.kind hk hc hcell fin) hd
  ·exact wpAny_Name (wpAny_loadName_free I.ok.kind hk hc hcell fin hcd) hd
theorem ZvG {i j pos}:PE X (.Constant (.int i) j pos) (tC (.int i)):=fun _ _ _ H _ I h=>wpAny_Constant_int ⟨.int i,H,I.tok _,⟨_,rfl⟩,h⟩
theorem Zxc {b j pos}:PE X (.Constant (.bool b) j pos) (tC (.bl b)):=fun _ _ _ H _ I h=>Constant_bool ⟨.bl b,H,I,rfl,h⟩
theorem ZvV {j pos}:PE X (.Constant .none j pos) (tC .non):=fun _ _ _ H _ I h=>Constant_none ⟨.non,H,I,rfl,h⟩
theorem Zun {x j pos}:PE X (.Constant (.str x) j pos) (tC (.str x)):=fun _ _ _ H _ I h=>Calls.Constant_str ⟨.str x,H,I.tok _,⟨_,rfl⟩,h⟩
def Gl (X:Cx) (x:Str):Prop:=X.env.kindOf x=some .globalImplicit
theorem Zls {E:Value→Shared→Prop} {pins:List (Addr×Obj)} {s:Shared} {σ:St} {H:Hp} {x:Str} {u:Value} {pos:Pos} {Q:Value→Shared→Prop} (I:Inv X pins σ H s) (hg:Gl X x) (hm:X.mg x=some u) (h:Q u s)
  (hd:(x==("__debug__":Str))=false:=by decide):wpAny (model X.prog X.w) X.A (eval (.Name x pos) X.env) Q E s :=
 Calls.Name_function_global I.ok.kind hg (Calls.loadGlobal_global (by rw [I.ok.glob];exact I.mod.glob.keeps I.bk) hm h) hd
theorem Ze3 {E:Value→Shared→Prop} {pins:List (Addr×Obj)} {s:Shared} {σ:St} {H:Hp} {x:Str} {u:Value} {pos:Pos} {Q:Value→Shared→Prop} (I:Inv X pins σ H s) (hg:Gl X x) (hm:X.mg x=none) (hv:bootBuiltins x=some u) (h:Q u s)
  (hn:x≠"__name__":=by decide) (hd:(x==("__debug__":Str))=false:=by decide):wpAny (model X.prog X.w) X.A (eval (.Name x pos) X.env) Q E s:=by
 obtain ⟨mb,h1,h2⟩:=I.mod.blt
 exact Calls.Name_function_global I.ok.kind hg (Calls.loadGlobal_builtin (by rw [I.ok.glob];exact I.mod.glob.keeps I.bk) hm (by rw [I.ok.blt];exact h1.keeps I.bk) ((h2 x hn).trans hv) h) hd
theorem Zop {x:Str} {v:V} {u:Value} {pos:Pos} (hg:Gl X x) (hm:X.mg x=some u) (r:RelV v u) (hd:(x==("__debug__":Str))=false:=by decide):PE X (.Name x pos) (tC v) :=
 fun _ _ _ H _ I h=>Zls I hg hm ⟨v,H,I,r,h⟩ hd
theorem ZsT {x:Str} {v:V} {u:Value} {pos:Pos} (hg:Gl X x) (hm:X.mg x=none) (hv:bootBuiltins x=some u) (r:RelV v u) (hn:x≠"__name__":=by decide) (hd:(x==("__debug__":Str))=false:=by decide):PE X (.Name x pos) (tC v) :=
 fun _ _ _ H _ I h=>Ze3 I hg hm hv ⟨v,H,I,r,h⟩ hn hd
def t2I (ta tb:TE) (k:Int→Int→Hp→Prop):St→Hp→Prop:=fun σ H=>ta σ H fun x H1=>tb σ H1 fun y H2=>∃ i j,x=.int i∧y=.int j∧k i j H2
def ZxC (ta tb:TE):TE:=fun σ H Q=>t2I ta tb (fun i j H2=>Q (.int (i - j)) H2) σ H
variable {a b:Expr} {ta tb:TE} {pos:Pos}
theorem Zbi (ha:PE X a ta) (hb:PE X b tb):PE X (.BinOp a .Sub b pos) (ZxC ta tb):=by
 intro pins s σ H Q I h
 refine wpAny_BinOp (bin ha hb I h fun v u s2 x y H2 I2 rx ry q=>?_)
 obtain ⟨i,j,rfl,rfl,q⟩:=q
 obtain ⟨t,rfl⟩:=rx
 obtain ⟨t',rfl⟩:=ry
 exact sub_int ⟨.int _,H2,I2.tok _,⟨_,rfl⟩,q⟩
variable {tA tB':TT} {Zcf:List Expr}
def ZxN (t u:TT):TT:=fun σ H Q=>t σ H fun c H1=>if c=true then u σ H1 Q else Q false H1
def tOr (t u:TT):TT:=fun σ H Q=>t σ H fun c H1=>if c=true then Q true H1 else u σ H1 Q
def ZxM (t:TT):TT:=fun σ H Q=>t σ H fun c H1=>Q (!c) H1
theorem Zsi (ha:PT X a tA):PW X (.BoolOp .And [a] pos) tA:=by
 intro wh pins s σ H Q I h
 refine isTrue_and (thn (ha pins s σ H Q I h) fun c s1 e=>?_)
 cases c with
 | true=>exact isTrue_and_nil e
 | false=>exact e
theorem Zvi (ha:PT X a tA):PW X (.BoolOp .Or [a] pos) tA:=by
 intro wh pins s σ H Q I h
 refine isTrue_or (thn (ha pins s σ H Q I h) fun c s1 e=>?_)
 cases c with
 | false=>exact isTrue_or_nil e
 | true=>exact e
theorem Zt0 (ha:PT X a tA) (hb:PW X (.BoolOp .And (b::Zcf) pos) tB'):PW X (.BoolOp .And (a::b::Zcf) pos) (ZxN tA tB'):=by
 intro wh pins s σ H Q I h
 refine isTrue_and (thn (ha pins s σ H _ I h) fun c s1 zz7=>?_)
 obtain ⟨H1,I1,q1⟩:=zz7
 cases c with
 | true=>exact hb wh pins s1 σ H1 Q I1 q1
 | false=>exact ⟨H1,I1,q1⟩
theorem Zwy (ha:PT X a tA) (hb:PW X (.BoolOp .Or (b::Zcf) pos) tB'):PW X (.BoolOp .Or (a::b::Zcf) pos) (tOr tA tB'):=by
 intro wh pins s σ H Q I h
 refine isTrue_or (thn (ha pins s σ H _ I h) fun c s1 zz8=>?_)
 obtain ⟨H1,I1,q1⟩:=zz8
 cases c with
 | true=>exact ⟨H1,I1,q1⟩
 | false=>exact hb wh pins s1 σ H1 Q I1 q1
theorem ZvT (ha:PT X a tA):PT X (.UnaryOp .Not a pos) (ZxM tA):=by
 intro pins s σ H Q I h
 exact isTrue_not (ha pins s σ H (fun c H1=>Q (!c) H1) I h)
def ZwH (ta tb:TE):TE:=fun σ H Q=>ta σ H fun x H1=>∃ c,x=.bl c∧if c=true then tb σ H1 Q else Q (.bl false) H1
def ZxL (ta tb:TE):TE:=fun σ H Q=>ta σ H fun x H1=>∃ c,x=.bl c∧if c=true then Q (.bl true) H1 else tb σ H1 Q
theorem Zt2 {op} {t:TE} (h:PE X a t):PE X (.BoolOp op [a] pos) t:=fun pins s σ H Q I hw=>BoolOp_one (h pins s σ H Q I hw)
theorem Zuv (ha:PE X a ta) (hb:PE X (.BoolOp .And (b::Zcf) pos) tb):PE X (.BoolOp .And (a::b::Zcf) pos) (ZwH ta tb):=by
 intro pins s σ H Q I h
 refine BoolOp_and (thn (ha pins s σ H _ I h) fun v s1 zz9=>?_)
 obtain ⟨x,H1,I1,r1,q1⟩:=zz9
 obtain ⟨c,rfl,q1⟩:=q1
 cases r1
 refine wpAny_truthy_bool ?_
 cases c with
 | true=>exact hb pins s1 σ H1 Q I1 q1
 | false=>exact ⟨.bl false,H1,I1,rfl,q1⟩
theorem ZwW (ha:PE X a ta) (hb:PE X (.BoolOp .Or (b::Zcf) pos) tb):PE X (.BoolOp .Or (a::b::Zcf) pos) (ZxL ta tb):=by
 intro pins s σ H Q I h
 refine BoolOp_or (thn (ha pins s σ H _ I h) fun v s1 zz10=>?_)
 obtain ⟨x,H1,I1,r1,q1⟩:=zz10
 obtain ⟨c,rfl,q1⟩:=q1
 cases r1
 refine wpAny_truthy_bool ?_
 cases c with
 | false=>exact hb pins s1 σ H1 Q I1 q1
 | true=>exact ⟨.bl true,H1,I1,rfl,q1⟩
def tIf (t:TT) (ta tb:TE):TE:=fun σ H Q=>t σ H fun c H1=>if c=true then ta σ H1 Q else tb σ H1 Q
theorem ZqL {c:Expr} (hc:PT X c tA) (ha:PE X a ta) (hb:PE X b tb):PE X (.IfExp c a b pos) (tIf tA ta tb):=by
 intro pins s σ H Q I h
 refine wpAny_IfExp (thn (hc pins s σ H _ I h) fun d s1 zz12=>?_)
 obtain ⟨H1,I1,q1⟩:=zz12
 cases d with
 | true=>exact ha pins s1 σ H1 Q I1 q1
 | false=>exact hb pins s1 σ H1 Q I1 q1
end
end L2
namespace L2
open PySem PySem.Spec PyProof.Rows
def SqL (K:PySem.W.Frag) (H:Hp) (a:Addr) (xs:List V):Prop :=
 Rd H a (.lst xs) ∨
  ∃ (o:Obj) (its:Array Value) (n:Nat),K.lookup a=some o∧o.cls=.type "list"∧o.dict=none∧o.data=.seq its n∧its.size≤sizeLine∧Vals xs its.toList
def SqT (K:PySem.W.Frag) (H:Hp) (a:Addr) (xs:List V):Prop :=
 Rd H a (.tup xs) ∨
  ∃ (o:Obj) (its:Array Value) (n:Nat),K.lookup a=some o∧o.cls=.type "tuple"∧o.data=.seq its n∧its.size≤sizeLine∧Vals xs its.toList
def ZxS:Value→Option V
 | .none=>some .non
 | .bool b=>some (.bl b)
 | .int i _=>some (.int i)
 | .str x _=>some (.str x)
 | .bytes b _=>some (.byt b)
 | .float b _=>some (.flt b)
 | .ref a=>some (.ref a)
 | .type n=>some (.ty n)
 | _=>none
theorem RelV.abs {x:V} {u:Value} (r:RelV x u):ZxS u=some x:=by
 cases x with
 | non=>cases r;rfl
 | bl _=>cases r;rfl
 | int _=>obtain ⟨t,rfl⟩:=r;rfl
 | str _=>obtain ⟨t,rfl⟩:=r;rfl
 | byt _=>obtain ⟨t,rfl⟩:=r;rfl
 | flt _=>obtain ⟨t,rfl⟩:=r;rfl
 | ref _=>cases r;rfl
 | ty _=>cases r;rfl
theorem RelV.inj {x y:V} {u:Value} (r:RelV x u) (q:RelV y u):x=y:=Option.some.inj (r.abs.symm.trans q.abs)
theorem Vals.inj:∀ {xs ys:List V} {us:List Value},Vals xs us→Vals ys us→xs=ys
 | _,_,_,.nil,.nil=>rfl
 | _,_,_,.cons r t,.cons r' t'=>by rw [r.inj r',Vals.inj t t']
section
variable {X:Cx} {pins:List (Addr×Obj)} {σ:St} {H:Hp} {s:Shared} {a:Addr} {xs ys:List V}
theorem SqL.of {K:PySem.W.Frag} (h:H a=some (.lst xs)):SqL K H a xs:=.inl (.inl h)
theorem SqT.of {K:PySem.W.Frag} (h:H a=some (.tup xs)):SqT K H a xs:=.inl (.inl h)
theorem Inv.list (I:Inv X pins σ H s) (h:SqL X.K H a xs):∃ its:List Value,Vals xs its∧PlainL s.heap a its.toArray∧xs.length≤sizeLine:=by
 rcases h with h | ⟨o,its,n,hk,hc,hd,hs,hz,r⟩
 ·obtain ⟨z,its,n,r,e⟩:=h.ok I.hok
  exact ⟨its,r,⟨_,n,e,rfl,rfl,rfl⟩,z⟩
 ·refine ⟨its.toList,r,⟨o,n,I.kIn a o hk,hc,hd,by simpa using hs⟩,?_⟩
  have e:=r.length
  simp only [Array.length_toList] at e
  omega
theorem Inv.tuple (I:Inv X pins σ H s) (h:SqT X.K H a xs):∃ its:List Value,Vals xs its∧IsTup s.heap a its.toArray∧xs.length≤sizeLine:=by
 rcases h with h | ⟨o,its,n,hk,hc,hs,hz,r⟩
 ·obtain ⟨z,its,r,p⟩:=h.ok I.hok
  exact ⟨its,r,p,z⟩
 ·refine ⟨its.toList,r,⟨o,I.kIn a o hk,hc,n,by simpa using hs⟩,?_⟩
  have e:=r.length
  simp only [Array.length_toList] at e
  omega
theorem Inv.list_inj (I:Inv X pins σ H s) (h:SqL X.K H a xs) (h':SqL X.K H a ys):xs=ys:=by
 obtain ⟨its,r,⟨o,n,e,_,_,d⟩,_⟩:=I.list h
 obtain ⟨its',r',⟨o',n',e',_,_,d'⟩,_⟩:=I.list h'
 rw [e] at e';cases e'
 rw [d] at d'
 injection d' with d1 _
 have:its=its':=by simpa using congrArg Array.toList d1
 subst this
 exact r.inj r'
theorem Inv.tuple_inj (I:Inv X pins σ H s) (h:SqT X.K H a xs) (h':SqT X.K H a ys):xs=ys:=by
 obtain ⟨its,r,⟨o,e,_,n,d⟩,_⟩:=I.tuple h
 obtain ⟨its',r',⟨o',e',_,n',d'⟩,_⟩:=I.tuple h'
 rw [e] at e';cases e'
 rw [d] at d'
 injection d' with d1 _
 have:its=its':=by simpa using congrArg Array.toList d1
 subst this
 exact r.inj r'
end
abbrev Cx.wish (X:Cx) (E:Value→Shared→Prop):Cx:={ X with xe:=E }
abbrev Cx.nox (X:Cx):Cx:=X.wish fun _ _=>False
theorem Cx.Ok.wish {X:Cx} (ok:X.Ok) (E:Value→Shared→Prop):(X.wish E).Ok :=
 ⟨ok.mod,ok.kind,ok.glob,ok.blt,ok.above,ok.inj,ok.has,ok.cab,ok.hd,ok.frames,ok.stk,ok.exf,ok.bs,ok.bsz,ok.noex,ok.exfs,ok.funs,ok.frf⟩
theorem Cx.Ok.unwish {X:Cx} {E:Value→Shared→Prop} (ok:(X.wish E).Ok):X.Ok :=
 ⟨ok.mod,ok.kind,ok.glob,ok.blt,ok.above,ok.inj,ok.has,ok.cab,ok.hd,ok.frames,ok.stk,ok.exf,ok.bs,ok.bsz,ok.noex,ok.exfs,ok.funs,ok.frf⟩
section
variable {X:Cx} {pins:List (Addr×Obj)} {σ:St} {H:Hp} {s:Shared} {E:Value→Shared→Prop}
theorem Inv.wish (I:Inv X pins σ H s) (E:Value→Shared→Prop):Inv (X.wish E) pins σ H s:=⟨I.ok.wish E,I.os,I.bare,I.base,I.loc,I.cell,I.free,I.freeC,I.pin,I.hok,I.len⟩
theorem Inv.unwish (I:Inv (X.wish E) pins σ H s):Inv X pins σ H s:=⟨I.ok.unwish,I.os,I.bare,I.base,I.loc,I.cell,I.free,I.freeC,I.pin,I.hok,I.len⟩
theorem SP.unwish {D:ZtL} {f:Flow} {s':Shared} (h:SP (X.wish E) pins D f s'):SP X pins D f s':=by
 cases f with
 | next=>obtain ⟨σ',H',I,q⟩:=h;exact ⟨σ',H',I.unwish,q⟩
 | brk=>obtain ⟨σ',H',I,q⟩:=h;exact ⟨σ',H',I.unwish,q⟩
 | cont=>obtain ⟨σ',H',I,q⟩:=h;exact ⟨σ',H',I.unwish,q⟩
 | ret u=>obtain ⟨v,σ',H',I,r,q⟩:=h;exact ⟨v,σ',H',I.unwish,r,q⟩
theorem PE.nox {e:Expr} {t:TE} (h:PE X.nox e t):PE X e t:=fun pins s σ H Q I hw =>
 wpAny_mono (h pins s σ H Q (I.wish _) hw) ((by rintro _ _ ⟨v,H',I',r,q⟩;exact ⟨v,H',I'.unwish,r,q⟩)) fun _ _ z=>False.elim z
theorem PT.nox {e:Expr} {t:TT} (h:PT X.nox e t):PT X e t:=fun pins s σ H Q I hw =>
 wpAny_mono (h pins s σ H Q (I.wish _) hw) ((by rintro _ _ ⟨H',I',q⟩;exact ⟨H',I'.unwish,q⟩)) fun _ _ z=>False.elim z
theorem PSs.nox {st:List Stmt} {t:TS} (h:PSs X.nox st t):PSs X st t:=fun pins s σ H D I hw =>
 wpAny_mono (h pins s σ H D (I.wish _) hw) (fun _ _ q=>q.unwish) fun _ _ z=>False.elim z
end
section
variable {X:Cx} {st:Stmt} {Zcf:List Stmt} {t u:TS} {e:Expr} {te:TE} {pos:Pos}
def ZwA:TS:=fun D σ H=>D.nx σ H
def ZxR (t u:TS):TS:=fun D σ H=>t { D with nx:=u D } σ H
theorem Zsw:PSs X [] ZwA:=fun _ _ σ H _ I h=>wpAny_execs_nil ⟨σ,H,I,h⟩
theorem ZpA (h1:PS X st t) (h2:PSs X Zcf u):PSs X (st::Zcf) (ZxR t u):=by
 intro pins s σ H D I h
 refine wpAny_execs_cons (thn (h1 pins s σ H { D with nx:=u D } I h) fun f s1 q=>?_)
 cases f with
 | next =>
  obtain ⟨σ',H',I',q⟩:=q
  exact h2 pins s1 σ' H' D I' q
 | ret v=>exact q
 | brk=>exact q
 | cont=>exact q
theorem Zto (h1:PS X st t):PSs X [st] t:=by
 intro pins s σ H D I h
 refine wpAny_execs_cons (thn (h1 pins s σ H D I h) fun f s1 q=>?_)
 cases f with
 | next=>exact wpAny_execs_nil q
 | ret v=>exact q
 | brk=>exact q
 | cont=>exact q
theorem Inv.quiet {pins:List (Addr×Obj)} {σ:St} {H:Hp} {s:Shared} (I:Inv X pins σ H s):interactive X.env=false:=by simp [interactive,I.ok.kind]
def ZwC (te:TE):TS:=fun D σ H=>te σ H fun _ H1=>D.nx σ H1
theorem ZsJ (he:PE X e te) (hs:swapsWith e none pos.line X.env=pure false:=by rfl):PS X (.Expr e pos) (ZwC te):=by
 intro pins s σ H D I h
 exact wpAny_Expr_any (thn (he pins s σ H _ I h) (by rintro v s1 ⟨x,H1,I1,r1,q1⟩;exact ⟨σ,H1,I1,q1⟩)) I.quiet hs
def ZxG (te:TE):TS:=fun D σ H=>te σ H D.rt
theorem ZuM (he:PE X e te):PS X (.Return (some e) pos) (ZxG te):=by
 intro pins s σ H D I h
 exact wpAny_Return_some (thn (he pins s σ H _ I h) (by rintro v s1 ⟨x,H1,I1,r1,q1⟩;exact ⟨x,σ,H1,I1,r1,q1⟩))
def ZxV (c:TT) (t u:TS):TS:=fun D σ H=>c σ H fun b H1=>if b=true then t D σ H1 else u D σ H1
theorem Zxa {c:Expr} {a b:List Stmt} {tc:TT} (hc:PT X c tc) (ha:PSs X a t) (hb:PSs X b u):PS X (.If c a b pos) (ZxV tc t u):=by
 intro pins s σ H D I h
 refine wpAny_If (thn (hc pins s σ H _ I h) fun d s1 zz13=>?_)
 obtain ⟨H1,I1,q1⟩:=zz13
 cases d with
 | true=>exact ha pins s1 σ H1 D I1 q1
 | false=>exact hb pins s1 σ H1 D I1 q1
end
abbrev TG:=V→St→Hp→(St→Hp→Prop)→Prop
abbrev TGs:=List V→St→Hp→(St→Hp→Prop)→Prop
def PG (X:Cx) (target:Expr) (t:TG):Prop :=
 ∀ (pins:List (Addr×Obj)) (s:Shared) (σ:St) (H:Hp) (v:V) (u:Value) (Q:St→Hp→Prop),Inv X pins σ H s→RelV v u→t v σ H Q →
  wpAny (model X.prog X.w) X.A (assign target X.env u) (fun _ s'=>∃ σ' H',Inv X pins σ' H' s'∧Q σ' H') X.xe s
def PGs (X:Cx) (ts:List Expr) (t:TGs):Prop :=
 ∀ (pins:List (Addr×Obj)) (s:Shared) (σ:St) (H:Hp) (vs:List V) (us:List Value) (Q:St→Hp→Prop),Inv X pins σ H s→Vals vs us→t vs σ H Q →
  wpAny (model X.prog X.w) X.A (assignInOrder ((assignEach ts X.env).map (·.2)) us) (fun _ s'=>∃ σ' H',Inv X pins σ' H' s'∧Q σ' H') X.xe s
abbrev Zwj:=V→V→V→Hp→(Hp→Prop)→Prop
def Zxu (X:Cx) (t:Zwj):Prop :=
 ∀ (pins:List (Addr×Obj)) (s:Shared) (σ:St) (H:Hp) (o i v:V) (ov iv u:Value) (Q:Hp→Prop),Inv X pins σ H s→RelV o ov→RelV i iv→RelV v u→t o i v H Q →
  wpAny (model X.prog X.w) X.A (setItem ov iv u) (fun _ s'=>∃ H',Inv X pins σ H' s'∧Q H') X.xe s
abbrev TIp:=V→V→Hp→VK→Prop
def PIp (X:Cx) (op:Operator) (t:TIp):Prop :=
 ∀ (pins:List (Addr×Obj)) (s:Shared) (σ:St) (H:Hp) (x y:V) (v u:Value) (Q:VK),Inv X pins σ H s→RelV x v→RelV y u→t x y H Q →
  wpAny (model X.prog X.w) X.A (inplaceOp op v u) (EP X pins σ Q) X.xe s
section
variable {X:Cx} {pos:Pos}
def Zi8 (i:Nat):TG:=fun v σ H Q=>Q (σ.set i (some v)) H
theorem Zex {i:Nat} {x:Str} (hN:X.N.Nodup) (hi:X.N[i]?=some x) (hx:Loc X.env.scope x) (hf:X.fn x=true∨X.env.scope.names.lookup x=some .local:=by first | exact .inl rfl | exact .inr rfl | assumption):PG X (.Name x pos) (Zi8 i):=by
 intro pins s σ H v u Q I r h
 exact wpAny_assign_Name (Zi3 I hN hi hx r (fun s' I'=>⟨_,H,I',h⟩) hf)
def Zal:TGs:=fun vs σ H Q=>vs=[]∧Q σ H
def Zab (t:TG) (u:TGs):TGs:=fun vs σ H Q=>∃ v r,vs=v::r∧t v σ H fun σ' H'=>u r σ' H' Q
theorem Znv:PGs X [] Zal:=by
 intro pins s σ H vs us Q I r h
 obtain ⟨e,h⟩:=h
 subst e
 cases r
 exact assignInOrder_nil ⟨σ,H,I,h⟩
theorem ZfQ {e:Expr} {es:List Expr} {t:TG} {u:TGs} (h1:PG X e t) (h2:PGs X es u)
  (hs:(assignEach (e::es) X.env).map (·.2)=assign e X.env::(assignEach es X.env).map (·.2):=by rfl):PGs X (e::es) (Zab t u):=by
 intro pins s σ H vs us Q I r h
 obtain ⟨v,vr,e1,h⟩:=h
 subst e1
 cases r with
 | cons r rr =>
  rw [hs]
  refine assignInOrder_cons (thn (h1 pins s σ H _ _ _ I r h) fun _ s1 zz14=>?_)
  obtain ⟨σ1,H1,I1,q1⟩:=zz14
  exact h2 pins s1 σ1 H1 _ _ Q I1 rr q1
def Zbc (K:PySem.W.Frag) (n:Nat) (t:TGs):TG:=fun v σ H Q=>∃ a xs,v=.ref a∧SqT K H a xs∧xs.length=n∧t xs σ H Q
theorem ZrP {es:List Expr} {k:Nat} {t:TGs} {n:Nat} (hc:X.calm=true) (h:PGs X es t)
  (hn:(assignEach es X.env).length=n:=by rfl) (hst:(assignEach es X.env).findIdx? (·.1)=none:=by rfl):PG X (.Tuple es k pos) (Zbc X.K n t):=by
 intro pins s σ H v u Q I r hw
 obtain ⟨a,xs,e1,hq,hl,hw⟩:=hw
 subst e1
 cases r
 obtain ⟨its,rv,ht,hz⟩:=I.tuple hq
 refine assign_Tuple_tuple (I.ok.hd hc) ht (by simp [hn,← hl,rv.length]) hst fun h' hx=>?_
 have I1:Inv X pins σ H { s with heap:=h' }:=I.kept (t':=s.toks) fun b o e=>hx b o (Nat.ne_of_lt (Heap.lt_size e)) e
 exact h pins _ σ H xs _ Q I1 (by simpa using rv) hw
def ZxB (to ti:TE) (t:Zwj):TG:=fun v σ H Q=>to σ H fun o H1=>ti σ H1 fun i H2=>t o i v H2 fun H3=>Q σ H3
theorem Zvy {o i:Expr} {to ti:TE} {t:Zwj} (ho:PE X o to) (hi:PE X i ti) (hs:Zxu X t)
  (ha:∀ v,assign (.Subscript o i pos) X.env v=(do
   let ov ← holding [v] (eval o X.env)
   let iv ← holding [v,ov] (eval i X.env)
   standAt pos
   holding [v,ov,iv] (setItem ov iv v)
   release [v,ov,iv] []):=by intro _;rfl):PG X (.Subscript o i pos) (ZxB to ti t):=by
 intro pins s σ H v u Q I r h
 rw [ha]
 refine wpAny_bind (wpAny_holding (thn (ho pins s σ H _ I h) fun ov s1 zz15=>?_))
 obtain ⟨x,H1,I1,r1,q1⟩:=zz15
 refine wpAny_bind (wpAny_holding (thn (hi pins s1 σ H1 _ I1 q1) fun iv s2 zz16=>?_))
 obtain ⟨y,H2,I2,r2,q2⟩:=zz16
 refine wpAny_bind (wpAny_standAt (wpAny_bind (wpAny_holding (thn (hs pins s2 σ H2 x y v ov iv u _ I2 r1 r2 r q2) fun _ s3 zz17=>?_))))
 obtain ⟨H3,I3,q3⟩:=zz17
 exact wpAny_release ⟨σ,H3,I3,q3⟩
def Zxg (te:TE) (g:TG):TS:=fun D σ H=>te σ H fun x H1=>g x σ H1 D.nx
theorem ZuQ {tg e:Expr} {te:TE} {g:TG} (he:PE X e te) (hg:PG X tg g) (hs:swapsWithSole [tg] e pos.line X.env=pure false:=by rfl) (hw:swappedStores [tg] e X.env=pure none:=by rfl)
  (h1:(assignEach [tg] X.env).map (·.2)=[assign tg X.env]:=by rfl):PS X (.Assign [tg] e pos) (Zxg te g):=by
 intro pins s σ H D I h
 refine wpAny_Assign_stores (thn (he pins s σ H _ I h) fun v s1 zz18=>?_) hs hw
 obtain ⟨x,H1,I1,r1,q1⟩:=zz18
 rw [h1]
 exact thn (hg pins s1 σ H1 x v _ I1 r1 q1) fun _ s2 q=>q
theorem ZvR {i:Nat} {x:Str} {e:Expr} {te:TE} {pos':Pos} (hN:X.N.Nodup) (hi:X.N[i]?=some x) (hx:Loc X.env.scope x) (he:PE X e te) (hs:swapsWith e (some (.Name x pos')) pos.line X.env=pure false:=by rfl) (hf:X.fn x=true∨X.env.scope.names.lookup x=some .local:=by first | exact .inl rfl | exact .inr rfl | assumption) :
  PS X (.Assign [.Name x pos'] e pos) (Zxg te (Zi8 i)):=by
 intro pins s σ H D I h
 refine wpAny_Assign_Name (thn (he pins s σ H _ I h) fun v s1 zz19=>?_) hs
 obtain ⟨y,H1,I1,r1,q1⟩:=zz19
 exact Zi3 I1 hN hi hx r1 (fun s2 I2=>⟨_,H1,I2,q1⟩) hf
def ZxQ (i:Nat) (te:TE) (ti:TIp):TS:=fun D σ H=>∃ x,σ[i]?=some (some x)∧te σ H fun y H1=>ti x y H1 fun z H2=>D.nx (σ.set i (some z)) H2
theorem ZuW {i:Nat} {x:Str} {e:Expr} {te:TE} {op:Operator} {ti:TIp} {pos':Pos} (hN:X.N.Nodup) (hi:X.N[i]?=some x) (hx:Loc X.env.scope x) (he:PE X e te) (ho:PIp X op ti) (hf:X.fn x=true∨X.env.scope.names.lookup x=some .local:=by first | exact .inl rfl | exact .inr rfl | assumption) :
  PS X (.AugAssign (.Name x pos') op e pos) (ZxQ i te ti):=by
 intro pins s σ H D I h
 obtain ⟨v,e1,h⟩:=h
 obtain ⟨m,hn,hl⟩:=I.loc
 have vis:Vis X.env.scope x:=by rcases hx with k | k;exact .inl k;exact .inr (.inl k)
 obtain ⟨u,r,l⟩:=hl i x v hi e1 vis
 refine wpAny_AugAssign_Name ?_
 have go:wpAny (model X.prog X.w) X.A (eval e X.env) (fun w s₂=>wpAny (model X.prog X.w) X.A (inplaceOp op u w) (fun r s₃=>wpAny (model X.prog X.w) X.A (storeName X.env x r) (fun _=>SP X pins D .next) X.xe s₃) X.xe s₂) X.xe s:=by
  refine thn (he pins s σ H _ I h) fun w s1 zz21=>?_
  obtain ⟨y,H1,I1,r1,q1⟩:=zz21
  refine thn (ho pins s1 σ H1 v y u w _ I1 r r1 q1) fun z s2 zz22=>?_
  obtain ⟨zv,H2,I2,r2,q2⟩:=zz22
  exact Zi3 I2 hN hi hx r2 (fun s3 I3=>⟨_,H2,I3,q2⟩) hf
 rcases l with ⟨hk,hm⟩ | ⟨hk,c,hc,hcell⟩
 ·exact wpAny_loadName_local I.ok.kind hk hn hm go
 ·rcases hk with hk | hk
  ·exact wpAny_loadName_cell I.ok.kind hk hc hcell go
  ·rcases hx with k | k
   ·have:X.env.scope.names.lookup x=some .free:=hk
    rw [k] at this;cases this
   ·have:X.env.scope.names.lookup x=some .free:=hk
    rw [k] at this;cases this
end
section
variable {X:Cx} {pos:Pos}
def ZuD (c:TT) (tb:TS):TS:=fun D σ H=>∃ W:Nat→St→Hp→Prop,(∃ m,W m σ H)∧∀ m σ H,W m σ H →
 c σ H fun b H1=>if b=true then ∃ N:St→Hp→Prop,(∀ σ' H',N σ' H'→∃ m',m' < m∧W m' σ' H')∧tb { D with nx:=N,ct:=N,bk:=D.nx } σ H1 else D.nx σ H1
theorem ZpR {c:Expr} {body:List Stmt} {tc:TT} {tb:TS} (hp:PassesOwn (model X.prog X.w) X.A X.env X.xe) (hc:PT X c tc) (hb:PSs X body tb):PS X (.While c body [] pos) (ZuD tc tb):=by
 intro pins s σ H D I h
 obtain ⟨W,⟨m0,w0⟩,turn⟩:=h
 refine wpAny_While (codeAny_whileLoop (fun n s'=>∃ σ' H',Inv X pins σ' H' s'∧W n σ' H') ?_ m0 ⟨σ,H,I,w0⟩)
 rintro n s1 ⟨σ1,H1,I1,w1⟩
 refine wpAny_passesOwn hp (thn (hc pins s1 σ1 H1 _ I1 (turn n σ1 H1 w1)) fun b s2 zz28=>?_)
 obtain ⟨H2,I2,q2⟩:=zz28
 cases b with
 | true =>
  obtain ⟨N,hN,q2⟩:=q2
  rw [if_pos rfl]
  refine wpAny_passesOwn hp (thn (hb pins s2 σ1 H2 _ I2 q2) fun f s3 q3=>?_)
  cases f with
  | next =>
   obtain ⟨σ3,H3,I3,n3⟩:=q3
   obtain ⟨m',hm,w3⟩:=hN σ3 H3 n3
   exact ⟨m',hm,σ3,H3,I3,w3⟩
  | cont =>
   obtain ⟨σ3,H3,I3,n3⟩:=q3
   obtain ⟨m',hm,w3⟩:=hN σ3 H3 n3
   exact ⟨m',hm,σ3,H3,I3,w3⟩
  | brk=>exact q3
  | ret v=>exact q3
 | false =>
  rw [if_neg Bool.false_ne_true]
  exact wpAny_execs_nil ⟨σ1,H2,I2,q2⟩
end
structure It where
 go:Nat→Hp→Prop
 yld:Nat→Hp→V→Hp→Prop
 stop:Nat→Hp→Prop
def Zoo (X:Cx) (pins:List (Addr×Obj)) (H:Hp) (b:Addr):Prop :=
 H b=none∧b≠X.env.locals∧b∉X.fs∧(b∈X.ex∨X.s₀.heap.objs.size≤b)∧(∀ x c,X.env.cells.lookup x=some c→c≠b)∧∀ p∈X.pn++pins,p.1≠b
theorem Inv.fpOk {X:Cx} {pins:List (Addr×Obj)} {σ:St} {H H':Hp} {s:Shared} {b:Addr} (I:Inv X pins σ H s) (hb:s.heap.objs.size≤b) (hn:H' b=none):Zoo X pins H' b:=by
 refine ⟨hn,Nat.ne_of_gt (Nat.lt_of_lt_of_le I.lt hb),I.nofs hb,.inr (Nat.le_trans I.sz hb),fun x c e z=>?_,fun p hp z=>?_⟩
 ·obtain ⟨v,q⟩:=I.cell x c e
  exact absurd (Nat.lt_of_lt_of_le q.lt (by rw [z];exact hb)) (Nat.lt_irrefl _)
 ·exact absurd (Nat.lt_of_lt_of_le (Heap.lt_size (I.pin p hp).1) (by rw [z];exact hb)) (Nat.lt_irrefl _)
structure Zra (P:Program) (w:World) (K:PySem.W.Frag) (tg:Expr) (J:It) (fp:List Addr) (it:Addr) (tn:Nat→Heap→Prop):Prop where
 mem:it∈fp
 obj:∀ i h,tn i h→∀ b∈fp,∃ o,h.get? b=some o∧∀ v,o.data≠.cell v
 keep:∀ i h h',tn i h→(∀ b∈fp,∀ o,h.get? b=some o→h'.get? b=some o)→tn i h'
 item:∀ (X:Cx),X.prog=P→X.w=w→X.K=K→X.calm=true→∀ (i:Nat) (pins:List (Addr×Obj)) (s:Shared) (σ:St) (H:Hp) (E:Value→Shared→Prop),Inv X pins σ H s→(∀ b∈fp,Zoo X pins H b)→tn i s.heap→J.go i H →
  wpAny (model P w) X.A (pyNext (.ref it)) (fun r s1=>∃ u,r=some u ∧
   wpAny (model P w) X.A (letOwnedTupleGo tg (.ref it) u) (fun _ s2=>∃ x H',Inv X pins σ H' s2∧RelV x u∧J.yld i H x H'∧tn (i+1) s2.heap∧∀ b∈fp,H' b=none) E s1) E s
 done:∀ (X:Cx),X.prog=P→X.w=w→X.K=K→X.calm=true→∀ (i:Nat) (pins:List (Addr×Obj)) (s:Shared) (σ:St) (H:Hp) (E:Value→Shared→Prop),Inv X pins σ H s→(∀ b∈fp,Zoo X pins H b)→tn i s.heap→J.stop i H →
  wpAny (model P w) X.A (pyNext (.ref it)) (fun r s1=>r=none∧Inv X pins σ H s1) E s
 self:∀ (A:Around) (i:Nat) (s:Shared) (Q:Value→Shared→Prop) (E:Value→Shared→Prop),tn i s.heap→Q (.ref it) s→wpAny (model P w) A (pyIter (.ref it)) Q E s
abbrev TI:=St→Hp→(It→Hp→Prop)→Prop
def PIE (X:Cx) (pins:List (Addr×Obj)) (σ:St) (tg:Expr) (R:It→Hp→Prop) (itv:Value) (s2:Shared):Prop :=
 ∃ (it:Addr) (fp:List Addr) (tn:Nat→Heap→Prop) (J:It) (H':Hp),itv=.ref it∧Inv X pins σ H' s2∧Zra X.prog X.w X.K tg J fp it tn∧tn 0 s2.heap∧(∀ b∈fp,Zoo X pins H' b)∧R J H'
def PI (X:Cx) (tg iter:Expr) (wi:TI):Prop :=
 ∀ (pins:List (Addr×Obj)) (s:Shared) (σ:St) (H:Hp) (R:It→Hp→Prop),Inv X pins σ H s→wi σ H R →
  wpAny (model X.prog X.w) X.A (eval iter X.env) (fun v s1=>wpAny (model X.prog X.w) X.A (pyIter v) (PIE X pins σ tg R) X.xe s1) X.xe s
theorem ZsG {M:Model} {A:Around} {E:Value→Shared→Prop} {s:Shared} {tg:Expr} {it:Addr} {u:Value} {o:Obj} {n:String} {vs:Array Value} {Q:Unit→Shared→Prop} (ho:s.heap.get? it=some o) (hc:o.cls=.type n) (hd:o.data=.fields vs)
  (hn:["enumerate","zip","dict_itemiterator","dict_reverseitemiterator","odict_iterator","itertools.zip_longest","itertools.pairwise"].contains n=false) (hQ:Q () s):wpAny M A (letOwnedTupleGo tg (.ref it) u) Q E s:=by
 unfold letOwnedTupleGo
 cases tg <;> first
  | exact wpAny_pure hQ
  | (cases u <;> first
    | exact wpAny_pure hQ
    | (refine wpAny_bind (wpAny_load ho ?_)
       rw [hc,hd]
       show wpAny M A (if (["enumerate","zip","dict_itemiterator","dict_reverseitemiterator","odict_iterator","itertools.zip_longest","itertools.pairwise"].contains n&&vs[0]?==some (rawInt _))=true then _ else _) Q E s
       rw [if_neg (by intro h;rw [hn,Bool.false_and] at h;cases h)]
       exact wpAny_pure hQ))
def Itl (K:PySem.W.Frag) (a:Addr):It :=
 ⟨fun i H=>∃ xs x,SqL K H a xs∧xs[i]?=some x,fun i H x H'=>H'=H∧∀ xs,SqL K H a xs→xs[i]?=some x,fun i H=>∃ xs,SqL K H a xs∧xs.length≤i⟩
def Itt (K:PySem.W.Frag) (a:Addr):It :=
 ⟨fun i H=>∃ xs x,SqT K H a xs∧xs[i]?=some x,fun i H x H'=>H'=H∧∀ xs,SqT K H a xs→xs[i]?=some x,fun i H=>∃ xs,SqT K H a xs∧xs.length≤i⟩
def Itr (lo:Int) (n:Nat):It:=⟨fun i _=>i < n,fun i H x H'=>H'=H∧x=.int (lo+i),fun i _=>n≤i⟩
theorem ZjM {P:Program} {w:World} {K:PySem.W.Frag} {tg:Expr} (a it:Addr):Zra P w K tg (Itl K a) [it] it (fun i h=>h.IsListIter it a i) where
 mem:=by simp
 obj:=fun i h st b hb=>by
  have e:b=it:=by simpa using hb
  subst e
  obtain ⟨o,e,c,d⟩:=st
  exact ⟨o,e,fun v z=>by rw [d] at z;cases z⟩
 keep:=fun i h h' st k=>st.at fun o e=>k it (by simp) o e
 item:=by
  intro X hP hw hK hc i pins s σ H E I hf st hg
  subst hP hw hK
  obtain ⟨xs,x,hq,hx⟩:=hg
  obtain ⟨its,rv,p,hz⟩:=I.list hq
  obtain ⟨u,hu,ru⟩:=rv.get hx
  obtain ⟨f0,f1,f2,f3,f4,f5⟩:=hf it (by simp)
  refine wpAny_pyNext_list_item st p.isList (x:=u) (by simpa using hu) fun h' st' sb=>?_
  have I1:Inv X pins σ H { s with heap:=h' }:=I.turned (t':=s.toks) (fun b o hb e=>(sb.2 b hb).trans e) f0 f1 f3 f4 f5
  obtain ⟨o,e,c,d⟩:=id st'
  exact ⟨u,rfl,ZsG (s:={ s with heap:=h' }) e c d (by decide) ⟨x,H,I1,ru,⟨rfl,fun ys hy=>by rw [I.list_inj hy hq];exact hx⟩,st',fun b hb=>(hf b hb).1⟩⟩
 done:=by
  intro X hP hw hK hc i pins s σ H E I hf st hg
  subst hP hw hK
  obtain ⟨xs,hq,hx⟩:=hg
  obtain ⟨its,rv,p,hz⟩:=I.list hq
  obtain ⟨f0,f1,f2,f3,f4,f5⟩:=hf it (by simp)
  have hl:=rv.length
  exact wpAny_pyNext_list_end (I.ok.hd hc) st p.isList (by simp;omega) fun h' eb=>⟨rfl,I.turned (t':=s.toks) (fun b o hb e=>eb b o hb e) f0 f1 f3 f4 f5⟩
 self:=fun _ _ _ _ _ st h=>wpAny_pyIter_listiter st h
theorem Ziu {P:Program} {w:World} {K:PySem.W.Frag} {tg:Expr} (a it:Addr):Zra P w K tg (Itt K a) [it] it (fun i h=>h.IsTupleIter it a i) where
 mem:=by simp
 obj:=fun i h st b hb=>by
  have e:b=it:=by simpa using hb
  subst e
  obtain ⟨o,e,c,d⟩:=st
  exact ⟨o,e,fun v z=>by rw [d] at z;cases z⟩
 keep:=fun i h h' st k=>st.at fun o e=>k it (by simp) o e
 item:=by
  intro X hP hw hK hc i pins s σ H E I hf st hg
  subst hP hw hK
  obtain ⟨xs,x,hq,hx⟩:=hg
  obtain ⟨its,rv,p,hz⟩:=I.tuple hq
  obtain ⟨u,hu,ru⟩:=rv.get hx
  obtain ⟨f0,f1,f2,f3,f4,f5⟩:=hf it (by simp)
  refine wpAny_pyNext_tuple_item st (show s.heap.IsTuple a its.toArray from p) (x:=u) (by simpa using hu) fun h' st' sb=>?_
  have I1:Inv X pins σ H { s with heap:=h' }:=I.turned (t':=s.toks) (fun b o hb e=>(sb.2 b hb).trans e) f0 f1 f3 f4 f5
  obtain ⟨o,e,c,d⟩:=id st'
  exact ⟨u,rfl,ZsG (s:={ s with heap:=h' }) e c d (by decide) ⟨x,H,I1,ru,⟨rfl,fun ys hy=>by rw [I.tuple_inj hy hq];exact hx⟩,st',fun b hb=>(hf b hb).1⟩⟩
 done:=by
  intro X hP hw hK hc i pins s σ H E I hf st hg
  subst hP hw hK
  obtain ⟨xs,hq,hx⟩:=hg
  obtain ⟨its,rv,p,hz⟩:=I.tuple hq
  obtain ⟨f0,f1,f2,f3,f4,f5⟩:=hf it (by simp)
  have hl:=rv.length
  exact wpAny_pyNext_tuple_end (I.ok.hd hc) st (show s.heap.IsTuple a its.toArray from p) (by simp;omega) fun h' eb=>⟨rfl,I.turned (t':=s.toks) (fun b o hb e=>eb b o hb e) f0 f1 f3 f4 f5⟩
 self:=fun _ _ _ _ _ st h=>wpAny_pyIter_tupleiter st h
theorem ZmX {P:Program} {w:World} {K:PySem.W.Frag} {tg:Expr} (it:Addr) (lo:Int) (n:Nat):Zra P w K tg (Itr lo n) [it] it (fun i h=>IsRangeIter h it (lo+(i:Nat)*1) ((n:Int) - (i:Nat)) 1) where
 mem:=by simp
 obj:=fun i h st b hb=>by
  have e:b=it:=by simpa using hb
  subst e
  exact ⟨_,st,fun v z=>by
   have z':Data.fields _=Data.cell v:=z
   cases z'⟩
 keep:=fun i h h' st k=>k it (by simp) _ st
 item:=by
  intro X hP hw hK hc i pins s σ H E I hf st hg
  subst hP hw hK
  obtain ⟨f0,f1,f2,f3,f4,f5⟩:=hf it (by simp)
  have W:=Walks.range (prog:=X.prog) (w:=X.w) (I.ok.hd hc) it lo 1 n
  refine W.item i s _ _ hg st fun v h' tk hv st' kk=>?_
  obtain ⟨t,rfl⟩:=hv
  have I1:Inv X pins σ H { s with heap:=h',toks:=tk }:=I.turned (fun b o hb e=>kk b o (by simpa using hb) e) f0 f1 f3 f4 f5
  refine ⟨_,rfl,ZsG (s:={ s with heap:=h',toks:=tk }) (n:="range_iterator") st' rfl rfl (by decide) ⟨.int (lo+i),H,I1,⟨t,?_⟩,⟨rfl,rfl⟩,st',fun b hb=>(hf b hb).1⟩⟩
  rw [Int.mul_one]
 done:=by
  intro X hP hw hK hc i pins s σ H E I hf st hg
  subst hP hw hK
  obtain ⟨f0,f1,f2,f3,f4,f5⟩:=hf it (by simp)
  exact wpAny_pyNext_range_end (I.ok.hd hc) st (by have:n≤i:=hg;omega) fun h' eb=>⟨rfl,I.turned (t':=s.toks) (fun b o hb e=>eb b o hb e) f0 f1 f3 f4 f5⟩
 self:=fun _ _ _ _ _ st h=>wpAny_pyIter_rangeiter st h
end L2
namespace L2
open PySem PySem.Spec PyProof.Rows
section
variable {X:Cx} {tg:Expr}
theorem Zq3 {pins:List (Addr×Obj)} {σ:St} {H:Hp} {s:Shared} {R:It→Hp→Prop} {E:Value→Shared→Prop} {lo hi:Int} {t u v:Tok} {tk:Nat} (I:Inv X pins σ H s) (h1:-(2 ^ 62)≤lo) (h2:lo < 2 ^ 62) (h3:-(2 ^ 62)≤hi) (h4:hi < 2 ^ 62)
  (q:R (Itr lo (hi - lo).toNat) H):wpAny (model X.prog X.w) X.A (pyIter (.ref s.heap.objs.size)) (PIE X pins σ tg R) E { s with heap:=s.heap.push { cls:=.type "range",data:=.fields #[.int lo t,.int hi u,.int 1 v] },toks:=tk }:=by
 refine wpAny_pyIter_range (IsRange.new ..) (small_one h1 h2 h3 h4) ?_
 have I1:Inv X pins σ H { s with heap:=s.heap.push { cls:=.type "range",data:=.fields #[.int lo t,.int hi u,.int 1 v] },toks:=tk }:=I.kept fun b o e=>Heap.get?_push_of_some _ e
 refine ⟨(s.heap.push { cls:=.type "range",data:=.fields #[.int lo t,.int hi u,.int 1 v] }).objs.size,[(s.heap.push { cls:=.type "range",data:=.fields #[.int lo t,.int hi u,.int 1 v] }).objs.size],_,_,H,rfl,
  I1.kept (t':=tk) fun b o e=>Heap.get?_push_of_some _ e,ZmX _ lo (hi - lo).toNat,?_,fun b hb=>?_,q⟩
 ·have e1:lo+((0:Nat):Int)*1=lo:=by simp
  have e2:(((hi - lo).toNat:Nat):Int) - ((0:Nat):Int)=Builtin.Range.rangeSize lo hi 1:=by rw [rangeSize_one];split <;> omega
  show IsRangeIter _ _ (lo+((0:Nat):Int)*1) ((((hi - lo).toNat:Nat):Int) - ((0:Nat):Int)) 1
  rw [e1,e2]
  exact Heap.get?_push_size _ rfl
 ·have e:b=(s.heap.push { cls:=.type "range",data:=.fields #[.int lo t,.int hi u,.int 1 v] }).objs.size:=by simpa using hb
  subst e
  exact I1.fpOk (Nat.le_refl _) (I1.hok.fresh (Nat.le_refl _))
def Zw9 (ta:TA):TI:=fun σ H R=>ta σ H fun vs H1=>∃ j:Int,vs=[.int j]∧-(2 ^ 62)≤j∧j < 2 ^ 62∧R (Itr 0 j.toNat) H1
theorem Znx {a:Expr} {ta:TA} {p pos:Pos} (hg:Gl X "range") (hm:X.mg "range"=none) (ha:PA X [a] ta) (hs:starEach [a] X.env=[(false,eval a X.env)]:=by rfl):PI X tg (.Call (.Name "range" p) [a] [] pos) (Zw9 ta):=by
 intro pins s σ H R I h
 refine Call_ (Ze3 I hg hm boot_range (PyProof.Rows.callWith_type1 (thn (ha pos pins s σ H _ I h) fun us s1 zz31=>?_) hs rfl))
 obtain ⟨vs,H1,I1,r1,q1⟩:=zz31
 obtain ⟨j,e,q1,q2,q⟩:=q1
 subst e
 cases r1 with
 | cons r rr =>
  cases rr
  obtain ⟨t,rfl⟩:=r
  exact call_range_1 (Zq3 I1 (by omega) (by omega) q1 q2 (by simpa using q))
def ZxK (wi:TI) (g:TG) (tb:TS):TS:=fun D σ H=>wi σ H fun J H1=>∃ W:Nat→Nat→St→Hp→Prop,(∃ m,W 0 m σ H1)∧∀ i m σ H,W i m σ H →
 (J.stop i H∧D.nx σ H)∨(J.go i H∧∃ N:St→Hp→Prop,(∀ σ' H',N σ' H'→∃ m',m' < m∧W (i+1) m' σ' H')∧∀ x H',J.yld i H x H'→g x σ H' fun σ2 H2=>tb { D with nx:=N,ct:=N,bk:=D.nx } σ2 H2)
def ZjE (fp:List Addr) (h:Heap):List (Addr×Obj):=fp.filterMap fun b=>(h.get? b).map fun o=>(b,o)
theorem ZeJ {fp:List Addr} {h:Heap} {b:Addr} {o:Obj} (hb:b∈fp) (e:h.get? b=some o):(b,o)∈ZjE fp h:=List.mem_filterMap.mpr ⟨b,hb,by rw [e];rfl⟩
theorem ZnD {fp:List Addr} {h:Heap} {p:Addr×Obj} (hp:p∈ZjE fp h):p.1∈fp∧h.get? p.1=some p.2:=by
 obtain ⟨b,hb,e⟩:=List.mem_filterMap.mp hp
 cases q:h.get? b with
 | none=>rw [q] at e;cases e
 | some o =>
  rw [q] at e
  have e':(b,o)=p:=Option.some.inj e
  subst e'
  exact ⟨hb,q⟩
theorem Inv.pinned {pins:List (Addr×Obj)} {σ:St} {H:Hp} {s:Shared} {fp:List Addr} (I:Inv X pins σ H s) (hf:∀ b∈fp,Zoo X pins H b) (ho:∀ b∈fp,∃ o,s.heap.get? b=some o∧∀ v,o.data≠.cell v):Inv X (pins++ZjE fp s.heap) σ H s :=
 I.pins_of fun p hp=>(List.mem_append.mp hp).elim (fun z=>I.pin p (List.mem_append_right _ z)) fun z=>by
  obtain ⟨hb,e⟩:=ZnD z
  obtain ⟨f0,f1,f2,_⟩:=hf p.1 hb
  obtain ⟨o,e',d⟩:=ho p.1 hb
  rw [e] at e';cases e'
  exact ⟨e,f0,f1,f2,d⟩
theorem Inv.unpinned {pins pl:List (Addr×Obj)} {σ:St} {H:Hp} {s:Shared} (I:Inv X (pins++pl) σ H s):Inv X pins σ H s:=I.pins_of fun p hp=>I.pin p (List.mem_append_right _ (List.mem_append_left _ hp))
theorem Zu8 {iter:Expr} {body:List Stmt} {wi:TI} {g:TG} {tb:TS} {pos:Pos} (hp:PassesOwn (model X.prog X.w) X.A X.env X.xe) (hc:X.calm=true) (hi:PI X tg iter wi) (hg:PG X tg g) (hb:PSs X body tb)
  (hs:∀ x,foldedSetIterable iter X.env x=pure x:=by intro _;rfl):PS X (.For tg iter body [] pos) (ZxK wi g tb):=by
 intro pins s σ H D I h
 refine wpAny_For (thn (hi pins s σ H _ I h) fun v s1 h1=>thn h1 fun itv s2 h2=>?_) hs
 obtain ⟨it,fp,tn,J,H2,e,I2,T,st2,f2,W,⟨m0,w0⟩,turn⟩:=h2
 subst e
 have stat:∀ {H':Hp},(∀ b∈fp,H' b=none)→∀ b∈fp,Zoo X pins H' b:=fun hn b hb=>⟨hn b hb,(f2 b hb).2⟩
 refine codeAny_forLoop_any (fun n s'=>∃ i σ' H',Inv X pins σ' H' s'∧tn i s'.heap∧(∀ b∈fp,H' b=none)∧W i n σ' H') ?_ m0 ⟨0,σ,H2,I2,st2,fun b hb=>(f2 b hb).1,w0⟩
 rintro n s3 ⟨i,σ3,H3,I3,st3,fr3,w3⟩
 rcases turn i n σ3 H3 w3 with ⟨stop,qn⟩ | ⟨go,N,hN,step⟩
 ·refine wpAny_passesOwn hp (thn (T.done X rfl rfl rfl hc i pins s3 σ3 H3 X.xe I3 (stat fr3) st3 stop) fun r s4 zz33=>?_)
  obtain ⟨hr,I4⟩:=zz33
  subst hr
  exact wpAny_execs_nil ⟨σ3,H3,I4,qn⟩
 ·refine wpAny_passesOwn hp (thn (T.item X rfl rfl rfl hc i pins s3 σ3 H3 X.xe I3 (stat fr3) st3 go) fun r s4 zz34=>?_)
  obtain ⟨u,hr,h4⟩:=zz34
  subst hr
  refine wpAny_passesOwn hp (thn h4 fun _ s5 zz35=>?_)
  obtain ⟨x,H5,I5,r5,y5,st5,fr5⟩:=zz35
  have I5':=I5.pinned (stat fr5) (T.obj _ _ st5)
  refine wpAny_passesOwn hp (thn (hg _ s5 σ3 H5 x u _ I5' r5 (step x H5 y5)) fun _ s6 zz36=>?_)
  obtain ⟨σ6,H6,I6,q6⟩:=zz36
  refine wpAny_passesOwn hp (thn (hb _ s6 σ6 H6 _ I6 q6) fun f s7 q7=>?_)
  have again:∀ {σ7:St} {H7:Hp},Inv X (pins++ZjE fp s5.heap) σ7 H7 s7→N σ7 H7→∃ m,m < n∧∃ i σ' H',Inv X pins σ' H' s7∧tn i s7.heap∧(∀ b∈fp,H' b=none)∧W i m σ' H':=fun {σ7 H7} I7 n7=>by
   obtain ⟨m',hm,w7⟩:=hN σ7 H7 n7
   refine ⟨m',hm,i+1,σ7,H7,I7.unpinned,T.keep _ _ _ st5 fun b hb o e=>(I7.pin (b,o) (List.mem_append_right _ (List.mem_append_right _ (ZeJ hb e)))).1,fun b hb=>?_,w7⟩
   obtain ⟨o,e,d⟩:=T.obj _ _ st5 b hb
   exact (I7.pin (b,o) (List.mem_append_right _ (List.mem_append_right _ (ZeJ hb e)))).2.1
  cases f with
  | next=>obtain ⟨σ7,H7,I7,n7⟩:=q7;exact again I7 n7
  | cont=>obtain ⟨σ7,H7,I7,n7⟩:=q7;exact again I7 n7
  | brk=>obtain ⟨σ7,H7,I7,q7⟩:=q7;exact ⟨σ7,H7,I7.unpinned,q7⟩
  | ret v=>obtain ⟨x7,σ7,H7,I7,r7,q7⟩:=q7;exact ⟨x7,σ7,H7,I7.unpinned,r7,q7⟩
end
end L2
namespace L2
open PySem PySem.Spec PyProof.Rows
abbrev R2:=V→V→Hp→VK→Prop
def OpR (X:Cx) (f:Value→Value→Sem Value) (r:R2):Prop :=
 ∀ (pins:List (Addr×Obj)) (s:Shared) (σ:St) (H:Hp) (x y:V) (v u:Value) (Q:VK),Inv X pins σ H s→RelV x v→RelV y u→r x y H Q →
  wpAny (model X.prog X.w) X.A (f v u) (EP X pins σ Q) X.xe s
def UnR (X:Cx) (f:Value→Sem Value) (r:V→Hp→VK→Prop):Prop :=
 ∀ (pins:List (Addr×Obj)) (s:Shared) (σ:St) (H:Hp) (x:V) (v:Value) (Q:VK),Inv X pins σ H s→RelV x v→r x H Q →
  wpAny (model X.prog X.w) X.A (f v) (EP X pins σ Q) X.xe s
def CallR (X:Cx) (f:Value) (r:List V→Hp→VK→Prop):Prop :=
 ∀ (pins:List (Addr×Obj)) (s:Shared) (σ:St) (H:Hp) (xs:List V) (us:List Value) (Q:VK),Inv X pins σ H s→Vals xs us→r xs H Q →
  wpAny (model X.prog X.w) X.A (call f us) (EP X pins σ Q) X.xe s
def ZxP (X:Cx) (r:V→Hp→(Bool→Hp→Prop)→Prop):Prop :=
 ∀ (pins:List (Addr×Obj)) (s:Shared) (σ:St) (H:Hp) (x:V) (v:Value) (Q:Bool→Hp→Prop),Inv X pins σ H s→RelV x v→r x H Q →
  wpAny (model X.prog X.w) X.A (truthy v) (TP X pins σ Q) X.xe s
def tOp (r:R2) (ta tb:TE):TE:=fun σ H Q=>ta σ H fun x H1=>tb σ H1 fun y H2=>r x y H2 Q
def tUn (r:V→Hp→VK→Prop) (ta:TE):TE:=fun σ H Q=>ta σ H fun x H1=>r x H1 Q
def rI (C:Int→Int→Prop) (g:Int→Int→V):R2:=fun x y H Q=>∃ i j,x=.int i∧y=.int j∧C i j∧Q (g i j) H
def rI0 (g:Int→Int→V):R2:=fun x y H Q=>∃ i j,x=.int i∧y=.int j∧Q (g i j) H
def rU (g:Int→V):V→Hp→VK→Prop:=fun x H Q=>∃ i,x=.int i∧Q (g i) H
section
variable {X:Cx} {a b c:Expr} {ta tb tc:TE} {pos:Pos}
theorem Zv1 (ha:PE X a ta) (hb:PE X b tb) {pins:List (Addr×Obj)} {s:Shared} {σ:St} {H:Hp} {R:V→V→Hp→Prop} (I:Inv X pins σ H s)
  (h:ta σ H fun x H1=>tb σ H1 fun y H2=>R x y H2) {Q:Value→Shared→Prop} {f:Value→Value→Sem Value}
  (hf:∀ v u s2 x y H2,Inv X pins σ H2 s2→RelV x v→RelV y u→R x y H2→wpAny (model X.prog X.w) X.A (f v u) Q X.xe s2) :
  wpAny (model X.prog X.w) X.A (eval a X.env) (fun v s₁=>wpAny (model X.prog X.w) X.A (eval b X.env) (fun u s₂=>wpAny (model X.prog X.w) X.A (f v u) Q X.xe s₂) X.xe s₁) X.xe s:=by
 refine thn (ha pins s σ H _ I h) fun v s1 zz37=>?_
 obtain ⟨x,H1,I1,r1,q1⟩:=zz37
 refine thn (hb pins s1 σ H1 _ I1 q1) fun u s2 zz38=>?_
 obtain ⟨y,H2,I2,r2,q2⟩:=zz38
 exact hf v u s2 x y H2 I2 r1 r2 q2
theorem Zw3 {op:Operator} {r:R2} (ho:OpR X (binaryOp op) r) (ha:PE X a ta) (hb:PE X b tb):PE X (.BinOp a op b pos) (tOp r ta tb):=by
 intro pins s σ H Q I h
 exact wpAny_BinOp (Zv1 ha hb I h fun v u s2 x y H2 I2 rx ry q=>ho pins s2 σ H2 x y v u Q I2 rx ry q)
theorem ZwV {op:UnaryOp} {r:V→Hp→VK→Prop} (ho:UnR X (unaryOp op) r) (ha:PE X a ta):PE X (.UnaryOp op a pos) (tUn r ta):=by
 intro pins s σ H Q I h
 exact UnaryOp_ (thn (ha pins s σ H _ I h) (by rintro v s1 ⟨x,H1,I1,r1,q1⟩;exact ho pins s1 σ H1 x v Q I1 r1 q1))
theorem opI {f:Value→Value→Sem Value} {C:Int→Int→Prop} {g:Int→Int→Int}
  (rule:∀ (i j:Int) (t u:Tok) (s:Shared) (Q:Value→Shared→Prop) (E:Value→Shared→Prop),C i j→Q (.int (g i j) s.toks) { s with toks:=s.toks+1 }→wpAny (model X.prog X.w) X.A (f (.int i t) (.int j u)) Q E s) :
  OpR X f (rI C fun i j=>.int (g i j)):=by
 intro pins s σ H x y v u Q I rx ry h
 obtain ⟨i,j,rfl,rfl,hc,q⟩:=h
 obtain ⟨t,rfl⟩:=rx
 obtain ⟨t',rfl⟩:=ry
 exact rule i j t t' s _ _ hc ⟨.int (g i j),H,I.tok _,⟨_,rfl⟩,q⟩
theorem Zxo {f:Value→Value→Sem Value} {g:Int→Int→Int}
  (rule:∀ (i j:Int) (t u:Tok) (s:Shared) (Q:Value→Shared→Prop) (E:Value→Shared→Prop),Q (.int (g i j) s.toks) { s with toks:=s.toks+1 }→wpAny (model X.prog X.w) X.A (f (.int i t) (.int j u)) Q E s) :
  OpR X f (rI0 fun i j=>.int (g i j)):=by
 intro pins s σ H x y v u Q I rx ry h
 obtain ⟨i,j,rfl,rfl,q⟩:=h
 obtain ⟨t,rfl⟩:=rx
 obtain ⟨t',rfl⟩:=ry
 exact rule i j t t' s _ _ ⟨.int (g i j),H,I.tok _,⟨_,rfl⟩,q⟩
theorem Zv5 {f:Value→Value→Sem Value} {g:Int→Int→Bool}
  (rule:∀ (i j:Int) (t u:Tok) (s:Shared) (Q:Value→Shared→Prop) (E:Value→Shared→Prop),Q (.bool (g i j)) s→wpAny (model X.prog X.w) X.A (f (.int i t) (.int j u)) Q E s) :
  OpR X f (rI0 fun i j=>.bl (g i j)):=by
 intro pins s σ H x y v u Q I rx ry h
 obtain ⟨i,j,rfl,rfl,q⟩:=h
 obtain ⟨t,rfl⟩:=rx
 obtain ⟨t',rfl⟩:=ry
 exact rule i j t t' s _ _ ⟨.bl (g i j),H,I,rfl,q⟩
def ZtI (i j:Int):Prop:=0 < j∧j < 1073741824
def Zs5 (i j:Int):Prop:=0≤j∧j≤1000000∧i.natAbs < 2 ^ 64
def CMul (i j:Int):Prop:=(-(2 ^ 64) < i∧i < 2 ^ 64)∨(-(2 ^ 64) < j∧j < 2 ^ 64)
theorem CMul.ok {i j:Int} (h:CMul i j):IntMulOk i j:=by
 rcases h with ⟨h1,h2⟩ | ⟨h1,h2⟩
 ·exact .of_left (intBits_le_64 h1 h2)
 ·exact .of_right (intBits_le_64 h1 h2)
theorem ZuJ:OpR X (binaryOp .Add) (rI0 fun i j=>.int (i+j)):=Zxo fun _ _ _ _ _ _ _ q=>add_int q
theorem Zuq:OpR X (binaryOp .Mult) (rI CMul fun i j=>.int (i*j)):=opI fun _ _ _ _ _ _ _ hc q=>mul_int q hc.ok
theorem Zty:OpR X (binaryOp .FloorDiv) (rI ZtI fun i j=>.int (i / j)):=opI fun i j _ _ _ _ _ hc q=>by
 have h1:(0:Int) < j:=hc.1
 have h2:j < 1073741824:=hc.2
 exact floordiv_int (by omega) (by rw [Int.fdiv_eq_ediv_of_nonneg i (by omega)];exact q) (.inl (PyProof.noPylong_small (by omega)))
theorem ZuP:OpR X (binaryOp .Mod) (rI (fun _ j=>0 < j) fun i j=>.int (i % j)):=opI fun i j _ _ _ _ _ hc q=>by
 have h1:(0:Int) < j:=hc
 exact mod_int' (by omega) (by rw [Int.fmod_eq_emod_of_nonneg i (by omega)];exact q)
theorem ZuS:OpR X (binaryOp .Pow) (rI Zs5 fun i j=>.int (i ^ j.toNat)):=opI fun _ _ _ _ _ _ _ hc q=>pow_int_small hc.1 hc.2.1 hc.2.2 q
theorem Zs9:OpR X (inplaceOp .Add) (rI0 fun i j=>.int (i+j)):=Zxo fun _ _ _ _ _ _ _ q=>iadd_int q
theorem unI {f:Value→Sem Value} {g:Int→Int}
  (rule:∀ (i:Int) (t:Tok) (s:Shared) (Q:Value→Shared→Prop) (E:Value→Shared→Prop),Q (.int (g i) s.toks) { s with toks:=s.toks+1 }→wpAny (model X.prog X.w) X.A (f (.int i t)) Q E s) :
  UnR X f (rU fun i=>.int (g i)):=by
 intro pins s σ H x v Q I rx h
 obtain ⟨i,rfl,q⟩:=h
 obtain ⟨t,rfl⟩:=rx
 exact rule i t s _ _ ⟨.int (g i),H,I.tok _,⟨_,rfl⟩,q⟩
theorem Zt7:UnR X (unaryOp .USub) (rU fun i=>.int (-i)):=unI fun _ _ _ _ _ q=>neg_int q
end
def Ztr:V→V→Bool
 | .non,.non=>true | .non,.int _=>true | .int _,.non=>true | .non,.bl _=>true | .bl _,.non=>true | .non,.str _=>true | .str _,.non=>true
 | .int _,.int _=>true | .bl _,.bl _=>true | .str _,.str _=>true | .byt _,.byt _=>true
 | .int _,.str _=>true | .str _,.int _=>true | .bl _,.str _=>true | .str _,.bl _=>true
 | _,_=>false
def rEq:R2:=fun x y H Q=>Ztr x y=true∧Q (.bl (decide (x=y))) H
def rNe:R2:=fun x y H Q=>Ztr x y=true∧Q (.bl (!decide (x=y))) H
theorem Zk6 {i j:Int}:decide (V.int i=V.int j)=(i==j):=by
 rw [Bool.eq_iff_iff]
 simp
theorem ZnN {i j:Bool}:decide (V.bl i=V.bl j)=(i==j):=by
 rw [Bool.eq_iff_iff]
 simp
theorem Zlu {i j:Str}:decide (V.str i=V.str j)=(i==j):=by
 rw [Bool.eq_iff_iff]
 simp
theorem ZnO {i j:Array UInt8}:decide (V.byt i=V.byt j)=(i.toList==j.toList):=by
 rw [Bool.eq_iff_iff]
 cases i
 cases j
 simp
section
variable {X:Cx} {a b c:Expr} {ta tb tc:TE} {pos:Pos}
theorem ZaW {pins:List (Addr×Obj)} {σ:St} {H:Hp} {s:Shared} {Q:VK} {k k':Bool} (I:Inv X pins σ H s) (q:Q (.bl k) H) (e:k=k'):EP X pins σ Q (.bool k') s:=by
 subst e
 exact ⟨.bl k,H,I,rfl,q⟩
theorem ZwN:OpR X (compareOp .Eq) rEq:=by
 intro pins s σ H x y v u Q I rx ry h
 obtain ⟨hs,q⟩:=h
 cases x with
 | non =>
  cases rx
  cases y with
  | non=>cases ry;exact PySem.EqNone.eq_none_none (ZaW I q (by simp))
  | bl j=>cases ry;exact PySem.EqNone.eq_none_bool (ZaW I q (by simp))
  | int j=>obtain ⟨t',rfl⟩:=ry;exact PySem.EqNone.eq_none_int (ZaW I q (by simp))
  | str j=>obtain ⟨t',rfl⟩:=ry;exact PySem.EqNone.eq_none_str (ZaW I q (by simp))
  | _=>exact absurd (show false=true from hs) Bool.false_ne_true
 | bl i =>
  cases rx
  cases y with
  | non=>cases ry;exact PySem.EqNone.eq_bool_none (ZaW I q (by simp))
  | bl j=>cases ry;exact eq_bool (ZaW I q ZnN)
  | str j=>obtain ⟨t',rfl⟩:=ry;exact PySem.EqMixed.eq_bool_str (ZaW I q (by simp))
  | _=>exact absurd (show false=true from hs) Bool.false_ne_true
 | int i =>
  obtain ⟨t,rfl⟩:=rx
  cases y with
  | non=>cases ry;exact PySem.EqNone.eq_int_none (ZaW I q (by simp))
  | int j=>obtain ⟨t',rfl⟩:=ry;exact eq_int (ZaW I q Zk6)
  | str j=>obtain ⟨t',rfl⟩:=ry;exact PySem.EqMixed.eq_int_str (ZaW I q (by simp))
  | _=>exact absurd (show false=true from hs) Bool.false_ne_true
 | str i =>
  obtain ⟨t,rfl⟩:=rx
  cases y with
  | non=>cases ry;exact PySem.EqNone.eq_str_none (ZaW I q (by simp))
  | bl j=>cases ry;exact PySem.EqMixed.eq_str_bool (ZaW I q (by simp))
  | int j=>obtain ⟨t',rfl⟩:=ry;exact PySem.EqMixed.eq_str_int (ZaW I q (by simp))
  | str j=>obtain ⟨t',rfl⟩:=ry;exact eq_str (ZaW I q Zlu)
  | _=>exact absurd (show false=true from hs) Bool.false_ne_true
 | byt i =>
  obtain ⟨t,rfl⟩:=rx
  cases y with
  | byt j=>obtain ⟨t',rfl⟩:=ry;exact PySem.W.eq_bytes (ZaW I q ZnO)
  | _=>exact absurd (show false=true from hs) Bool.false_ne_true
 | _=>cases y <;> exact absurd (show false=true from hs) Bool.false_ne_true
theorem Zwn:OpR X (compareOp .NotEq) rNe:=by
 intro pins s σ H x y v u Q I rx ry h
 obtain ⟨hs,q⟩:=h
 cases x with
 | non =>
  cases rx
  cases y with
  | non=>cases ry;exact PySem.EqNone.ne_none_none (ZaW I q (by simp))
  | bl j=>cases ry;exact PySem.EqNone.ne_none_bool (ZaW I q (by simp))
  | int j=>obtain ⟨t',rfl⟩:=ry;exact PySem.EqNone.ne_none_int (ZaW I q (by simp))
  | str j=>obtain ⟨t',rfl⟩:=ry;exact PySem.EqNone.ne_none_str (ZaW I q (by simp))
  | _=>exact absurd (show false=true from hs) Bool.false_ne_true
 | bl i =>
  cases rx
  cases y with
  | non=>cases ry;exact PySem.EqNone.ne_bool_none (ZaW I q (by simp))
  | bl j=>cases ry;exact ne_bool (ZaW I q (congrArg not ZnN))
  | str j=>obtain ⟨t',rfl⟩:=ry;exact PySem.EqMixed.ne_bool_str (ZaW I q (by simp))
  | _=>exact absurd (show false=true from hs) Bool.false_ne_true
 | int i =>
  obtain ⟨t,rfl⟩:=rx
  cases y with
  | non=>cases ry;exact PySem.EqNone.ne_int_none (ZaW I q (by simp))
  | int j=>obtain ⟨t',rfl⟩:=ry;exact ne_int (ZaW I q (congrArg not Zk6))
  | str j=>obtain ⟨t',rfl⟩:=ry;exact PySem.EqMixed.ne_int_str (ZaW I q (by simp))
  | _=>exact absurd (show false=true from hs) Bool.false_ne_true
 | str i =>
  obtain ⟨t,rfl⟩:=rx
  cases y with
  | non=>cases ry;exact PySem.EqNone.ne_str_none (ZaW I q (by simp))
  | bl j=>cases ry;exact PySem.EqMixed.ne_str_bool (ZaW I q (by simp))
  | int j=>obtain ⟨t',rfl⟩:=ry;exact PySem.EqMixed.ne_str_int (ZaW I q (by simp))
  | str j=>obtain ⟨t',rfl⟩:=ry;exact ne_str (ZaW I q (congrArg not Zlu))
  | _=>exact absurd (show false=true from hs) Bool.false_ne_true
 | byt i =>
  obtain ⟨t,rfl⟩:=rx
  cases y with
  | byt j=>obtain ⟨t',rfl⟩:=ry;exact PySem.W.ne_bytes (ZaW I q (congrArg not ZnO))
  | _=>exact absurd (show false=true from hs) Bool.false_ne_true
 | _=>cases y <;> exact absurd (show false=true from hs) Bool.false_ne_true
theorem ZwQ:OpR X (compareOp .Lt) (rI0 fun i j=>.bl (decide (i < j))):=Zv5 fun _ _ _ _ _ _ _ q=>lt_int q
theorem Zw5:OpR X (compareOp .LtE) (rI0 fun i j=>.bl (decide (i≤j))):=Zv5 fun _ _ _ _ _ _ _ q=>le_int q
theorem ZwB:OpR X (compareOp .Gt) (rI0 fun i j=>.bl (decide (j < i))):=Zv5 fun _ _ _ _ _ _ _ q=>gt_int q
theorem Zw6:OpR X (compareOp .GtE) (rI0 fun i j=>.bl (decide (j≤i))):=Zv5 fun _ _ _ _ _ _ _ q=>ge_int q
theorem ZoJ:OpR X (compareOp .Lt) (fun x y H Q=>∃ i j,x=.str i∧y=.str j∧Q (.bl (decide (i.cps.toList < j.cps.toList))) H):=by
 intro pins s σ H x y v u Q I rx ry h
 obtain ⟨i,j,rfl,rfl,q⟩:=h
 obtain ⟨t,rfl⟩:=rx
 obtain ⟨t',rfl⟩:=ry
 exact lt_str (ZaW I q rfl)
theorem ZvO:OpR X (compareOp .Is) (fun x y H Q=>y=.non∧Q (.bl (decide (x=.non))) H):=by
 intro pins s σ H x y v u Q I rx ry h
 obtain ⟨rfl,q⟩:=h
 cases ry
 refine is_none_gen (ZaW I q ?_)
 cases x <;> first
  | (cases rx;rfl)
  | (obtain ⟨t,rfl⟩:=rx;rfl)
theorem Zs8:OpR X (compareOp .IsNot) (fun x y H Q=>y=.non∧Q (.bl (!decide (x=.non))) H):=by
 intro pins s σ H x y v u Q I rx ry h
 obtain ⟨rfl,q⟩:=h
 cases ry
 refine isnot_none_gen (ZaW I q ?_)
 cases x <;> first
  | (cases rx;rfl)
  | (obtain ⟨t,rfl⟩:=rx;rfl)
theorem OpR.or {f:Value→Value→Sem Value} {r r':R2} (h:OpR X f r) (h':OpR X f r'):OpR X f (fun x y H Q=>r x y H Q∨r' x y H Q):=by
 intro pins s σ H x y v u Q I rx ry q
 rcases q with q | q
 ·exact h pins s σ H x y v u Q I rx ry q
 ·exact h' pins s σ H x y v u Q I rx ry q
theorem Zxn (b:Expr) {op:CmpOp} (h:op≠.In:=by decide) (h2:op≠.NotIn:=by decide):behindInMarks op b=false:=by
 have e1:(op==CmpOp.In)=false:=by cases op <;> first | rfl | exact absurd rfl h
 have e2:(op==CmpOp.NotIn)=false:=by cases op <;> first | rfl | exact absurd rfl h2
 cases b <;> simp [behindInMarks,e1,e2]
theorem Zsl {op:CmpOp} {r:R2} (ho:OpR X (compareOp op) r) (ha:PE X a ta) (hb:PE X b tb) (hm:behindInMarks op b=false):PE X (.Compare a [op] [b] pos) (tOp r ta tb):=by
 intro pins s σ H Q I h
 exact wpAny_Compare1 (Zv1 ha hb I h fun v u s2 x y H2 I2 rx ry q=>ho pins s2 σ H2 x y v u Q I2 rx ry q) hm
def Zt1 (t:TE):TT:=fun σ H Q=>t σ H fun x H'=>∃ k,x=.bl k∧Q k H'
theorem Zr8 {op:CmpOp} {r:R2} (ho:OpR X (compareOp op) r) (ha:PE X a ta) (hb:PE X b tb) (hm:behindInMarks op b=false):PT X (.Compare a [op] [b] pos) (Zt1 (tOp r ta tb)):=by
 intro pins s σ H Q I h
 refine wpAny_isTrue_Compare1 (thn (ha pins s σ H _ I h) fun v s1 ⟨x,H1,I1,r1,q1⟩=>thn (hb pins s1 σ H1 _ I1 q1) fun u s2 ⟨y,H2,I2,r2,q2⟩ =>
  thn (ho pins s2 σ H2 x y v u _ I2 r1 r2 q2) fun c s3 ⟨z,H3,I3,r3,k,e,q3⟩=>?_) hm
 subst e
 cases r3
 exact wpAny_truthy_bool ⟨H3,I3,q3⟩
def Zpq (r r':R2) (ta tb tc:TE):TE:=fun σ H Q=>ta σ H fun x H1=>tb σ H1 fun y H2=>r x y H2 fun z H3=>∃ k,z=.bl k ∧
 (if k=true then tc σ H3 fun w' H4=>r' y w' H4 Q else Q (.bl false) H3)
theorem ZqP {op op':CmpOp} {r r':R2} (ho:OpR X (compareOp op) r) (ho':OpR X (compareOp op') r') (ha:PE X a ta) (hb:PE X b tb) (hc:PE X c tc)
  (hm:lastMarks [op,op'] [b,c]=false:=by with_unfolding_all rfl):PE X (.Compare a [op,op'] [b,c] pos) (Zpq r r' ta tb tc):=by
 intro pins s σ H Q I h
 refine Compare_chain (thn (ha pins s σ H _ I h) fun v s1 ⟨x,H1,I1,r1,q1⟩=>chain_link (thn (hb pins s1 σ H1 _ I1 q1) fun u s2 ⟨y,H2,I2,r2,q2⟩ =>
  thn (ho pins s2 σ H2 x y v u _ I2 r1 r2 q2) fun d s3 ⟨z,H3,I3,r3,k,e,q3⟩=>?_)) hm
 subst e
 cases r3
 refine wpAny_truthy_bool ?_
 cases k with
 | false=>exact ite_ff ⟨.bl false,H3,I3,rfl,q3⟩
 | true=>exact ite_tt (chain_last (thn (hc pins s3 σ H3 _ I3 q3) (by rintro w' s4 ⟨z',H4,I4,r4,q4⟩;exact ho' pins s4 σ H4 y z' u w' Q I4 r2 r4 q4)))
theorem Zqs {op op':CmpOp} {r r':R2} (ho:OpR X (compareOp op) r) (ho':OpR X (compareOp op') r') (ha:PE X a ta) (hb:PE X b tb) (hc:PE X c tc)
  (hm:lastMarks [op,op'] [b,c]=false:=by with_unfolding_all rfl):PT X (.Compare a [op,op'] [b,c] pos) (Zt1 (Zpq r r' ta tb tc)):=by
 intro pins s σ H Q I h
 refine isTrue_chain (thn (ha pins s σ H _ I h) fun v s1 ⟨x,H1,I1,r1,q1⟩=>test_link (thn (hb pins s1 σ H1 _ I1 q1) fun u s2 ⟨y,H2,I2,r2,q2⟩ =>
  thn (ho pins s2 σ H2 x y v u _ I2 r1 r2 q2) fun d s3 ⟨z,H3,I3,r3,k,e,q3⟩=>?_)) hm
 subst e
 cases r3
 refine wpAny_truthy_bool ?_
 cases k with
 | false =>
  obtain ⟨k',e',q'⟩:=q3
  cases e'
  exact ite_ff ⟨H3,I3,q'⟩
 | true =>
  refine ite_tt (test_last (thn (hc pins s3 σ H3 _ I3 q3) fun w' s4 ⟨z',H4,I4,r4,q4⟩=>thn (ho' pins s4 σ H4 y z' u w' _ I4 r2 r4 q4) fun d' s5 ⟨z2,H5,I5,r5,k2,e2,q5⟩=>?_))
  subst e2
  cases r5
  exact wpAny_truthy_bool ⟨H5,I5,q5⟩
def ZwF (K:PySem.W.Frag) (x:V) (H:Hp) (k:Bool):Prop :=
 match x with
 | .non=>k=false
 | .bl b=>k=b
 | .int i=>k=(i != 0)
 | .str y=>y.length≤sizeLine∧k=((y.length:Int) != 0)
 | .byt y=>y.size≤sizeLine∧k=((y.size:Int) != 0)
 | .ref p=>(∃ xs,SqL K H p xs∧k=!xs.isEmpty)∨(∃ xs,SqT K H p xs∧k=!xs.isEmpty)∨∃ kvs,H p=some (.dK kvs)∧k=!kvs.isEmpty
 | _=>False
theorem Zm5 {κ:Type} {kvs:List (κ×V)} {vs:List (κ×Value)} (r:KV kvs vs):(!vs.isEmpty)=!kvs.isEmpty:=by
 cases r <;> rfl
theorem ZiB {xs:List V} {its:List Value} (r:Vals xs its):(!its.toArray.isEmpty)=!xs.isEmpty:=by
 cases r <;> simp
theorem Zif:(sizeLine:Nat) < 2 ^ 63:=by rw [sizeLine_eq];decide
theorem Zu9:ZxP X (fun x H Q=>∃ k,ZwF X.K x H k∧Q k H):=by
 intro pins s σ H x v Q I rx h
 obtain ⟨k,e,q⟩:=h
 have hl:=Zif
 have hs:sizeLine=16777216:=sizeLine_eq
 cases x with
 | non =>
  cases rx
  have e':k=false:=e
  subst e'
  exact truthy_none ⟨H,I,q⟩
 | bl b =>
  cases rx
  have e':k=b:=e
  subst e'
  exact wpAny_truthy_bool ⟨H,I,q⟩
 | int i =>
  obtain ⟨t,rfl⟩:=rx
  have e':k=(i != 0):=e
  subst e'
  exact PySem.P.truthy_int ⟨H,I,q⟩
 | str y =>
  obtain ⟨t,rfl⟩:=rx
  obtain ⟨hy,e'⟩:y.length≤sizeLine∧k=((y.length:Int) != 0):=e
  subst e'
  exact PySem.P.truthy_str (by omega) ⟨H,I.tok _,q⟩
 | byt y =>
  obtain ⟨t,rfl⟩:=rx
  obtain ⟨hy,e'⟩:y.size≤sizeLine∧k=((y.size:Int) != 0):=e
  subst e'
  exact PySem.W.truthy_bytes (by omega) ⟨H,I.tok _,q⟩
 | ref p =>
  cases rx
  have e':(∃ xs,SqL X.K H p xs∧k=!xs.isEmpty)∨(∃ xs,SqT X.K H p xs∧k=!xs.isEmpty)∨∃ kvs,H p=some (.dK kvs)∧k=!kvs.isEmpty:=e
  rcases e' with ⟨xs,hx,e'⟩ | ⟨xs,hx,e'⟩ | ⟨kvs,hx,e'⟩
  ·subst e'
   obtain ⟨its,r,pl,hz⟩:=I.list hx
   have hlen:=r.length
   exact wpAny_truthy_list pl.isList (by simp only [List.size_toArray];omega) ⟨H,I.tok _,by rw [ZiB r];exact q⟩
  ·subst e'
   obtain ⟨its,r,pl,hz⟩:=I.tuple hx
   have hlen:=r.length
   exact truthy_tuple pl (by simp only [List.size_toArray];omega) ⟨H,I.tok _,by rw [ZiB r];exact q⟩
  ·subst e'
   obtain ⟨hz,hS,vs,r,m⟩:kvs.length≤sizeLine∧(p==sysModules)=false∧∃ vs,KV kvs vs∧s.heap.DictOf (Zby X.prog X.w) p vs:=I.hok p _ hx
   have hlen:kvs.length=vs.length:=Paired.length r
   exact wpAny_truthy_dict hS m (by omega) ⟨H,I.tok _,by rw [Zm5 r];exact q⟩
 | _=>exact (show False from e).elim
theorem ZqS (ha:PE X a ta) (he:∀ whole,isTrue a X.env whole=(do let v ← whole;standAt a.pos;holding [v] (truthy v))) :
  PT X a (fun σ H Q=>ta σ H fun x H'=>∃ k,ZwF X.K x H' k∧Q k H'):=by
 intro pins s σ H Q I h
 exact isTrue_plain (thn (ha pins s σ H _ I h) (by rintro v s1 ⟨x,H1,I1,r1,q1⟩;exact Zu9 pins s1 σ H1 x v Q I1 r1 q1)) (he _)
theorem ZmI:OpR X (binaryOp .Add) (fun x y H Q=>∃ i j,x=.str i∧y=.str j∧i.length+j.length≤sizeLine∧Q (.str (i++j)) H):=by
 intro pins s σ H x y v u Q I rx ry h
 obtain ⟨i,j,rfl,rfl,hz,q⟩:=h
 obtain ⟨t,rfl⟩:=rx
 obtain ⟨t',rfl⟩:=ry
 exact add_str (fun t' tk=>⟨.str (i++j),H,I.tok _,⟨_,rfl⟩,q⟩) hz
theorem Zk0:OpR X (inplaceOp .Add) (fun x y H Q=>∃ i j,x=.str i∧y=.str j∧i.length+j.length≤sizeLine∧Q (.str (i++j)) H):=by
 intro pins s σ H x y v u Q I rx ry h
 obtain ⟨i,j,rfl,rfl,hz,q⟩:=h
 obtain ⟨t,rfl⟩:=rx
 obtain ⟨t',rfl⟩:=ry
 exact iadd_str (fun t' tk=>⟨.str (i++j),H,I.tok _,⟨_,rfl⟩,q⟩) hz
theorem ZjT {x:V} {us:List Value} (r:Vals [x] us):∃ u,us=[u]∧RelV x u:=by
 cases r with
 | cons r1 r2=>cases r2;exact ⟨_,rfl,r1⟩
theorem Zvv {x y:V} {us:List Value} (r:Vals [x,y] us):∃ u w',us=[u,w']∧RelV x u∧RelV y w':=by
 cases r with
 | cons r1 r2 =>
  cases r2 with
  | cons r3 r4=>cases r4;exact ⟨_,_,rfl,r1,r3⟩
theorem Zol:CallR X (.type "int") (fun xs H Q=>(∃ i,xs=[.int i]∧Q (.int i) H)∨∃ k,xs=[.bl k]∧Q (.int (if k then 1 else 0)) H):=by
 intro pins s σ H xs us Q I r h
 rcases h with ⟨i,rfl,q⟩ | ⟨k,rfl,q⟩
 ·obtain ⟨u,rfl,t,rfl⟩:=ZjT r
  exact call_int_int ⟨.int i,H,I,⟨_,rfl⟩,q⟩
 ·obtain ⟨u,rfl,r1⟩:=ZjT r
  cases r1
  exact call_int_bool ⟨.int (if k then 1 else 0),H,I.tok _,⟨_,rfl⟩,q⟩
def Zxh (K:PySem.W.Frag) (x:V) (H:Hp) (n:Nat):Prop :=
 match x with
 | .str y=>y.length≤sizeLine∧n=y.length
 | .byt y=>y.size≤sizeLine∧n=y.size
 | .ref p=>(∃ xs,SqL K H p xs∧n=xs.length)∨∃ xs,SqT K H p xs∧n=xs.length
 | _=>False
theorem Zp8:CallR X (.builtin "len") (fun xs H Q=>∃ x n,xs=[x]∧Zxh X.K x H n∧Q (.int n) H):=by
 intro pins s σ H xs us Q I r h
 obtain ⟨x,n,rfl,e,q⟩:=h
 obtain ⟨u,rfl,rx⟩:=ZjT r
 have hl:=Zif
 have hs:sizeLine=16777216:=sizeLine_eq
 cases x with
 | str y =>
  obtain ⟨t,rfl⟩:=rx
  obtain ⟨hy,e'⟩:y.length≤sizeLine∧n=y.length:=e
  subst e'
  exact len_str (by omega) ⟨.int _,H,I.tok _,⟨_,rfl⟩,q⟩
 | byt y =>
  obtain ⟨t,rfl⟩:=rx
  obtain ⟨hy,e'⟩:y.size≤sizeLine∧n=y.size:=e
  subst e'
  exact PySem.W.len_bytes (by omega) ⟨.int _,H,I.tok _,⟨_,rfl⟩,q⟩
 | ref p =>
  cases rx
  have e':(∃ xs,SqL X.K H p xs∧n=xs.length)∨∃ xs,SqT X.K H p xs∧n=xs.length:=e
  rcases e' with ⟨xs,hx,e'⟩ | ⟨xs,hx,e'⟩
  ·subst e'
   obtain ⟨its,r',pl,hz⟩:=I.list hx
   have hlen:=r'.length
   exact Calls.call_len_list pl.isList (by simp only [List.size_toArray];omega) ⟨.int xs.length,H,I.tok _,⟨_,by simp only [List.size_toArray];rw [hlen]⟩,q⟩
  ·subst e'
   obtain ⟨its,r',pl,hz⟩:=I.tuple hx
   have hlen:=r'.length
   exact len_tuple pl (by simp only [List.size_toArray];omega) ⟨.int xs.length,H,I.tok _,⟨_,by simp only [List.size_toArray];rw [hlen]⟩,q⟩
 | _=>exact (show False from e).elim
end
end L2
namespace L2
open PySem PySem.Spec PyProof.Rows
section
variable {prog:Program} {w:World} {A:Around} {E:Value→Shared→Prop} {s:Shared} {K:PySem.W.Frag} {x dx C f:Addr} {mA:Str→Option Value} {name:Str} {v:Value}
end
section
variable {P:Program} {w:World} {H H':Hp} {h h':Heap} {a C dx:Addr} {fs fs':List (Str×V)}
end
structure Cls (K:PySem.W.Frag) (C:Addr):Prop where
 pg:PySem.W.plainGet K C Str.empty=true
 hd:PySem.W.hasDictIn K C=true
 po:PySem.W.plainOver K C=true
 sa:PySem.W.findIn K (.ref C) "__setattr__"=some (some (.builtin "object.__setattr__"))
theorem Cls.get {K:PySem.W.Frag} {C:Addr} (c:Cls K C) (f:Str):PySem.W.plainGet K C f=true:=c.pg
section
variable {X:Cx} {pins:List (Addr×Obj)} {σ:St} {H:Hp} {s:Shared} {a C dx:Addr} {fs:List (Str×V)} {f:Str} {v:V} {A:Around} {E:Value→Shared→Prop}
theorem Inv.made (I:Inv X pins σ H s):Inv X pins σ (upd (upd H s.heap.objs.size (.own (s.heap.objs.size+1))) (s.heap.objs.size+1) (.ins C s.heap.objs.size []))
  { s with heap:=(s.heap.push PySem.W.emptyDict).push (PySem.W.instObj C s.heap.objs.size) }:=by
 have e1:(s.heap.push PySem.W.emptyDict).get? s.heap.objs.size=some PySem.W.emptyDict:=Heap.get?_push_size s.heap rfl
 have e2:((s.heap.push PySem.W.emptyDict).push (PySem.W.instObj C s.heap.objs.size)).get? (s.heap.objs.size+1)=some (PySem.W.instObj C s.heap.objs.size):=by
  have:=Heap.get?_push_size (s.heap.push PySem.W.emptyDict) (o:=PySem.W.instObj C s.heap.objs.size) rfl
  rwa [Heap.size_push] at this
 have e3:(s.heap.push PySem.W.emptyDict).Ns s.heap.objs.size (fun _=>none):=⟨PySem.W.emptyDict,#[],_,e1,rfl,(fun e he=>absurd he (by simp)),fun _=>rfl⟩
 have I1:=I.laid (a:=s.heap.objs.size) (o:=.own (s.heap.objs.size+1)) (h':=s.heap.push PySem.W.emptyDict) (t':=s.toks) (fun b u q=>Heap.get?_push_of_some _ q) (Nat.le_refl _) ⟨_,e1⟩
 refine I1.laid (a:=s.heap.objs.size+1) (o:=.ins C s.heap.objs.size []) (t':=s.toks) (fun b u q=>Heap.get?_push_of_some _ q) (Nat.le_of_eq (Heap.size_push _ _)) ?_
 have ne:s.heap.objs.size≠s.heap.objs.size+1:=Nat.ne_of_lt (Nat.lt_succ_self _)
 refine ⟨by rw [Za4 ne,Zbt],Nat.zero_le _,ne,e2,fun _=>none,(Heap.Ns1.of_empty e3).at fun o q=>Heap.get?_push_of_some _ q,fun _=>True.intro,fun y hy=>absurd rfl hy⟩
end
section
variable {X:Cx} {o e value:Expr} {f:Str} {pos pos' tpos:Pos} {ta tv:TE}
def ZeX:V→V→Hp→VK→Prop:=fun x y H Q=>∃ i j,x=.int i∧y=.int j∧Q (.int (i+j)) H
end
section
variable {X:Cx} {pins:List (Addr×Obj)} {σ:St} {H:Hp} {s:Shared} {A:Around} {E:Value→Shared→Prop} {Q:Value→Shared→Prop} {c:Value} {b:Bool}
end
end L2
namespace L2
open PySem PySem.Spec PyProof.Rows
structure Room (k:Nat) (A:Around):Prop where
 hd:A.handled=none
 dp:A.depth+3*k+5 < recursionLimit
 un:A.units+16*k+200 < cLine
theorem Room.mono {j k:Nat} {A:Around} (r:Room k A) (h:j≤k):Room j A:=⟨r.hd,by have:=r.dp;omega,by have:=r.un;omega⟩
theorem Room.deeper {k:Nat} {A:Around} (r:Room (k+1) A) (env:Env):Room k (A.deeper env) :=
 ⟨r.hd,by have:=r.dp;show A.depth+1+3*k+5 < _;omega,by have:=r.un;show A.units+3+16*k+200 < _;omega⟩
theorem Room.in1 {k:Nat} {A:Around} (r:Room (k+1) A):Room k A.in1 :=
 ⟨r.hd,by have:=r.dp;show A.depth+3*k+5 < _;omega,by have:=r.un;show A.units+1+16*k+200 < _;omega⟩
theorem Room.depth {k:Nat} {A:Around} (r:Room k A):A.depth < recursionLimit:=by have:=r.dp;omega
theorem Room.units {k:Nat} {A:Around} (r:Room k A):A.units+64 < cLine:=by have:=r.un;omega
def ZwI:TA:=fun _ H Q=>Q [] H
def Zqe (ta:TE) (tr:TA):TA:=fun σ H Q=>ta σ H fun x H1=>tr σ H1 fun xs H2=>Q (x::xs) H2
section
variable {X:Cx} {e:Expr} {es:List Expr} {te:TE} {t:TA} {pos:Pos}
theorem ZoA:PA X [] ZwI:=fun _ _ _ _ H Q I h=>Calls.spliced_nil ⟨[],H,I,.nil,h⟩
theorem Zjl (ha:PE X e te) (hr:PA X es t) (hs:starEach (e::es) X.env=(false,eval e X.env)::starEach es X.env:=by rfl):PA X (e::es) (Zqe te t):=by
 intro pos pins s σ H Q I h
 rw [hs]
 show wpAny _ _ (spliced ((false,eval e X.env)::backTo pos (starEach es X.env))) _ _ s
 refine Calls.spliced_cons (thn (ha pins s σ H _ I h) fun u s1 zz43=>?_)
 obtain ⟨x,H1,I1,r1,q1⟩:=zz43
 exact thn (hr pos pins s1 σ H1 _ I1 q1) (by rintro us s2 ⟨xs,H2,I2,r2,q2⟩;exact ⟨x::xs,H2,I2,.cons r1 r2,q2⟩)
def Zxy (t:TA):TE:=fun σ H Q=>t σ H fun xs H1=>xs.length≤sizeLine∧∀ p,H1 p=none→Q (.ref p) (upd H1 p (.tup xs))
def Zxz (t:TA):TE:=fun σ H Q=>t σ H fun xs H1=>xs.length≤sizeLine∧∀ p,H1 p=none→Q (.ref p) (upd H1 p (.lst xs))
theorem Zt8 {x1} (h:PA X es t):PE X (.Tuple es x1 pos) (Zxy t):=by
 intro pins s σ H Q I hq
 refine wpAny_Tuple_spliced (thn (h pos pins s σ H _ I hq) fun us s1 ⟨xs,H1,I1,r,z,q⟩=>⟨by rw [← r.length];exact z,?_⟩)
 have hf:H1 s1.heap.objs.size=none:=I1.hok.fresh (Nat.le_refl _)
 refine ⟨.ref s1.heap.objs.size,upd H1 s1.heap.objs.size (.tup xs),I1.laid (t':=s1.toks) (fun b u e=>Heap.get?_push_of_some _ e) (Nat.le_refl _) ?_,rfl,q _ hf⟩
 exact ⟨z,us,r,⟨_,Heap.get?_push_size _ rfl,rfl,_,rfl⟩⟩
theorem Zva (h:PA X es t):PE X (.List es pos) (Zxz t):=by
 intro pins s σ H Q I hq
 refine wpAny_List_spliced (thn (h pos pins s σ H _ I hq) fun us s1 ⟨xs,H1,I1,r,z,q⟩=>⟨by rw [← r.length];exact z,?_⟩)
 have hf:H1 s1.heap.objs.size=none:=I1.hok.fresh (Nat.le_refl _)
 refine ⟨.ref s1.heap.objs.size,upd H1 s1.heap.objs.size (.lst xs),I1.laid (t':=s1.toks) (fun b u e=>Heap.get?_push_of_some _ e) (Nat.le_refl _) ?_,rfl,q _ hf⟩
 exact ⟨z,us,0,r,Heap.get?_push_size _ rfl⟩
end
abbrev Sp:=List V→Hp→VK→XK→Prop
abbrev CXT:=List Env→Hp→Shared→XK→Value→Shared→Prop
structure Env0 (P:Program) (w:World) (K:PySem.W.Frag) (mg:Str→Option Value) (base:Heap) (A:Around) (outer:List Env) (s:Shared) (H:Hp):Prop where
 frames:A.frames=some outer
 mod:Mod K mg base
 bs:∀ b o,base.get? b=some o→s.heap.get? b=some o∧H b=none
 bsz:base.objs.size≤s.heap.objs.size
 funs:s.heap.FunFrames base outer
 frf:∀ b∈frs outer,H b=none
 hok:HOk P w H s.heap
 bare:AllBare s.gens
def CE (outer:List Env) (P:Program) (w:World) (H:Hp) (s:Shared) (Q:VK) (u:Value) (s':Shared):Prop :=
 ∃ v H',s'.os=s.os∧AllBare s'.gens∧Un (frs outer) [] H H' s.heap s'.heap∧HOk P w H' s'.heap∧RelV v u∧Q v H'
def CR (CX:CXT) (outer:List Env) (P:Program) (w:World) (H:Hp) (s:Shared) (Q:VK) (E:XK) (r:Result) (s':Shared):Prop :=
 match r with
 | .ok (.ret u)=>CE outer P w H s Q u s'
 | .ok _=>False
 | .error e=>CX outer H s E e s'
structure FnOk (P:Program) (w:World) (K:PySem.W.Frag) (mg:Str→Option Value) (base:Heap) (CX:CXT) (k:Nat) (f:Addr) (fd:FuncData) (ps:List Str) (sp:Sp):Prop where
 len:∀ vs H Q E,sp vs H Q E→vs.length=ps.length
 run:∀ (A:Around) (outer:List Env) (s:Shared) (H:Hp) (args:Args) (us:List Value) (vs:List V) (Q:VK) (E:XK),Room k A→Env0 P w K mg base A outer s H→BindsTo s fd args (ps.zip us)→Vals vs us→sp vs H Q E →
  codeAny (model P w) A (.call (.ref f) args) (CR CX outer P w H s Q E) s
theorem FnOk.mono {P:Program} {w:World} {K:PySem.W.Frag} {mg:Str→Option Value} {base:Heap} {CX:CXT} {j k:Nat} {f:Addr} {fd:FuncData} {ps:List Str} {sp:Sp} (F:FnOk P w K mg base CX j f fd ps sp) (h:j≤k) :
  FnOk P w K mg base CX k f fd ps sp:=⟨F.len,fun A outer s H args us vs Q E hr=>F.run A outer s H args us vs Q E (hr.mono h)⟩
theorem FnOk.imp {P:Program} {w:World} {K:PySem.W.Frag} {mg:Str→Option Value} {base:Heap} {CX:CXT} {k:Nat} {f:Addr} {fd:FuncData} {ps:List Str} {sp sp':Sp} (F:FnOk P w K mg base CX k f fd ps sp)
  (h:∀ vs H Q E,sp' vs H Q E→sp vs H Q E):FnOk P w K mg base CX k f fd ps sp' :=
 ⟨fun vs H Q E q=>F.len vs H Q E (h _ _ _ _ q),fun A outer s H args us vs Q E hr he hb hv hs=>F.run A outer s H args us vs Q E hr he hb hv (h _ _ _ _ hs)⟩
theorem Env0.in1 {P:Program} {w:World} {K:PySem.W.Frag} {mg:Str→Option Value} {base:Heap} {A:Around} {outer:List Env} {s:Shared} {H:Hp} (e:Env0 P w K mg base A outer s H) :
  Env0 P w K mg base A.in1 outer s H:=⟨e.frames,e.mod,e.bs,e.bsz,e.funs,e.frf,e.hok,e.bare⟩
section
variable {X:Cx} {pins:List (Addr×Obj)} {σ:St} {H:Hp} {s s':Shared}
theorem Inv.env0 (I:Inv X pins σ H s):Env0 X.prog X.w X.K X.mg X.base X.A X.stack s H :=
 ⟨I.ok.frames,I.ok.mod,I.bs,Nat.le_trans I.ok.bsz I.sz,I.stack,I.stkFree,I.hok,I.bare⟩
theorem Inv.after {Q:VK} {u:Value} (I:Inv X pins σ H s) (h:CE X.stack X.prog X.w H s Q u s'):EP X pins σ Q u s':=by
 obtain ⟨v,H',os,bare,un,hok,r,q⟩:=h
 obtain ⟨hh,g,d,t,os'⟩:=s'
 obtain rfl:os'=s.os:=os
 exact ⟨v,H',I.call (h':=hh) (g':=g) (d':=d) (t':=t) (ch:=[]) un hok bare (fun b z=>absurd z (by simp)),r,q⟩
end
def Binds (K:PySem.W.Frag) (fd:FuncData) (ps:List Str) (ds:List Value):Prop :=
 ∀ (s:Shared) (us:List Value),K.In s.heap→(us++ds).length=ps.length→BindsTo s fd ⟨us,[]⟩ (ps.zip (us++ds))
theorem Binds.all {K:PySem.W.Frag} {fd:FuncData} {ps:List Str} (h:∀ us:List Value,us.length=ps.length→bindArgs fd ⟨us,[]⟩=pure (ps.zip us)):Binds K fd ps []:=fun s us _ hl=>by
 rw [List.append_nil] at hl ⊢
 exact .of_eq (h us hl)
section
variable {X:Cx} {CX:CXT} {k:Nat} {f C:Addr} {fd:FuncData} {ps:List Str} {sp:Sp} {dvs:List V} {ds:List Value} {E:XK} {x m:Str} {p pos apos:Pos} {e o:Expr} {es:List Expr} {ta:TE} {t:TA}
end
section
variable {X:Cx} {CX:CXT} {k:Nat} {f C:Addr} {fd:FuncData} {ps ks:List Str} {sp:Sp} {E:XK} {x m:Str} {p pos apos kpos:Pos} {e o:Expr} {es:List Expr} {kws:List Keyword} {te ta:TE} {t tk:TA} {nm:Option Str}
variable {g:List Value→List Value→List Value} {gV:List V→List V→List V}
end
structure ZaD (N P:List Str) (sc:Scope):Prop where
 kind:sc.kind=.function
 co:sc.isCoroutine=false
 gen:sc.isGenerator=false
 nd:N.Nodup
 pre:N.take P.length=P
 par:∀ x∈P,sc.names.lookup x=some .local∨sc.names.lookup x=some .cell
 nofree:∀ y∈sc.names,y.2≠.free
theorem Zkn {kindOf:Str→Option NameKind} {x:Str}:∀ {binds:List (Str×Value)} {m:Str→Option Value},(∀ v,(x,v)∉binds)→bindL kindOf binds m x=m x
 | [],_,_=>rfl
 | (n,v)::r,m,h=>by
  unfold bindL
  rw [Zkn fun w hw=>h w (List.mem_cons_of_mem _ hw)]
  split
  ·have:x≠n:=by rintro rfl;exact h v List.mem_cons_self
   simp [this]
  ·rfl
theorem ZkC {kindOf:Str→Option NameKind} {x:Str}:∀ {binds:List (Str×Value)} {m:Str→Option Value},(∀ v,(x,v)∉binds)→bindC kindOf binds m x=m x
 | [],_,_=>rfl
 | (n,v)::r,m,h=>by
  unfold bindC
  rw [ZkC fun w hw=>h w (List.mem_cons_of_mem _ hw)]
  split
  ·rfl
  ·have:x≠n:=by rintro rfl;exact h v List.mem_cons_self
   simp [this]
theorem ZjW {kindOf:Str→Option NameKind} {x:Str} {v:Value}:∀ {P:List Str} {vs:List Value} {i:Nat} {m:Str→Option Value},P.Nodup→P[i]?=some x→vs[i]?=some v→kindOf x=some .local →
  bindL kindOf (P.zip vs) m x=some v
 | [],_,_,_,_,h,_,_=>by simp at h
 | _::_,[],_,_,_,_,h,_=>by simp at h
 | p::P,w::vs,0,m,nd,h1,h2,hk=>by
  simp at h1 h2;subst h1;subst h2
  show bindL kindOf ((p,w)::P.zip vs) m p=_
  unfold bindL
  rw [Zkn fun v hv=>(List.nodup_cons.mp nd).1 (List.of_mem_zip hv).1,if_pos hk]
  simp
 | p::P,w::vs,i+1,m,nd,h1,h2,hk=>by
  show bindL kindOf ((p,w)::P.zip vs) m x=_
  unfold bindL
  exact ZjW (i:=i) (List.nodup_cons.mp nd).2 (by simpa using h1) (by simpa using h2) hk
theorem ZkH {kindOf:Str→Option NameKind} {x:Str} {v:Value}:∀ {P:List Str} {vs:List Value} {i:Nat} {m:Str→Option Value},P.Nodup→P[i]?=some x→vs[i]?=some v→kindOf x≠some .local →
  bindC kindOf (P.zip vs) m x=some v
 | [],_,_,_,_,h,_,_=>by simp at h
 | _::_,[],_,_,_,_,h,_=>by simp at h
 | p::P,w::vs,0,m,nd,h1,h2,hk=>by
  simp at h1 h2;subst h1;subst h2
  show bindC kindOf ((p,w)::P.zip vs) m p=_
  unfold bindC
  rw [ZkC fun v hv=>(List.nodup_cons.mp nd).1 (List.of_mem_zip hv).1,if_neg hk]
  simp
 | p::P,w::vs,i+1,m,nd,h1,h2,hk=>by
  show bindC kindOf ((p,w)::P.zip vs) m x=_
  unfold bindC
  exact ZkH (i:=i) (List.nodup_cons.mp nd).2 (by simpa using h1) (by simpa using h2) hk
def Zg2 (N:List Str) (vs:List V):St:=vs.map some++List.replicate (N.length - vs.length) none
def Zsh (CX:CXT) (P:Program) (w:World) (K:PySem.W.Frag) (mg:Str→Option Value) (base:Heap) (N:List Str) (qual:Str) (scope:Scope) (f:Addr) (cd:Value) (A:Around) (outer:List Env) (s:Shared) (H:Hp) (E:XK):Cx where
 prog:=P
 w:=w
 K:=K
 mg:=mg
 base:=base
 A:=A.deeper (envOfC qual scope s.heap.objs.size f cd)
 N:=N
 s₀:=s
 H₀:=H
 env:=envOfC qual scope s.heap.objs.size f cd
 outer:=outer
 stack:=envOfC qual scope s.heap.objs.size f cd::outer
 ex:=[]
 calm:=true
 fn:=fun _=>true
 pn:=[]
 xe:=fun e s'=>wpAny (model P w) (A.deeper (envOfC qual scope s.heap.objs.size f cd)) (leaving (envOfC qual scope s.heap.objs.size f cd) e) (fun _ s''=>CX outer H s E e s'') (fun e' s''=>CX outer H s E e' s'') s'
theorem ZiY {sc:Scope} {n:Nat} {x:Str} (h:sc.names.lookup x=some .cell):∃ c,(cellsFrom n sc.names []).lookup x=some c:=by
 have q:=PySem.W.cellsFrom_some sc.names n [] (.inl h)
 exact Option.isSome_iff_exists.mp q
theorem Zpf {CX:CXT} {P:Program} {w:World} {K:PySem.W.Frag} {mg:Str→Option Value} {base:Heap} {N ps:List Str} {qual:Str} {scope:Scope} {f:Addr} {cd:Value} {A:Around} {outer:List Env} {s s1:Shared} {H:Hp} {E:XK} {us:List Value} {vs:List V}
  (S:ZaD N ps scope) (hd:A.handled=none) (e0:Env0 P w K mg base A outer s H) (hl:vs.length=ps.length) (r:Vals vs us)
  (x:InCallC s s.heap.objs.size (bindL (envOfC qual scope s.heap.objs.size f cd).kindOf (ps.zip us) fun _=>none) (cellsFrom (s.heap.objs.size+1) scope.names []) (bindC (envOfC qual scope s.heap.objs.size f cd).kindOf (ps.zip us) fun _=>none) s1) :
  Inv (Zsh CX P w K mg base N qual scope f cd A outer s H E) [] (Zg2 N vs) H s1:=by
 have hpl:ps.length≤N.length:=by have:=congrArg List.length S.pre;rw [List.length_take] at this;omega
 obtain ⟨h1,tk,rfl,hk⟩:=x.done
 have noA:∀ b:Addr,b∉(Zsh CX P w K mg base N qual scope f cd A outer s H E).ex:=fun b z=>absurd (show b∈([]:List Addr) from z) (by simp)
 refine ⟨⟨e0.mod,S.kind,rfl,rfl,Nat.le_refl _,fun y z c h1 h2=>?_,fun y hy=>?_,fun y c _ h=>?_,fun _=>hd,Around.frames_deeper e0.frames,.inr ⟨rfl,rfl⟩,fun b z=>absurd z (noA b),e0.bs,e0.bsz,fun b _ _=>noA b,fun b z=>absurd z (noA b),e0.funs,e0.frf⟩,
  rfl,e0.bare,Un.kept hk,⟨_,x.toInCall.ns,fun i y v h1 h2 h3=>?_⟩,fun y c h=>⟨_,x.cell y c h⟩,e0.hok.fresh (Nat.le_refl _),fun y c h=>?_,fun p hp=>absurd (show p∈([]:List (Addr×Obj)) from hp) (by simp),e0.hok.kept hk,?_⟩
 ·exact name_of_addr x.apart (PySem.mem_of_lookup h1) (PySem.mem_of_lookup h2)
 ·have hy:scope.names.lookup y=some .cell∨scope.names.lookup y=some .free:=hy
  rcases hy with hy | hy
  ·exact ZiY hy
  ·exact absurd rfl (S.nofree _ (PySem.mem_of_lookup hy))
 ·exact Nat.le_of_lt (x.above y c (PySem.mem_of_lookup h))
 ·have hi:i < vs.length:=by
   unfold Zg2 at h2
   by_cases hi:i < vs.length
   ·exact hi
   ·rw [List.getElem?_append_right (by simpa using hi)] at h2
    rw [List.getElem?_replicate] at h2
    split at h2 <;> cases h2
  have ha:vs[i]?=some v:=by
   unfold Zg2 at h2
   rw [List.getElem?_append_left (by simpa using hi),List.getElem?_map] at h2
   cases e:vs[i]? with
   | none=>rw [e] at h2;cases h2
   | some a=>rw [e] at h2;cases h2;rfl
  obtain ⟨u,hu,rv⟩:=r.get ha
  have hp:ps[i]?=some y:=by
   rw [← S.pre,List.getElem?_take_of_lt (by omega)];exact h1
  have ndP:ps.Nodup:=by rw [← S.pre];exact S.nd.sublist (List.take_sublist _ _)
  refine ⟨u,rv,?_⟩
  rcases S.par y (List.mem_of_getElem? hp) with k | k
  ·exact .inl ⟨k,ZjW ndP hp hu k⟩
  ·obtain ⟨c,e⟩:=ZiY (n:=s.heap.objs.size+1) k
   refine .inr ⟨.inl k,c,e,?_⟩
   have q:=x.cell y c e
   rw [ZkH ndP hp hu (by show scope.names.lookup y≠_;rw [k];decide)] at q
   exact q
 ·exact e0.hok.fresh (Nat.le_of_lt (x.above y c (PySem.mem_of_lookup h)))
 ·unfold Zg2
  show _=N.length
  rw [List.length_append,List.length_map,List.length_replicate]
  omega
theorem ZsX {CX:CXT} {P:Program} {w:World} {K:PySem.W.Frag} {mg:Str→Option Value} {base:Heap} {k:Nat} {f:Addr} {name qual:Str} {params:Arguments} {body:List Stmt} {scope:Scope} {dV kV doc pm cdv ct oc:Value} {an od:Option Addr}
  {osl:Array (Option Value)} {N ps:List Str} {sp:Sp} (lk:K.lookup f=some ⟨oc,od,.func (PySem.W.fnOf name qual params body scope dV kV doc pm an cdv ct),osl⟩) (hcd:PySem.W.codeIn K cdv qual=true) (S:ZaD N ps scope)
  (len:∀ vs H Q E,sp vs H Q E→vs.length=ps.length)
  (hbody:∀ (A:Around) (outer:List Env) (s:Shared) (H:Hp) (vs:List V) (Q:VK) (E:XK),Room k (A.deeper (envOfC qual scope s.heap.objs.size f cdv))→sp vs H Q E →
   ∃ t,PSs (Zsh CX P w K mg base N qual scope f cdv A outer s H E) body t∧t { nx:=fun _ H'=>Q .non H',rt:=Q } (Zg2 N vs) H) :
  FnOk P w K mg base CX (k+1) f (PySem.W.fnOf name qual params body scope dV kV doc pm an cdv ct) ps sp:=by
 refine ⟨len,fun A outer s H args us vs Q E hr e0 hb r hsp=>?_⟩
 have hl:=len _ _ _ _ hsp
 have KX:K.In s.heap:=e0.mod.kin.keeps fun b o e=>(e0.bs b o e).1
 have lim:s.heap.NoLimit:=e0.mod.nolimit.keeps fun b o e=>(e0.bs b o e).1
 have hkind:∀ y∈ps.zip us,scope.names.lookup y.1=some .local∨(scope.names.lookup y.1=some .cell∧((cellsFrom (s.heap.objs.size+1) scope.names []).lookup y.1).isSome=true):=by
  rintro ⟨n,v⟩ hy
  rcases S.par n (List.of_mem_zip hy).1 with q | q
  ·exact .inl q
  ·exact .inr ⟨q,PySem.W.cellsFrom_some _ _ _ (.inl q)⟩
 refine codeAny_call_function hr.depth (KX _ _ lk) rfl S.co S.gen rfl (PySem.W.codeRec_of KX hcd) (hb _ _ _ _ ?_)
 refine wpAny_newFunctionEnv_cells S.kind hkind fun env he s1 x=>?_
 subst he
 refine ⟨lim.keeps x.toInCall.keep,codeAny_func ?_⟩
 obtain ⟨t,ht,hq⟩:=hbody A outer s H vs Q E (hr.deeper _) hsp
 have I:Inv (Zsh CX P w K mg base N qual scope f cdv A outer s H E) [] (Zg2 N vs) H s1:=Zpf S hr.hd e0 hl r x
 refine wpAny_mono (ht [] s1 (Zg2 N vs) H _ I hq) (fun fl s' hs=>?_) fun e s' hs=>hs
 have fin:∀ {σ':St} {H':Hp} {v:V} {u:Value},Inv (Zsh CX P w K mg base N qual scope f cdv A outer s H E) [] σ' H' s'→RelV v u→Q v H'→CE outer P w H s Q u s' :=
  fun {σ' H' v u} J rv q=>⟨v,H',J.os,J.bare,J.base,J.hok,rv,q⟩
 cases fl with
 | ret u =>
  obtain ⟨v,σ',H',J,rv,q⟩:=hs
  exact fin J rv q
 | next =>
  obtain ⟨σ',H',J,q⟩:=hs
  exact fin (v:=V.non) (u:=Value.none) J rfl q
 | brk =>
  obtain ⟨_,_,_,q⟩:=hs
  exact False.elim q
 | cont =>
  obtain ⟨_,_,_,q⟩:=hs
  exact False.elim q
end L2
namespace L2
open PySem PySem.Spec PyProof.Rows
section
variable {X:Cx} {x:Str} {p pos:Pos} {e:Expr} {es:List Expr} {t:TA} {id T:String} {r:List V→Hp→VK→Prop}
def tCB (r:List V→Hp→VK→Prop) (t:TA):TE:=fun σ H Q=>t σ H fun vs H1=>r vs H1 Q
theorem Zp5 (hc:CallR X (.builtin id) r) (hg:Gl X x) (hm:X.mg x=none) (hv:bootBuiltins x=some (.builtin id)) (ha:PA X (e::es) t) (hn:x≠"__name__":=by decide) (hdb:(x==("__debug__":Str))=false:=by decide)
  (he:starEach (e::es) X.env=(false,eval e X.env)::starEach es X.env:=by rfl) (hpl:(backTo pos (starEach es X.env)).any (·.1)=false:=by rfl):PE X (.Call (.Name x p) (e::es) [] pos) (tCB r t):=by
 intro pins s σ H Q I h
 refine wpAny_Call_Name_kw (Ze3 I hg hm hv ?_ hn hdb)
 exact PyProof.Rows.callWith_builtin1 (thn (ha pos pins s σ H _ I h) (by rintro us s1 ⟨vs,H1,I1,r1,q1⟩;exact hc pins s1 σ H1 vs us Q I1 r1 q1)) he hpl
theorem ZoH (hc:CallR X (.type T) r) (hg:Gl X x) (hm:X.mg x=none) (hv:bootBuiltins x=some (.type T)) (ha:PA X (e::es) t) (hn:x≠"__name__":=by decide) (hdb:(x==("__debug__":Str))=false:=by decide)
  (he:starEach (e::es) X.env=(false,eval e X.env)::starEach es X.env:=by rfl) (hpl:(backTo pos (starEach es X.env)).any (·.1)=false:=by rfl):PE X (.Call (.Name x p) (e::es) [] pos) (tCB r t):=by
 intro pins s σ H Q I h
 refine wpAny_Call_Name_kw (Ze3 I hg hm hv ?_ hn hdb)
 exact PyProof.Rows.callWith_type1 (thn (ha pos pins s σ H _ I h) (by rintro us s1 ⟨vs,H1,I1,r1,q1⟩;exact hc pins s1 σ H1 vs us Q I1 r1 q1)) he hpl
end
end L2
namespace HT
open PySem PyProof.Rows
section
open PySem.SeqAt
open PySem.AutoSeq1 (wpAny_loadPart')
open PySem.MeetsSeq PySem.MeetsSeq2 PySem.MeetsSeq3
end
section
variable {prog:Program} {w:World} {A:Around} {E:Value→Shared→Prop} {s:Shared}
theorem cat_tup {t b:Addr} {vs ws:List Value} {Q:Value→Shared→Prop} (ht:IsTup s.heap t vs.toArray) (hb:IsTup s.heap b ws.toArray) (hv:vs≠[])
  (h1:ws=[]→Q (.ref t) s) (h2:ws≠[]→Q (.ref s.heap.objs.size) { s with heap:=s.heap.push { cls:=.type "tuple",data:=.seq (vs++ws).toArray } })
  (hsz:vs.length+ws.length≤sizeLine):wpAny (model prog w) A (binaryOp .Add (.ref t) (.ref b)) Q E s:=by
 obtain ⟨⟨cls,dd,data,sl⟩,ho,hc,n,hd⟩:=id ht
 obtain ⟨⟨cls2,dd2,data2,sl2⟩,ho2,hc2,n2,hd2⟩:=id hb
 simp only at hc hd hc2 hd2
 subst hc hd hc2 hd2
 have e:vs.toArray++ws.toArray=(vs++ws).toArray:=by simp
 by_cases hw:ws=[]
 ·exact concat_meets ⟨_,ho,rfl⟩ ⟨_,ho2,rfl⟩ noFill_tuple_add seq_tuple_add PySem.F.slot_tuple_add PySem.F.entry_tuple_add (PySem.F.args_tuple_add_2 _ _)
   (tuple_addW1 t b vs.toArray ws.toArray n n2 dd dd2 sl sl2 (by simpa using hv) (by simp [hw])) ⟨ho,ho2,h1 hw⟩
 ·refine concat_meets ⟨_,ho,rfl⟩ ⟨_,ho2,rfl⟩ noFill_tuple_add seq_tuple_add PySem.F.slot_tuple_add PySem.F.entry_tuple_add (PySem.F.args_tuple_add_2 _ _)
   (tuple_addW2 t b vs.toArray ws.toArray n n2 dd dd2 sl sl2 (by simpa using hv) (by simpa using hw) (by rw [List.size_toArray,List.size_toArray];exact hsz)) ⟨ho,ho2,?_⟩
  rw [e]
  exact h2 hw
def sIx (n d:Nat):Option Int→Nat
 | none=>d
 | some v=>if v < 0 then (v+(n:Int)).toNat else min v.toNat n
theorem sIx_none (n d:Nat):sIx n d none=d:=rfl
theorem sIx_nat (n d k:Nat):sIx n d (some (k:Int))=min k n:=by
 show (if (k:Int) < 0 then ((k:Int)+(n:Int)).toNat else min (k:Int).toNat n)=min k n
 rw [if_neg (by omega),Int.toNat_natCast]
theorem ZvI (n d:Nat) (hd:d≤n) (o:Option Int):sIx n d o≤n:=by
 cases o with
 | none=>exact hd
 | some v =>
  show (if v < 0 then (v+(n:Int)).toNat else min v.toNat n)≤n
  by_cases hv:v < 0
  ·rw [if_pos hv];omega
  ·rw [if_neg hv];exact Nat.min_le_right _ _
theorem Zov (v:Int) (n d:Nat):(if v < 0 then max (v+(n:Int)) 0 else min v (n:Int))=((sIx n d (some v):Nat):Int):=by
 show (if v < 0 then max (v+(n:Int)) 0 else min v (n:Int))=(((if v < 0 then (v+(n:Int)).toNat else min v.toNat n):Nat):Int)
 by_cases hv:v < 0
 ·simp only [if_pos hv];omega
 ·simp only [if_neg hv];omega
theorem ZmU (lo hi:Option Int) (n:Nat):Builtin.Slice.sliceAdjust lo hi 1 (n:Int)=(((sIx n 0 lo:Nat):Int),((sIx n n hi:Nat):Int)):=by
 have h1:¬ ((1:Int) < 0):=by omega
 unfold Builtin.Slice.sliceAdjust
 simp only [h1,if_false]
 refine Prod.ext ?_ ?_
 ·cases lo with
  | none=>rfl
  | some v=>exact Zov v n 0
 ·cases hi with
  | none=>rfl
  | some v=>exact Zov v n n
theorem ZmO (i j:Nat):Builtin.Slice.slicePlaces (i:Int) (j:Int) 1=j - i:=by
 unfold Builtin.Slice.slicePlaces
 have h1:(1:Int) > 0:=by omega
 simp only [h1,if_true,Int.ediv_one]
 split <;> omega
theorem ZiQ {v:Value} {o:Option Int} {Q:Option Int→Shared→Prop} (p:IsPart v o) (h:Q o s):wpAny (model prog w) A (Builtin.Slice.slicePartIndex v) Q E s:=by
 cases p with
 | none=>exact slicePart_none h
 | int i t=>exact slicePart_int h
theorem Zef {sl:Addr} {vl vu:Value} {lo hi:Option Int} {n:Nat} {Q:Int×Int×Nat→Shared→Prop} (hs:s.heap.IsSliceOf sl vl vu .none) (pl:IsPart vl lo) (pu:IsPart vu hi)
  (h:Q (((sIx n 0 lo:Nat):Int),1,sIx n n hi - sIx n 0 lo) s):wpAny (model prog w) A (Builtin.Slice.sliceApplied (.ref sl) (pure (n:Int))) Q E s:=by
 obtain ⟨os,hos,hcs,hds⟩:=id hs
 unfold Builtin.Slice.sliceApplied Builtin.Slice.sliceFields
 refine wpAny_bind (wpAny_bind (wpAny_field hos hds (x:=vl) rfl (wpAny_bind (wpAny_field hos hds (x:=vu) rfl (wpAny_bind (wpAny_field hos hds (x:=.none) rfl (wpAny_pure ?_)))))))
 refine wpAny_bind (slicePart_none ?_)
 show wpAny _ _ (if ((1:Int)==0)=true then _ else _) _ _ s
 rw [if_neg (by decide)]
 refine wpAny_bind (ZiQ pl (wpAny_bind (ZiQ pu (wpAny_bind (wpAny_pure ?_)))))
 show wpAny _ _ (match Builtin.Slice.sliceAdjust lo hi 1 (n:Int) with | (lo,hi)=>pure (lo,(1:Int),Builtin.Slice.slicePlaces lo hi 1)) _ _ s
 rw [ZmU lo hi n]
 show wpAny _ _ (pure (((sIx n 0 lo:Nat):Int),(1:Int),Builtin.Slice.slicePlaces ((sIx n 0 lo:Nat):Int) ((sIx n n hi:Nat):Int) 1)) _ _ s
 rw [ZmO]
 exact wpAny_pure h
theorem ZqN (xs:Array Value) (i k:Nat):((List.range k).filterMap fun (m:Nat)=>xs[((i:Int)+(m:Int)*1).toNat]?).toArray=((xs.toList.drop i).take k).toArray:=by
 have e:(fun (m:Nat)=>xs[((i:Int)+(m:Int)*1).toNat]?)=fun m=>xs[i+m]?:=by
  funext m
  have:((i:Int)+(m:Int)*1).toNat=i+m:=by omega
  rw [this]
 rw [e]
 have:=pick_run xs i k
 rw [List.filterMap_map] at this
 have e2:((fun x=>xs[x]?)∘fun x=>i+x)=fun m=>xs[i+m]?:=rfl
 rw [e2] at this
 rw [this]
theorem getItem_tuple_cut {t sl:Addr} {items:Array Value} {vl vu:Value} {lo hi:Option Int} {Q:Value→Shared→Prop} (ht:IsTup s.heap t items) (hs:s.heap.IsSliceOf sl vl vu .none) (pl:IsPart vl lo) (pu:IsPart vu hi)
  (hw:¬ (sIx items.size 0 lo=0∧sIx items.size items.size hi=items.size))
  (h:Q (.ref s.heap.objs.size) { s with heap:=s.heap.push { cls:=.type "tuple",data:=.seq ((items.toList.drop (sIx items.size 0 lo)).take (sIx items.size items.size hi - sIx items.size 0 lo)).toArray } })
  (hsz:items.size≤sizeLine):wpAny (model prog w) A (getItem (.ref t) (.ref sl)) Q E s:=by
 have htake:sizeOk (.seq ((items.toList.drop (sIx items.size 0 lo)).take (sIx items.size items.size hi - sIx items.size 0 lo)).toArray):=by
  show ((items.toList.drop (sIx items.size 0 lo)).take (sIx items.size items.size hi - sIx items.size 0 lo)).toArray.size≤sizeLine
  rw [List.size_toArray,List.length_take,List.length_drop,Array.length_toList]
  omega
 have hj:sIx items.size items.size hi≤items.size:=ZvI _ _ (Nat.le_refl _) hi
 obtain ⟨os,hos,hcs,hds⟩:=id hs
 have hTs:s.TypeIs (.ref sl) "slice":=⟨os,hos,hcs⟩
 unfold getItem
 try with_reducible refine wpAny_holding ?_
 first | refine wpAny_bind (wpAny_pure ?_) | skip
 refine wpAny_bind (wpAny_sequenceKey ht.typeIs (by decide) ?_)
 refine wpAny_bind (wpAny_callSpecial?_slot (name:=Str.ofString "__getitem__") ht.typeIs PyProof.Rows.slot_tuple_getitem
  (wpAny_call_entry PyProof.Rows.slot_tuple_getitem ht.typeIs entry_tuple_getitem ?_ (args_tuple_getitem _ _)))
 show wpAny _ _ (Builtin.Tuple.tupleItemsOf (.ref t) >>= _) _ _ s
 refine wpAny_bind (tupleItemsOf_ ht ?_)
 refine wpAny_bind (wpAny_typeOf hTs ?_)
 rw [if_pos (by decide)]
 refine wpAny_bind (Zef hs pl pu ?_)
 have hno:¬ ((((sIx items.size 0 lo:Nat):Int)==0&&(1:Int)==1&&(sIx items.size items.size hi - sIx items.size 0 lo)==items.size)=true):=by
  intro q
  rw [Bool.and_eq_true,Bool.and_eq_true] at q
  have q1:((sIx items.size 0 lo:Nat):Int)=0:=eq_of_beq q.1.1
  have q2:sIx items.size items.size hi - sIx items.size 0 lo=items.size:=eq_of_beq q.2
  exact hw ⟨by omega,by omega⟩
 show wpAny _ _ (if (((sIx items.size 0 lo:Nat):Int)==0&&(1:Int)==1&&(sIx items.size items.size hi - sIx items.size 0 lo)==items.size)=true then _ else _) _ _ s
 rw [if_neg hno,ZqN]
 first
  | exact wpAny_bind (m:=Builtin.Tuple.tupleExact _) (wpAny_newObj_type (wpAny_pure ⟨_,rfl,wpAny_pure h⟩) htake)
  | exact wpAny_bind (m:=Builtin.Tuple.tupleExact _) (wpAny_newObj_type (wpAny_bind (wpAny_pure (wpAny_pure ⟨_,rfl,wpAny_pure h⟩))) htake)
  | exact wpAny_bind (wpAny_bind (m:=Builtin.Tuple.tupleExact _) (wpAny_newObj_type (wpAny_pure (wpAny_pure ⟨_,rfl,wpAny_pure h⟩)) htake))
  | exact wpAny_bind (wpAny_bind (m:=Builtin.Tuple.tupleExact _) (wpAny_newObj_type (wpAny_pure ⟨_,rfl,wpAny_pure h⟩) htake))
end
end HT
namespace L2
open PySem PySem.Spec PyProof.Rows
abbrev TO:=St→Hp→(Option Int→Hp→Prop)→Prop
def PO (X:Cx) (e:Option Expr) (t:TO):Prop :=
 ∀ (pins:List (Addr×Obj)) (s:Shared) (σ:St) (H:Hp) (Q:Option Int→Hp→Prop),Inv X pins σ H s→t σ H Q →
  wpAny (model X.prog X.w) X.A (evalPart e X.env) (fun u s'=>∃ o H',Inv X pins σ H' s'∧IsPart u o∧Q o H') X.xe s
def ZsB:TO:=fun _ H Q=>Q none H
def Zwg (t:TE):TO:=fun σ H Q=>t σ H fun x H1=>∃ i,x=.int i∧Q (some i) H1
section
variable {X:Cx} {e:Expr} {te:TE} {lo hi:Option Expr} {tl th:TO} {pos p2:Pos}
theorem Zti:PO X none ZsB:=by
 intro pins s σ H Q I h
 rw [evalPart_none]
 exact wpAny_pure ⟨none,H,I,.none,h⟩
theorem ZsO (h:PE X e te):PO X (some e) (Zwg te):=by
 intro pins s σ H Q I hw
 rw [evalPart_some]
 refine thn (h pins s σ H _ I hw) fun u s1 zz48=>?_
 obtain ⟨x,H1,I1,r1,q1⟩:=zz48
 obtain ⟨i,rfl,q⟩:=q1
 obtain ⟨t,rfl⟩:=r1
 exact ⟨some i,H1,I1,.int i t,q⟩
def SlR (X:Cx) (r:V→Option Int→Option Int→Hp→VK→Prop):Prop :=
 ∀ (pins:List (Addr×Obj)) (s:Shared) (σ:St) (H:Hp) (x:V) (v vl vu:Value) (lo hi:Option Int) (sl:Addr) (Q:VK),Inv X pins σ H s→RelV x v→s.heap.IsSliceOf sl vl vu .none→IsPart vl lo→IsPart vu hi→r x lo hi H Q →
  ∃ T id,typeLookup (.type T) "__getitem__"=pure (some (.builtin id))∧s.TypeIs v T∧wpAny (model X.prog X.w) X.A (getItem v (.ref sl)) (EP X pins σ Q) X.xe s
theorem SlR.or {r r':V→Option Int→Option Int→Hp→VK→Prop} (h:SlR X r) (h':SlR X r'):SlR X (fun x lo hi H Q=>r x lo hi H Q∨r' x lo hi H Q):=by
 intro pins s σ H x v vl vu lo hi sl Q I rx hs pl pu q
 rcases q with q | q
 ·exact h pins s σ H x v vl vu lo hi sl Q I rx hs pl pu q
 ·exact h' pins s σ H x v vl vu lo hi sl Q I rx hs pl pu q
def tSl (r:V→Option Int→Option Int→Hp→VK→Prop) (te:TE) (tl th:TO):TE:=fun σ H Q=>te σ H fun x H1=>tl σ H1 fun l H2=>th σ H2 fun u H3=>r x l u H3 Q
theorem Zme {r:V→Option Int→Option Int→Hp→VK→Prop} (hr:SlR X r) (he:PE X e te) (hl:PO X lo tl) (hu:PO X hi th):PE X (.Subscript e (.Slice lo hi none p2) pos) (tSl r te tl th):=by
 intro pins s σ H Q I h
 refine Subscript_ (thn (he pins s σ H _ I h) fun v s1 zz49=>?_)
 obtain ⟨x,H1,I1,r1,q1⟩:=zz49
 refine wpAny_Slice (thn (hl pins s1 σ H1 _ I1 q1) fun vl s2 ⟨l,H2,I2,pl,q2⟩=>thn (hu pins s2 σ H2 _ I2 q2) fun vu s3 ⟨u,H3,I3,pu,q3⟩=>?_)
 rw [evalPart_none]
 refine wpAny_pure ?_
 have I4:Inv X pins σ H3 { s3 with heap:=s3.heap.push { cls:=.type "slice",data:=.fields #[vl,vu,.none] } }:=I3.kept (t':=s3.toks) fun b ob q=>Heap.get?_push_of_some _ q
 obtain ⟨T,id,hT,ht,hg⟩:=hr pins { s3 with heap:=s3.heap.push { cls:=.type "slice",data:=.fields #[vl,vu,.none] } } σ H3 x v vl vu l u s3.heap.objs.size Q I4 r1 (Heap.IsSliceOf.new ..) pl pu q3
 show wpAny (model X.prog X.w) X.A (subscriptTail e (.Slice lo hi none p2) v (.ref s3.heap.objs.size)) (EP X pins σ Q) X.xe { s3 with heap:=s3.heap.push { cls:=.type "slice",data:=.fields #[vl,vu,.none] } }
 exact tail_any (ops:=[.ref s3.heap.objs.size,v]) ht hT hg (by with_unfolding_all rfl)
def Zrm (xs:List V) (lo hi:Option Int):List V:=(xs.drop (HT.sIx xs.length 0 lo)).take (HT.sIx xs.length xs.length hi - HT.sIx xs.length 0 lo)
theorem Zg7 (xs:List V) (lo hi:Option Int):(Zrm xs lo hi).length≤xs.length:=by
 unfold Zrm
 rw [List.length_take,List.length_drop]
 omega
def Zwd (K:PySem.W.Frag):V→Option Int→Option Int→Hp→VK→Prop:=fun x lo hi H Q=>∃ a xs,x=.ref a∧SqT K H a xs ∧
 ¬ (HT.sIx xs.length 0 lo=0∧HT.sIx xs.length xs.length hi=xs.length)∧∀ p,H p=none→Q (.ref p) (upd H p (.tup (Zrm xs lo hi)))
theorem Zrw:SlR X (Zwd X.K):=by
 intro pins s σ H x v vl vu lo hi sl Q I rx hs pl pu h
 obtain ⟨a,xs,rfl,hx,hw,q⟩:=h
 cases rx
 obtain ⟨its,r,ht,hz⟩:=I.tuple hx
 have hlen:its.toArray.size=xs.length:=by rw [List.size_toArray];exact r.length.symm
 refine ⟨"tuple",_,PyProof.Rows.slot_tuple_getitem.lookup,ht.typeIs,?_⟩
 refine HT.getItem_tuple_cut ht hs pl pu (by rw [hlen];exact hw) ?_ (by rw [hlen];exact hz)
 rw [hlen]
 refine ⟨.ref s.heap.objs.size,_,I.laid (t':=s.toks) (o:=.tup (Zrm xs lo hi)) (fun b ob q=>Heap.get?_push_of_some _ q) (Nat.le_refl _) ?_,rfl,q _ (I.hok.fresh (Nat.le_refl _))⟩
 exact ⟨Nat.le_trans (Zg7 xs lo hi) hz,_,(r.drop (HT.sIx xs.length 0 lo)).take (HT.sIx xs.length xs.length hi - HT.sIx xs.length 0 lo),IsTup.new _ _⟩
def Zr7 (K:PySem.W.Frag):R2:=fun x y H Q=>∃ a b xs ys,x=.ref a∧y=.ref b∧SqT K H a xs∧SqT K H b ys∧xs≠[]∧xs.length+ys.length≤sizeLine ∧
 (ys=[]→Q (.ref a) H)∧(ys≠[]→∀ p,H p=none→Q (.ref p) (upd H p (.tup (xs++ys))))
theorem Vals.nil_iff {xs:List V} {us:List Value} (r:Vals xs us):us=[]↔xs=[]:=by
 cases r with
 | nil=>simp
 | cons _ _=>simp
theorem Zr1:OpR X (binaryOp .Add) (Zr7 X.K):=by
 intro pins s σ H x y v u Q I rx ry h
 obtain ⟨a,b,xs,ys,rfl,rfl,ha,hb,hx,hz,q1,q2⟩:=h
 cases rx
 cases ry
 obtain ⟨its,r1,p1,_⟩:=I.tuple ha
 obtain ⟨its2,r2,p2,_⟩:=I.tuple hb
 refine HT.cat_tup p1 p2 (fun z=>hx (r1.nil_iff.mp z)) (fun z=>⟨.ref a,H,I,rfl,q1 (r2.nil_iff.mp z)⟩) (fun z=>?_) (by rw [← r1.length,← r2.length];exact hz)
 refine ⟨.ref s.heap.objs.size,_,I.laid (t':=s.toks) (o:=.tup (xs++ys)) (fun b ob q=>Heap.get?_push_of_some _ q) (Nat.le_refl _) ?_,rfl,q2 (fun w=>z (r2.nil_iff.mpr w)) _ (I.hok.fresh (Nat.le_refl _))⟩
 exact ⟨by rw [List.length_append];exact hz,_,r1.append r2,IsTup.new _ _⟩
end
end L2
namespace L2
open PySem PySem.Spec PyProof.Rows
def ixN (n:Nat) (i:Int):Option Nat:=if 0≤i then (if i < n then some i.toNat else none) else if -(n:Int)≤i then some (i+n).toNat else none
def atI {α:Type} (xs:List α) (i:Int):Option α:=(ixN xs.length i).bind fun j=>xs[j]?
theorem Zow {n:Nat} {i:Int} {j:Nat} (h:ixN n i=some j):seqIndex? i n=some j∧j < n∧-(n:Int)≤i∧i < n:=by
 unfold ixN at h
 by_cases h0:0≤i
 ·rw [if_pos h0] at h
  by_cases h1:i < n
  ·rw [if_pos h1] at h
   have e:i.toNat=j:=Option.some.inj h
   exact ⟨by rw [seqIndex_of h0 h1,e],by omega,by omega,h1⟩
  ·rw [if_neg h1] at h;cases h
 ·rw [if_neg h0] at h
  by_cases h1:-(n:Int)≤i
  ·rw [if_pos h1] at h
   have e:(i+n).toNat=j:=Option.some.inj h
   exact ⟨by rw [seqIndex_neg (by omega) h1,e],by omega,h1,by omega⟩
  ·rw [if_neg h1] at h;cases h
theorem Zli {α:Type} {xs:List α} {i:Int} {v:α} (h:atI xs i=some v):∃ j,seqIndex? i xs.length=some j∧xs[j]?=some v∧j < xs.length∧-(xs.length:Int)≤i∧i < xs.length:=by
 unfold atI at h
 cases e:ixN xs.length i with
 | none=>rw [e] at h;cases h
 | some j =>
  rw [e] at h
  obtain ⟨h1,h2,h3,h4⟩:=Zow e
  exact ⟨j,h1,h,h2,h3,h4⟩
theorem Zjo {α:Type} {xs:List α} {j:Nat} {v:α} (h:xs[j]?=some v):atI xs (j:Int)=some v:=by
 have hj:j < xs.length:=(List.getElem?_eq_some_iff.mp h).1
 have e:ixN xs.length (j:Int)=some j:=by
  unfold ixN
  rw [if_pos (by omega),if_pos (by omega)];simp
 unfold atI;rw [e];exact h
def Zju (b:Expr):Prop:=∀ o i,subscripted b false o i=operate [o,i] (getItem o i)
def IxR (X:Cx) (r:R2):Prop :=
 ∀ (value slice:Expr) (pins:List (Addr×Obj)) (s:Shared) (σ:St) (H:Hp) (x y:V) (v u:Value) (Q:VK),Inv X pins σ H s→RelV x v→RelV y u→r x y H Q →
  subscripted slice false v u=operate [v,u] (getItem v u)→wpAny (model X.prog X.w) X.A (subscriptTail value slice v u) (EP X pins σ Q) X.xe s
def MtR (X:Cx) (id:String) (r:V→List V→Hp→VK→Prop):Prop :=
 ∀ (pins:List (Addr×Obj)) (s:Shared) (σ:St) (H:Hp) (x:V) (xs:List V) (v:Value) (us:List Value) (Q:VK),Inv X pins σ H s→RelV x v→Vals xs us→r x xs H Q →
  wpAny (model X.prog X.w) X.A (call (.builtin id) (v::us)) (EP X pins σ Q) X.xe s
section
variable {X:Cx} {a b:Expr} {ta tb:TE} {pos:Pos}
theorem IxR.or {r r':R2} (h:IxR X r) (h':IxR X r'):IxR X (fun x y H Q=>r x y H Q∨r' x y H Q):=by
 intro value slice pins s σ H x y v u Q I rx ry q hs
 rcases q with q | q
 ·exact h value slice pins s σ H x y v u Q I rx ry q hs
 ·exact h' value slice pins s σ H x y v u Q I rx ry q hs
theorem MtR.or {id:String} {r r':V→List V→Hp→VK→Prop} (h:MtR X id r) (h':MtR X id r'):MtR X id (fun x xs H Q=>r x xs H Q∨r' x xs H Q):=by
 intro pins s σ H x xs v us Q I rx rs q
 rcases q with q | q
 ·exact h pins s σ H x xs v us Q I rx rs q
 ·exact h' pins s σ H x xs v us Q I rx rs q
theorem Zwv {r:R2} (hr:IxR X r) (ha:PE X a ta) (hb:PE X b tb) (hs:Zju b):PE X (.Subscript a b pos) (tOp r ta tb):=by
 intro pins s σ H Q I h
 exact Subscript_ (Zv1 ha hb I h fun v u s2 x y H2 I2 rx ry q=>hr a b pins s2 σ H2 x y v u Q I2 rx ry q (hs _ _))
def ZwS (K:PySem.W.Frag):R2:=fun x y H Q=>∃ p xs i v,x=.ref p∧y=.int i∧SqL K H p xs∧atI xs i=some v∧Q v H
def ZwK (K:PySem.W.Frag):R2:=fun x y H Q=>∃ p xs i v,x=.ref p∧y=.int i∧SqT K H p xs∧atI xs i=some v∧Q v H
def Zwo:R2:=fun x y H Q=>∃ z i c,x=.str z∧y=.int i∧z.length≤sizeLine∧atI z.cps.toList i=some c∧Q (.str ⟨#[c]⟩) H
theorem ZtA:IxR X (ZwS X.K):=by
 intro value slice pins s σ H x y v u Q I rx ry h hs
 obtain ⟨p,xs,i,z,rfl,rfl,hq,he,q⟩:=h
 cases rx
 obtain ⟨t,rfl⟩:=ry
 obtain ⟨its,r,pl,hz⟩:=I.list hq
 obtain ⟨j,h1,h2,h3,h4,h5⟩:=Zli he
 obtain ⟨w,ew,rw'⟩:=r.get h2
 have hl:=r.length
 have hn:=Zif
 have fin:EP X pins σ Q w s:=⟨z,H,I,rw',q⟩
 by_cases h0:0≤i
 ·have hj:i.toNat=j:=by
   rw [seqIndex_of h0 h5] at h1
   exact Option.some.inj h1
  exact item_listR pl.isList h0 (by omega) (by rw [hj];simpa using ew) fin hs
 ·have hj:(i+(its.toArray.size:Int)).toNat=j:=by
   rw [seqIndex_neg (by omega) h4] at h1
   rw [List.size_toArray,← hl]
   exact Option.some.inj h1
  exact subscriptTail_builtinR (x:=w) pl.isList.typeIs slot_list_getitem.lookup
   (wpAny_getItem_list_neg (Q:=fun r s'=>r=w∧EP X pins σ Q r s') pl.isList (by omega) (by rw [List.size_toArray] <;> omega) (by omega) (by rw [hj];simpa using ew) ⟨rfl,fin⟩) hs
theorem Zvz:IxR X (ZwK X.K):=by
 intro value slice pins s σ H x y v u Q I rx ry h hs
 obtain ⟨p,xs,i,z,rfl,rfl,hq,he,q⟩:=h
 cases rx
 obtain ⟨t,rfl⟩:=ry
 obtain ⟨its,r,pl,hz⟩:=I.tuple hq
 obtain ⟨j,h1,h2,h3,h4,h5⟩:=Zli he
 obtain ⟨w,ew,rw'⟩:=r.get h2
 have hl:=r.length
 have hn:=Zif
 have fin:EP X pins σ Q w s:=⟨z,H,I,rw',q⟩
 exact subscriptTail_builtinR (x:=w) pl.typeIs slot_tuple_getitem.lookup
  (getItem_tuple (j:=j) (Q:=fun r s'=>r=w∧EP X pins σ Q r s') pl (by omega) (by omega) (by rw [List.size_toArray,← hl];exact h1) (by simpa using ew) ⟨rfl,fin⟩) hs
theorem Zvr:IxR X Zwo:=by
 intro value slice pins s σ H x y v u Q I rx ry h hs
 obtain ⟨z,i,c,rfl,rfl,hz,he,q⟩:=h
 obtain ⟨t,rfl⟩:=rx
 obtain ⟨t',rfl⟩:=ry
 obtain ⟨j,h1,h2,h3,h4,h5⟩:=Zli he
 have hl:z.cps.toList.length=z.length:=by simp [Str.length]
 rw [hl] at h1 h4 h5
 have hn:=Zif
 exact tail_any (typeIs_str s z t) slot_str_getitem.lookup (getItem_str (c:=c) (by
  have e1:decide (i < -(2 ^ 63:Int))=false:=decide_eq_false (by omega)
  have e2:decide (i≥2 ^ 63)=false:=decide_eq_false (by omega)
  rw [e1,e2,Bool.or_false]) (by rw [h1];simpa using h2) ⟨.str ⟨#[c]⟩,H,I.tok _,⟨_,rfl⟩,q⟩) hs
theorem ZmN (its:List Value) (n j:Nat) (u:Value):Obj.mapSeq (·.setIfInBounds j u) { cls:=.type "list",data:=.seq its.toArray n }={ cls:=.type "list",data:=.seq (its.set j u).toArray n }:=by
 simp [Obj.mapSeq]
theorem Inv.lst {pins:List (Addr×Obj)} {σ:St} {H:Hp} {s:Shared} {p:Addr} {xs:List V} (I:Inv X pins σ H s) (h:H p=some (.lst xs)) :
  ∃ (its:List Value) (n:Nat),Vals xs its∧s.heap.get? p=some { cls:=.type "list",data:=.seq its.toArray n }∧xs.length≤sizeLine:=by
 obtain ⟨z,its,n,r,e⟩:=I.hok p _ h
 exact ⟨its,n,r,e,z⟩
theorem Inv.lstUpd {pins:List (Addr×Obj)} {σ:St} {H:Hp} {s:Shared} {p:Addr} {xs ys:List V} {its its':List Value} {n n':Nat} {f:Obj→Obj} (I:Inv X pins σ H s) (h:H p=some (.lst xs))
  (ho:s.heap.get? p=some { cls:=.type "list",data:=.seq its.toArray n }) (hf:f { cls:=.type "list",data:=.seq its.toArray n }={ cls:=.type "list",data:=.seq its'.toArray n' }) (r:Vals ys its') (hz:ys.length≤sizeLine) (t:Nat) :
  Inv X pins σ (upd H p (.lst ys)) { s with heap:=s.heap.update p f,toks:=t }:=by
 have e:(s.heap.update p f).get? p=some { cls:=.type "list",data:=.seq its'.toArray n' }:=by
  rw [Heap.get?_update_self f ho (by rw [hf] <;> rfl),hf]
 refine I.write (x:=p) (e:=p) (by rw [h];trivial) (.inl rfl) (fun b u hb q=>(Heap.get?_update_other _ _ (Ne.symm hb)).trans q) ⟨_,e⟩ ?_
 exact ⟨hz,its',n',r,e⟩
def Zuz:V→V→V→Hp→(Hp→Prop)→Prop:=fun o i v H Q=>∃ p xs k j,o=.ref p∧i=.int k∧H p=some (.lst xs)∧ixN xs.length k=some j∧Q (upd H p (.lst (xs.set j v)))
theorem Zq2:Zxu X Zuz:=by
 intro pins s σ H o i v ov iv u Q I ro ri rv h
 obtain ⟨p,xs,k,j,rfl,rfl,hp,hj,q⟩:=h
 cases ro
 obtain ⟨t,rfl⟩:=ri
 obtain ⟨its,n,r,ho,hz⟩:=I.lst hp
 obtain ⟨h1,h2,h3,h4⟩:=Zow hj
 have hl:=r.length
 have hn:=Zif
 have I':Inv X pins σ (upd H p (.lst (xs.set j v))) { s with heap:=s.heap.update p (Obj.mapSeq (·.setIfInBounds j u)) } :=
  I.lstUpd hp ho (ZmN its n j u) (r.set rv j) (by rw [List.length_set];exact hz) s.toks
 by_cases h0:0≤k
 ·have hk:k.toNat=j:=by
   rw [seqIndex_of h0 h4] at h1
   exact Option.some.inj h1
  exact PySem.W.ki_setAt ho h0 (by omega) (by rw [List.size_toArray,← hl];exact h4) (by rw [hk];exact ⟨_,I',q⟩)
 ·have hk:(k+(its.toArray.size:Int)).toNat=j:=by
   rw [seqIndex_neg (by omega) h3] at h1
   rw [List.size_toArray,← hl]
   exact Option.some.inj h1
  exact PySem.W.ki_setBack ho (by omega) (by rw [List.size_toArray,← hl];exact h3) (by omega) (by rw [hk];exact ⟨_,I',q⟩)
theorem Zkb (lo hi:Option Int) (n:Nat):(sliceBounds lo hi none n).1=((HT.sIx n 0 lo:Nat):Int)∧(sliceBounds lo hi none n).2.1=((HT.sIx n n hi:Nat):Int)∧(sliceBounds lo hi none n).2.2=1:=by
 refine ⟨?_,?_,rfl⟩
 ·cases lo with
  | none=>simp [sliceBounds,HT.sIx]
  | some i =>
   simp only [sliceBounds,HT.sIx,Option.getD_none,show (1:Int) > 0 by decide,if_true]
   by_cases h:i < 0
   ·simp only [h,if_true] <;> omega
   ·simp only [h,if_false] <;> omega
 ·cases hi with
  | none=>simp [sliceBounds,HT.sIx]
  | some i =>
   simp only [sliceBounds,HT.sIx,Option.getD_none,show (1:Int) > 0 by decide,if_true]
   by_cases h:i < 0
   ·simp only [h,if_true] <;> omega
   ·simp only [h,if_false] <;> omega
theorem Zjp (its:List Value) (lo hi:Option Int):slicePick its.toArray lo hi none=((its.drop (HT.sIx its.length 0 lo)).take (HT.sIx its.length its.length hi - HT.sIx its.length 0 lo)).toArray:=by
 obtain ⟨h1,h2,h3⟩:=Zkb lo hi its.toArray.size
 unfold slicePick
 rw [h1,h2,h3]
 simp only [sliceRange_one,pick_run,List.size_toArray] <;> rfl
def Zwf (K:PySem.W.Frag):V→Option Int→Option Int→Hp→VK→Prop:=fun x lo hi H Q=>∃ a xs,x=.ref a∧SqL K H a xs∧∀ p,H p=none→Q (.ref p) (upd H p (.lst (Zrm xs lo hi)))
theorem Zps:SlR X (Zwf X.K):=by
 intro pins s σ H x v vl vu lo hi sl Q I rx hs pl pu h
 obtain ⟨a,xs,rfl,hx,q⟩:=h
 cases rx
 obtain ⟨its,r,ht,hz⟩:=I.list hx
 have hlen:=r.length
 refine ⟨"list",_,slot_list_getitem.lookup,ht.isList.typeIs,?_⟩
 refine wpAny_getItem_list_slice ht.isList hs pl pu .none (by simp) ?_ (by rw [List.size_toArray] <;> omega)
 rw [Zjp,← hlen]
 refine ⟨.ref s.heap.objs.size,_,I.laid (t':=s.toks) (o:=.lst (Zrm xs lo hi)) (fun b ob q=>Heap.get?_push_of_some _ q) (Nat.le_refl _) ?_,rfl,q _ (I.hok.fresh (Nat.le_refl _))⟩
 exact ⟨Nat.le_trans (Zg7 xs lo hi) hz,_,0,(r.drop (HT.sIx xs.length 0 lo)).take (HT.sIx xs.length xs.length hi - HT.sIx xs.length 0 lo),Heap.get?_push_size _ rfl⟩
def ZhV:V→Bool
 | .non=>true
 | .bl _=>true
 | .int _=>true
 | .str _=>true
 | _=>false
def eqV:V→V→Bool
 | .non,.non=>true
 | .bl a,.bl b=>a==b
 | .bl a,.int b=>(if a then 1 else 0)==b
 | .int a,.bl b=>a==(if b then 1 else 0)
 | .int a,.int b=>a==b
 | .str a,.str b=>a==b
 | _,_=>false
theorem ZjK {A:Around} {s:Shared} {y x:V} {u v:Value} (ry:RelV y u) (rx:RelV x v) (fy:ZhV y=true) (fx:ZhV x=true):SeqAt.EqAt A s u v (eqV y x):=by
 cases y with
 | non =>
  cases ry
  cases x with
  | non=>cases rx;exact SeqAt.EqAt.same _
  | bl b=>cases rx;exact SeqAt.EqAt.none_bool b
  | int b=>obtain ⟨t,rfl⟩:=rx;exact SeqAt.EqAt.none_int b t
  | str b=>obtain ⟨t,rfl⟩:=rx;exact SeqAt.EqAt.none_str b t
  | _=>exact absurd (show false=true from fx) Bool.false_ne_true
 | bl a =>
  cases ry
  cases x with
  | non=>cases rx;exact SeqAt.EqAt.bool_none a
  | bl b=>cases rx;exact SeqAt.EqAt.bool_bool a b
  | int b=>obtain ⟨t,rfl⟩:=rx;exact SeqAt.EqAt.bool_int a b t
  | str b=>obtain ⟨t,rfl⟩:=rx;exact SeqAt.EqAt.bool_str a b t
  | _=>exact absurd (show false=true from fx) Bool.false_ne_true
 | int a =>
  obtain ⟨t',rfl⟩:=ry
  cases x with
  | non=>cases rx;exact SeqAt.EqAt.int_none a t'
  | bl b=>cases rx;exact SeqAt.EqAt.int_bool a t' b
  | int b=>obtain ⟨t,rfl⟩:=rx;exact SeqAt.EqAt.int_int a t' b t
  | str b=>obtain ⟨t,rfl⟩:=rx;exact SeqAt.EqAt.int_str a t' b t
  | _=>exact absurd (show false=true from fx) Bool.false_ne_true
 | str a =>
  obtain ⟨t',rfl⟩:=ry
  cases x with
  | non=>cases rx;exact SeqAt.EqAt.str_none a t'
  | bl b=>cases rx;exact SeqAt.EqAt.str_bool a t' b
  | int b=>obtain ⟨t,rfl⟩:=rx;exact SeqAt.EqAt.str_int a t' b t
  | str b=>obtain ⟨t,rfl⟩:=rx;exact SeqAt.EqAt.str_str a t' b t
  | _=>exact absurd (show false=true from fx) Bool.false_ne_true
 | _=>exact absurd (show false=true from fy) Bool.false_ne_true
def eqU (x:V) (u:Value):Bool:=match u with
 | .none=>eqV .non x
 | .bool b=>eqV (.bl b) x
 | .int i _=>eqV (.int i) x
 | .str z _=>eqV (.str z) x
 | _=>false
theorem Zrk {x y:V} {u:Value} (r:RelV y u) (f:ZhV y=true):eqU x u=eqV y x:=by
 cases y with
 | non=>cases r;rfl
 | bl b=>cases r;rfl
 | int i=>obtain ⟨t,rfl⟩:=r;rfl
 | str z=>obtain ⟨t,rfl⟩:=r;rfl
 | _=>exact absurd (show false=true from f) Bool.false_ne_true
theorem Zhi {x:V}:∀ {xs:List V} {us:List Value},Vals xs us→xs.all ZhV=true→us.any (eqU x)=xs.any fun y=>eqV y x
 | _,_,.nil,_=>rfl
 | y::xs,u::us,.cons r t,f=>by
  rw [List.all_cons,Bool.and_eq_true] at f
  rw [List.any_cons,List.any_cons,Zrk r f.1,Zhi t f.2]
theorem ZfD {A:Around} {s:Shared} {x:V} {v:Value} (rx:RelV x v) (fx:ZhV x=true):∀ {xs:List V} {us:List Value},Vals xs us→xs.all ZhV=true→∀ u∈us,SeqAt.EqAt A s u v (eqU x u)
 | _,_,.nil,_=>fun u hu=>by cases hu
 | y::xs,u::us,.cons r t,f=>fun u' hu=>by
  rw [List.all_cons,Bool.and_eq_true] at f
  rcases List.mem_cons.mp hu with rfl | hu
  ·rw [Zrk r f.1];exact ZjK r rx f.1 fx
  ·exact ZfD rx fx t f.2 u' hu
def inV (x:V) (xs:List V):Bool:=xs.any fun y=>eqV y x
def rIn (K:PySem.W.Frag) (neg:Bool):R2:=fun x y H Q=>∃ p xs,y=.ref p∧(SqL K H p xs∨SqT K H p xs)∧ZhV x=true∧xs.all ZhV=true∧Q (.bl (if neg then !inV x xs else inV x xs)) H
theorem ZoW:OpR X (compareOp .In) (rIn X.K false):=by
 intro pins s σ H x y v u Q I rx ry h
 obtain ⟨p,xs,rfl,hq,fx,fs,q⟩:=h
 cases ry
 rcases hq with hq | hq
 ·obtain ⟨its,r,pl,hz⟩:=I.list hq
  refine SeqAt.in_listAt (eqU x) pl.isList (fun w hw=>ZfD rx fx r fs w (by simpa using hw)) ⟨.bl _,H,I,rfl,?_⟩
  rw [show its.toArray.any (eqU x)=its.any (eqU x) by simp,Zhi r fs]
  exact q
 ·obtain ⟨its,r,pl,hz⟩:=I.tuple hq
  refine SeqAt.in_tupleAt (eqU x) pl (fun w hw=>ZfD rx fx r fs w (by simpa using hw)) ⟨.bl _,H,I,rfl,?_⟩
  rw [show its.toArray.any (eqU x)=its.any (eqU x) by simp,Zhi r fs]
  exact q
theorem ZkF:OpR X (compareOp .NotIn) (rIn X.K true):=by
 intro pins s σ H x y v u Q I rx ry h
 obtain ⟨p,xs,rfl,hq,fx,fs,q⟩:=h
 cases ry
 rcases hq with hq | hq
 ·obtain ⟨its,r,pl,hz⟩:=I.list hq
  refine SeqAt.notIn_listAt (eqU x) pl.isList (fun w hw=>ZfD rx fx r fs w (by simpa using hw)) ⟨.bl _,H,I,rfl,?_⟩
  rw [show its.toArray.any (eqU x)=its.any (eqU x) by simp,Zhi r fs]
  exact q
 ·obtain ⟨its,r,pl,hz⟩:=I.tuple hq
  refine SeqAt.notIn_tupleAt (eqU x) pl (fun w hw=>ZfD rx fx r fs w (by simpa using hw)) ⟨.bl _,H,I,rfl,?_⟩
  rw [show its.toArray.any (eqU x)=its.any (eqU x) by simp,Zhi r fs]
  exact q
theorem CallR.or {f:Value} {r r':List V→Hp→VK→Prop} (h:CallR X f r) (h':CallR X f r'):CallR X f (fun xs H Q=>r xs H Q∨r' xs H Q):=by
 intro pins s σ H xs us Q I rs q
 rcases q with q | q
 ·exact h pins s σ H xs us Q I rs q
 ·exact h' pins s σ H xs us Q I rs q
theorem ZkD:CallR X (.type "list") (fun xs H Q=>∃ p ys,xs=[.ref p]∧(SqL X.K H p ys∨SqT X.K H p ys)∧∀ l,H l=none→Q (.ref l) (upd H l (.lst ys))):=by
 intro pins s σ H xs us Q I r h
 obtain ⟨p,ys,rfl,hq,q⟩:=h
 obtain ⟨u,rfl,rx⟩:=ZjT r
 cases rx
 have fin:∀ (its:List Value),Vals ys its→ys.length≤sizeLine→∀ (h':Heap) (c':Nat),(∀ b o',s.heap.get? b=some o'→h'.get? b=some o') →
   h'.get? s.heap.objs.size=some { cls:=.type "list",dict:=none,data:=.seq its.toArray c',slots:=#[] }→EP X pins σ Q (.ref s.heap.objs.size) { s with heap:=h' }:=fun its r' hz h' c' kp e =>
  ⟨.ref s.heap.objs.size,_,I.laid (t':=s.toks) kp (Nat.le_refl _) (show ObjOk X.prog X.w _ h' _ (.lst ys) from ⟨hz,its,c',r',e⟩),rfl,q _ (I.hok.fresh (Nat.le_refl _))⟩
 rcases hq with hq | hq
 ·obtain ⟨its,r',pl,hz⟩:=I.list hq
  have hlen:=r'.length
  obtain ⟨o,ho,hc,n,hd⟩:=pl.isList
  exact call_list_seq p (.inl rfl) ho hc hd (fun h' c' kp e=>fin its r' hz h' c' kp e) (by simp only [List.size_toArray] <;> omega)
 ·obtain ⟨its,r',pl,hz⟩:=I.tuple hq
  have hlen:=r'.length
  obtain ⟨o,ho,hc,n,hd⟩:=pl
  exact call_list_seq p (.inr rfl) ho hc hd (fun h' c' kp e=>fin its r' hz h' c' kp e) (by simp only [List.size_toArray] <;> omega)
theorem Zjd:CallR X (.type "tuple") (fun xs H Q=>∃ p ys,xs=[.ref p]∧((SqL X.K H p ys∧∀ l,H l=none→Q (.ref l) (upd H l (.tup ys)))∨(SqT X.K H p ys∧Q (.ref p) H))):=by
 intro pins s σ H xs us Q I r h
 obtain ⟨p,ys,rfl,h⟩:=h
 obtain ⟨u,rfl,rx⟩:=ZjT r
 cases rx
 rcases h with ⟨hq,q⟩ | ⟨hq,q⟩
 ·obtain ⟨its,r',pl,hz⟩:=I.list hq
  have hlen:=r'.length
  refine call_tuple_list pl.isList (fun h' kp=>?_) (by simp only [List.size_toArray] <;> omega)
  have I1:Inv X pins σ H { s with heap:=h' }:=I.kept (t':=s.toks) kp
  have I2:Inv X pins σ (upd H h'.objs.size (.tup ys)) { s with heap:=h'.push { cls:=.type "tuple",data:=.seq its.toArray } } :=
   I1.laid (t':=s.toks) (fun b o e=>Heap.get?_push_of_some _ e) (Nat.le_refl _) (show ObjOk X.prog X.w _ _ _ (.tup ys) from ⟨hz,its,r',IsTup.new _ _⟩)
  exact ⟨.ref h'.objs.size,_,I2,rfl,q _ (I1.hok.fresh (Nat.le_refl _))⟩
 ·obtain ⟨its,r',pl,hz⟩:=I.tuple hq
  exact call_tuple_same pl ⟨.ref p,H,I,rfl,q⟩
def tyV (K:PySem.W.Frag) (T:String) (x:V) (H:Hp):Prop:=match x with
 | .str _=>T="str"
 | .int _=>T="int"
 | .ref p=>(T="list"∧∃ xs,SqL K H p xs)∨(T="tuple"∧∃ o,K.lookup p=some o∧o.cls=.type "tuple"∧o.dict=none) ∨
   (T="dict"∧((∃ kvs,H p=some (.dK kvs))∨∃ kvs,H p=some (.dT kvs)))∨(T="set"∧∃ S n,H p=some (.set S n))
 | _=>False
theorem ZvQ {pins:List (Addr×Obj)} {σ:St} {H:Hp} {s:Shared} {T:String} {x:V} {v:Value} (I:Inv X pins σ H s) (r:RelV x v) (ty:tyV X.K T x H) :
  s.TypeIs v T∧∀ a,v=.ref a→∃ ob,s.heap.get? a=some ob∧ob.dict=none:=by
 cases x with
 | str z =>
  obtain ⟨t,rfl⟩:=r
  cases (show T="str" from ty)
  exact ⟨typeIs_str s z t,fun _ e=>nomatch e⟩
 | int i =>
  obtain ⟨t,rfl⟩:=r
  cases (show T="int" from ty)
  exact ⟨typeIs_int s i t,fun _ e=>nomatch e⟩
 | ref p =>
  cases r
  rcases ty with ⟨rfl,xs,hq⟩ | ⟨rfl,o,hk,hc,hd⟩ | ⟨rfl,hk⟩ | ⟨rfl,S,n,hk⟩
  ·obtain ⟨its,_,pl,_⟩:=I.list hq
   refine ⟨pl.isList.typeIs,fun a e=>?_⟩
   cases e
   obtain ⟨o,n,e,c,hd,_⟩:=pl
   exact ⟨o,e,hd⟩
  ·refine ⟨⟨o,I.kIn p o hk,hc⟩,fun a e=>?_⟩
   cases e
   exact ⟨o,I.kIn _ o hk,hd⟩
  ·have z:∃ o,s.heap.get? p=some o∧o.ExactDict:=by
    rcases hk with ⟨kvs,hk⟩ | ⟨kvs,hk⟩
    ·obtain ⟨_,_,_,_,o,_,_,e,ex,_⟩:=I.hok p _ hk
     exact ⟨o,e,ex⟩
    ·obtain ⟨_,_,_,_,o,_,_,e,ex,_⟩:=I.hok p _ hk
     exact ⟨o,e,ex⟩
   obtain ⟨o,e,ex⟩:=z
   refine ⟨⟨o,e,ex.1⟩,fun a e2=>?_⟩
   cases e2
   exact ⟨o,e,ex.2.1⟩
  ·obtain ⟨o,_,_,_,e,ex,_⟩:=I.hok p _ hk
   refine ⟨⟨o,e,ex.1⟩,fun a e2=>?_⟩
   cases e2
   exact ⟨o,e,ex.2.1⟩
 | _=>exact False.elim ty
def tBM (K:PySem.W.Frag) (T:String) (r:V→List V→Hp→VK→Prop) (to:TE) (t:TA):TE:=fun σ H Q=>to σ H fun x H1=>tyV K T x H1∧t σ H1 fun xs H2=>r x xs H2 Q
variable {o e:Expr} {es:List Expr} {to:TE} {t:TA} {name:Str} {apos cpos:Pos} {T id:String} {r:V→List V→Hp→VK→Prop}
theorem ZwE (pa:PlainAttrs T) (slot:Slot T name id) (hty:typeOf (.builtin id)=pure (.type "method_descriptor")) (hm:MtR X id r) (ho:PE X o to) (ha:PA X (e::es) t)
  (hbase:attributeBase o name X.env (eval o X.env)=eval o X.env:=by rfl)
  (hfew:((backTo cpos (starEach (e::es) X.env)).all (fun x=>!x.1)&&(backToKw cpos (keywordEach [] X.env)).all (fun x=>x.1.isSome)
   && decide ((e::es).length+([]:List Keyword).length+(if ([]:List Keyword).isEmpty then 0 else 1) < 30))=true:=by rfl)
  (hline:(apos.endLine==cpos.line)=true:=by rfl) (hs:starEach (e::es) X.env=(false,eval e X.env)::starEach es X.env:=by rfl) (hplain:(backTo cpos (starEach es X.env)).any (·.1)=false:=by rfl) :
  PE X (.Call (.Attribute o name apos) (e::es) [] cpos) (tBM X.K T r to t):=by
 intro pins s σ H Q I h
 refine wpAny_Call_method_late hbase hfew hline rfl (thn (ho pins s σ H _ I h) fun v s1 zz51=>?_)
 obtain ⟨x,H1,I1,r1,ty,q1⟩:=zz51
 obtain ⟨h1,h2⟩:=ZvQ I1 r1 ty
 refine ⟨T,id,pa,slot,hty,h1,h2,?_⟩
 have hA:=ha cpos pins s1 σ H1 _ I1 q1
 rw [hs] at hA ⊢
 refine Calls.callWith_builtin (by show (false||(backTo cpos (starEach es X.env)).any (·.1))=false;rw [hplain] <;> rfl) (Calls.evalArgs_plain ?_)
 exact thn hA (by rintro us s2 ⟨vs,H2,I2,r2,q2⟩;exact hm pins s2 σ H2 x vs v us Q I2 r1 r2 q2)
end
end L2
namespace L2
open PySem PySem.Spec PyProof.Rows
def MtM (X:Cx) (id:String) (r:V→List V→Hp→VK→Prop):Prop :=
 ∀ (pins:List (Addr×Obj)) (s:Shared) (σ:St) (H:Hp) (x:V) (xs:List V) (v:Value) (us:List Value) (Q:VK),Inv X pins σ H s→RelV x v→Vals xs us→r x xs H Q →
  wpAny (model X.prog X.w) X.A (call (.builtin id) (v::us)) (EP X pins σ Q) X.xe s
theorem Vals.one:∀ {x:V} {us:List Value},Vals [x] us→∃ u,us=[u]∧RelV x u
 | _,_,.cons r .nil=>⟨_,rfl,r⟩
theorem Vals.two:∀ {x y:V} {us:List Value},Vals [x,y] us→∃ u v,us=[u,v]∧RelV x u∧RelV y v
 | _,_,_,.cons r (.cons q .nil)=>⟨_,_,rfl,r,q⟩
theorem Vals.zero:∀ {us:List Value},Vals [] us→us=[]
 | _,.nil=>rfl
theorem Vals.eraseIdx:∀ {xs:List V} {us:List Value} (i:Nat),Vals xs us→Vals (xs.eraseIdx i) (us.eraseIdx i)
 | _,_,_,.nil=>.nil
 | _,_,0,.cons _ t=>t
 | _,_,i+1,.cons r t=>.cons r (Vals.eraseIdx i t)
section
variable {X:Cx} {pins:List (Addr×Obj)} {σ:St} {H:Hp} {s:Shared} {l b:Addr} {xs ys zs:List V}
theorem Inv.lset {its its':List Value} {n:Nat} {f:Array Value→Array Value} {t':Nat} (I:Inv X pins σ H s) (hH:H l=some (.lst xs))
  (e:s.heap.get? l=some { cls:=.type "list",data:=.seq its.toArray n }) (hf:f its.toArray=its'.toArray) (hv:Vals ys its') (hz:ys.length≤sizeLine) :
  Inv X pins σ (upd H l (.lst ys)) { s with heap:=s.heap.update l (Obj.mapSeq f),toks:=t' }:=by
 have q:=PySem.IsL.update e f
 rw [hf] at q
 refine I.write (x:=l) (e:=l) (by rw [hH];exact trivial) (.inl rfl) (fun b' u hb hu=>(Heap.get?_update_other s.heap (Obj.mapSeq f) (Ne.symm hb)).trans hu) ⟨_,q⟩ ?_
 exact ⟨hz,its',_,hv,q⟩
theorem Inv.lnew {its:List Value} {t':Nat} (I:Inv X pins σ H s) (hv:Vals ys its) (hz:ys.length≤sizeLine) :
  Inv X pins σ (upd H s.heap.objs.size (.lst ys)) { s with heap:=s.heap.push { cls:=.type "list",data:=.seq its.toArray },toks:=t' } :=
 I.laid (fun _ _ q=>Heap.get?_push_of_some _ q) (Nat.le_refl _) ⟨hz,its,0,hv,Heap.get?_push_size _ rfl⟩
theorem Inv.fresh (I:Inv X pins σ H s):H s.heap.objs.size=none:=I.hok.fresh (Nat.le_refl _)
theorem Inv.lstM (I:Inv X pins σ H s) (hH:H l=some (.lst xs)):xs.length≤sizeLine∧∃ (its:List Value) (n:Nat),Vals xs its∧xs.length=its.length∧s.heap.get? l=some { cls:=.type "list",data:=.seq its.toArray n }:=by
 obtain ⟨z,its,n,r,e⟩:=I.hok l _ hH
 exact ⟨z,its,n,r,r.length,e⟩
theorem Zqp {n:Nat} (h:n≤sizeLine):Builtin.List.listTooLong n=false:=by
 unfold Builtin.List.listTooLong
 exact decide_eq_false (by omega)
end
section
variable {X:Cx}
def Zsb:V→List V→Hp→VK→Prop:=fun x vs H Q=>∃ l xs y,x=.ref l∧vs=[y]∧H l=some (.lst xs)∧xs.length < sizeLine∧Q .non (upd H l (.lst (xs++[y])))
theorem ZoS:MtM X "list.append" Zsb:=by
 intro pins s σ H x vs v us Q I rx rv h
 obtain ⟨l,xs,y,rfl,rfl,hH,hz,q⟩:=h
 cases rx
 obtain ⟨u,rfl,ru⟩:=rv.one
 obtain ⟨z,its,n,r,hl,e⟩:=I.lstM hH
 refine call_meets F.slot_list_append ⟨_,e,rfl⟩ F.entry_list_append (F.args_list_append_2 _ _) (PySem.list_append l its.toArray n u (by rw [List.size_toArray];omega)) ⟨e,?_⟩
 refine ⟨.non,_,I.lset (its':=its++[u]) hH e (by simp) (r.append (.cons ru .nil)) ?_,rfl,q⟩
 rw [List.length_append,List.length_singleton]
 omega
def Zs6:V→List V→Hp→VK→Prop:=fun x vs H Q=>∃ l b xs zs,x=.ref l∧vs=[.ref b]∧H l=some (.lst xs)∧H b=some (.lst zs)∧xs.length+zs.length≤sizeLine∧Q .non (upd H l (.lst (xs++zs)))
theorem Zo3:MtM X "list.extend" Zs6:=by
 intro pins s σ H x vs v us Q I rx rv h
 obtain ⟨l,b,xs,zs,rfl,rfl,hH,hB,hz,q⟩:=h
 cases rx
 obtain ⟨u,rfl,ru⟩:=rv.one
 cases ru
 obtain ⟨z,its,n,r,hl,e⟩:=I.lstM hH
 obtain ⟨z2,its2,n2,r2,hl2,e2⟩:=I.lstM hB
 have hsz:its.toArray.size+its2.toArray.size≤sizeLine:=by rw [List.size_toArray,List.size_toArray];omega
 have hlong:¬ (!its.toArray.isEmpty&&Builtin.List.listTooLong (its.toArray.size+its2.toArray.size))=true:=by
  rw [Zqp hsz,Bool.and_false]
  exact Bool.false_ne_true
 refine call_meets F.slot_list_extend ⟨_,e,rfl⟩ F.entry_list_extend (F.args_list_extend_2 _ _)
  (AutoSeq1.list_extend_list_list_0 l its.toArray n b its2.toArray n2 hlong (by rw [List.size_toArray];omega) (by omega)) ⟨e,e2,?_⟩
 refine ⟨.non,_,I.lset (its':=its++its2) hH e (by simp) (r.append r2) ?_,rfl,q⟩
 rw [List.length_append]
 omega
def Zus:R2:=fun x y H Q=>∃ l b xs zs,x=.ref l∧y=.ref b∧H l=some (.lst xs)∧H b=some (.lst zs)∧xs.length+zs.length≤sizeLine∧∀ p,H p=none→Q (.ref p) (upd H p (.lst (xs++zs)))
theorem Zt4:OpR X (binaryOp .Add) Zus:=by
 intro pins s σ H x y v u Q I rx ry h
 obtain ⟨l,b,xs,zs,rfl,rfl,hH,hB,hz,q⟩:=h
 cases rx
 cases ry
 obtain ⟨z,its,n,r,hl,e⟩:=I.lstM hH
 obtain ⟨z2,its2,n2,r2,hl2,e2⟩:=I.lstM hB
 refine PySem.P.add_list e e2 ?_ (by rw [List.size_toArray,List.size_toArray];omega)
 have ea:its.toArray++its2.toArray=(its++its2).toArray:=by simp
 rw [ea]
 exact ⟨.ref _,_,I.lnew (t':=s.toks) (r.append r2) (by rw [List.length_append];omega),rfl,q _ I.fresh⟩
end
section
variable {prog:Program} {w:World} {A:Around} {E:Value→Shared→Prop} {s:Shared}
end
section
variable {X:Cx}
end
end L2
namespace Att
open PySem PySem.W PySem.Calls PyProof.Rows
theorem Zhl {P:Params} {h:Heap}:∀ (ns:List Int) (vs:List Value),WellAll P h vs (ns.map WData.int)→IntsAre vs ns:=by
 intro ns
 induction ns with
 | nil =>
  intro vs w
  rw [List.map_nil] at w
  cases w
  exact .nil
 | cons n ns ih =>
  intro vs w
  rw [List.map_cons] at w
  cases w with
  | cons a b =>
   cases a
   exact .cons _ _ (ih _ b)
theorem ZoF {l:OpenLaw} {n:Nat} (hn:l.most=some n) {P:Params} {h:Heap} {args:List WData} {vals:List Value}
  (hpre:l.row.toRowW.claim.pre args=true) (hwl:WellAll P h vals args) :
  ∃ a vs ns,vals=[Value.ref a]∧args=[WData.list (ns.map WData.int)]∧h.get? a=some { cls:=.type "list",data:=.seq vs.toArray }∧IntsAre vs ns∧ns.length≤n:=by
 have hsh:WShape.hasAll [] args [.list .int]=true:=(pre_splitW hpre).1
 have hc:l.pre.holds [] { args:=args }=true:=(pre_splitW hpre).2
 obtain ⟨d,r,rfl,h1,h2⟩:=hasAllW_cons hsh
 obtain rfl:=hasAllW_nil h2
 obtain ⟨xs,rfl,h3⟩:=hasW_list h1
 obtain ⟨ns,rfl⟩:=items_int h3
 have hlen:ns.length≤n:=by
  unfold OpenLaw.pre at hc
  have h4:(WTm.not (.lt (.lit (.int (n:Int))) (.len (.arg 0)))).holds [] { args:=[.list (ns.map .int)] }=true:=by
   have h4:=(holds_andW hc).1
   rw [hn] at h4
   exact h4
  have h5:=condW_of h4 (w_not (w_lt w_lit (w_len_list (w_arg rfl))))
  rw [List.length_map] at h5
  refine Nat.le_of_not_lt fun q=>?_
  have q':(n:Int) < ((ns.length:Nat):Int):=by omega
  first
   | (rw [decide_eq_true q'] at h5;exact absurd h5 (by decide))
   | (simp at h5;omega)
 cases hwl with
 | cons w1 w2 =>
  cases w2
  cases w1 with
  | list ho hall=>exact ⟨_,_,ns,rfl,rfl,ho,Zhl ns _ hall,hlen⟩
theorem Znn (l:OpenLaw) (args:List WData):l.row.toRowW.claim.post args (.bool true) args=true :=
 postW_of (r:=l.row.toRowW) (X:=(true==true))
  (show WShape.has [] (.bool true) .bool=true by first | rfl | decide | simp [WShape.has,WShape.arms,WShape.armsAll])
  (show (WTm.eq .res (.lit (.bool true))).value [] { args:=args,res:=some (.bool true),after:=args }=some (.bool (true==true)) from w_eq_bool (w_res rfl) w_lit) rfl
theorem attach_call {l:OpenLaw} {n:Nat} {q:Program} {loose:List Str} {XP:(Str→Option Value)→Heap→Prop} {YP:World→Heap→Prop} {d:DefRec}
  (hn:l.most=some n) (hdf:d.params.defaults=[])
  (call:∀ (w:World) (s₀ s₁:Shared) (mg mb:Str→Option Value) (fa:Addr) (o:Obj) (pm cd doc:Value) (a:Addr) (vs:List Value) (ns:List Int),
   Ground q loose [] XP w s₀ mg mb s₁.heap→YP w s₁.heap →
   s₁.heap.get? fa=some o→o.data=.func (docDef d.name d.params d.body d.scope pm cd doc)→s₁.heap.CodeRec cd d.name→mg d.name=some (.ref fa) →
   s₁.heap.get? a=some { cls:=.type "list",data:=.seq vs.toArray }→IntsAre vs ns→ns.length≤n→s₁.gens=#[] →
   codeAny (model l.prog w) callerA (.call (.ref fa) ⟨[.ref a],[]⟩) (fun r s'=>r=.ok (.ret (.bool true))∧OldK s₁.heap s'.heap∧s'.os=s₁.os∧AllBare s'.gens) s₁) :
  WalkO q loose XP YP l.row.toRowW d [] (fun f vs=>PySem.call f vs):=by
 intro w s₀ s₁ mg mb G Y fa o pm cd doc dV kV ho hd hcd hD hmg hg args vals as hpre hlay hrd hwl hlo
 obtain rfl:dV=.none:=Dflts.none hD hdf
 obtain rfl:kV=.none:=Dflts.noKw hD
 obtain ⟨a,vs,ns,rfl,rfl,hobj,hints,hlen⟩:=ZoF hn hpre hwl
 refine enter_call (codeAny_mono (call w s₀ s₁ mg mb fa o pm cd doc a vs ns G Y ho (fd_plain hd) hcd hmg hobj hints hlen hg) fun r s' hq=>?_)
 obtain ⟨rfl,h2,h3,h4⟩:=hq
 exact ⟨.inl ⟨.bool true,.bool true,[],rfl,fun _=>rfl,.bool true,Znn l _,fun _=>⟨List.Pairwise.nil,fun _ hm=>(nomatch hm)⟩⟩,h2,h3,h4⟩
section
variable {prog:Program} {w:World} {A:Around} {E:Value→Shared→Prop} {s:Shared} {K:Frag}
end
end Att
namespace L2
open PySem PySem.Spec PyProof.Rows
theorem ZjA:∀ {vs:List Value} {ns:List Int},IntsAre vs ns→Vals (ns.map V.int) vs
 | _,_,.nil=>.nil
 | _,_,.cons n t h=>.cons ⟨t,rfl⟩ (ZjA h)
def Zv8 (H:Hp):Prop:=∀ b,H b=none∨∃ o xs,H b=some (.frz o (.lst xs))
theorem Zqq {P:Program} {w:World} {K:PySem.W.Frag} {mg mb:Str→Option Value} {CX:CXT} {k:Nat} {fa a:Addr} {fd:FuncData} {x:Str} {sp:Sp} {s₁:Shared} {vs:List Value} {ns:List Int}
  (KX:K.In s₁.heap) (hns:s₁.heap.Ns mainGlobals mg) (hb:s₁.heap.Ns builtinsNs mb) (hbb:∀ x:Str,x≠"__name__"→mb x=bootBuiltins x) (hlim:s₁.heap.NoLimit) (hg:s₁.gens=#[])
  (ha:s₁.heap.get? a=some { cls:=.type "list",data:=.seq vs.toArray }) (hi:IntsAre vs ns) (hl:ns.length≤sizeLine) (hr:Room k callerA)
  (F:∀ base:Heap,K.In base→base.Ns mainGlobals mg→FnOk P w K mg base CX k fa fd [x] sp) (hbind:∀ (s:Shared) (u:Value),BindsTo s fd ⟨[u],[]⟩ [(x,u)])
  (hsp:∀ H:Hp,Zv8 H→SqL K H a (ns.map V.int)→sp [.ref a] H (fun v _=>v=.bl true) fun _ _ _=>False)
  (hCX:∀ H e s',CX [] H s₁ (fun _ _ _=>False) e s'→False) :
  codeAny (model P w) callerA (.call (.ref fa) ⟨[.ref a],[]⟩) (fun r s'=>r=.ok (.ret (.bool true))∧OldK s₁.heap s'.heap∧s'.os=s₁.os∧AllBare s'.gens) s₁:=by
 have rv:=ZjA hi
 have lenV:=hi.length
 have core:∀ H:Hp,Zv8 H→SqL K H a (ns.map V.int)→HOk P w H s₁.heap→(∀ b,H b≠none→b=a)→(H a≠none→K.lookup a=none) →
   codeAny (model P w) callerA (.call (.ref fa) ⟨[.ref a],[]⟩) (fun r s'=>r=.ok (.ret (.bool true))∧OldK s₁.heap s'.heap∧s'.os=s₁.os∧AllBare s'.gens) s₁:=by
  intro H hO hS hok hA hK
  have base_of:∀ {b:Addr} {o:Obj},s₁.heap.get? b=some o→H b=none→(ZqE s₁.heap H).get? b=some o:=fun e n=>Zrd e n
  have noA:∀ {b:Addr} {o:Obj} {es:Array DictEntry} {ep:Nat},s₁.heap.get? b=some o→o.data=.dict es ep→H b=none:=fun {b o es ep} e d=>by
   cases q:H b with
   | none=>rfl
   | some u =>
    have e':b=a:=hA b (by rw [q];simp)
    subst e'
    rw [ha] at e;cases e
    have d':Data.seq vs.toArray _=Data.dict es ep:=d
    cases d'
  have nsK:∀ {b:Addr} {m:Str→Option Value},s₁.heap.Ns b m→(ZqE s₁.heap H).Ns b m:=fun {b m} ⟨o,es,ep,e,d,r⟩=>⟨o,es,ep,base_of e (noA e d),d,r⟩
  have hKb:K.In (ZqE s₁.heap H):=fun b o e=>base_of (KX b o e) (by
   cases q:H b with
   | none=>rfl
   | some u =>
    have e':b=a:=hA b (by rw [q];simp)
    subst e'
    rw [hK (by rw [q];simp)] at e;cases e)
  have hM:Mod K mg (ZqE s₁.heap H):=⟨hKb,nsK hns,⟨mb,nsK hb,hbb⟩,let ⟨mc,h1,h2⟩:=hlim;⟨mc,nsK h1,h2⟩⟩
  have e0:Env0 P w K mg (ZqE s₁.heap H) callerA [] s₁ H:=⟨rfl,hM,fun b o e=>Ztd e,Nat.le_of_eq (Zny _ _),trivial,fun b hb=>absurd (show b∈([]:List Addr) from hb) (by simp),hok,.of_eq hg⟩
  refine codeAny_mono ((F _ hKb (nsK hns)).run callerA [] s₁ H ⟨[.ref a],[]⟩ [.ref a] [.ref a] _ _ hr e0 (hbind s₁ (.ref a)) (.cons rfl .nil) (hsp H hO hS)) fun r s' h=>?_
  cases r with
  | error e=>exact (hCX H e s' h).elim
  | ok fl =>
   cases fl with
   | next=>exact False.elim h
   | brk=>exact False.elim h
   | cont=>exact False.elim h
   | ret u =>
    obtain ⟨v,H',os,bare,un,hok',r',q⟩:=h
    have q':v=.bl true:=q
    subst q'
    obtain rfl:u=Value.bool true:=r'
    refine ⟨rfl,OldK.of_keep fun b o e=>?_,os,bare⟩
    cases q:H b with
    | none=>exact un.keep b o e q (by intro z;exact absurd (show b∈([]:List Addr) from z) (by simp)) (by simp)
    | some u =>
     rcases hO b with z | ⟨ob,xs,z⟩
     ·rw [q] at z;cases z
     ·have z2:=un.frzs b ob _ z
      obtain ⟨e1,_⟩:=hok b _ z
      obtain ⟨e2,_⟩:=hok' b _ z2
      rw [e] at e1;cases e1
      exact e2
 cases hk:K.lookup a with
 | some o =>
  have e:=KX a o hk
  rw [ha] at e
  cases e
  refine core (fun _=>none) (fun _=>.inl rfl) (.inr ⟨_,vs.toArray,_,hk,rfl,rfl,rfl,by rw [List.size_toArray,lenV];exact hl,by simpa using rv⟩) (fun b u z=>by have z':(none:Option HO)=some u:=z;cases z') (fun b z=>absurd rfl z) fun z=>absurd rfl z
 | none =>
  refine core (fun b=>if b=a then some (.frz { cls:=.type "list",data:=.seq vs.toArray } (.lst (ns.map V.int))) else none) (fun b=>?_) (.inl (.inr ⟨{ cls:=.type "list",data:=.seq vs.toArray },if_pos rfl⟩)) (fun b u z=>?_) (fun b z=>?_) fun _=>hk
  ·by_cases hb:b=a
   ·exact .inr ⟨_,_,if_pos hb⟩
   ·exact .inl (if_neg hb)
  ·by_cases hb:b=a
   ·have z':=(if_pos hb).symm.trans z
    cases z'
    subst hb
    exact ⟨ha,by rw [List.length_map];exact hl,vs,_,rv,ha⟩
   ·have z':=(if_neg hb).symm.trans z
    cases z'
  ·by_cases hb:b=a
   ·exact hb
   ·exact absurd (if_neg hb) z
end L2
namespace L2
open PySem PySem.Spec PyProof.Rows
abbrev KOf {K:PySem.W.Frag} {h:Heap} (_:K.In h):PySem.W.Frag:=K
theorem ZtG {l:PySem.W.OpenLaw} {n k:Nat} {q:Program} {loose:List Str} {XP:(Str→Option Value)→Heap→Prop} {YP:World→Heap→Prop} {d:DefRec} {K:Params→PySem.W.Frag} {CX:World→CXT} {sp:World→Sp} {x:Str}
  (hn:l.most=some n) (hn2:n≤sizeLine) (hdf:d.params.defaults=[]) (hr:Room k callerA)
  (hY:∀ (w:World) (h:Heap),YP w h→(K w.params).In h)
  (F:∀ (w:World) (mg:Str→Option Value) (fa:Addr) (h:Heap),(K w.params).In h→h.Ns mainGlobals mg→mg d.name=some (.ref fa) →
   ∃ fd:FuncData,(∀ (s:Shared) (u:Value),BindsTo s fd ⟨[u],[]⟩ [(x,u)]) ∧
    ∀ base:Heap,(K w.params).In base→base.Ns mainGlobals mg→FnOk l.prog w (K w.params) mg base (CX w) k fa fd [x] (sp w))
  (hsp:∀ (w:World) (H:Hp) (a:Addr) (ns:List Int),ns.length≤n→Zv8 H→SqL (K w.params) H a (ns.map V.int)→sp w [.ref a] H (fun v _=>v=.bl true) fun _ _ _=>False)
  (hCX:∀ (w:World) (H:Hp) (s:Shared) (e:Value) (s':Shared),CX w [] H s (fun _ _ _=>False) e s'→False) :
  PySem.W.WalkO q loose XP YP l.row.toRowW d [] (fun f vs=>PySem.call f vs):=by
 refine Att.attach_call hn hdf fun w s₀ s₁ mg mb fa o pm cd doc a vs ns G Y ho hd hcd hmg hobj hints hlen hg=>?_
 have KX:=hY w _ Y
 obtain ⟨fd,hb,hF⟩:=F w mg fa _ KX G.T.g hmg
 exact Zqq KX G.T.g G.T.b G.T.builtins G.T.nolimit hg hobj hints (Nat.le_trans hlen hn2) hr hF hb (fun H hO hS=>hsp w H a ns hlen hO hS) fun H e s'=>hCX w H s₁ e s'
end L2
namespace L2
open PySem PySem.Spec PyProof.Rows
abbrev CX0:CXT:=fun _ _ _ _ _ _=>False
structure Fun (K:PySem.W.Frag) (x qual:Str) (st:Stmt) (f:Addr) (fd:FuncData):Prop where
 ex:∃ (oc:Value) (od:Option Addr) (kV doc pm:Value) (an:Option Addr) (cdv ct:Value) (osl:Array (Option Value)),
  fd=PySem.W.fnOf x qual (Zfd st) (Zaz st) (Zac st) .none kV doc pm an cdv ct∧K.lookup f=some ⟨oc,od,.func fd,osl⟩∧PySem.W.codeIn K cdv qual=true
 kp:PySem.W.keepIn K (.ref f)=true
section
variable {P:Program} {w:World} {K:PySem.W.Frag} {mg:Str→Option Value} {base:Heap}
theorem Fun.ok {x qual:Str} {st:Stmt} {f:Addr} {fd:FuncData} {N ps:List Str} {k:Nat} {sp:Sp} (F:Fun K x qual st f fd) (S:ZaD N ps (Zac st)) (len:∀ vs H Q E,sp vs H Q E→vs.length=ps.length)
  (hbody:∀ (cdv:Value) (A:Around) (outer:List Env) (s:Shared) (H:Hp) (vs:List V) (Q:VK) (E:XK),Room k (A.deeper (envOfC qual (Zac st) s.heap.objs.size f cdv))→sp vs H Q E →
   ∃ t,PSs (Zsh CX0 P w K mg base N qual (Zac st) f cdv A outer s H E).nox (Zaz st) t∧t { nx:=fun _ H'=>Q .non H',rt:=Q } (Zg2 N vs) H):FnOk P w K mg base CX0 (k+1) f fd ps sp:=by
 obtain ⟨oc,od,kV,doc,pm,an,cdv,ct,osl,rfl,lk,hcd⟩:=F.ex
 refine ZsX lk hcd S len fun A outer s H vs Q E hr hsp=>?_
 obtain ⟨t,h,q⟩:=hbody cdv A outer s H vs Q E hr hsp
 exact ⟨t,h.nox,q⟩
theorem Fun.binds {x qual:Str} {st:Stmt} {f:Addr} {fd:FuncData} {ps:List Str} (F:Fun K x qual st f fd)
  (h:∀ (kV doc pm:Value) (an:Option Addr) (cdv ct:Value) (us:List Value),us.length=ps.length→bindArgs (PySem.W.fnOf x qual (Zfd st) (Zaz st) (Zac st) .none kV doc pm an cdv ct) ⟨us,[]⟩=pure (ps.zip us)):Binds K fd ps []:=by
 obtain ⟨oc,od,kV,doc,pm,an,cdv,ct,osl,rfl,lk,hcd⟩:=F.ex
 exact .all (h kV doc pm an cdv ct)
theorem Zrp {x qual:Str} {st:Stmt} {f:Addr} {oc:Value} {od an:Option Addr} {osl:Array (Option Value)} {kV doc pm cdv ct:Value} (l:K.lookup f=some ⟨oc,od,.func (PySem.W.fnOf x qual (Zfd st) (Zaz st) (Zac st) .none kV doc pm an cdv ct),osl⟩)
  (c:PySem.W.codeIn K cdv qual=true) (k:PySem.W.keepIn K (.ref f)=true):Fun K x qual st f (PySem.W.fnOf x qual (Zfd st) (Zaz st) (Zac st) .none kV doc pm an cdv ct):=⟨⟨oc,od,kV,doc,pm,an,cdv,ct,osl,rfl,l,c⟩,k⟩
end
section
variable {X:Cx}
theorem pv (i:Nat) {x:Str} {pos:Pos} (hN:X.N[i]?=some x:=by rfl) (hv:Vis X.env.scope x:=by first | exact Or.inl rfl | exact Or.inr (Or.inl rfl) | exact Or.inr (Or.inr rfl)) (hd:(x==("__debug__":Str))=false:=by decide)
  (hcd:(x==("__classdict__":Str))=false:=by decide):PE X (.Name x pos) (Zxi i):=ZrA hN hv hd hcd
end
theorem ZsV {c A B:Prop} [Decidable c] (h1:c→A) (h2:¬ c→B):if c then A else B:=by
 by_cases h:c
 ·rw [if_pos h]
  exact h1 h
 ·rw [if_neg h]
  exact h2 h
def Same (H H':Hp):Prop:=∀ b o,H b=some o→H' b=some o
theorem Same.refl (H:Hp):Same H H:=fun _ _ h=>h
theorem Same.trans {H H1 H2:Hp} (a:Same H H1) (b:Same H1 H2):Same H H2:=fun c o h=>b c o (a c o h)
theorem Same.free {H H':Hp} (e:Same H H') {l:Addr} (h:H' l=Option.none):H l=Option.none:=by
 cases q:H l with
 | none=>rfl
 | some o =>
  rw [e l o q] at h
  cases h
theorem Same.seq {K:PySem.W.Frag} {H H':Hp} {a:Addr} {xs:List V} (e:Same H H') (h:SqL K H a xs):SqL K H' a xs:=by
 rcases h with (h | ⟨o,h⟩) | h
 ·exact .inl (.inl (e _ _ h))
 ·exact .inl (.inr ⟨o,e _ _ h⟩)
 ·exact .inr h
end L2
set_option Elab.async false
set_option linter.all false
set_option maxRecDepth 100000
set_option maxHeartbeats 4000000
namespace L2
open PySem PySem.Spec PyProof.Rows
section
variable {prog:Program} {w:World} {A:Around} {R:Result→Shared→Prop} {s:Shared}
theorem Zfk {elt target iter:Expr} {ifs:List Expr} {scope:Scope} {pos:Pos} {it acc:Value} {env:Env} {E':Value→Shared→Prop} (I:Nat→Shared→Prop)
  (hE:∀ e s',E' e s'→notedBy (model prog w) A env (fun e s'=>R (.error e) s') e s')
  (turn:∀ n s,I n s→wpAny (model prog w) A (pyNext it) (fun r s₁=>match r with
   | none=>R (.ok .next) s₁
   | some v=>wpAny (model prog w) A (letOwnedTupleGo target it v) (fun _ s₁'=>wpAny (model prog w) A (assign target env v) (fun _ s₂ =>
     wpAny (model prog w) A (forIn ifs true fun c r=>if r=true then do let ok ← isTrue c env (eval c env);pure (ForInStep.yield ok) else pure (ForInStep.yield r)) (fun ok s₃ =>
      if ok=true then wpAny (model prog w) A (eval elt env) (fun x s₄ =>
       wpAny (model prog w) A (call (.builtin "list.append") [acc,x]) (fun _ s₅=>∃ m,m < n∧I m s₅) E' s₄) E' s₃
      else ∃ m,m < n∧I m s₃) E' s₂) E' s₁') E' s₁) E' s)
  (n:Nat) (h:I n s) :
  codeAny (model prog w) A (.compLoop (.ListComp elt [⟨target,iter,ifs,0⟩] scope pos) 0 it acc env) R s:=by
 refine codeAny_loop rfl I (fun n s hI=>?_) n h
 show wpAny _ A ((compTurn (.ListComp elt [⟨target,iter,ifs,0⟩] scope pos) 0 it acc env).onRaise (fun x=>do noteFrame x env;theTreesLotGoes x)) _ _ s
 refine wpAny_noted ?_
 rw [compTurn_list]
 refine wpAny_bind (wpAny_standAt (wpAny_bind (wpAny_mono (turn n s hI) (fun r s₁ h₁=>?_) hE)))
 cases r with
 | none=>exact wpAny_pure h₁
 | some v =>
  refine wpAny_bind (wpAny_mono h₁ (fun _ s₁' h₁'=>?_) hE)
  refine wpAny_bind (wpAny_mono h₁' (fun _ s₂ h₂=>wpAny_bind (wpAny_mono h₂ (fun ok s₃ h₃=>?_) hE)) hE)
  cases ok with
  | false=>exact wpAny_pure ⟨rfl,h₃⟩
  | true =>
   exact wpAny_bind (wpAny_bind (wpAny_mono h₃ (fun x s₄ h₄=>wpAny_bind (wpAny_mono h₄ (fun _ s₅ h₅=>wpAny_pure (wpAny_pure ⟨rfl,h₅⟩)) hE)) hE))
end
def PF (X:Cx) (ifs:List Expr) (t:TT):Prop :=
 ∀ (pins:List (Addr×Obj)) (s:Shared) (σ:St) (H:Hp) (Q:Bool→Hp→Prop),Inv X pins σ H s→t σ H Q →
  wpAny (model X.prog X.w) X.A (forIn ifs true fun c r=>if r=true then do let ok ← isTrue c X.env (eval c X.env);pure (ForInStep.yield ok) else pure (ForInStep.yield r)) (TP X pins σ Q) X.xe s
def ZxE:TT:=fun _ H Q=>Q true H
theorem Zvu {X:Cx}:PF X [] ZxE:=fun _ _ _ H _ I h=>wpAny_tests_nil ⟨H,I,h⟩
def cxB (X:Cx) (Nc:List Str) (scope:Scope) (cl:List (Str×Addr)) (C:Addr) (fp:List Addr) (s:Shared) (H:Hp):Cx :=
 { X with N:=Nc,s₀:=s,H₀:=H,env:=compEnvC scope cl C X.env,outer:=X.stack,ex:=fp,fn:=fun _=>false,pn:=[],xe:=fun _ _=>False }
structure Blk (X:Cx) (Nc:List Str) (scope:Scope) (cl:List (Str×Addr)) (cap:St→St):Prop where
 clos:closureFor scope X.env=pure cl
 kind:scope.kind=.function
 names:∀ x∈scope.names,x.2=.local→scope.names.lookup x.1=some .local
 nocell:∀ y∈scope.names,y.2≠.cell
 sub:∀ y c,cl.lookup y=some c→X.env.cells.lookup y=some c
 has:∀ y,((relabel scope X.env).names.lookup y=some .cell∨(relabel scope X.env).names.lookup y=some .free)→∃ c,cl.lookup y=some c
 take:∀ (σ:St) (i:Nat) (y:Str) (v:V),Nc[i]?=some y→(cap σ)[i]?=some (some v)→Vis (relabel scope X.env) y →
  ((relabel scope X.env).names.lookup y=some .cell∨(relabel scope X.env).names.lookup y=some .free)∧Vis X.env.scope y∧X.env.scope.names.lookup y≠some .local∧∃ j:Nat,X.N[j]?=some y∧σ[j]?=some (some v)
 len:∀ σ:St,(cap σ).length=Nc.length
theorem Zh7 {scope:Scope} {env:Env} (h:∀ y∈scope.names,y.2≠.free):relabel scope env=scope:=by
 unfold relabel
 rw [map_eq_self (l:=scope.names) (fun x hx=>by
  obtain ⟨n,k⟩:=x
  have:(k==NameKind.free)=false:=by simpa using h _ hx
  simp [this])]
theorem Zfg {names:List (Str×NameKind)} {x:Str} {k:NameKind} (h:names.lookup x=some k):(x,k)∈names:=PySem.mem_of_lookup h
theorem ZsZ {X:Cx} {Nc:List Str} {scope:Scope} (kind:scope.kind=.function) (all:∀ y∈scope.names,y.2≠.free∧y.2≠.cell) (names:∀ x∈scope.names,x.2=.local→scope.names.lookup x.1=some .local) :
  Blk X Nc scope [] (fun _=>List.replicate Nc.length none) where
 clos:=closureFor_none fun x hx=>(all x hx).1
 kind:=kind
 names:=names
 nocell:=fun y hy=>(all y hy).2
 sub:=fun y c h=>by cases h
 has:=fun y h=>by
  rw [Zh7 fun z hz=>(all z hz).1] at h
  rcases h with h | h
  ·exact absurd rfl (all _ (Zfg h)).2
  ·exact absurd rfl (all _ (Zfg h)).1
 take:=fun σ i y v h1 h2 h3=>by
  rw [List.getElem?_replicate] at h2
  split at h2 <;> cases h2
 len:=fun σ=>List.length_replicate ..
def cOk (cap:St→St) (g:TG) (tt:TT) (te:TE) (K:List V→Hp→Prop) (σ:St) (J:It) (H1:Hp):Prop :=
 ∃ W:Nat→Nat→St→Hp→List V→Prop,(∃ m,W 0 m (cap σ) H1 [])∧∀ i m σ' H' ys,W i m σ' H' ys →
  (J.stop i H'∧K ys H') ∨
  (J.go i H'∧ys.length < sizeLine∧∃ N:St→Hp→List V→Prop,(∀ σ2 H2 ys2,N σ2 H2 ys2→∃ m',m' < m∧W (i+1) m' σ2 H2 ys2) ∧
   ∀ x H2,J.yld i H' x H2→g x σ' H2 fun σ3 H3=>tt σ3 H3 fun b H4=>if b=true then te σ3 H4 fun y H5=>N σ3 H5 (ys++[y]) else N σ3 H4 ys)
def ZrX (wi:TI) (cap:St→St) (g:TG) (tt:TT) (te:TE):TE:=fun σ H Q=>wi σ H fun J H1=>cOk cap g tt te (fun ys H'=>∀ a,H' a=none→Q (.ref a) (upd H' a (.lst ys))) σ J H1
section
variable {X:Cx} {elt tg iter:Expr} {ifs:List Expr} {scope:Scope} {pos:Pos} {g:TG} {tt:TT} {te:TE} {Nc:List Str} {cap:St→St} {cl:List (Str×Addr)}
theorem ZmK (hc:X.calm=true) (B:Blk X Nc scope cl cap) (hg:∀ C fp s H,PG (cxB X Nc scope cl C fp s H) tg g) (ht:∀ C fp s H,PF (cxB X Nc scope cl C fp s H) ifs tt) (he:∀ C fp s H,PE (cxB X Nc scope cl C fp s H) elt te)
  {pins:List (Addr×Obj)} {σ:St} {H2:Hp} {s2:Shared} {E:Value→Shared→Prop} {RR:Value→Addr→Result→Shared→Prop} {J:It} {fp:List Addr} {it:Addr} {tn:Nat→Heap→Prop} {K:List V→Hp→Prop}
  (I2:Inv X pins σ H2 s2) (T:Zra X.prog X.w X.K tg J fp it tn) (st2:tn 0 s2.heap) (f2:∀ b∈fp,Zoo X pins H2 b) (w2:cOk cap g tt te K σ J H2)
  (fin:∀ (D C:Addr) (s':Shared) (H':Hp) (ys:List V) (oC:Obj),H' D=none→K ys H'→Inv X pins σ (upd H' D (.lst ys)) s'→Zoo X pins (upd H' D (.lst ys)) C→s'.heap.get? C=some oC→(∀ v,oC.data≠.cell v)→(∃ m,s'.heap.Ns C m)→RR (.ref D) C (.ok .next) s') :
  wpAny (model X.prog X.w) X.A (newList []) (fun acc s₃=>wpAny (model X.prog X.w) X.A (newFunctionEnv scope X.env.globals cl [] X.env.qual none .none (some X.env)) (fun cenv s₄ =>
   codeAny (model X.prog X.w) X.A (.compStart (.ListComp elt [⟨tg,iter,ifs,0⟩] scope pos) 0 (.ref it) acc { cenv with scope:=relabel scope X.env }) (RR acc cenv.locals) s₄) E s₃) E s2:=by
 refine wpAny_newObj_type (wpAny_newFunctionEnv B.nocell (by intro y hy;simp at hy) (fun h₁ hns₁ hsb₁=>?_) B.kind)
 dsimp only at hns₁ hsb₁ ⊢
 generalize hP2:s2.heap.push { cls:=.type "list",dict:=none,data:=.seq ([]:List Value).toArray }=P2 at hns₁ hsb₁ ⊢
 generalize hDD:s2.heap.objs.size=D at hns₁ hsb₁ ⊢
 have hCs:P2.objs.size=D+1:=by rw [← hP2,Heap.size_push,hDD]
 generalize hCC:P2.objs.size=C at hns₁ hsb₁ hCs ⊢
 have hDC:D≠C:=Nat.ne_of_lt (by rw [hCs];exact Nat.lt_succ_self _)
 have ltC:∀ b:Addr,b < D→b≠C:=fun b h=>Nat.ne_of_lt (by rw [hCs];exact Nat.lt_succ_of_lt h)
 have leC:D≤C:=by rw [hCs];exact Nat.le_succ _
 have old:∀ b o,s2.heap.get? b=some o→h₁.get? b=some o:=fun b o e=>by
  have hb:=Heap.lt_size e
  rw [hDD] at hb
  refine hsb₁.extBut b o (ltC b hb) (Heap.get?_push_of_some _ ?_)
  rw [← hP2]
  exact Heap.get?_push_of_some _ e
 have hacc:h₁.get? D=some { cls:=.type "list",data:=.seq #[] }:=by
  refine hsb₁.extBut D _ hDC (Heap.get?_push_of_some _ ?_)
  rw [← hP2,← hDD]
  exact Heap.get?_push_size _ rfl
 have lt2:∀ b o,s2.heap.get? b=some o→b < D:=fun b o e=>by rw [← hDD];exact Heap.lt_size e
 have fplt:∀ b∈fp,b < D:=fun b hb=>by
  obtain ⟨o,e,_⟩:=T.obj _ _ st2 b hb
  exact lt2 b o e
 have celt:∀ x c,X.env.cells.lookup x=some c→c < D:=fun x c e=>by
  obtain ⟨v,z⟩:=I2.cell x c e
  rw [← hDD]
  exact z.lt
 have pinlt:∀ p∈X.pn++pins,p.1 < D:=fun p hp=>lt2 _ _ (I2.pin p hp).1
 have fstk:∀ b∈fp,b∉frs X.stack:=fun b hb z=>(List.mem_cons.mp (I2.stkSub b z)).elim (f2 b hb).2.1 (f2 b hb).2.2.1
 have hDn:H2 D=none:=I2.hok.fresh (by rw [hDD];exact Nat.le_refl _)
 have hCn:H2 C=none:=I2.hok.fresh (by rw [hDD];exact leC)
 have sz0:X.s₀.heap.objs.size≤D:=by rw [← hDD];exact I2.sz
 let Xc:=cxB X Nc scope cl C fp s2 H2
 have okc:Xc.Ok:=by
  refine ⟨I2.ok.mod,?_,I2.ok.glob,I2.ok.blt,?_,fun x y c h1 h2=>I2.ok.inj x y c (B.sub x c h1) (B.sub y c h2),fun x hx=>B.has x hx,(fun x c h=>by cases h),I2.ok.hd,I2.ok.frames,.inl rfl,?_,I2.bs,Nat.le_trans I2.ok.bsz I2.sz,?_,fstk,I2.stack,I2.stkFree⟩
  ·exact B.kind
  ·show s2.heap.objs.size≤C
   rw [hDD];exact leC
  ·intro b hb
   refine ⟨?_,fun x c e=>?_⟩
   ·exact ltC b (fplt b hb)
   ·exact (f2 b hb).2.2.2.2.1 x c (B.sub x c e)
  ·intro b o e hb
   rcases (f2 b hb).2.2.2.1 with z | z
   ·exact I2.ok.noex b o e z
   ·exact absurd (Nat.lt_of_lt_of_le (Heap.lt_size (I2.ok.bs b o e).1) z) (Nat.lt_irrefl _)
 have I0:∀ tk,Inv Xc (X.pn++pins) (cap σ) H2 { s2 with heap:=h₁,toks:=tk }:=fun tk=>by
  refine ⟨okc,rfl,I2.bare,Un.kept old,⟨_,hns₁,fun i y v h1 h2 h3=>?_⟩,fun x c e=>?_,hCn,fun x c e=>I2.freeC x c (B.sub x c e),fun p hp=>?_,I2.hok.kept old,B.len σ⟩
  ·obtain ⟨k1,k2,k3,j,k4,k5⟩:=B.take σ i y v h1 h2 h3
   obtain ⟨m,hn,hl⟩:=I2.loc
   obtain ⟨u,r,l⟩:=hl j y v k4 k5 k2
   refine ⟨u,r,.inr ⟨k1,?_⟩⟩
   rcases l with ⟨l,_⟩ | ⟨_,c,e,z⟩
   ·exact absurd l k3
   ·obtain ⟨c',e'⟩:=B.has y k1
    have:=B.sub y c' e'
    rw [e] at this;cases this
    obtain ⟨oc,ec,dc⟩:=z
    exact ⟨c,e',oc,old _ _ ec,dc⟩
  ·obtain ⟨v,oc,ec,dc⟩:=I2.cell x c (B.sub x c e)
   exact ⟨v,oc,old _ _ ec,dc⟩
  ·have hp':p∈X.pn++pins:=by simpa [Xc,cxB] using hp
   obtain ⟨e,n,ne,nf,d⟩:=I2.pin p hp'
   exact ⟨old _ _ e,n,ltC _ (pinlt p hp'),fun z=>(List.mem_cons.mp (I2.stkSub _ z)).elim ne nf,d⟩
 have fpc:∀ {H':Hp} {o:Obj},(∀ b∈fp,H' b=none)→∀ b∈fp,Zoo Xc ((X.pn++pins)++[(D,o)]) H' b:=fun {H' o} hn b hb=>by
  refine ⟨hn b hb,ltC b (fplt b hb),fstk b hb,.inl hb,fun x c e=>(f2 b hb).2.2.2.2.1 x c (B.sub x c e),fun p hp=>?_⟩
  ·have hp':p∈X.pn++pins∨p=(D,o):=by
    rcases List.mem_append.mp hp with z | z
    ·cases z
    ·rcases List.mem_append.mp z with z | z
     ·exact .inl z
     ·exact .inr (List.mem_singleton.mp z)
   rcases hp' with z | z
   ·exact (f2 b hb).2.2.2.2.2 p z
   ·subst z
    exact Nat.ne_of_gt (fplt b hb)
 obtain ⟨W,⟨m0,w0⟩,turn⟩:=w2
 have loop:∀ tk,codeAny (model X.prog X.w) X.A (.compLoop (.ListComp elt [⟨tg,iter,ifs,0⟩] scope pos) 0 (.ref it) (.ref D) Xc.env) (RR (.ref D) C) { s2 with heap:=h₁,toks:=tk }:=by
  intro tk
  refine Zfk (E':=fun _ _=>False)
   (fun n s'=>∃ (i:Nat) (σ':St) (H':Hp) (ys:List V) (its:List Value) (k:Nat),Inv Xc (X.pn++pins) σ' H' s'∧tn i s'.heap∧(∀ b∈fp,H' b=none)∧H' D=none∧s'.heap.get? D=some { cls:=.type "list",data:=.seq its.toArray k } ∧
    Vals ys its∧ys.length≤sizeLine∧W i n σ' H' ys) (fun _ _ z=>z.elim) ?_ m0
   ⟨0,cap σ,H2,[],[],0,I0 tk,T.keep _ _ _ st2 fun b _ o e=>old b o e,fun b hb=>(f2 b hb).1,hDn,hacc,.nil,Nat.zero_le _,w0⟩
  rintro n s3 ⟨i,σ3,H3,ys,its,k,I3,st3,fr3,hD3,o3,rv3,hz3,w3⟩
  have I3':Inv Xc ((X.pn++pins)++[(D,{ cls:=.type "list",data:=.seq its.toArray k })]) σ3 H3 s3:=I3.pins_of fun p hp=>by
   have hp':p∈X.pn++pins∨p=(D,{ cls:=.type "list",data:=.seq its.toArray k }):=by
    rcases List.mem_append.mp hp with z | z
    ·exact .inl z
    ·exact .inr (List.mem_singleton.mp z)
   rcases hp' with z | z
   ·exact I3.pin p (by simpa [Xc,cxB] using z)
   ·subst z
    refine ⟨o3,hD3,hDC,fun z=>?_,(fun v z=>by cases z)⟩
    ·obtain ⟨_,o,ho,_⟩:=I2.stack.mem z
     exact absurd (lt2 _ _ ho) (Nat.lt_irrefl _)
  rcases turn i n σ3 H3 ys w3 with ⟨stop,qn⟩ | ⟨go,hlt,N,hN,step⟩
  ·refine thn (T.done Xc rfl rfl rfl hc i _ s3 σ3 H3 _ I3' (fpc fr3) st3 stop) fun r s4 zz1=>?_
   obtain ⟨hr,I4⟩:=zz1
   subst hr
   have pD:=I4.pin (D,{ cls:=.type "list",data:=.seq its.toArray k }) (by simp)
   obtain ⟨m4,hn4,_⟩:=I4.loc
   obtain ⟨oC,es,ep,eC,dC,rC⟩:=id hn4
   have hD4:H3 D=none:=hD3
   have hC4:H3 C=none:=I4.free
   have hupd:∀ b u,H3 b=some u→upd H3 D (.lst ys) b=some u:=fun b u e=>by rw [Za4 (ZcH e hD4)];exact e
   have un:Un (frs X.stack) fp H2 (upd H3 D (.lst ys)) s2.heap s4.heap:=by
    have u:=I4.base
    refine ⟨u.keep,u.slot,fun b o e n hx=>?_,u.there,fun b xs e=>hupd _ _ (u.tups b xs e),fun b o v e=>hupd _ _ (u.frzs b o v e),fun b ps e=>?_⟩
    ·rw [Za4 (Nat.ne_of_lt (lt2 b o e))]
     exact u.free b o e n hx
    ·obtain ⟨more,q⟩:=u.tbls b ps e
     exact ⟨more,hupd _ _ q⟩
   have hok:HOk X.prog X.w (upd H3 D (.lst ys)) s4.heap:=fun b u e=>by
    by_cases hb:b=D
    ·subst hb
     rw [Zbt] at e;cases e
     exact ⟨hz3,its,k,rv3,pD.1⟩
    ·rw [Za4 hb] at e
     exact (I4.hok b u e).stay (fun _ _ _ q=>q) (fun c q=>hupd _ _ q) fun c xs q=>hupd _ _ q
   have I5:Inv X pins σ (upd H3 D (.lst ys)) s4:=I2.call' (ch:=fp) I4.os un hok I4.bare fun b hb=>⟨(f2 b hb).2.2.2.1,(f2 b hb).2.1,(f2 b hb).2.2.2.2.1,(f2 b hb).2.2.2.2.2⟩
   refine fin D C s4 H3 ys oC hD4 qn I5 ⟨?_,?_,fun z=>?_,.inr (Nat.le_trans sz0 leC),fun x c e=>?_,fun p hp=>?_⟩ eC (fun v z=>by rw [dC] at z;cases z) ⟨m4,hn4⟩
   ·rw [Za4 (Ne.symm hDC)];exact hC4
   ·have:=I2.lt
    rw [hDD] at this
    exact Ne.symm (ltC _ this)
   ·exact I2.nofs (a:=C) (by rw [hDD];exact leC) z
   ·exact ltC _ (celt x c e)
   ·exact ltC _ (pinlt p hp)
  ·refine thn (T.item Xc rfl rfl rfl hc i _ s3 σ3 H3 _ I3' (fpc fr3) st3 go) fun r s4 zz2=>?_
   obtain ⟨u,hr,h4⟩:=zz2
   subst hr
   refine thn h4 fun _ s5 zz3=>?_
   obtain ⟨x,H5,I5,r5,y5,st5,fr5⟩:=zz3
   have I5':=I5.pinned (fpc fr5) (T.obj _ _ st5)
   refine thn (hg C fp s2 H2 _ s5 σ3 H5 x u _ I5' r5 (step x H5 y5)) fun _ s6 zz4=>?_
   obtain ⟨σ6,H6,I6,q6⟩:=zz4
   refine thn (ht C fp s2 H2 _ s6 σ6 H6 _ I6 q6) fun ok s7 zz5=>?_
   obtain ⟨H7,I7,q7⟩:=zz5
   have again:∀ {σ8:St} {H8:Hp} {s8:Shared},Inv Xc (((X.pn++pins)++[(D,{ cls:=.type "list",data:=.seq its.toArray k })])++ZjE fp s5.heap) σ8 H8 s8 →
     tn (i+1) s8.heap∧(∀ b∈fp,H8 b=none)∧s8.heap.get? D=some { cls:=.type "list",data:=.seq its.toArray k }∧H8 D=none:=fun {σ8 H8 s8} I8=>by
    refine ⟨T.keep _ _ _ st5 fun b hb o e=>(I8.pin (b,o) (List.mem_append_right _ (List.mem_append_right _ (ZeJ hb e)))).1,fun b hb=>?_,?_⟩
    ·obtain ⟨o,e,d⟩:=T.obj _ _ st5 b hb
     exact (I8.pin (b,o) (List.mem_append_right _ (List.mem_append_right _ (ZeJ hb e)))).2.1
    ·have:=I8.pin (D,{ cls:=.type "list",data:=.seq its.toArray k }) (by simp)
     exact ⟨this.1,this.2.1⟩
   cases ok with
   | false =>
    rw [if_neg Bool.false_ne_true] at q7 ⊢
    obtain ⟨m',hm,w7⟩:=hN _ _ _ q7
    obtain ⟨t7,f7,o7,d7⟩:=again I7
    exact ⟨m',hm,i+1,σ6,H7,ys,its,k,I7.unpinned.unpinned,t7,f7,d7,o7,rv3,hz3,w7⟩
   | true =>
    rw [if_pos rfl] at q7 ⊢
    refine thn (he C fp s2 H2 _ s7 σ6 H7 _ I7 q7) fun y s8 zz6=>?_
    obtain ⟨yv,H8,I8,r8,q8⟩:=zz6
    obtain ⟨m',hm,w8⟩:=hN _ _ _ q8
    obtain ⟨t8,f8,o8,d8⟩:=again I8
    have hlen:=rv3.length
    refine wpAny_list_append_plain (s:=s8) (items:=its.toArray) ⟨k,o8⟩ (fun h9 zz7 sb9=>?_) (by rw [List.size_toArray];omega)
    obtain ⟨k9,l9⟩:=zz7
    have I9:Inv Xc (X.pn++pins) σ6 H8 { s8 with heap:=h9 }:=by
     refine I8.unpinned.unpinned.turned (t':=s8.toks) (fun b o hb e=>(sb9.2 b hb).trans e) d8 ?_ (.inr ?_) (fun x c e=>?_) fun p hp=>?_
     ·exact hDC
     ·show s2.heap.objs.size≤D
      rw [hDD];exact Nat.le_refl _
     ·exact Nat.ne_of_lt (celt x c (B.sub x c e))
     ·exact Nat.ne_of_lt (pinlt p (by simpa [Xc,cxB] using hp))
    refine ⟨m',hm,i+1,σ6,H8,ys++[yv],its++[y],k9,I9,?_,f8,d8,?_,rv3.append (.cons r8 .nil),?_,w8⟩
    ·refine T.keep _ _ _ t8 fun b hb o e=>?_
     exact (sb9.2 b (Nat.ne_of_lt (fplt b hb))).trans e
    ·rw [l9]
     simp
    ·rw [List.length_append,List.length_singleton]
     omega
 have env_eq:Xc.env=compEnvC scope cl C X.env:=rfl
 exact codeAny_compStart_list (loop _) (T.self _ 0 _ _ _ (T.keep _ _ _ st2 fun b _ o e=>old b o e) (loop _))
theorem Zpr {wi:TI} (hc:X.calm=true) (hi:PI X tg iter wi) (B:Blk X Nc scope cl cap) (hg:∀ C fp s H,PG (cxB X Nc scope cl C fp s H) tg g) (ht:∀ C fp s H,PF (cxB X Nc scope cl C fp s H) ifs tt) (he:∀ C fp s H,PE (cxB X Nc scope cl C fp s H) elt te)
  (hs:∀ x,foldedSetIterable iter X.env x=pure x:=by intro _;rfl):PE X (.ListComp elt [⟨tg,iter,ifs,0⟩] scope pos) (ZrX wi cap g tt te):=by
 intro pins s σ H Q I h
 rw [eval_ListComp]
 refine wpAny_comprehension_free (use:=none) rfl hs B.clos B.kind B.names (thn (hi pins s σ H _ I h) fun v s1 h1=>thn h1 fun itv s2 h2=>?_)
 obtain ⟨it,fp,tn,J,H2,e,I2,T,st2,f2,w2⟩:=h2
 subst e
 refine ZmK (RR:=fun acc C=>compPost (model X.prog X.w) X.A X.xe none (EP X pins σ Q) acc C) hc B hg ht he I2 T st2 f2 w2 ?_
 intro D C s' H' ys oC hD q I' F eC dC ⟨m,hn⟩
 obtain ⟨f0,f1,_,f3,f4,f5⟩:=F
 exact ⟨m,hn,fun h' sb=>⟨.ref D,_,I'.turned (t':=s'.toks) (fun b o hb e=>(sb.2 b hb).trans e) f0 f1 f3 f4 f5,rfl,q D hD⟩⟩
end
end L2
namespace L2
open PySem PySem.Spec PyProof.Rows
theorem ObjOk.at {P:Program} {w:World} {H:Hp} {h:Heap} {a:Addr} {o:HO} (x:ObjOk P w H h a o):∃ u,h.get? a=some u:=by
 cases o with
 | lst xs=>obtain ⟨_,_,_,_,e⟩:=x;exact ⟨_,e⟩
 | tup xs=>obtain ⟨_,_,_,ob,e,_⟩:=x;exact ⟨_,e⟩
 | dK kvs=>obtain ⟨_,_,_,_,o,_,_,e,_⟩:=x;exact ⟨_,e⟩
 | dT kvs=>obtain ⟨_,_,_,_,o,_,_,e,_⟩:=x;exact ⟨_,e⟩
 | set S n=>obtain ⟨o,_,_,_,e,_⟩:=x;exact ⟨_,e⟩
 | ins C dx fs=>obtain ⟨_,_,_,e,_⟩:=x;exact ⟨_,e⟩
 | own y=>obtain ⟨_,e⟩:=x;exact ⟨_,e⟩
 | xd fs=>obtain ⟨_,⟨_,_,_,e,_⟩,_⟩:=x;exact ⟨_,e⟩
 | rng lo hi=>obtain ⟨_,_,_,e⟩:=x;exact ⟨_,e⟩
 | frz ob u=>obtain ⟨e,_⟩:=x;exact ⟨_,e⟩
 | tbl ps=>exact ⟨_,(show h.get? a=some _ from x)⟩
 | met f y=>exact ⟨_,(show h.get? a=some _ from x)⟩
 | ext φ=>obtain ⟨_,⟨_,e⟩,_⟩:=x;exact ⟨_,e⟩
structure Fly (P:Program) (w:World) (outer:List Env) (H0:Hp) (s0:Shared) (H':Hp) (e C:Addr) (s':Shared):Prop where
 os:s'.os=s0.os
 bare:AllBare s'.gens
 un:Un (frs outer) [] H0 H' s0.heap s'.heap
 hok:HOk P w H' s'.heap
 fly:∃ (B:Heap) (a0:Value),Heap.FlyingW B outer e (.ref C) a0 s'.heap∧∀ b,b∉frs outer→((∃ o,s0.heap.get? b=some o)∨H' b≠none)→∃ o,B.get? b=some o
 new:s0.heap.get? e=none
 free:H' e=none
def CXe (P:Program) (w:World):CXT:=fun outer H0 s0 E ev s'=>∃ (e C:Addr) (H':Hp),ev=.ref e∧Fly P w outer H0 s0 H' e C s'∧E (.ref C) none H'
section
variable {X:Cx} {pins:List (Addr×Obj)} {σ:St} {H H':Hp} {s s':Shared} {e C:Addr}
end
section
variable {P:Program} {w:World} {K:PySem.W.Frag} {mg:Str→Option Value} {base:Heap} {N:List Str} {qual:Str} {scope:Scope} {f:Addr} {cd:Value} {A:Around} {outer:List Env} {s:Shared} {H:Hp} {E:XK}
end
theorem Inv.track {X:Cx} {pins:List (Addr×Obj)} {σ:St} {H:Hp} {s:Shared} {e:Addr} {o:HO} (I:Inv X pins σ H s) (hn:H e=none) (hL:e≠X.env.locals) (hc:∀ x c,X.env.cells.lookup x=some c→c≠e) (hp:∀ p∈X.pn++pins,p.1≠e)
  (h0:X.s₀.heap.get? e=none) (ok:ObjOk X.prog X.w (upd H e o) s.heap e o):Inv X pins σ (upd H e o) s:=by
 have hupd:∀ b u,H b=some u→upd H e o b=some u:=fun b u z=>by rw [Za4 (ZcH z hn)];exact z
 refine ⟨I.ok,I.os,I.bare,⟨I.base.keep,I.base.slot,fun b ob z n hx=>?_,I.base.there,fun b xs z=>hupd _ _ (I.base.tups b xs z),fun b ob u z=>hupd _ _ (I.base.frzs b ob u z),fun b ps z=>?_⟩,I.loc,I.cell,?_,fun x c z=>?_,fun p z=>?_,fun b u z=>?_,I.len⟩
 ·rw [Za4 (fun q=>by rw [q,h0] at z;cases z)]
  exact I.base.free b ob z n hx
 ·obtain ⟨more,q⟩:=I.base.tbls b ps z
  exact ⟨more,hupd _ _ q⟩
 ·rw [Za4 (Ne.symm hL)];exact I.free
 ·rw [Za4 (hc x c z)];exact I.freeC x c z
 ·obtain ⟨q1,q2,q3⟩:=I.pin p z
  exact ⟨q1,by rw [Za4 (hp p z)];exact q2,q3⟩
 ·by_cases hb:b=e
  ·subst hb
   rw [Zbt] at z;cases z
   exact ok
  ·rw [Za4 hb] at z
   exact (I.hok b u z).stay (fun _ _ _ q=>q) (fun c q=>hupd _ _ q) fun c xs q=>hupd _ _ q
def ZwT (e C:Addr):Heap→Prop:=fun h=>∃ ox,h.get? e=some ox∧ox.cls=.ref C
def Zln (CX:CXT) (X:Cx) (Eσ:St→XK):Prop:=∀ (pins:List (Addr×Obj)) (σ:St) (H:Hp) (s:Shared) (e:Value) (s':Shared),Inv X pins σ H s→CX X.stack H s (Eσ σ) e s'→X.xe e s'
def ZrH (sp:Sp) (dvs:List V) (Eσ:St→XK) (t:TA):TE:=fun σ H Q=>t σ H fun vs H1=>sp (vs++dvs) H1 Q (Eσ σ)
section
variable {X:Cx} {CX:CXT} {k:Nat} {f:Addr} {fd:FuncData} {ps:List Str} {sp:Sp} {dvs:List V} {ds:List Value} {Eσ:St→XK} {x:Str} {p pos:Pos} {e:Expr} {es:List Expr} {t:TA}
theorem ZqB (F:FnOk X.prog X.w X.K X.mg X.base CX k f fd ps sp) (hr:Room k X.A) (hg:Gl X x) (hm:X.mg x=some (.ref f)) (hk:PySem.W.keepIn X.K (.ref f)=true) (hb:Binds X.K fd ps ds) (hd:Vals dvs ds) (hx:Zln CX X Eσ)
  (ha:PA X (e::es) t) (hdb:(x==("__debug__":Str))=false:=by decide) (he:starEach (e::es) X.env=(false,eval e X.env)::starEach es X.env:=by rfl) (hpl:(backTo pos (starEach es X.env)).any (·.1)=false:=by rfl) :
  PE X (.Call (.Name x p) (e::es) [] pos) (ZrH sp dvs Eσ t):=by
 intro pins s σ H Q I h
 refine wpAny_Call_Name_kw (Zls I hg hm ?_ hdb)
 refine PySem.W.callWith_K (h₀:=X.base) I.ok.mod.kin hk (thn (ha pos pins s σ H _ I h) fun us s1 ⟨vs,H1,I1,r,q⟩=>⟨I1.kIn,?_⟩) he hpl
 have r2:Vals (vs++dvs) (us++ds):=r.append hd
 have hl:(us++ds).length=ps.length:=by rw [← r2.length];exact F.len _ _ _ _ q
 refine wpAny_call (codeAny_mono (F.run X.A X.stack s1 H1 ⟨us,[]⟩ (us++ds) (vs++dvs) Q (Eσ σ) hr I1.env0 (hb s1 us I1.kIn hl) r2 q) fun r s' hq=>?_)
 cases r with
 | error e=>exact hx pins σ H1 s1 e s' I1 hq
 | ok fl =>
  cases fl with
  | ret u=>exact I1.after hq
  | next=>exact False.elim hq
  | brk=>exact False.elim hq
  | cont=>exact False.elim hq
end
section
variable {X:Cx} {k:Nat} {f:Addr} {fd:FuncData} {ps:List Str} {sp:Sp} {x:Str} {p pos:Pos} {e:Expr} {es:List Expr} {t:TA}
end
end L2
set_option Elab.async false
set_option linter.all false
set_option maxRecDepth 100000
set_option maxHeartbeats 4000000
namespace L3
open PySem PySem.Spec PyProof.Rows L2
abbrev St:=L2.St
inductive W where
 | non | bl (b:Bool) | int (i:Int) | str (x:Str) | tup (xs:List W) | rol (xs:List W) | ref (a:Addr)
inductive HW where
 | lst (xs:List W) | exc (C:Addr) | ins (C:Addr) (fs:List (Str×W)) | dct (kvs:List (Key×W))
abbrev Sw:=List (Option W)
abbrev Hw:=Addr→Option HW
def put (H:Hw) (a:Addr) (o:HW):Hw:=fun b=>if b=a then some o else H b
theorem Zah {H:Hw} {a:Addr} {o:HW}:put H a o a=some o:=by unfold put;rw [if_pos rfl]
theorem Zao {H:Hw} {a b:Addr} {o:HW} (h:b≠a):put H a o b=H b:=by unfold put;rw [if_neg h]
section
variable (K:PySem.W.Frag)
def RoL (H:Hp) (a:Addr) (xs:List V):Prop:=(∃ o,H a=some (.frz o (.lst xs))) ∨
 ∃ (o:Obj) (its:Array Value) (n:Nat),K.lookup a=some o∧o.cls=.type "list"∧o.dict=none∧o.data=.seq its n∧its.size≤sizeLine∧Vals xs its.toList
theorem RoL.sq {K:PySem.W.Frag} {H:Hp} {a:Addr} {xs:List V} (h:RoL K H a xs):SqL K H a xs:=by
 rcases h with ⟨o,h⟩ | h
 ·exact .inl (.inr ⟨o,h⟩)
 ·exact .inr h
mutual
inductive Tr (H:Hp):V→W→Prop where
 | non:Tr H .non .non
 | bl (b:Bool):Tr H (.bl b) (.bl b)
 | int (i:Int):Tr H (.int i) (.int i)
 | str (x:Str):Tr H (.str x) (.str x)
 | tup {a:Addr} {vs:List V} {ws:List W}:SqT K H a vs→TrL H vs ws→Tr H (.ref a) (.tup ws)
 | rol {a:Addr} {vs:List V} {ws:List W}:RoL K H a vs→TrL H vs ws→Tr H (.ref a) (.rol ws)
 | ref (a:Addr):Tr H (.ref a) (.ref a)
inductive TrL (H:Hp):List V→List W→Prop where
 | nil:TrL H [] []
 | cons {v:V} {w:W} {vs:List V} {ws:List W}:Tr H v w→TrL H vs ws→TrL H (v::vs) (w::ws)
end
inductive TrP {α:Type} (H:Hp):List (α×V)→List (α×W)→Prop where
 | nil:TrP H [] []
 | cons {f:α} {v:V} {w:W} {vs:List (α×V)} {ws:List (α×W)}:Tr K H v w→TrP H vs ws→TrP H ((f,v)::vs) ((f,w)::ws)
structure Mono (H H':Hp):Prop where
 tup:∀ a vs,SqT K H a vs→SqT K H' a vs
 rol:∀ a vs,RoL K H a vs→RoL K H' a vs
def RelO2 (H:Hp) (a:Addr):HW→Prop
 | .lst ws=>∃ vs,H a=some (.lst vs)∧TrL K H vs ws
 | .exc C=>H a=some (.ext (ZwT a C))
 | .ins C ws=>∃ dx vs,H a=some (.ins C dx vs)∧TrP K H vs ws
 | .dct ws=>∃ vs,H a=some (.dK vs)∧TrP K H vs ws
def RelH (H:Hp) (G:Hw):Prop:=∀ a o,G a=some o→RelO2 K H a o
structure TrSt (H:Hp) (σ:St) (ω:Sw):Prop where
 len:σ.length=ω.length
 get:∀ (i:Nat) (w:W),ω[i]?=some (some w)→∃ v,σ[i]?=some (some v)∧Tr K H v w
end
variable {K:PySem.W.Frag} {H H' H2:Hp}
theorem Mono.refl:Mono K H H:=⟨fun _ _ h=>h,fun _ _ h=>h⟩
theorem Mono.trans (m:Mono K H H') (m':Mono K H' H2):Mono K H H2:=⟨fun a vs h=>m'.tup a vs (m.tup a vs h),fun a vs h=>m'.rol a vs (m.rol a vs h)⟩
mutual
theorem Tr.mono (m:Mono K H H') {v:V} {w:W} (t:Tr K H v w):Tr K H' v w:=by
 cases t with
 | non=>exact .non
 | bl b=>exact .bl b
 | int i=>exact .int i
 | str x=>exact .str x
 | tup h l=>exact .tup (m.tup _ _ h) (TrL.mono m l)
 | rol h l=>exact .rol (m.rol _ _ h) (TrL.mono m l)
 | ref a=>exact .ref a
theorem TrL.mono (m:Mono K H H') {vs:List V} {ws:List W} (t:TrL K H vs ws):TrL K H' vs ws:=by
 cases t with
 | nil=>exact .nil
 | cons h l=>exact .cons (Tr.mono m h) (TrL.mono m l)
end
theorem TrP.mono {α:Type} (m:Mono K H H'):∀ {vs:List (α×V)} {ws:List (α×W)},TrP K H vs ws→TrP K H' vs ws
 | _,_,.nil=>.nil
 | _,_,.cons r t=>.cons (r.mono m) (TrP.mono m t)
theorem RelO2.mono (m:Mono K H H') {a:Addr} (e:H' a=H a):∀ {o:HW},RelO2 K H a o→RelO2 K H' a o
 | .lst ws,⟨vs,z,t⟩=>⟨vs,e.trans z,t.mono m⟩
 | .exc C,z=>(e.trans z:H' a=_)
 | .ins C ws,⟨dx,vs,z,t⟩=>⟨dx,vs,e.trans z,t.mono m⟩
 | .dct ws,⟨vs,z,t⟩=>⟨vs,e.trans z,t.mono m⟩
theorem RelO2.some {a:Addr}:∀ {o:HW},RelO2 K H a o→H a≠none
 | .lst ws,⟨vs,z,t⟩,q=>by rw [q] at z;cases z
 | .exc C,z,q=>by rw [show H a=_ from z] at q;cases q
 | .ins C ws,⟨dx,vs,z,t⟩,q=>by rw [q] at z;cases z
 | .dct ws,⟨vs,z,t⟩,q=>by rw [q] at z;cases z
theorem TrSt.mono {σ:St} {ω:Sw} (m:Mono K H H') (t:TrSt K H σ ω):TrSt K H' σ ω:=⟨t.len,fun i w e=>let ⟨v,e',r⟩:=t.get i w e;⟨v,e',r.mono m⟩⟩
theorem TrSt.set {σ:St} {ω:Sw} {v:V} {w:W} (t:TrSt K H σ ω) (i:Nat) (r:Tr K H v w):TrSt K H (σ.set i (some v)) (ω.set i (some w)):=by
 refine ⟨by simp [t.len],fun j u e=>?_⟩
 by_cases h:i=j
 ·subst h
  by_cases hl:i < ω.length
  ·rw [List.getElem?_set_self hl] at e
   cases e
   exact ⟨v,List.getElem?_set_self (by rw [t.len];exact hl),r⟩
  ·rw [List.getElem?_eq_none (by simp;omega)] at e;cases e
 ·rw [List.getElem?_set_ne h] at e
  obtain ⟨v',e',r'⟩:=t.get j u e
  exact ⟨v',by rw [List.getElem?_set_ne h];exact e',r'⟩
theorem TrL.length:∀ {vs:List V} {ws:List W},TrL K H vs ws→vs.length=ws.length
 | _,_,.nil=>rfl
 | _,_,.cons _ t=>congrArg (·+1) t.length
theorem TrL.get:∀ {vs:List V} {ws:List W} {i:Nat} {w:W},TrL K H vs ws→ws[i]?=some w→∃ v,vs[i]?=some v∧Tr K H v w
 | _,_,_,_,.nil,e=>by simp at e
 | _,_,0,_,.cons r _,e=>by simp at e;subst e;exact ⟨_,rfl,r⟩
 | _,_,i+1,w,.cons _ t,e=>by
  obtain ⟨v,h1,h2⟩:=TrL.get (i:=i) (w:=w) t (by simpa using e)
  exact ⟨v,by simpa using h1,h2⟩
theorem TrL.get':∀ {vs:List V} {ws:List W} {i:Nat} {v:V},TrL K H vs ws→vs[i]?=some v→∃ w,ws[i]?=some w∧Tr K H v w
 | _,_,_,_,.nil,e=>by simp at e
 | _,_,0,_,.cons r _,e=>by simp at e;subst e;exact ⟨_,rfl,r⟩
 | _,_,i+1,v,.cons _ t,e=>by
  obtain ⟨w,h1,h2⟩:=TrL.get' (i:=i) (v:=v) t (by simpa using e)
  exact ⟨w,by simpa using h1,h2⟩
theorem TrL.append:∀ {vs vs':List V} {ws ws':List W},TrL K H vs ws→TrL K H vs' ws'→TrL K H (vs++vs') (ws++ws')
 | _,_,_,_,.nil,s=>s
 | _,_,_,_,.cons r t,s=>.cons r (t.append s)
theorem TrL.set {v:V} {w:W} (r:Tr K H v w):∀ {vs:List V} {ws:List W} (i:Nat),TrL K H vs ws→TrL K H (vs.set i v) (ws.set i w)
 | _,_,_,.nil=>.nil
 | _,_,0,.cons _ t=>.cons r t
 | _,_,i+1,.cons q t=>.cons q (TrL.set r i t)
theorem TrL.take:∀ {vs:List V} {ws:List W} (n:Nat),TrL K H vs ws→TrL K H (vs.take n) (ws.take n)
 | _,_,0,_=>.nil
 | _,_,_+1,.nil=>.nil
 | _,_,n+1,.cons r t=>.cons r (TrL.take n t)
theorem TrL.drop:∀ {vs:List V} {ws:List W} (n:Nat),TrL K H vs ws→TrL K H (vs.drop n) (ws.drop n)
 | _,_,0,r=>r
 | _,_,_+1,.nil=>.nil
 | _,_,n+1,.cons _ t=>TrL.drop n t
theorem ZkN {a b:Addr} {vs:List V} {o:HO} (h:SqT K H a vs) (hb:∀ xs,H b≠some (.tup xs)) (hf:∀ ob xs,H b≠some (.frz ob (.tup xs))):SqT K (upd H b o) a vs:=by
 rcases h with (h | ⟨ob,h⟩) | h
 ·exact .inl (.inl (by rw [Za4 (fun e=>hb _ (e▸h))];exact h))
 ·exact .inl (.inr ⟨ob,by rw [Za4 (fun e=>hf _ _ (e▸h))];exact h⟩)
 ·exact .inr h
theorem ZkZ {a b:Addr} {vs:List V} {o:HO} (h:RoL K H a vs) (hf:∀ ob u,H b≠some (.frz ob u)):RoL K (upd H b o) a vs:=by
 rcases h with ⟨ob,h⟩ | h
 ·exact .inl ⟨ob,by rw [Za4 (fun e=>hf _ _ (e▸h))];exact h⟩
 ·exact .inr h
theorem Mono.new {p:Addr} (hp:H p=none) (o:HO):Mono K H (upd H p o) :=
 ⟨fun a vs h=>ZkN h (fun xs e=>by rw [hp] at e;cases e) (fun ob xs e=>by rw [hp] at e;cases e),fun a vs h=>ZkZ h (fun ob xs e=>by rw [hp] at e;cases e)⟩
theorem Mono.lst {p:Addr} {xs:List V} (hp:H p=some (.lst xs)) (o:HO):Mono K H (upd H p o) :=
 ⟨fun a vs h=>ZkN h (fun xs e=>by rw [hp] at e;cases e) (fun ob xs e=>by rw [hp] at e;cases e),fun a vs h=>ZkZ h (fun ob xs e=>by rw [hp] at e;cases e)⟩
theorem Mono.was {p:Addr} {o':HO} (hp:H p=some o') (o:HO) (h1:∀ xs,o'≠.tup xs) (h2:∀ ob u,o'≠.frz ob u):Mono K H (upd H p o) :=
 ⟨fun a vs h=>ZkN h (fun xs e=>by rw [hp] at e;exact h1 _ (Option.some.inj e)) (fun ob xs e=>by rw [hp] at e;exact h2 _ _ (Option.some.inj e)),fun a vs h=>ZkZ h (fun ob xs e=>by rw [hp] at e;exact h2 _ _ (Option.some.inj e))⟩
theorem RelH.no {G:Hw} {p:Addr} (r:RelH K H G) (hp:H p=none):G p=none:=by
 cases e:G p with
 | none=>rfl
 | some o=>exact absurd hp (r p o e).some
theorem RelH.mono0 {G:Hw} {p:Addr} {o:HO} (r:RelH K H G) (hp:H p=none):RelH K (upd H p o) G:=fun a u e =>
 have q:=r a u e
 q.mono (Mono.new hp o) (Za4 (by rintro rfl;exact q.some hp))
theorem RelH.laid {G:Hw} {p:Addr} {o:HO} {u:HW} (r:RelH K H G) (m:Mono K H (upd H p o)) (t:RelO2 K (upd H p o) p u):RelH K (upd H p o) (put G p u):=fun a u' e=>by
 by_cases h:a=p
 ·subst h
  rw [Zah] at e;cases e
  exact t
 ·rw [Zao h] at e
  exact (r a _ e).mono m (Za4 h)
theorem RelH.new {G:Hw} {p:Addr} {vs:List V} {ws:List W} (r:RelH K H G) (hp:H p=none) (t:TrL K H vs ws):RelH K (upd H p (.lst vs)) (put G p (.lst ws)) :=
 r.laid (Mono.new hp _) ⟨vs,Zbt,t.mono (Mono.new hp _)⟩
theorem RelH.chg {G:Hw} {p:Addr} {xs vs:List V} {ws:List W} (r:RelH K H G) (hp:H p=some (.lst xs)) (t:TrL K H vs ws):RelH K (upd H p (.lst vs)) (put G p (.lst ws)) :=
 r.laid (Mono.lst hp _) ⟨vs,Zbt,t.mono (Mono.lst hp _)⟩
abbrev Kw:=W→Hw→Prop
abbrev GE:=Sw→Hw→Kw→Prop
abbrev GT:=Sw→Hw→(Bool→Hw→Prop)→Prop
abbrev GA:=Sw→Hw→(List W→Hw→Prop)→Prop
structure Ew where
 nx:Sw→Hw→Prop
 rt:Kw
 bk:Sw→Hw→Prop
 ct:Sw→Hw→Prop
abbrev GS:=Ew→Sw→Hw→Prop
abbrev GG:=W→Sw→Hw→(Sw→Hw→Prop)→Prop
def GE.M (g:GE):Prop:=∀ ω G (Q Q':Kw),(∀ w G',Q w G'→Q' w G')→g ω G Q→g ω G Q'
def GT.M (g:GT):Prop:=∀ ω G (Q Q':Bool→Hw→Prop),(∀ w G',Q w G'→Q' w G')→g ω G Q→g ω G Q'
def GA.M (g:GA):Prop:=∀ ω G (Q Q':List W→Hw→Prop),(∀ w G',Q w G'→Q' w G')→g ω G Q→g ω G Q'
def GS.M (g:GS):Prop:=∀ ω G (D D':Ew),(∀ a b,D.nx a b→D'.nx a b)→(∀ a b,D.rt a b→D'.rt a b)→(∀ a b,D.bk a b→D'.bk a b)→(∀ a b,D.ct a b→D'.ct a b)→g D ω G→g D' ω G
def GG.M (g:GG):Prop:=∀ w ω G (Q Q':Sw→Hw→Prop),(∀ a b,Q a b→Q' a b)→g w ω G Q→g w ω G Q'
def dn (K:PySem.W.Frag) (H:Hp) (Q:VK):Kw:=fun w G=>∀ v H',Mono K H H'→Tr K H' v w→RelH K H' G→Q v H'
def dnT (K:PySem.W.Frag) (H:Hp) (Q:Bool→Hp→Prop):Bool→Hw→Prop:=fun b G=>∀ H',Mono K H H'→RelH K H' G→Q b H'
def dnA (K:PySem.W.Frag) (H:Hp) (Q:List V→Hp→Prop):List W→Hw→Prop:=fun ws G=>∀ vs H',Mono K H H'→TrL K H' vs ws→RelH K H' G→Q vs H'
def dnS (K:PySem.W.Frag) (H:Hp) (Q:St→Hp→Prop):Sw→Hw→Prop:=fun ω G=>∀ σ H',Mono K H H'→TrSt K H' σ ω→RelH K H' G→Q σ H'
def dnD (K:PySem.W.Frag) (H:Hp) (D:ZtL):Ew:=⟨dnS K H D.nx,dn K H D.rt,dnS K H D.bk,dnS K H D.ct⟩
theorem ZcG {Q:VK} (m:Mono K H H') {w:W} {G:Hw} (q:dn K H Q w G):dn K H' Q w G:=fun v H2 m2 t r=>q v H2 (m.trans m2) t r
theorem Zl2 {Q:Bool→Hp→Prop} (m:Mono K H H') {w:Bool} {G:Hw} (q:dnT K H Q w G):dnT K H' Q w G:=fun H2 m2 r=>q H2 (m.trans m2) r
theorem Zq7 {Q:St→Hp→Prop} (m:Mono K H H') {w:Sw} {G:Hw} (q:dnS K H Q w G):dnS K H' Q w G:=fun v H2 m2 t r=>q v H2 (m.trans m2) t r
def up (K:PySem.W.Frag) (g:GE):TE:=fun σ H Q=>∃ ω G,TrSt K H σ ω∧RelH K H G∧g ω G (dn K H Q)
def upT (K:PySem.W.Frag) (g:GT):TT:=fun σ H Q=>∃ ω G,TrSt K H σ ω∧RelH K H G∧g ω G (dnT K H Q)
def upA (K:PySem.W.Frag) (g:GA):TA:=fun σ H Q=>∃ ω G,TrSt K H σ ω∧RelH K H G∧g ω G (dnA K H Q)
def upS (K:PySem.W.Frag) (B:Hp) (g:GS):TS:=fun D σ H=>∃ ω G,TrSt K H σ ω∧RelH K H G∧Mono K B H∧g (dnD K B D) ω G
theorem Zbi {X:Cx} {e:Expr} {t t':TE} (h:PE X e t) (i:∀ σ H Q,t' σ H Q→t σ H Q):PE X e t':=fun pins s σ H Q I q=>h pins s σ H Q I (i σ H Q q)
theorem Zmj {X:Cx} {e:Expr} {t t':TT} (h:PT X e t) (i:∀ σ H Q,t' σ H Q→t σ H Q):PT X e t':=fun pins s σ H Q I q=>h pins s σ H Q I (i σ H Q q)
theorem Zrn {X:Cx} {e:List Expr} {t t':TA} (h:PA X e t) (i:∀ σ H Q,t' σ H Q→t σ H Q):PA X e t':=fun pos pins s σ H Q I q=>h pos pins s σ H Q I (i σ H Q q)
theorem Zgp {X:Cx} {e:Stmt} {t t':TS} (h:PS X e t) (i:∀ D σ H,t' D σ H→t D σ H):PS X e t':=fun pins s σ H D I q=>h pins s σ H D I (i D σ H q)
theorem Zk8 {X:Cx} {e:List Stmt} {t t':TS} (h:PSs X e t) (i:∀ D σ H,t' D σ H→t D σ H):PSs X e t':=fun pins s σ H D I q=>h pins s σ H D I (i D σ H q)
section
variable {X:Cx} {a b c e:Expr} {es:List Expr} {pos:Pos} {ga gb gc:GE} {gt:GT} {gs:GA}
abbrev PEw (X:Cx) (e:Expr) (g:GE):Prop:=PE X e (up X.K g)
abbrev PTw (X:Cx) (e:Expr) (g:GT):Prop:=PT X e (upT X.K g)
abbrev PAw (X:Cx) (es:List Expr) (g:GA):Prop:=PA X es (upA X.K g)
abbrev PSw (X:Cx) (P:Hp→Prop) (st:Stmt) (g:GS):Prop:=∀ B,P B→PS X st (upS X.K B g)
abbrev ZqA (X:Cx) (P:Hp→Prop) (st:List Stmt) (g:GS):Prop:=∀ B,P B→PSs X st (upS X.K B g)
abbrev Zxk:Hp→Prop:=fun _=>True
def gC (w:W):GE:=fun _ G Q=>Q w G
def Zad (i:Nat):GE:=fun ω G Q=>match ω[i]? with | some (some w)=>Q w G | _=>False
theorem ZtK {w:W}:GE.M (gC w):=fun _ _ _ _ h q=>h _ _ q
theorem ZvK {i:Nat}:GE.M (Zad i):=fun ω G Q Q' h q=>by
 have z:Zad i ω G Q=(match ω[i]? with | some (some w)=>Q w G | _=>False):=rfl
 have z':Zad i ω G Q'=(match ω[i]? with | some (some w)=>Q' w G | _=>False):=rfl
 rw [z] at q
 rw [z']
 cases e:ω[i]? with
 | none=>rw [e] at q;exact q
 | some o =>
  cases o with
  | none=>rw [e] at q;exact q
  | some w=>rw [e] at q;exact h _ _ q
theorem Zu2 {i:Nat} {x:Str} (hN:X.N[i]?=some x) (hv:Vis X.env.scope x) (hd:(x==("__debug__":Str))=false) (hcd:(x==("__classdict__":Str))=false):PEw X (.Name x pos) (Zad i) :=
 Zbi (ZrA hN hv hd hcd) <| by
  rintro σ H Q ⟨ω,G,ts,r,q⟩
  unfold Zad at q
  split at q
  ·rename_i w z
   obtain ⟨v,e,t⟩:=ts.get i w z
   exact ⟨v,e,q v H .refl t r⟩
  ·exact q.elim
theorem Zvo {i:Int} {j}:PEw X (.Constant (.int i) j pos) (gC (.int i)):=Zbi ZvG (by rintro σ H Q ⟨ω,G,ts,r,q⟩;exact q _ H .refl (.int i) r)
theorem Zwr {i:Bool} {j}:PEw X (.Constant (.bool i) j pos) (gC (.bl i)):=Zbi Zxc (by rintro σ H Q ⟨ω,G,ts,r,q⟩;exact q _ H .refl (.bl i) r)
theorem Zvk {j}:PEw X (.Constant .none j pos) (gC .non):=Zbi ZvV (by rintro σ H Q ⟨ω,G,ts,r,q⟩;exact q _ H .refl .non r)
theorem Zve {i:Str} {j}:PEw X (.Constant (.str i) j pos) (gC (.str i)):=Zbi Zun (by rintro σ H Q ⟨ω,G,ts,r,q⟩;exact q _ H .refl (.str i) r)
theorem Zpa {x:Str} {v:V} {w:W} {u:Value} (hg:Gl X x) (hm:X.mg x=some u) (rv:RelV v u) (t:∀ H,Tr X.K H v w) (hd:(x==("__debug__":Str))=false):PEw X (.Name x pos) (gC w) :=
 Zbi (Zop hg hm rv hd) (by rintro σ H Q ⟨ω,G,ts,r,q⟩;exact q _ H .refl (t H) r)
abbrev RW2:=W→W→Hw→Kw→Prop
def RW2.M (r:RW2):Prop:=∀ x y G (Q Q':Kw),(∀ w G',Q w G'→Q' w G')→r x y G Q→r x y G Q'
def Zaj (r:RW2) (ga gb:GE):GE:=fun ω G Q=>ga ω G fun x G1=>gb ω G1 fun y G2=>r x y G2 Q
theorem Zes {r:RW2} (mr:r.M) (ma:ga.M) (mb:gb.M):GE.M (Zaj r ga gb):=fun ω G Q Q' h q=>ma _ _ _ _ (fun x G1 q1=>mb _ _ _ _ (fun y G2 q2=>mr _ _ _ _ _ h q2) q1) q
theorem Zmh {r:RW2} {r2:R2} (mr:r.M) (ma:ga.M) (mb:gb.M)
  (hr:∀ (x y:W) (v u:V) (G:Hw) (H:Hp) (Q:VK),Tr K H v x→Tr K H u y→RelH K H G→r x y G (dn K H Q)→r2 v u H Q) (σ:St) (H:Hp) (Q:VK) (h:up K (Zaj r ga gb) σ H Q):tOp r2 (up K ga) (up K gb) σ H Q:=by
 obtain ⟨ω,G,ts,rh,q⟩:=h
 refine ⟨ω,G,ts,rh,ma _ _ _ _ (fun x G1 q1 v H1 m1 tx r1=>?_) q⟩
 refine ⟨ω,G1,ts.mono m1,r1,mb _ _ _ _ (fun y G2 q2 u H2 m2 ty r2'=>?_) q1⟩
 exact hr x y v u G2 H2 Q (tx.mono m2) ty r2' (mr _ _ _ _ _ (fun w G' z=>ZcG (m1.trans m2) z) q2)
theorem Zg8 {op:Operator} {r:RW2} {r2:R2} (ho:OpR X (binaryOp op) r2) (mr:r.M) (ma:ga.M) (mb:gb.M) (hr:∀ (x y:W) (v u:V) (G:Hw) (H:Hp) (Q:VK),Tr X.K H v x→Tr X.K H u y→RelH X.K H G→r x y G (dn X.K H Q)→r2 v u H Q)
  (ha:PEw X a ga) (hb:PEw X b gb):PEw X (.BinOp a op b pos) (Zaj r ga gb):=Zbi (Zw3 ho ha hb) (Zmh mr ma mb hr)
theorem Zuj {op:CmpOp} {r:RW2} {r2:R2} (ho:OpR X (compareOp op) r2) (mr:r.M) (ma:ga.M) (mb:gb.M) (hr:∀ (x y:W) (v u:V) (G:Hw) (H:Hp) (Q:VK),Tr X.K H v x→Tr X.K H u y→RelH X.K H G→r x y G (dn X.K H Q)→r2 v u H Q)
  (ha:PEw X a ga) (hb:PEw X b gb) (hm:behindInMarks op b=false):PEw X (.Compare a [op] [b] pos) (Zaj r ga gb):=Zbi (Zsl ho ha hb hm) (Zmh mr ma mb hr)
theorem Zwu {r:RW2} {r2:R2} (ho:IxR X r2) (mr:r.M) (ma:ga.M) (mb:gb.M) (hr:∀ (x y:W) (v u:V) (G:Hw) (H:Hp) (Q:VK),Tr X.K H v x→Tr X.K H u y→RelH X.K H G→r x y G (dn X.K H Q)→r2 v u H Q)
  (ha:PEw X a ga) (hb:PEw X b gb) (hs:Zju b):PEw X (.Subscript a b pos) (Zaj r ga gb):=Zbi (Zwv ho ha hb hs) (Zmh mr ma mb hr)
end
end L3
namespace L3
open PySem PySem.Spec PyProof.Rows L2
variable {K:PySem.W.Frag} {H H' H2:Hp}
abbrev Xw:=Sw→Addr→Hw→Prop
def upX (K:PySem.W.Frag) (ex:Xw):St→XK:=fun σ Cv _ H'=>∃ C ω G,Cv=.ref C∧TrSt K H' σ ω∧RelH K H' G∧ex ω C G
abbrev Zpe (X:Cx) (ex:Xw):Prop:=Zln (CXe X.prog X.w) X (upX X.K ex)
abbrev Spw:=List W→Hw→Kw→(Addr→Hw→Prop)→Prop
def dnX (K:PySem.W.Frag) (H:Hp) (E:XK):Addr→Hw→Prop:=fun C G'=>∀ H',Mono K H H'→RelH K H' G'→E (.ref C) none H'
def ZtH (K:PySem.W.Frag) (sp:Spw):Sp:=fun vs H Q E=>∃ ws G,TrL K H vs ws∧RelH K H G∧sp ws G (dn K H Q) (dnX K H E)
def Spw.M (sp:Spw):Prop:=∀ ws G (Q Q':Kw) (E E':Addr→Hw→Prop),(∀ w G',Q w G'→Q' w G')→(∀ w G',E w G'→E' w G')→sp ws G Q E→sp ws G Q' E'
structure Df (P:Program) (w:World) (K:PySem.W.Frag) (mg:Str→Option Value) (base:Heap) (x:Str) (k n:Nat) (sp:Spw):Prop where
 ex:∃ (f:Addr) (fd:FuncData) (ps:List Str),mg x=some (.ref f)∧PySem.W.keepIn K (.ref f)=true∧Binds K fd ps []∧ps.length=n∧FnOk P w K mg base (CXe P w) k f fd ps (ZtH K sp)
 mono:sp.M
section
variable {X:Cx} {e:Expr} {es:List Expr} {pos p:Pos} {ga gb:GE} {gs:GA} {ex:Xw}
def Zal:GA:=fun _ G Q=>Q [] G
def Zab (g:GE) (gs:GA):GA:=fun ω G Q=>g ω G fun x G1=>gs ω G1 fun xs G2=>Q (x::xs) G2
theorem ZuX:GA.M Zal:=fun _ _ _ _ h q=>h _ _ q
theorem ZsW (ma:ga.M) (ms:gs.M):GA.M (Zab ga gs):=fun ω G Q Q' h q=>ma _ _ _ _ (fun x G1 q1=>ms _ _ _ _ (fun xs G2 q2=>h _ _ q2) q1) q
theorem Zuf:PAw X [] Zal:=Zrn ZoA (by rintro σ H Q ⟨ω,G,ts,r,q⟩;exact q [] H .refl .nil r)
theorem ZtB (ma:ga.M) (ms:gs.M) (ha:PEw X e ga) (hs:PAw X es gs) (hst:starEach (e::es) X.env=(false,eval e X.env)::starEach es X.env:=by rfl):PAw X (e::es) (Zab ga gs) :=
 Zrn (Zjl ha hs hst) (by rintro σ H Q ⟨ω,G,ts,r,q⟩;exact ⟨ω,G,ts,r,ma _ _ _ _ (fun x G1 q1 v H1 m1 tx r1=>⟨ω,G1,ts.mono m1,r1,ms _ _ _ _ (fun xs G2 q2 vs H2 m2 txs r2=>q2 _ H2 (m1.trans m2) (.cons (tx.mono m2) txs) r2) q1⟩) q⟩)
def Zap (sp:Spw) (ex:Xw) (gs:GA):GE:=fun ω G Q=>gs ω G fun ws G1=>sp ws G1 Q (ex ω)
theorem Zth {sp:Spw} (m:sp.M) (ms:gs.M):GE.M (Zap sp ex gs):=fun ω G Q Q' h q=>ms _ _ _ _ (fun ws G1 q1=>m _ _ _ _ _ _ h (fun _ _ z=>z) q1) q
theorem Ztf {x:Str} {k n:Nat} {sp:Spw} (D:Df X.prog X.w X.K X.mg X.base x k n sp) (hr:Room k X.A) (hg:Gl X x) (hp:Zpe X ex) (ms:gs.M) (ha:PAw X (e::es) gs)
  (hdb:(x==("__debug__":Str))=false:=by decide) (he:starEach (e::es) X.env=(false,eval e X.env)::starEach es X.env:=by rfl) (hpl:(backTo pos (starEach es X.env)).any (·.1)=false:=by rfl) :
  PEw X (.Call (.Name x p) (e::es) [] pos) (Zap sp ex gs):=by
 obtain ⟨f,fd,ps,hm,hk,hb,_,F⟩:=D.ex
 refine Zbi (ZqB F hr hg hm hk hb .nil hp ha hdb he hpl) fun σ H Q zz1=>?_
 obtain ⟨ω,G,ts,r,q⟩:=zz1
 refine ⟨ω,G,ts,r,ms _ _ _ _ (fun ws G1 q1 vs H1 m1 tvs r1=>?_) q⟩
 refine ⟨ws,G1,by rw [List.append_nil];exact tvs,r1,D.mono _ _ _ _ _ _ (fun w G' z=>ZcG m1 z) (fun C G' z H2 m2 r2=>?_) q1⟩
 exact ⟨C,ω,G',rfl,(ts.mono m1).mono m2,r2,z⟩
end
def ZbY (N:List Str) (ws:List W):Sw:=ws.map some++List.replicate (N.length - ws.length) none
theorem ZiH {N:List Str} {vs:List V} {ws:List W} (t:TrL K H vs ws):TrSt K H (L2.Zg2 N vs) (ZbY N ws):=by
 have hl:=t.length
 refine ⟨by simp [L2.Zg2,ZbY,hl],fun i w e=>?_⟩
 unfold ZbY at e
 by_cases hi:i < ws.length
 ·rw [List.getElem?_append_left (by simpa using hi),List.getElem?_map] at e
  cases z:ws[i]? with
  | none=>rw [z] at e;cases e
  | some w' =>
   rw [z] at e
   cases e
   obtain ⟨v,e1,r⟩:=t.get z
   exact ⟨v,by unfold L2.Zg2;rw [List.getElem?_append_left (by simp;omega),List.getElem?_map,e1];rfl,r⟩
 ·rw [List.getElem?_append_right (by simpa using hi),List.getElem?_replicate] at e
  split at e <;> cases e
def Sub (G G':Hw):Prop:=∀ a o,G a=some o→G' a=some o
theorem Sub.refl {G:Hw}:Sub G G:=fun _ _ h=>h
theorem Sub.trans {G G1 G2:Hw} (a:Sub G G1) (b:Sub G1 G2):Sub G G2:=fun c o h=>b c o (a c o h)
theorem Sub.put {G G':Hw} {a:Addr} {o:HW} (h:Sub G G') (hn:G a=none):Sub G (put G' a o):=fun c u z=>by
 rw [Zao (fun e=>by rw [e,hn] at z;cases z)]
 exact h c u z
theorem Sub.put2 {G G':Hw} {a:Addr} {o:HW} (h:Sub G G'):Sub (L3.put G a o) (L3.put G' a o):=fun c u z=>by
 by_cases e:c=a
 ·subst e;rw [Zah] at z ⊢;exact z
 ·rw [Zao e] at z ⊢;exact h c u z
theorem RelH.sub {G G':Hw} (r:RelH K H G') (s:Sub G G'):RelH K H G:=fun a o e=>r a o (s a o e)
def Kw.C (Q:Kw):Prop:=∀ w G G',Sub G G'→Q w G→Q w G'
def Xc (E:Addr→Hw→Prop):Prop:=∀ w G G',Sub G G'→E w G→E w G'
theorem Zxl {Q:VK}:Kw.C (dn K H Q):=fun w G G' s q v H2 m t r=>q v H2 m t (r.sub s)
def ZaR (Q:Kw):Ew:=⟨fun _ G=>Q .non G,Q,fun _ _=>False,fun _ _=>False⟩
section
variable {P:Program} {w:World} {mg:Str→Option Value} {base:Heap}
abbrev cxW (P:Program) (w:World) (K:PySem.W.Frag) (mg:Str→Option Value) (base:Heap) (N:List Str) (qual:Str) (scope:Scope) (f:Addr) (cd:Value) (A:Around) (outer:List Env) (s:Shared) (H:Hp) (E:XK):Cx :=
 Zsh (CXe P w) P w K mg base N qual scope f cd A outer s H E
end
end L3
namespace L3
open PySem PySem.Spec PyProof.Rows L2
variable {K:PySem.W.Frag} {H H' H2:Hp}
section
variable {X:Cx} {a b c e:Expr} {st:Stmt} {sts sts':List Stmt} {pos pos':Pos} {ga gb gc:GE} {gt gu:GT} {g1 g2:GS} {ex:Xw} {P:Hp→Prop}
def Zas:GS:=fun D ω G=>D.nx ω G
def Zax (g1 g2:GS):GS:=fun D ω G=>g1 { D with nx:=g2 D } ω G
theorem Ztb:GS.M Zas:=fun _ _ _ _ h _ _ _ q=>h _ _ q
theorem Zvw (m1:g1.M) (m2:g2.M):GS.M (Zax g1 g2):=fun ω G D D' h1 h2 h3 h4 q=>m1 _ _ { D with nx:=g2 D } _ (fun _ _ z=>m2 _ _ _ _ h1 h2 h3 h4 z) h2 h3 h4 q
theorem Zsr:ZqA X P [] Zas:=fun B hB=>Zk8 Zsw (by rintro D σ H ⟨ω,G,ts,r,mb,q⟩;exact q σ H mb ts r)
theorem Zq9 (m1:g1.M) (m2:g2.M) (h1:PSw X P st g1) (h2:ZqA X P sts g2):ZqA X P (st::sts) (Zax g1 g2):=fun B hB =>
 Zk8 (ZpA (h1 B hB) (h2 B hB)) (by rintro D σ H ⟨ω,G,ts,r,mb,q⟩;exact ⟨ω,G,ts,r,mb,m1 _ _ { dnD X.K B D with nx:=g2 (dnD X.K B D) } _ (fun ω' G' z σ' H' m ts' r'=>⟨ω',G',ts',r',m,z⟩) (fun _ _ z=>z) (fun _ _ z=>z) (fun _ _ z=>z) q⟩)
theorem Zsx (h1:PSw X P st g1):ZqA X P [st] g1:=fun B hB=>Zk8 (Zto (h1 B hB)) fun D σ H z=>z
def Zbd (i:Nat) (ga:GE):GS:=fun D ω G=>ga ω G fun w G1=>D.nx (ω.set i (some w)) G1
theorem Zry {i:Nat} (ma:ga.M):GS.M (Zbd i ga):=fun ω G D D' h _ _ _ q=>ma _ _ _ _ (fun _ _ z=>h _ _ z) q
theorem Zru {i:Nat} {x:Str} (hN:X.N.Nodup) (hi:X.N[i]?=some x) (hx:Loc X.env.scope x) (ma:ga.M) (ha:PEw X e ga) (hs:swapsWith e (some (.Name x pos')) pos.line X.env=pure false) (hf:X.fn x=true∨X.env.scope.names.lookup x=some .local) :
  PSw X P (.Assign [.Name x pos'] e pos) (Zbd i ga):=fun B hB =>
 Zgp (ZvR hN hi hx ha hs hf) (by rintro D σ H ⟨ω,G,ts,r,mb,q⟩;exact ⟨ω,G,ts,r,ma _ _ _ _ (fun w G1 z v H1 m t r1=>z _ H1 (mb.trans m) ((ts.mono m).set i t) r1) q⟩)
def ZaE (ga:GE):GS:=fun D ω G=>ga ω G D.rt
theorem Zvb (ma:ga.M):GS.M (ZaE ga):=fun ω G D D' _ h _ _ q=>ma _ _ _ _ (fun _ _ z=>h _ _ z) q
theorem Zvc (ma:ga.M) (ha:PEw X e ga):PSw X P (.Return (some e) pos) (ZaE ga):=fun B hB=>Zgp (ZuM ha) (by rintro D σ H ⟨ω,G,ts,r,mb,q⟩;exact ⟨ω,G,ts,r,ma _ _ _ _ (fun w G1 z v H1 m t r1=>z v H1 (mb.trans m) t r1) q⟩)
def Zck (ga:GE):GS:=fun D ω G=>ga ω G fun _ G1=>D.nx ω G1
theorem Zsk (ma:ga.M):GS.M (Zck ga):=fun ω G D D' h _ _ _ q=>ma _ _ _ _ (fun _ _ z=>h _ _ z) q
theorem ZsS (ma:ga.M) (ha:PEw X e ga) (hs:swapsWith e none pos.line X.env=pure false):PSw X P (.Expr e pos) (Zck ga):=fun B hB =>
 Zgp (ZsJ ha hs) (by rintro D σ H ⟨ω,G,ts,r,mb,q⟩;exact ⟨ω,G,ts,r,ma _ _ _ _ (fun w G1 z v H1 m t r1=>z _ H1 (mb.trans m) (ts.mono m) r1) q⟩)
def gIf (gt:GT) (g1 g2:GS):GS:=fun D ω G=>gt ω G fun b G1=>if b=true then g1 D ω G1 else g2 D ω G1
theorem Zw2 (mt:gt.M) (m1:g1.M) (m2:g2.M):GS.M (gIf gt g1 g2):=fun ω G D D' h1 h2 h3 h4 q=>mt _ _ _ _ (fun b G1 z=>by
 cases b with
 | true=>exact m1 _ _ _ _ h1 h2 h3 h4 z
 | false=>exact m2 _ _ _ _ h1 h2 h3 h4 z) q
theorem ZwM (mt:gt.M) (m1:g1.M) (m2:g2.M) (hc:PTw X c gt) (h1:ZqA X P sts g1) (h2:ZqA X P sts' g2):PSw X P (.If c sts sts' pos) (gIf gt g1 g2):=fun B hB =>
 Zgp (Zxa hc (h1 B hB) (h2 B hB)) fun D σ H ⟨ω,G,ts,r,mb,q⟩=>⟨ω,G,ts,r,mt _ _ _ _ (fun b G1 z H1 m r1=>by
  cases b with
  | true=>exact ⟨ω,G1,ts.mono m,r1,mb.trans m,z⟩
  | false=>exact ⟨ω,G1,ts.mono m,r1,mb.trans m,z⟩) q⟩
def gTB (g:GE):GT:=fun ω G Q=>g ω G fun w G1=>match w with | .bl b=>Q b G1 | _=>False
theorem Zvx (m:ga.M):GT.M (gTB ga):=fun ω G Q Q' h q=>m _ _ _ _ (fun w G1 z=>by
 cases w <;> first | exact h _ _ z | exact z) q
theorem ZmL {v:V} {b:Bool} (t:Tr K H v (.bl b)):v=.bl b:=by cases t;rfl
theorem Zuy {v:V} {b:Int} (t:Tr K H v (.int b)):v=.int b:=by cases t;rfl
theorem ZrN {v:V} {b:Str} (t:Tr K H v (.str b)):v=.str b:=by cases t;rfl
theorem Zu0 (m:ga.M) {f:Bool→Hp→Prop} {σ:St} (h:upT K (gTB ga) σ H f):up K ga σ H (fun x H1=>∃ k,x=.bl k∧f k H1):=by
 obtain ⟨ω,G,ts,r,q⟩:=h
 refine ⟨ω,G,ts,r,m _ _ _ _ (fun w G1 z v H1 m1 t r1=>?_) q⟩
 cases w with
 | bl b=>exact ⟨b,ZmL t,z H1 m1 r1⟩
 | _=>exact z.elim
theorem Zuh {op:CmpOp} {r:RW2} {r2:R2} (ho:OpR X (compareOp op) r2) (mr:r.M) (ma:ga.M) (mb:gb.M) (hr:∀ (x y:W) (v u:V) (G:Hw) (H:Hp) (Q:VK),Tr X.K H v x→Tr X.K H u y→RelH X.K H G→r x y G (dn X.K H Q)→r2 v u H Q)
  (ha:PEw X a ga) (hb:PEw X b gb) (hm:behindInMarks op b=false):PTw X (.Compare a [op] [b] pos) (gTB (Zaj r ga gb)) :=
 Zmj (Zr8 ho ha hb hm) fun σ H Q z=>Zmh mr ma mb hr σ H _ (Zu0 (Zes mr ma mb) z)
def Zi7 (w:W) (G:Hw):Option Bool:=match w with
 | .non=>some false
 | .bl b=>some b
 | .int i=>some (i != 0)
 | .tup xs=>some (!xs.isEmpty)
 | .rol xs=>some (!xs.isEmpty)
 | .ref a=>match G a with | some (.lst xs)=>some (!xs.isEmpty) | _=>none
 | .str _=>none
def Zf2 (g:GE):GT:=fun ω G Q=>g ω G fun w G1=>match Zi7 w G1 with | some b=>Q b G1 | none=>False
theorem ZuO (m:ga.M):GT.M (Zf2 ga):=fun ω G Q Q' h q=>m _ _ _ _ (fun w G1 z=>by
 cases e:Zi7 w G1 with
 | none=>rw [e] at z;exact z
 | some b=>rw [e] at z;exact h _ _ z) q
theorem Zgf:∀ {vs:List V} {ws:List W},TrL K H vs ws→vs.isEmpty=ws.isEmpty
 | _,_,.nil=>rfl
 | _,_,.cons _ _=>rfl
theorem Zsv {v:V} {w:W} {G:Hw} {b:Bool} (t:Tr K H v w) (r:RelH K H G) (e:Zi7 w G=some b):ZwF K v H b:=by
 cases t with
 | non=>cases e;rfl
 | bl c=>cases e;rfl
 | int i=>cases e;rfl
 | str x=>cases e
 | tup h l=>cases e;exact .inr (.inl ⟨_,h,by rw [Zgf l]⟩)
 | rol h l=>cases e;exact .inl ⟨_,h.sq,by rw [Zgf l]⟩
 | ref a =>
  unfold Zi7 at e
  dsimp only at e
  cases z:G a with
  | none=>rw [z] at e;cases e
  | some o =>
   rw [z] at e
   cases o with
   | exc C=>cases e
   | ins C fs=>cases e
   | dct kvs=>cases e
   | lst xs =>
    cases e
    obtain ⟨vs,e1,l⟩:=r a _ z
    exact .inl ⟨vs,SqL.of e1,by rw [Zgf l]⟩
theorem Zvf (ma:ga.M) (ha:PEw X e ga) (he:∀ whole,isTrue e X.env whole=(do let v ← whole;standAt e.pos;holding [v] (truthy v)):=by intro _;rfl):PTw X e (Zf2 ga) :=
 Zmj (ZqS ha he) fun σ H Q ⟨ω,G,ts,r,q⟩=>⟨ω,G,ts,r,ma _ _ _ _ (fun w G1 z v H1 m t r1=>by
  cases e1:Zi7 w G1 with
  | none=>rw [e1] at z;exact z.elim
  | some b=>rw [e1] at z;exact ⟨b,Zsv t r1 e1,z H1 m r1⟩) q⟩
def gNt (g:GT):GT:=fun ω G Q=>g ω G fun b G1=>Q (!b) G1
theorem Zwl (m:gt.M):GT.M (gNt gt):=fun ω G Q Q' h q=>m _ _ _ _ (fun w G1 z=>h _ _ z) q
theorem Zud (ha:PTw X a gt):PTw X (.UnaryOp .Not a pos) (gNt gt):=Zmj (ZvT ha) fun σ H Q z=>z
abbrev PWw (X:Cx) (e:Expr) (g:GT):Prop:=PW X e (upT X.K g)
theorem ZlF {e:Expr} {t t':TT} (h:PW X e t) (i:∀ σ H Q,t' σ H Q→t σ H Q):PW X e t':=fun wh pins s σ H Q I q=>h wh pins s σ H Q I (i σ H Q q)
def ZhT (g1 g2:GT):GT:=fun ω G Q=>g1 ω G fun b G1=>if b=true then g2 ω G1 Q else Q false G1
def gOr (g1 g2:GT):GT:=fun ω G Q=>g1 ω G fun b G1=>if b=true then Q true G1 else g2 ω G1 Q
theorem ZvH (m1:gt.M) (m2:gu.M):GT.M (ZhT gt gu):=fun ω G Q Q' h q=>m1 _ _ _ _ (fun b G1 z=>by
 cases b with
 | true=>exact m2 _ _ _ _ h z
 | false=>exact h _ _ z) q
theorem ZwZ (m1:gt.M) (m2:gu.M):GT.M (gOr gt gu):=fun ω G Q Q' h q=>m1 _ _ _ _ (fun b G1 z=>by
 cases b with
 | true=>exact h _ _ z
 | false=>exact m2 _ _ _ _ h z) q
variable {Zcf:List Expr}
theorem Zsc (ha:PTw X a gt):PWw X (.BoolOp .And [a] pos) gt:=ZlF (Zsi ha) fun σ H Q z=>z
theorem Zvp (ha:PTw X a gt):PWw X (.BoolOp .Or [a] pos) gt:=ZlF (Zvi ha) fun σ H Q z=>z
theorem Zt6 (m1:gt.M) (m2:gu.M) (ha:PTw X a gt) (hb:PWw X (.BoolOp .And (b::Zcf) pos) gu):PWw X (.BoolOp .And (a::b::Zcf) pos) (ZhT gt gu) :=
 ZlF (Zt0 ha hb) fun σ H Q ⟨ω,G,ts,r,q⟩=>⟨ω,G,ts,r,m1 _ _ _ _ (fun b G1 z H1 m r1=>by
  cases b with
  | true=>exact ⟨ω,G1,ts.mono m,r1,m2 _ _ _ _ (fun _ _ z=>Zl2 m z) z⟩
  | false=>exact z H1 m r1) q⟩
theorem Zw0 (m1:gt.M) (m2:gu.M) (ha:PTw X a gt) (hb:PWw X (.BoolOp .Or (b::Zcf) pos) gu):PWw X (.BoolOp .Or (a::b::Zcf) pos) (gOr gt gu) :=
 ZlF (Zwy ha hb) fun σ H Q ⟨ω,G,ts,r,q⟩=>⟨ω,G,ts,r,m1 _ _ _ _ (fun b G1 z H1 m r1=>by
  cases b with
  | true=>exact z H1 m r1
  | false=>exact ⟨ω,G1,ts.mono m,r1,m2 _ _ _ _ (fun _ _ z=>Zl2 m z) z⟩) q⟩
theorem Ztg {op:BoolOp} {vs:List Expr} (h:PWw X (.BoolOp op vs pos) gt):PTw X (.BoolOp op vs pos) gt:=PW.pt h
def Zcl (ga gb:GE):GE:=fun ω G Q=>ga ω G fun x G1=>match x with | .bl c=>if c=true then gb ω G1 Q else Q (.bl false) G1 | _=>False
def Zj1 (ga gb:GE):GE:=fun ω G Q=>ga ω G fun x G1=>match x with | .bl c=>if c=true then Q (.bl true) G1 else gb ω G1 Q | _=>False
def Zh0 (gt:GT) (ga gb:GE):GE:=fun ω G Q=>gt ω G fun c G1=>if c=true then ga ω G1 Q else gb ω G1 Q
theorem Ztu (ma:ga.M) (mb:gb.M):GE.M (Zcl ga gb):=fun ω G Q Q' h q=>ma _ _ _ _ (fun x G1 z=>by
 cases x with
 | bl c =>
  cases c with
  | true=>exact mb _ _ _ _ h z
  | false=>exact h _ _ z
 | _=>exact z) q
theorem Zu7 (ma:ga.M) (mb:gb.M):GE.M (Zj1 ga gb):=fun ω G Q Q' h q=>ma _ _ _ _ (fun x G1 z=>by
 cases x with
 | bl c =>
  cases c with
  | true=>exact h _ _ z
  | false=>exact mb _ _ _ _ h z
 | _=>exact z) q
theorem ZvD (mt:gt.M) (ma:ga.M) (mb:gb.M):GE.M (Zh0 gt ga gb):=fun ω G Q Q' h q=>mt _ _ _ _ (fun c G1 z=>by
 cases c with
 | true=>exact ma _ _ _ _ h z
 | false=>exact mb _ _ _ _ h z) q
theorem Zvn {op:BoolOp} (h:PEw X a ga):PEw X (.BoolOp op [a] pos) ga:=Zt2 h
theorem Zu3 (ma:ga.M) (mb:gb.M) (ha:PEw X a ga) (hb:PEw X (.BoolOp .And (b::Zcf) pos) gb):PEw X (.BoolOp .And (a::b::Zcf) pos) (Zcl ga gb) :=
 Zbi (Zuv ha hb) fun σ H Q ⟨ω,G,ts,r,q⟩=>⟨ω,G,ts,r,ma _ _ _ _ (fun x G1 z v H1 m t r1=>by
  cases x with
  | bl c =>
   refine ⟨c,ZmL t,?_⟩
   cases c with
   | true=>exact ⟨ω,G1,ts.mono m,r1,mb _ _ _ _ (fun _ _ z=>ZcG m z) z⟩
   | false=>exact z _ H1 m (.bl false) r1
  | _=>exact z.elim) q⟩
theorem Zws (ma:ga.M) (mb:gb.M) (ha:PEw X a ga) (hb:PEw X (.BoolOp .Or (b::Zcf) pos) gb):PEw X (.BoolOp .Or (a::b::Zcf) pos) (Zj1 ga gb) :=
 Zbi (ZwW ha hb) fun σ H Q ⟨ω,G,ts,r,q⟩=>⟨ω,G,ts,r,ma _ _ _ _ (fun x G1 z v H1 m t r1=>by
  cases x with
  | bl c =>
   refine ⟨c,ZmL t,?_⟩
   cases c with
   | true=>exact z _ H1 m (.bl true) r1
   | false=>exact ⟨ω,G1,ts.mono m,r1,mb _ _ _ _ (fun _ _ z=>ZcG m z) z⟩
  | _=>exact z.elim) q⟩
theorem ZtM (mt:gt.M) (ma:ga.M) (mb:gb.M) (hc:PTw X c gt) (ha:PEw X a ga) (hb:PEw X b gb):PEw X (.IfExp c a b pos) (Zh0 gt ga gb) :=
 Zbi (ZqL hc ha hb) fun σ H Q ⟨ω,G,ts,r,q⟩=>⟨ω,G,ts,r,mt _ _ _ _ (fun c G1 z H1 m r1=>by
  cases c with
  | true=>exact ⟨ω,G1,ts.mono m,r1,ma _ _ _ _ (fun _ _ z=>ZcG m z) z⟩
  | false=>exact ⟨ω,G1,ts.mono m,r1,mb _ _ _ _ (fun _ _ z=>ZcG m z) z⟩) q⟩
variable {es:List Expr} {gs:GA}
def Zbc (gs:GA):GE:=fun ω G Q=>gs ω G fun ws G1=>ws.length≤sizeLine∧Q (.tup ws) G1
def Zb5 (gs:GA):GE:=fun ω G Q=>gs ω G fun ws G1=>ws.length≤sizeLine∧∀ p,G1 p=none→Q (.ref p) (put G1 p (.lst ws))
theorem ZuN (m:gs.M):GE.M (Zbc gs):=fun ω G Q Q' h q=>m _ _ _ _ (fun ws G1 z=>⟨z.1,h _ _ z.2⟩) q
theorem Zur (m:gs.M):GE.M (Zb5 gs):=fun ω G Q Q' h q=>m _ _ _ _ (fun ws G1 z=>⟨z.1,fun p hp=>h _ _ (z.2 p hp)⟩) q
theorem ZuB {x1} (m:gs.M) (h:PAw X es gs):PEw X (.Tuple es x1 pos) (Zbc gs) :=
 Zbi (Zt8 h) fun σ H Q ⟨ω,G,ts,r,q⟩=>⟨ω,G,ts,r,m _ _ _ _ (fun ws G1 z vs H1 m1 t r1=>⟨by rw [t.length];exact z.1,fun p hp =>
  z.2 _ _ (m1.trans (Mono.new hp _)) (.tup (SqT.of Zbt) (t.mono (Mono.new hp _))) (r1.mono0 hp)⟩) q⟩
theorem ZuV (m:gs.M) (h:PAw X es gs):PEw X (.List es pos) (Zb5 gs) :=
 Zbi (Zva h) fun σ H Q ⟨ω,G,ts,r,q⟩=>⟨ω,G,ts,r,m _ _ _ _ (fun ws G1 z vs H1 m1 t r1=>⟨by rw [t.length];exact z.1,fun p hp =>
  z.2 p (r1.no hp) _ _ (m1.trans (Mono.new hp _)) (.ref p) (r1.new hp t)⟩) q⟩
end
end L3
set_option Elab.async false
set_option linter.all false
set_option maxRecDepth 100000
set_option maxHeartbeats 4000000
namespace L3
open PySem PySem.Spec PyProof.Rows L2
variable {K:PySem.W.Frag} {H H' H2:Hp}
def ZhH (z:Str):List V:=z.cps.toList.map fun c=>V.str ⟨#[c]⟩
def Itk (xs:List V):It:=⟨fun i _=>i < xs.length,fun i H x H'=>H'=H∧xs[i]?=some x,fun i _=>xs.length≤i⟩
theorem ZmF {P:Program} {w:World} {tg:Expr} (ht:∀ it u,letOwnedTupleGo tg it u=pure ()) (it:Addr) (z:Str) (t:Tok):Zra P w K tg (Itk (ZhH z)) [it] it (fun i h=>h.IsStrIter it "str_ascii_iterator" z t i) where
 mem:=by simp
 obj:=fun i h st b hb=>by
  have e:b=it:=by simpa using hb
  subst e
  obtain ⟨o,e,c,d⟩:=st
  exact ⟨o,e,fun v z=>by rw [d] at z;cases z⟩
 keep:=fun i h h' st k=>by
  obtain ⟨o,e,c,d⟩:=st
  exact ⟨o,k it (by simp) o e,c,d⟩
 item:=by
  intro X hP hw hK hc i pins s σ H E I hf st hg
  subst hP hw hK
  obtain ⟨f0,f1,f2,f3,f4,f5⟩:=hf it (by simp)
  have W:=Walks.strAscii (prog:=X.prog) (w:=X.w) (I.ok.hd hc) it z t
  have hi:i < z.cps.size:=by simpa [ZhH,Itk] using hg
  refine W.item i s _ _ hi st fun v h' tk hv st' kk=>?_
  obtain ⟨c,t',hc',rfl⟩:=hv
  have I1:Inv X pins σ H { s with heap:=h',toks:=tk }:=I.turned (fun b o hb e=>kk b o (by simpa using hb) e) f0 f1 f3 f4 f5
  exact ⟨_,rfl,wpAny_of_eq (ht _ _) ⟨.str ⟨#[c]⟩,H,I1,⟨_,rfl⟩,⟨rfl,by simp [ZhH,hc']⟩,st',fun b hb=>(hf b hb).1⟩⟩
 done:=by
  intro X hP hw hK hc i pins s σ H E I hf st hg
  subst hP hw hK
  obtain ⟨f0,f1,f2,f3,f4,f5⟩:=hf it (by simp)
  have hi:z.cps.size≤i:=by simpa [ZhH,Itk] using hg
  exact wpAny_pyNext_ascii_end (I.ok.hd hc) st (by simp [hi]) fun h' eb=>⟨rfl,I.turned (t':=s.toks) (fun b o hb e=>eb b o hb e) f0 f1 f3 f4 f5⟩
 self:=fun A i s Q E st h=>wpAny_pyIter_striter_ascii st h
theorem Zo7 {P:Program} {w:World} {tg:Expr} (ht:∀ it u,letOwnedTupleGo tg it u=pure ()) (it:Addr) (z:Str) (t:Tok):Zra P w K tg (Itk (ZhH z)) [it] it (fun i h=>h.IsStrIter it "str_iterator" z t i) where
 mem:=by simp
 obj:=fun i h st b hb=>by
  have e:b=it:=by simpa using hb
  subst e
  obtain ⟨o,e,c,d⟩:=st
  exact ⟨o,e,fun v z=>by rw [d] at z;cases z⟩
 keep:=fun i h h' st k=>by
  obtain ⟨o,e,c,d⟩:=st
  exact ⟨o,k it (by simp) o e,c,d⟩
 item:=by
  intro X hP hw hK hc i pins s σ H E I hf st hg
  subst hP hw hK
  obtain ⟨f0,f1,f2,f3,f4,f5⟩:=hf it (by simp)
  have W:=Walks.strWide (prog:=X.prog) (w:=X.w) (I.ok.hd hc) it z t
  have hi:i < z.cps.size:=by simpa [ZhH,Itk] using hg
  refine W.item i s _ _ hi st fun v h' tk hv st' kk=>?_
  obtain ⟨c,t',hc',rfl⟩:=hv
  have I1:Inv X pins σ H { s with heap:=h',toks:=tk }:=I.turned (fun b o hb e=>kk b o (by simpa using hb) e) f0 f1 f3 f4 f5
  exact ⟨_,rfl,wpAny_of_eq (ht _ _) ⟨.str ⟨#[c]⟩,H,I1,⟨_,rfl⟩,⟨rfl,by simp [ZhH,hc']⟩,st',fun b hb=>(hf b hb).1⟩⟩
 done:=by
  intro X hP hw hK hc i pins s σ H E I hf st hg
  subst hP hw hK
  obtain ⟨f0,f1,f2,f3,f4,f5⟩:=hf it (by simp)
  have hi:z.cps.size≤i:=by simpa [ZhH,Itk] using hg
  exact wpAny_pyNext_wide_end (I.ok.hd hc) st (by simp [hi]) fun h' eb=>⟨rfl,I.turned (t':=s.toks) (fun b o hb e=>eb b o hb e) f0 f1 f3 f4 f5⟩
 self:=fun A i s Q E st h=>wpAny_pyIter_striter_wide st h
def ZxF (K:PySem.W.Frag) (tl:TE):TI:=fun σ H R=>tl σ H fun x H1=>(∃ a,x=.ref a∧(∃ xs,SqL K H1 a xs)∧R (Itl K a) H1)∨(∃ a,x=.ref a∧(∃ xs,SqT K H1 a xs)∧R (Itt K a) H1)∨(∃ z,x=.str z∧R (Itk (ZhH z)) H1)
theorem ZvX {X:Cx} {tg l:Expr} {tl:TE} (ht:∀ it u,letOwnedTupleGo tg it u=pure ()) (hl:PE X l tl):PI X tg l (ZxF X.K tl):=by
 intro pins s σ H R I h
 refine thn (hl pins s σ H _ I h) fun v s1 zz1=>?_
 obtain ⟨x,H1,I1,r1,q1⟩:=zz1
 rcases q1 with ⟨a,e,⟨xs,hq⟩,q⟩ | ⟨a,e,⟨xs,hq⟩,q⟩ | ⟨z,e,q⟩
 ·subst e
  cases r1
  obtain ⟨its,rv,p,hz⟩:=I1.list hq
  refine wpAny_pyIter_list p.isList ?_
  refine ⟨s1.heap.objs.size,[s1.heap.objs.size],_,_,H1,rfl,I1.kept (t':=s1.toks) fun b o e=>Heap.get?_push_of_some _ e,ZjM a _,⟨_,Heap.get?_push_size _ rfl,rfl,rfl⟩,fun b hb=>?_,q⟩
  have e:b=s1.heap.objs.size:=by simpa using hb
  subst e
  exact I1.fpOk (Nat.le_refl _) (I1.hok.fresh (Nat.le_refl _))
 ·subst e
  cases r1
  obtain ⟨its,rv,p,hz⟩:=I1.tuple hq
  refine wpAny_pyIter_tuple (show s1.heap.IsTuple a its.toArray from p) ?_
  refine ⟨s1.heap.objs.size,[s1.heap.objs.size],_,_,H1,rfl,I1.kept (t':=s1.toks) fun b o e=>Heap.get?_push_of_some _ e,Ziu a _,⟨_,Heap.get?_push_size _ rfl,rfl,rfl⟩,fun b hb=>?_,q⟩
  have e:b=s1.heap.objs.size:=by simpa using hb
  subst e
  exact I1.fpOk (Nat.le_refl _) (I1.hok.fresh (Nat.le_refl _))
 ·subst e
  obtain ⟨t,rfl⟩:=r1
  have fp:∀ b∈[s1.heap.objs.size],Zoo X pins H1 b:=fun b hb=>by
   have e:b=s1.heap.objs.size:=by simpa using hb
   subst e
   exact I1.fpOk (Nat.le_refl _) (I1.hok.fresh (Nat.le_refl _))
  cases ha:z.cps.all (· < 128)
  ·exact wpAny_pyIter_wide ha ⟨s1.heap.objs.size,[s1.heap.objs.size],_,_,H1,rfl,I1.kept (t':=s1.toks) fun b o e=>Heap.get?_push_of_some _ e,Zo7 ht _ z t,⟨_,Heap.get?_push_size _ rfl,rfl,rfl⟩,fp,q⟩
  ·exact wpAny_pyIter_ascii ha ⟨s1.heap.objs.size,[s1.heap.objs.size],_,_,H1,rfl,I1.kept (t':=s1.toks) fun b o e=>Heap.get?_push_of_some _ e,ZmF ht _ z t,⟨_,Heap.get?_push_size _ rfl,rfl,rfl⟩,fp,q⟩
abbrev GI:=Sw→Hw→(List W→(Hw→Prop)→Hw→Prop)→Prop
def GI.M (g:GI):Prop:=∀ ω G (R R':List W→(Hw→Prop)→Hw→Prop),(∀ ws gd G',R ws gd G'→R' ws gd G')→g ω G R→g ω G R'
def Zhp (z:Str):List W:=z.cps.toList.map fun c=>W.str ⟨#[c]⟩
theorem ZoK {z:Str}:TrL K H (ZhH z) (Zhp z):=by
 unfold ZhH Zhp
 generalize z.cps.toList=l
 induction l with
 | nil=>exact .nil
 | cons c l ih=>exact .cons (.str _) ih
def yes:Hw→Prop:=fun _=>True
def holds (a:Addr) (ws:List W):Hw→Prop:=fun G=>G a=some (.lst ws)
def ZbX (ga:GE):GI:=fun ω G R=>ga ω G fun w G1=>match w with
 | .tup ws=>R ws yes G1
 | .rol ws=>R ws yes G1
 | .str z=>R (Zhp z) yes G1
 | .ref a=>match G1 a with | some (.lst ws)=>R ws (holds a ws) G1 | _=>False
 | _=>False
theorem Zsz {ga:GE} (m:ga.M):GI.M (ZbX ga):=fun ω G R R' h q=>m _ _ _ _ (fun w G1 z=>by
 cases w with
 | tup ws=>exact h _ _ _ z
 | rol ws=>exact h _ _ _ z
 | str x=>exact h _ _ _ z
 | ref a =>
  dsimp only at z ⊢
  cases e:G1 a with
  | none=>rw [e] at z;exact z
  | some o =>
   rw [e] at z
   cases o with
   | lst ws=>exact h _ _ _ z
   | exc C=>exact z
   | ins C fs=>exact z
   | dct kvs=>exact z
 | _=>exact z) q
structure Zse (K:PySem.W.Frag) (H1:Hp) (J:It) (ws:List W) (gd:Hw→Prop):Prop where
 go:∀ (i:Nat) (H:Hp) (G:Hw),Mono K H1 H→RelH K H G→gd G→i < ws.length→J.go i H
 yld:∀ (i:Nat) (H:Hp) (G:Hw) (x:V) (H':Hp),Mono K H1 H→RelH K H G→gd G→J.yld i H x H'→i < ws.length→Mono K H H'∧RelH K H' G∧∃ w,ws[i]?=some w∧Tr K H' x w
 stop:∀ (H:Hp) (G:Hw),Mono K H1 H→RelH K H G→gd G→J.stop ws.length H
theorem ZgO {H H':Hp} {G:Hw} {x:V} {ws:List W} {i:Nat} (r:RelH K H G) (e:H'=H) (h:∃ w,ws[i]?=some w∧Tr K H x w):Mono K H H'∧RelH K H' G∧∃ w,ws[i]?=some w∧Tr K H' x w:=by
 subst e;exact ⟨.refl,r,h⟩
theorem ZgK {a:Addr} {ws:List W} {gd:Hw→Prop} {H1:Hp} (h:∀ H G,Mono K H1 H→RelH K H G→gd G→∃ vs,SqL K H a vs∧TrL K H vs ws):Zse K H1 (Itl K a) ws gd where
 go:=fun i H G m r g hi=>by
  obtain ⟨vs,q,t⟩:=h H G m r g
  have hl:=t.length
  exact ⟨vs,vs[i]'(by omega),q,by simp⟩
 yld:=fun i H G x H' m r g y hi=>by
  obtain ⟨vs,q,t⟩:=h H G m r g
  obtain ⟨w,e,tw⟩:=t.get' (y.2 vs q)
  exact ZgO r y.1 ⟨w,e,tw⟩
 stop:=fun H G m r g=>by
  obtain ⟨vs,q,t⟩:=h H G m r g
  exact ⟨vs,q,Nat.le_of_eq t.length⟩
theorem ZlU {a:Addr} {vs:List V} {ws:List W} {gd:Hw→Prop} {H1:Hp} (q:SqT K H1 a vs) (t:TrL K H1 vs ws):Zse K H1 (Itt K a) ws gd where
 go:=fun i H G m r g hi=>by
  have hl:=t.length
  exact ⟨vs,vs[i]'(by omega),m.tup _ _ q,by simp⟩
 yld:=fun i H G x H' m r g y hi=>by
  obtain ⟨w,e,tw⟩:=(t.mono m).get' (y.2 vs (m.tup _ _ q))
  exact ZgO r y.1 ⟨w,e,tw⟩
 stop:=fun H G m r g=>⟨vs,m.tup _ _ q,Nat.le_of_eq t.length⟩
theorem ZmV {vs:List V} {ws:List W} {gd:Hw→Prop} {H1:Hp} (t:TrL K H1 vs ws):Zse K H1 (Itk vs) ws gd where
 go:=fun i H G m r g hi=>by show i < vs.length;rw [t.length];exact hi
 yld:=fun i H G x H' m r g y hi=>by
  obtain ⟨w,e,tw⟩:=(t.mono m).get' y.2
  exact ZgO r y.1 ⟨w,e,tw⟩
 stop:=fun H G m r g=>by show vs.length≤ws.length;exact Nat.le_of_eq t.length
def PIw (X:Cx) (tg l:Expr) (gi:GI):Prop:=∃ wi:TI,PI X tg l wi∧∀ (σ:St) (H:Hp) (ω:Sw) (G:Hw) (R:List W→(Hw→Prop)→Hw→Prop) (R0:It→Hp→Prop),TrSt X.K H σ ω→RelH X.K H G→gi ω G R →
 (∀ ws gd G1 H1 J,R ws gd G1→Mono X.K H H1→RelH X.K H1 G1→gd G1→Zse X.K H1 J ws gd→R0 J H1)→wi σ H R0
theorem ZuR {X:Cx} {tg l:Expr} {ga:GE} (ht:∀ it u,letOwnedTupleGo tg it u=pure ()) (ma:ga.M) (hl:PEw X l ga):PIw X tg l (ZbX ga):=by
 refine ⟨_,ZvX ht hl,fun σ H ω G R R0 ts r q k=>⟨ω,G,ts,r,ma _ _ _ _ (fun w G1 z v H1 m t r1=>?_) q⟩⟩
 cases t with
 | tup h l=>exact .inr (.inl ⟨_,rfl,⟨_,h⟩,k _ _ _ H1 _ z m r1 trivial (ZlU h l)⟩)
 | rol h l=>exact .inl ⟨_,rfl,⟨_,h.sq⟩,k _ _ _ H1 _ z m r1 trivial (ZgK fun H2 G2 m2 _ _=>⟨_,(m2.rol _ _ h).sq,l.mono m2⟩)⟩
 | str x=>exact .inr (.inr ⟨x,rfl,k _ _ _ H1 _ z m r1 trivial (ZmV ZoK)⟩)
 | ref a =>
  dsimp only at z
  cases e:G1 a with
  | none=>rw [e] at z;exact z.elim
  | some o =>
   rw [e] at z
   cases o with
   | exc C=>exact z.elim
   | ins C fs=>exact z.elim
   | dct kvs=>exact z.elim
   | lst ws =>
    obtain ⟨vs,e1,t1⟩:=r1 a _ e
    exact .inl ⟨a,rfl,⟨vs,SqL.of e1⟩,k _ _ _ H1 _ z m r1 e (ZgK fun H2 G2 m2 r2 g2=>let ⟨vs,e2,t2⟩:=r2 a _ g2;⟨vs,SqL.of e2,t2⟩)⟩
 | non=>exact z.elim
 | bl b=>exact z.elim
 | int i=>exact z.elim
structure TgW (X:Cx) (tg:Expr) (gg:GG):Prop where
 ex:∃ g:TG,PG X tg g∧∀ (x:V) (w:W) (σ:St) (ω:Sw) (H:Hp) (G:Hw) (Q:St→Hp→Prop),Tr X.K H x w→TrSt X.K H σ ω→RelH X.K H G→gg w ω G (dnS X.K H Q)→g x σ H Q
 mono:gg.M
def gNm (i:Nat):GG:=fun w ω G Q=>Q (ω.set i (some w)) G
theorem Zg0 {X:Cx} {x:Str} {p:Pos} {i:Nat} (hN:X.N.Nodup) (hi:X.N[i]?=some x) (hx:Loc X.env.scope x) (hf:X.fn x=true∨X.env.scope.names.lookup x=some .local):TgW X (.Name x p) (gNm i) where
 ex:=⟨_,Zex hN hi hx hf,fun x w σ ω H G Q t ts r q=>q _ H .refl (ts.set i t) r⟩
 mono:=fun _ _ _ _ _ h q=>h _ _ q
def Zr3 (i j:Nat):GG:=fun w ω G Q=>match w with | .tup [a,b]=>Q ((ω.set i (some a)).set j (some b)) G | _=>False
def ZdU (gd:Hw→Prop) (gg:GG) (gb:GS) (D:Ew):List W→Sw→Hw→Prop
 | [],ω,G=>gd G∧D.nx ω G
 | x::xs,ω,G=>gd G∧gg x ω G fun ω1 G1=>gb { nx:=ZdU gd gg gb D xs,rt:=D.rt,bk:=D.nx,ct:=ZdU gd gg gb D xs } ω1 G1
def Ze1 (gi:GI) (gg:GG) (gb:GS):GS:=fun D ω G=>gi ω G fun ws gd G1=>ZdU gd gg gb D ws ω G1
theorem Zlp {gd:Hw→Prop} {gg:GG} {gb:GS} (mg:gg.M) (mb:gb.M) {D D':Ew} (h1:∀ a b,D.nx a b→D'.nx a b) (h2:∀ a b,D.rt a b→D'.rt a b):∀ (ws:List W) (ω:Sw) (G:Hw),ZdU gd gg gb D ws ω G→ZdU gd gg gb D' ws ω G
 | [],ω,G,q=>⟨q.1,h1 _ _ q.2⟩
 | x::xs,ω,G,q=>⟨q.1,mg _ _ _ _ _ (fun ω1 G1 z=>mb _ _ { nx:=ZdU gd gg gb D xs,rt:=D.rt,bk:=D.nx,ct:=ZdU gd gg gb D xs } _ (fun a b y=>Zlp mg mb h1 h2 xs a b y) h2 h1 (fun a b y=>Zlp mg mb h1 h2 xs a b y) z) q.2⟩
theorem ZvW {gi:GI} {gg:GG} {gb:GS} (mi:gi.M) (mg:gg.M) (mb:gb.M):GS.M (Ze1 gi gg gb):=fun ω G D D' h1 h2 h3 h4 q=>mi _ _ _ _ (fun ws gd G1 z=>Zlp mg mb h1 h2 ws ω G1 z) q
theorem Zqc {gd:Hw→Prop} {gg:GG} {gb:GS} {D:Ew} {ws:List W} {ω:Sw} {G:Hw} (q:ZdU gd gg gb D ws ω G):gd G:=by
 cases ws with
 | nil=>exact q.1
 | cons w ws=>exact q.1
theorem ZtW {X:Cx} {P:Hp→Prop} {tg iter:Expr} {body:List Stmt} {pos:Pos} {gi:GI} {gg:GG} {gb:GS} (hp:PassesOwn (model X.prog X.w) X.A X.env X.xe) (hc:X.calm=true) (mi:gi.M) (mb:gb.M) (hi:PIw X tg iter gi) (hg:TgW X tg gg) (hb:ZqA X Zxk body gb)
  (hs:∀ x,foldedSetIterable iter X.env x=pure x:=by intro _;rfl):PSw X P (.For tg iter body [] pos) (Ze1 gi gg gb):=by
 intro B hB
 obtain ⟨wi,hwi,hi⟩:=hi
 obtain ⟨g,hpg,hgg⟩:=hg.ex
 have mg:=hg.mono
 have hb':PSs X body (fun D σ H=>∃ B',upS X.K B' gb D σ H):=(by rintro pins s σ H D I ⟨B',z⟩;exact hb B' trivial pins s σ H D I z)
 refine Zgp (Zu8 hp hc hwi hpg hb' hs) fun D σ H zz2=>?_
 obtain ⟨ω,G,ts,r,mb0,q⟩:=zz2
 refine hi σ H ω G _ _ ts r q fun ws gd G1 H1 J z m1 r1 hgd wk=>?_
 have mb1:=mb0.trans m1
 refine ⟨fun i m σ' H'=>m=ws.length - i∧i≤ws.length∧Mono X.K H1 H'∧∃ ω' G',TrSt X.K H' σ' ω'∧RelH X.K H' G'∧ZdU gd gg gb (dnD X.K B D) (ws.drop i) ω' G',⟨ws.length,by simp,Nat.zero_le _,.refl,ω,G1,ts.mono m1,r1,by simpa using z⟩,?_⟩
 rintro i m σ' H' ⟨rfl,hle,mm,ω',G',ts',r',q'⟩
 have hgd':=Zqc q'
 by_cases hlt:i < ws.length
 ·refine .inr ⟨wk.go i H' G' mm r' hgd' hlt,fun σ2 H2=>Mono X.K H1 H2∧∃ ω2 G2,TrSt X.K H2 σ2 ω2∧RelH X.K H2 G2∧ZdU gd gg gb (dnD X.K B D) (ws.drop (i+1)) ω2 G2,
   (by rintro σ2 H2 ⟨y1,y2⟩;exact ⟨ws.length - (i+1),by omega,rfl,hlt,y1,y2⟩),fun x H2 y=>?_⟩
  obtain ⟨my,ry,w,ew,tw⟩:=wk.yld i H' G' x H2 mm r' hgd' y hlt
  have mm:=mm.trans my
  have ed:ws.drop i=w::ws.drop (i+1):=by
   obtain ⟨h',e'⟩:=List.getElem?_eq_some_iff.mp ew
   rw [← e'];exact List.drop_eq_getElem_cons h'
  rw [ed] at q'
  refine hgg x w σ' ω' _ G' _ tw (ts'.mono my) ry (mg _ _ _ _ _ (fun ω1 G1' z1 σ1 H3 m3 ts3 r3=>?_) q'.2)
  exact ⟨H1,ω1,G1',ts3,r3,mm.trans m3,mb _ _ _ _ (fun a b y σ4 H4 m4 ts4 r4=>⟨m4,a,b,ts4,r4,y⟩) (fun a b y=>ZcG mb1 y) (fun a b y=>Zq7 mb1 y) (fun a b y σ4 H4 m4 ts4 r4=>⟨m4,a,b,ts4,r4,y⟩) z1⟩
 ·have e:i=ws.length:=by omega
  subst e
  rw [List.drop_length] at q'
  exact .inl ⟨wk.stop H' G' mm r' hgd',q'.2 σ' H' (mb1.trans mm) ts' r'⟩
def Zb3 (gd:Hw→Prop) (gg:GG) (gt:GT) (ge:GE) (R:List W→Hw→Prop):List W→Sw→Hw→List W→Prop
 | [],_,G,ys=>gd G∧R ys G
 | x::xs,ω,G,ys=>gd G∧ys.length < sizeLine∧gg x ω G fun ω1 G1=>gt ω1 G1 fun b G2=>if b=true then ge ω1 G2 fun y G3=>Zb3 gd gg gt ge R xs ω1 G3 (ys++[y]) else Zb3 gd gg gt ge R xs ω1 G2 ys
def Zc1 (gi:GI) (n:Nat) (gg:GG) (gt:GT) (ge:GE):GE:=fun ω G Q=>gi ω G fun ws gd G1=>Zb3 gd gg gt ge (fun ys G2=>∀ p,G2 p=none→Q (.ref p) (put G2 p (.lst ys))) ws (List.replicate n none) G1 []
theorem ZgQ {gd:Hw→Prop} {gg:GG} {gt:GT} {ge:GE} (mg:gg.M) (mt:gt.M) (me:ge.M) {R R':List W→Hw→Prop} (h:∀ a b,R a b→R' a b):∀ (ws:List W) (ω:Sw) (G:Hw) (ys:List W),Zb3 gd gg gt ge R ws ω G ys→Zb3 gd gg gt ge R' ws ω G ys
 | [],ω,G,ys,q=>⟨q.1,h _ _ q.2⟩
 | x::xs,ω,G,ys,q=>⟨q.1,q.2.1,mg _ _ _ _ _ (fun ω1 G1 z=>mt _ _ _ _ (fun b G2 z2=>by
   cases b with
   | true=>exact me _ _ _ _ (fun y G3 z3=>ZgQ mg mt me h xs ω1 G3 _ z3) z2
   | false=>exact ZgQ mg mt me h xs ω1 G2 _ z2) z) q.2.2⟩
theorem ZsH {gi:GI} {n:Nat} {gg:GG} {gt:GT} {ge:GE} (mi:gi.M) (mg:gg.M) (mt:gt.M) (me:ge.M):GE.M (Zc1 gi n gg gt ge):=fun ω G Q Q' h q =>
 mi _ _ _ _ (fun ws gd G1 z=>ZgQ mg mt me (fun ys G2 z p hp=>h _ _ (z p hp)) _ _ _ _ z) q
theorem Zku {gd:Hw→Prop} {gg:GG} {gt:GT} {ge:GE} {R:List W→Hw→Prop} {ws:List W} {ω:Sw} {G:Hw} {ys:List W} (q:Zb3 gd gg gt ge R ws ω G ys):gd G:=by
 cases ws with
 | nil=>exact q.1
 | cons w ws=>exact q.1
def Zf6:GT:=fun _ G Q=>Q true G
theorem Zvs:GT.M Zf6:=fun _ _ _ _ h q=>h _ _ q
abbrev PFw (X:Cx) (ifs:List Expr) (g:GT):Prop:=PF X ifs (upT X.K g)
theorem ZtR {X:Cx}:PFw X [] Zf6:=(by rintro pins s σ H Q I ⟨ω,G,ts,r,q⟩;exact Zvu pins s σ H Q I (q H .refl r))
theorem Znq {n:Nat} {σ:St} (h:σ=List.replicate n none):TrSt K H σ (List.replicate n none):=by
 subst h
 refine ⟨by simp,fun i w e=>?_⟩
 rw [List.getElem?_replicate] at e
 split at e <;> cases e
theorem Zsu {X:Cx} {Nc:List Str} {gi:GI} {gg:GG} {gt:GT} {ge:GE} {wi:TI} {g:TG} (hwi:∀ (σ:St) (H:Hp) (ω:Sw) (G:Hw) (R:List W→(Hw→Prop)→Hw→Prop) (R0:It→Hp→Prop),TrSt X.K H σ ω→RelH X.K H G→gi ω G R →
   (∀ ws gd G1 H1 J,R ws gd G1→Mono X.K H H1→RelH X.K H1 G1→gd G1→Zse X.K H1 J ws gd→R0 J H1)→wi σ H R0)
  (hgg:∀ (x:V) (w:W) (σ:St) (ω:Sw) (H:Hp) (G:Hw) (Q:St→Hp→Prop),Tr X.K H x w→TrSt X.K H σ ω→RelH X.K H G→gg w ω G (dnS X.K H Q)→g x σ H Q) (mg:gg.M) (mt:gt.M) (me:ge.M) (σ:St) (H:Hp) (Q:VK) (h:up X.K (Zc1 gi Nc.length gg gt ge) σ H Q) :
  ZrX wi (fun _=>List.replicate Nc.length none) g (upT X.K gt) (up X.K ge) σ H Q:=by
 obtain ⟨ω,G,ts,r,q⟩:=h
 refine hwi σ H ω G _ _ ts r q fun ws gd G1 H1 J z m1 r1 hgd wk=>?_
 refine ⟨fun i m σ' H' vs=>m=ws.length - i∧i≤ws.length∧Mono X.K H1 H'∧∃ ω' G' ys,TrSt X.K H' σ' ω'∧RelH X.K H' G'∧TrL X.K H' vs ys∧Zb3 gd gg gt ge (fun ys G2=>∀ p,G2 p=none→dn X.K H Q (.ref p) (put G2 p (.lst ys))) (ws.drop i) ω' G' ys,
  ⟨ws.length,by simp,Nat.zero_le _,.refl,_,G1,[],Znq rfl,r1,.nil,by simpa using z⟩,?_⟩
 rintro i m σ' H' vs ⟨rfl,hle,mm,ω',G',ys,ts',r',tv,q'⟩
 have hgd':=Zku q'
 by_cases hlt:i < ws.length
 ·have hw:∃ w,ws[i]?=some w:=⟨ws[i],by simp [hlt]⟩
  obtain ⟨w0,ew0⟩:=hw
  have ed:ws.drop i=w0::ws.drop (i+1):=by
   obtain ⟨h',e'⟩:=List.getElem?_eq_some_iff.mp ew0
   rw [← e'];exact List.drop_eq_getElem_cons h'
  rw [ed] at q'
  refine .inr ⟨wk.go i H' G' mm r' hgd' hlt,by rw [tv.length];exact q'.2.1,fun σ2 H2 vs2=>Mono X.K H1 H2∧∃ ω2 G2 ys2,TrSt X.K H2 σ2 ω2∧RelH X.K H2 G2∧TrL X.K H2 vs2 ys2∧Zb3 gd gg gt ge (fun ys G2=>∀ p,G2 p=none→dn X.K H Q (.ref p) (put G2 p (.lst ys))) (ws.drop (i+1)) ω2 G2 ys2,
   (by rintro σ2 H2 vs2 ⟨y1,y2⟩;exact ⟨ws.length - (i+1),by omega,rfl,hlt,y1,y2⟩),fun x H2 y=>?_⟩
  obtain ⟨my,ry,w,ew,tw⟩:=wk.yld i H' G' x H2 mm r' hgd' y hlt
  have mm:=mm.trans my
  have tv:=tv.mono my
  rw [ew0] at ew;cases ew
  refine hgg x _ σ' ω' _ G' _ tw (ts'.mono my) ry (mg _ _ _ _ _ (fun ω1 G1' z1 σ1 H3 m3 ts3 r3=>?_) q'.2.2)
  refine ⟨ω1,G1',ts3,r3,mt _ _ _ _ (fun b G4 z4 H4 m4 r4=>?_) z1⟩
  cases b with
  | true=>exact ⟨ω1,G4,ts3.mono m4,r4,me _ _ _ _ (fun y5 G5 z5 v5 H5 m5 t5 r5=>⟨((mm.trans m3).trans m4).trans m5,ω1,G5,_,(ts3.mono m4).mono m5,r5,(((tv.mono m3).mono m4).mono m5).append (.cons t5 .nil),z5⟩) z4⟩
  | false=>exact ⟨(mm.trans m3).trans m4,ω1,G4,_,ts3.mono m4,r4,(tv.mono m3).mono m4,z4⟩
 ·have e:i=ws.length:=by omega
  subst e
  rw [List.drop_length] at q'
  exact .inl ⟨wk.stop H' G' mm r' hgd',fun p hp=>q'.2 p (r'.no hp) _ _ ((m1.trans mm).trans (Mono.new hp _)) (.ref p) (r'.new hp tv)⟩
structure TgU (X:Cx) (Nc:List Str) (scope:Scope) (tg:Expr) (gg:GG):Prop where
 ex:∃ g:TG,(∀ C fp s H,PG (cxB X Nc scope [] C fp s H) tg g)∧∀ (x:V) (w:W) (σ:St) (ω:Sw) (H:Hp) (G:Hw) (Q:St→Hp→Prop),Tr X.K H x w→TrSt X.K H σ ω→RelH X.K H G→gg w ω G (dnS X.K H Q)→g x σ H Q
 mono:gg.M
theorem ZeE {X:Cx} {Nc:List Str} {scope:Scope} {x:Str} {p:Pos} {i:Nat} (hN:Nc.Nodup) (hi:Nc[i]?=some x) (hx:scope.names.lookup x=some .local):TgU X Nc scope (.Name x p) (gNm i) where
 ex:=⟨Zi8 i,fun C fp s H=>Zex (X:=cxB X Nc scope [] C fp s H) hN hi (.inl (lookup_relabel_local hx)) (.inr (lookup_relabel_local hx)),fun x w σ ω H G Q t ts r q=>q _ H .refl (ts.set i t) r⟩
 mono:=fun _ _ _ _ _ h q=>h _ _ q
theorem ZvA {i j:Nat}:GG.M (Zr3 i j):=fun w ω G Q Q' h q=>by
 unfold Zr3 at q ⊢
 split
 ·exact h _ _ q
 ·rename_i z
  split at q
  ·exact (z _ _ rfl).elim
  ·exact q
theorem Zs0 {X:Cx} {Nc:List Str} {scope:Scope} {x y:Str} {p p' pos:Pos} {k i j:Nat} (hc:X.calm=true) (hN:Nc.Nodup) (hi:Nc[i]?=some x) (hx:scope.names.lookup x=some .local) (hj:Nc[j]?=some y) (hy:scope.names.lookup y=some .local) :
  TgU X Nc scope (.Tuple [.Name x p,.Name y p'] k pos) (Zr3 i j) where
 ex:=⟨L2.Zbc X.K 2 (L2.Zab (Zi8 i) (L2.Zab (Zi8 j) L2.Zal)),fun C fp s H=>ZrP (X:=cxB X Nc scope [] C fp s H) hc (ZfQ (Zex hN hi (.inl (lookup_relabel_local hx)) (.inr (lookup_relabel_local hx))) (ZfQ (Zex hN hj (.inl (lookup_relabel_local hy)) (.inr (lookup_relabel_local hy))) Znv)),
  fun v w σ ω H G Q t ts r q=>by
   unfold Zr3 at q
   split at q
   ·rename_i a b
    cases t with
    | tup h l =>
     cases l with
     | cons ta l =>
      cases l with
      | cons tb l =>
       cases l
       exact ⟨_,_,rfl,h,rfl,_,_,rfl,_,_,rfl,rfl,q _ H .refl ((ts.set i ta).set j tb) r⟩
   ·exact q.elim⟩
 mono:=ZvA
theorem Zst {X:Cx} {elt tg iter:Expr} {ifs:List Expr} {scope:Scope} {pos:Pos} {Nc:List Str} {gi:GI} {gg:GG} {gt:GT} {ge:GE} (hc:X.calm=true) (hi:PIw X tg iter gi) (B:Blk X Nc scope [] (fun _=>List.replicate Nc.length none))
  (hu:TgU X Nc scope tg gg) (mt:gt.M) (ht:∀ C fp s H,PFw (cxB X Nc scope [] C fp s H) ifs gt) (me:ge.M) (he:∀ C fp s H,PEw (cxB X Nc scope [] C fp s H) elt ge) (hs:∀ x,foldedSetIterable iter X.env x=pure x) :
  PEw X (.ListComp elt [⟨tg,iter,ifs,0⟩] scope pos) (Zc1 gi Nc.length gg gt ge):=by
 obtain ⟨wi,hwi,hi⟩:=hi
 obtain ⟨g,hpg,hgg⟩:=hu.ex
 exact Zbi (Zpr hc hwi B hpg ht he hs) (Zsu hi hgg hu.mono mt me)
end L3
namespace L3
open PySem PySem.Spec PyProof.Rows L2
variable {K:PySem.W.Frag} {H H' H2:Hp}
def ZbU (C:Int→Int→Prop) (f:Int→Int→Int):RW2:=fun x y G Q=>match x,y with
 | .int i,.int j=>C i j∧Q (.int (f i j)) G
 | _,_=>False
theorem Ze5 {C:Int→Int→Prop} {f:Int→Int→Int}:RW2.M (ZbU C f):=fun x y G Q Q' h q=>by
 cases x <;> cases y <;> first | exact q | exact ⟨q.1,h _ _ q.2⟩
theorem ZhN {C:Int→Int→Prop} {f:Int→Int→Int} (x y:W) (v u:V) (G:Hw) (H:Hp) (Q:VK) (tx:Tr K H v x) (ty:Tr K H u y) (r:RelH K H G) (q:ZbU C f x y G (dn K H Q)):rI C (fun i j=>.int (f i j)) v u H Q:=by
 cases tx <;> first | exact q.elim | (cases ty <;> first | exact q.elim | exact ⟨_,_,rfl,rfl,q.1,q.2 _ H .refl (.int _) r⟩)
def ZeX:RW2:=fun x y G Q=>match x,y with
 | .int i,.int j=>Q (.int (i+j)) G
 | .str a,.str b=>a.length+b.length≤sizeLine∧Q (.str (a++b)) G
 | .ref a,.ref b=>(match G a,G b with
  | some (.lst xs),some (.lst ys)=>xs.length+ys.length≤sizeLine∧∀ p,G p=none→Q (.ref p) (put G p (.lst (xs++ys)))
  | _,_=>False)
 | _,_=>False
theorem Zno:RW2.M ZeX:=fun x y G Q Q' h q=>by
 cases x <;> cases y <;> first | exact q | exact h _ _ q | exact ⟨q.1,h _ _ q.2⟩ | skip
 rename_i a b
 unfold ZeX at q ⊢
 dsimp only at q ⊢
 cases ea:G a with
 | none=>rw [ea] at q;exact q
 | some oa =>
  cases eb:G b with
  | none=>rw [ea,eb] at q;cases oa <;> exact q
  | some ob =>
   rw [ea,eb] at q
   cases oa <;> cases ob <;> first | exact q | exact ⟨q.1,fun p hp=>h _ _ (q.2 p hp)⟩
theorem Zpj {X:Cx}:OpR X (binaryOp .Add) (fun x y H Q=>(rI0 fun i j=>.int (i+j)) x y H Q∨(∃ i j,x=.str i∧y=.str j∧i.length+j.length≤sizeLine∧Q (.str (i++j)) H)∨Zus x y H Q):=OpR.or ZuJ (OpR.or ZmI Zt4)
theorem Zog (x y:W) (v u:V) (G:Hw) (H:Hp) (Q:VK) (tx:Tr K H v x) (ty:Tr K H u y) (r:RelH K H G) (q:ZeX x y G (dn K H Q)) :
  (rI0 fun i j=>.int (i+j)) v u H Q∨(∃ i j,v=.str i∧u=.str j∧i.length+j.length≤sizeLine∧Q (.str (i++j)) H)∨Zus v u H Q:=by
 cases tx with
 | int i=>cases ty <;> first | exact q.elim | exact .inl ⟨_,_,rfl,rfl,q _ H .refl (.int _) r⟩
 | str i=>cases ty <;> first | exact q.elim | exact .inr (.inl ⟨_,_,rfl,rfl,q.1,q.2 _ H .refl (.str _) r⟩)
 | ref a =>
  cases ty <;> try exact q.elim
  rename_i b
  unfold ZeX at q
  dsimp only at q
  cases ea:G a with
  | none=>rw [ea] at q;exact q.elim
  | some oa =>
   cases eb:G b with
   | none=>rw [ea,eb] at q;cases oa <;> exact q.elim
   | some ob =>
    rw [ea,eb] at q
    cases oa <;> cases ob <;> try exact q.elim
    obtain ⟨vs,e1,t1⟩:=r a _ ea
    obtain ⟨us,e2,t2⟩:=r b _ eb
    exact .inr (.inr ⟨a,b,vs,us,rfl,rfl,e1,e2,by rw [t1.length,t2.length];exact q.1,fun p hp=>q.2 p (r.no hp) _ _ (Mono.new hp _) (.ref p) (r.new hp (t1.append t2))⟩)
 | _=>exact q.elim
def Zgg (f:Int→Int→Bool):RW2:=fun x y G Q=>match x,y with
 | .int i,.int j=>Q (.bl (f i j)) G
 | _,_=>False
theorem ZrR {f:Int→Int→Bool}:RW2.M (Zgg f):=fun x y G Q Q' h q=>by
 cases x <;> cases y <;> first | exact q | exact h _ _ q
theorem Znl {f:Int→Int→Bool} (x y:W) (v u:V) (G:Hw) (H:Hp) (Q:VK) (tx:Tr K H v x) (ty:Tr K H u y) (r:RelH K H G) (q:Zgg f x y G (dn K H Q)):rI0 (fun i j=>.bl (f i j)) v u H Q:=by
 cases tx <;> first | exact q.elim | (cases ty <;> first | exact q.elim | exact ⟨_,_,rfl,rfl,q _ H .refl (.bl _) r⟩)
def opt (o:Option W) (f:W→Prop):Prop:=match o with | some w=>f w | none=>False
theorem Ztq {o:Option W} {f f':W→Prop} (h:∀ w,f w→f' w) (q:opt o f):opt o f':=by
 cases o with
 | none=>exact q
 | some w=>exact h _ q
theorem Zeq {o:Option W} {f:W→Prop} (q:opt o f):∃ w,o=some w∧f w:=by
 cases o with
 | none=>exact q.elim
 | some w=>exact ⟨w,rfl,q⟩
def Zam (f:W→W→Hw→Option W):RW2:=fun x y G Q=>opt (f x y G) fun w=>Q w G
theorem ZeT {f:W→W→Hw→Option W}:RW2.M (Zam f):=fun x y G Q Q' h q=>Ztq (fun w z=>h _ _ z) q
def ixW (x y:W) (G:Hw):Option W:=match x,y with
 | .tup xs,.int i=>atI xs i
 | .rol xs,.int i=>atI xs i
 | .ref a,.int i=>(match G a with | some (.lst xs)=>atI xs i | _=>none)
 | .str z,.int i=>if z.length≤sizeLine then (atI z.cps.toList i).map fun c=>.str ⟨#[c]⟩ else none
 | _,_=>none
theorem Znf {vs:List V} {ws:List W} {i:Int} {w:W} (t:TrL K H vs ws) (e:atI ws i=some w):∃ v,atI vs i=some v∧Tr K H v w:=by
 unfold atI at e ⊢
 rw [t.length]
 cases z:ixN ws.length i with
 | none=>rw [z] at e;cases e
 | some j =>
  rw [z] at e
  exact t.get e
theorem ZxJ {X:Cx}:IxR X (fun x y H Q=>ZwS X.K x y H Q∨ZwK X.K x y H Q∨Zwo x y H Q):=IxR.or ZtA (IxR.or Zvz Zvr)
theorem ZvU (x y:W) (v u:V) (G:Hw) (H:Hp) (Q:VK) (tx:Tr K H v x) (ty:Tr K H u y) (r:RelH K H G) (q:Zam ixW x y G (dn K H Q)):ZwS K v u H Q∨ZwK K v u H Q∨Zwo v u H Q:=by
 obtain ⟨w,e,q'⟩:=Zeq q
 cases ty with
 | int i =>
  cases tx with
  | tup h l =>
   obtain ⟨v',e',t'⟩:=Znf l e
   exact .inr (.inl ⟨_,_,_,_,rfl,rfl,h,e',q' _ H .refl t' r⟩)
  | rol h l =>
   obtain ⟨v',e',t'⟩:=Znf l e
   exact .inl ⟨_,_,_,_,rfl,rfl,h.sq,e',q' _ H .refl t' r⟩
  | str z =>
   unfold ixW at e;dsimp only at e
   split at e
   ·rename_i hz
    cases e1:atI z.cps.toList i with
    | none=>rw [e1] at e;cases e
    | some c =>
     rw [e1] at e;cases e
     exact .inr (.inr ⟨z,i,c,rfl,rfl,hz,e1,q' _ H .refl (.str _) r⟩)
   ·cases e
  | ref a =>
   unfold ixW at e;dsimp only at e
   cases eG:G a with
   | none=>rw [eG] at e;cases e
   | some o =>
    rw [eG] at e
    cases o with
    | exc C=>cases e
    | ins C fs=>cases e
    | dct kvs=>cases e
    | lst ws =>
     obtain ⟨vs,e1,l⟩:=r a _ eG
     obtain ⟨v',e',t'⟩:=Znf l e
     exact .inl ⟨_,_,_,_,rfl,rfl,SqL.of e1,e',q' _ H .refl t' r⟩
  | _=>cases e
 | _=>cases x <;> cases e
end L3
set_option Elab.async false
set_option linter.all false
set_option maxRecDepth 100000
set_option maxHeartbeats 4000000
namespace L3
open PySem PySem.Spec PyProof.Rows L2
variable {K:PySem.W.Frag} {H H' H2:Hp}
structure Em (X:Cx) (e:Expr) (g:GE):Prop where
 p:PEw X e g
 m:g.M
structure Tm (X:Cx) (e:Expr) (g:GT):Prop where
 p:PTw X e g
 m:g.M
structure Wm (X:Cx) (e:Expr) (g:GT):Prop where
 p:PWw X e g
 m:g.M
structure Am (X:Cx) (es:List Expr) (g:GA):Prop where
 p:PAw X es g
 m:g.M
structure Sm (X:Cx) (P:Hp→Prop) (s:Stmt) (g:GS):Prop where
 p:PSw X P s g
 m:g.M
structure Ssm (X:Cx) (P:Hp→Prop) (s:List Stmt) (g:GS):Prop where
 p:ZqA X P s g
 m:g.M
structure Im (X:Cx) (tg l:Expr) (g:GI):Prop where
 p:PIw X tg l g
 m:g.M
def place (N:List Str) (x:Str):Option Nat:=N.findIdx? (·==x)
theorem ZpQ {N:List Str} {x:Str} {i:Nat} (h:place N x=some i):N[i]?=some x:=by
 unfold place at h
 obtain ⟨hi,e,_⟩:=List.findIdx?_eq_some_iff_getElem.mp h
 rw [List.getElem?_eq_getElem hi,eq_of_beq e]
def Zv9 (sc:Scope) (x:Str):Bool:=match sc.names.lookup x with | some .local=>true | some .cell=>true | some .free=>true | _=>false
theorem ZlD {sc:Scope} {x:Str} (h:Zv9 sc x=true):Vis sc x:=by
 unfold Zv9 at h
 split at h <;> first | (rename_i e;exact .inl e) | (rename_i e;exact .inr (.inl e)) | (rename_i e;exact .inr (.inr e)) | cases h
def Zms (sc:Scope) (x:Str):Bool:=match sc.names.lookup x with | some .local=>true | _=>false
theorem ZgU {sc:Scope} {x:Str} (h:Zms sc x=true):sc.names.lookup x=some .local:=by
 unfold Zms at h
 split at h
 ·rename_i e;exact e
 ·cases h
section
variable {X:Cx} {a b c e f:Expr} {es Zcf:List Expr} {st:Stmt} {sts sts':List Stmt} {pos pos' p:Pos} {ga gb gc:GE} {gt gu:GT} {gs:GA} {g1 g2:GS} {ex:Xw} {P:Hp→Prop}
theorem Zag {i:Int} {j}:Em X (.Constant (.int i) j pos) (gC (.int i)):=⟨Zvo,ZtK⟩
theorem Zeo {i:Bool} {j}:Em X (.Constant (.bool i) j pos) (gC (.bl i)):=⟨Zwr,ZtK⟩
theorem ZeY {j}:Em X (.Constant .none j pos) (gC .non):=⟨Zvk,ZtK⟩
theorem Zau {i:Str} {j}:Em X (.Constant (.str i) j pos) (gC (.str i)):=⟨Zve,ZtK⟩
theorem Zkf (ha:Em X a ga) (hb:Em X b gb):Em X (.BinOp a .Add b pos) (Zaj ZeX ga gb):=⟨Zg8 Zpj Zno ha.m hb.m Zog ha.p hb.p,Zes Zno ha.m hb.m⟩
theorem Zgw (ha:Em X a ga) (hb:Em X b gb):Em X (.BinOp a .Sub b pos) (Zaj (ZbU (fun _ _=>True) fun i j=>i - j) ga gb) :=
 ⟨Zg8 (r2:=rI (fun _ _=>True) fun i j=>.int (i - j)) (opI fun _ _ _ _ _ _ _ _ q=>sub_int q) Ze5 ha.m hb.m ZhN ha.p hb.p,Zes Ze5 ha.m hb.m⟩
theorem Zhf (ha:Em X a ga) (hb:Em X b gb):Em X (.BinOp a .Mult b pos) (Zaj (ZbU CMul fun i j=>i*j) ga gb):=⟨Zg8 Zuq Ze5 ha.m hb.m ZhN ha.p hb.p,Zes Ze5 ha.m hb.m⟩
theorem Zlg (ha:Em X a ga) (hb:Em X b gb):Em X (.BinOp a .FloorDiv b pos) (Zaj (ZbU ZtI fun i j=>i / j) ga gb):=⟨Zg8 Zty Ze5 ha.m hb.m ZhN ha.p hb.p,Zes Ze5 ha.m hb.m⟩
theorem ZiO (ha:Em X a ga) (hb:Em X b gb):Em X (.BinOp a .Mod b pos) (Zaj (ZbU (fun _ j=>0 < j) fun i j=>i % j) ga gb):=⟨Zg8 ZuP Ze5 ha.m hb.m ZhN ha.p hb.p,Zes Ze5 ha.m hb.m⟩
theorem ZrM (ha:Em X a ga) (hb:Em X b gb):Em X (.BinOp a .Pow b pos) (Zaj (ZbU Zs5 fun i j=>i ^ j.toNat) ga gb):=⟨Zg8 ZuS Ze5 ha.m hb.m ZhN ha.p hb.p,Zes Ze5 ha.m hb.m⟩
theorem Zay (hs:Zju b) (ha:Em X a ga) (hb:Em X b gb):Em X (.Subscript a b pos) (Zaj (Zam ixW) ga gb):=⟨Zwu ZxJ ZeT ha.m hb.m ZvU ha.p hb.p hs,Zes ZeT ha.m hb.m⟩
theorem ZaO {k} (h:Am X es gs):Em X (.Tuple es k pos) (Zbc gs):=⟨ZuB h.m h.p,ZuN h.m⟩
theorem Zbm (h:Am X es gs):Em X (.List es pos) (Zb5 gs):=⟨ZuV h.m h.p,Zur h.m⟩
theorem Zgq {op:BoolOp} (h:Em X a ga):Em X (.BoolOp op [a] pos) ga:=⟨Zvn h.p,h.m⟩
theorem Zha (ha:Em X a ga) (hb:Em X (.BoolOp .And (b::Zcf) pos) gb):Em X (.BoolOp .And (a::b::Zcf) pos) (Zcl ga gb):=⟨Zu3 ha.m hb.m ha.p hb.p,Ztu ha.m hb.m⟩
theorem Zwi (ha:Em X a ga) (hb:Em X (.BoolOp .Or (b::Zcf) pos) gb):Em X (.BoolOp .Or (a::b::Zcf) pos) (Zj1 ga gb):=⟨Zws ha.m hb.m ha.p hb.p,Zu7 ha.m hb.m⟩
theorem ZoE (hc:Tm X c gt) (ha:Em X a ga) (hb:Em X b gb):Em X (.IfExp c a b pos) (Zh0 gt ga gb):=⟨ZtM hc.m ha.m hb.m hc.p ha.p hb.p,ZvD hc.m ha.m hb.m⟩
theorem Zaf:Am X [] Zal:=⟨Zuf,ZuX⟩
theorem Zaa (hst:starEach (e::es) X.env=(false,eval e X.env)::starEach es X.env) (ha:Em X e ga) (hs:Am X es gs):Am X (e::es) (Zab ga gs):=⟨ZtB ha.m hs.m ha.p hs.p hst,ZsW ha.m hs.m⟩
theorem Zaq {x:Str} {k n:Nat} {sp:Spw} (D:Df X.prog X.w X.K X.mg X.base x k n sp) (hr:Room k X.A) (hg:Gl X x) (hp:Zpe X ex) (hdb:(x==("__debug__":Str))=false) (he:starEach (e::es) X.env=(false,eval e X.env)::starEach es X.env) (hpl:(backTo pos (starEach es X.env)).any (·.1)=false)
  (ha:Am X (e::es) gs):Em X (.Call (.Name x p) (e::es) [] pos) (Zap sp ex gs):=⟨Ztf D hr hg hp ha.m ha.p hdb he hpl,Zth D.mono ha.m⟩
theorem ZfE (he:∀ whole,isTrue e X.env whole=(do let v ← whole;standAt e.pos;holding [v] (truthy v))) (ha:Em X e ga):Tm X e (Zf2 ga):=⟨Zvf ha.m ha.p he,ZuO ha.m⟩
theorem ZfG (ha:Tm X a gt):Tm X (.UnaryOp .Not a pos) (gNt gt):=⟨Zud ha.p,Zwl ha.m⟩
theorem Zd5 {op:BoolOp} {vs:List Expr} (h:Wm X (.BoolOp op vs pos) gt):Tm X (.BoolOp op vs pos) gt:=⟨Ztg h.p,h.m⟩
theorem Zou (h:Tm X a gt):Wm X (.BoolOp .And [a] pos) gt:=⟨Zsc h.p,h.m⟩
theorem Zhh (h:Tm X a gt):Wm X (.BoolOp .Or [a] pos) gt:=⟨Zvp h.p,h.m⟩
theorem ZrG (ha:Tm X a gt) (hb:Wm X (.BoolOp .And (b::Zcf) pos) gu):Wm X (.BoolOp .And (a::b::Zcf) pos) (ZhT gt gu):=⟨Zt6 ha.m hb.m ha.p hb.p,ZvH ha.m hb.m⟩
theorem Zkw (ha:Tm X a gt) (hb:Wm X (.BoolOp .Or (b::Zcf) pos) gu):Wm X (.BoolOp .Or (a::b::Zcf) pos) (gOr gt gu):=⟨Zw0 ha.m hb.m ha.p hb.p,ZwZ ha.m hb.m⟩
theorem Zaw:Ssm X P [] Zas:=⟨Zsr,Ztb⟩
theorem Zak (h:Sm X P st g1):Ssm X P [st] g1:=⟨Zsx h.p,h.m⟩
theorem Zai (h1:Sm X P st g1) (h2:Ssm X P sts g2):Ssm X P (st::sts) (Zax g1 g2):=⟨Zq9 h1.m h2.m h1.p h2.p,Zvw h1.m h2.m⟩
theorem Zat (ha:Em X e ga):Sm X P (.Return (some e) pos) (ZaE ga):=⟨Zvc ha.m ha.p,Zvb ha.m⟩
theorem ZeC (hs:swapsWith e none pos.line X.env=pure false) (ha:Em X e ga):Sm X P (.Expr e pos) (Zck ga):=⟨ZsS ha.m ha.p hs,Zsk ha.m⟩
theorem ZaY (hc:Tm X c gt) (h1:Ssm X P sts g1) (h2:Ssm X P sts' g2):Sm X P (.If c sts sts' pos) (gIf gt g1 g2):=⟨ZwM hc.m h1.m h2.m hc.p h1.p h2.p,Zw2 hc.m h1.m h2.m⟩
theorem Zdk {tg l:Expr} (ht:∀ it u,letOwnedTupleGo tg it u=pure ()) (hl:Em X l ga):Im X tg l (ZbX ga):=⟨ZuR ht hl.m hl.p,Zsz hl.m⟩
theorem ZfP {tg iter:Expr} {gi:GI} {gg:GG} {gb:GS} (hp:PassesOwn (model X.prog X.w) X.A X.env X.xe) (hc:X.calm=true) (hs:∀ x,foldedSetIterable iter X.env x=pure x) (hi:Im X tg iter gi) (hg:TgW X tg gg) (hb:Ssm X Zxk sts gb):Sm X P (.For tg iter sts [] pos) (Ze1 gi gg gb) :=
 ⟨ZtW hp hc hi.m hb.m hi.p hg hb.p hs,ZvW hi.m hg.mono hb.m⟩
end
end L3
namespace L3
open PySem PySem.Spec PyProof.Rows L2
variable {K:PySem.W.Frag} {H H' H2:Hp}
theorem Zpm {bs:List Bool} {its:List Value} (r:Vals (bs.map V.bl) its) {i:Nat} {v:Value} (e:its.toArray[i]?=some v):v=.bool (bs.getD i false):=by
 have e':its[i]?=some v:=by simpa using e
 have hl:=r.length
 rw [List.length_map] at hl
 have hi:i < its.length:=(List.getElem?_eq_some_iff.mp e').1
 have hb:bs[i]?=some (bs[i]'(by omega)):=List.getElem?_eq_getElem _
 obtain ⟨u,e1,r1⟩:=r.get (i:=i) (x:=.bl (bs[i]'(by omega))) (by rw [List.getElem?_map,hb];rfl)
 rw [e'] at e1;cases e1
 rw [List.getD_eq_getElem?_getD,hb]
 exact r1
theorem Zo2 {bs:List Bool}:(List.range bs.length).all (fun i=>bs.getD i false)=bs.all id:=by
 rw [Bool.eq_iff_iff]
 simp only [List.all_eq_true,List.mem_range,id]
 constructor
 ·intro h b hb
  obtain ⟨i,hi,e⟩:=List.mem_iff_getElem.mp hb
  have:=h i hi
  rw [List.getD_eq_getElem?_getD,List.getElem?_eq_getElem hi] at this
  rw [← e];exact this
 ·intro h i hi
  rw [List.getD_eq_getElem?_getD,List.getElem?_eq_getElem hi]
  exact h _ (List.getElem_mem hi)
section
variable {X:Cx}
theorem Zoy (hc:X.calm=true):CallR X (.builtin "all") (fun xs H Q=>∃ (p:Addr) (bs:List Bool),xs=[.ref p]∧SqL X.K H p (bs.map V.bl)∧Q (.bl (bs.all id)) H):=by
 intro pins s σ H xs us Q I r h
 obtain ⟨p,bs,rfl,hq,q⟩:=h
 obtain ⟨u,rfl,rx⟩:=ZjT r
 cases rx
 obtain ⟨its,r',pl,hz⟩:=I.list hq
 have hl:=r'.length
 rw [List.length_map] at hl
 obtain ⟨o,n,e,_⟩:=id pl
 refine call_all_walk (wpAny_pyIter_list pl.isList ⟨s.heap.objs.size,_,_,_,_,_,fun i=>bs.getD i false,rfl,Walks.list (A:=X.A.in1) (I.ok.hd hc) _ p (Nat.ne_of_lt (Heap.lt_size e)) its.toArray,
  ⟨⟨_,Heap.get?_push_size _ rfl,rfl,rfl⟩,pl.isList.push _⟩,fun i v s Q E hp hq=>by rw [Zpm r' hp];exact wpAny_truthy_bool hq,fun h' tk k=>?_⟩)
 refine ⟨.bl (bs.all id),H,I.kept (t':=tk) fun b o e=>k b o (by simpa using Nat.ne_of_lt (Heap.lt_size e)) (Heap.get?_push_of_some _ e),?_,q⟩
 show Value.bool _=_
 rw [List.size_toArray,← hl,Zo2]
end
abbrev RWc:=List W→Hw→Kw→Prop
def RWc.M (r:RWc):Prop:=∀ ws G (Q Q':Kw),(∀ w G',Q w G'→Q' w G')→r ws G Q→r ws G Q'
def gB (r:RWc) (gs:GA):GE:=fun ω G Q=>gs ω G fun ws G1=>r ws G1 Q
theorem Zxd {r:RWc} {gs:GA} (mr:r.M) (ms:gs.M):GE.M (gB r gs):=fun ω G Q Q' h q=>ms _ _ _ _ (fun ws G1 z=>mr _ _ _ _ h z) q
theorem Zxq {r:RWc} {r1:List V→Hp→VK→Prop} {gs:GA} (mr:r.M) (ms:gs.M) (hr:∀ ws vs G H Q,TrL K H vs ws→RelH K H G→r ws G (dn K H Q)→r1 vs H Q) (σ:St) (H:Hp) (Q:VK) (h:up K (gB r gs) σ H Q):tCB r1 (upA K gs) σ H Q:=by
 obtain ⟨ω,G,ts,rh,q⟩:=h
 exact ⟨ω,G,ts,rh,ms _ _ _ _ (fun ws G1 z vs H1 m t r1'=>hr ws vs G1 H1 Q t r1' (mr _ _ _ _ (fun w G' y=>ZcG m y) z)) q⟩
section
variable {X:Cx} {x:Str} {p pos:Pos} {e:Expr} {es:List Expr} {gs:GA} {r:RWc} {r1:List V→Hp→VK→Prop} {id T:String}
theorem Zuc (hc:CallR X (.builtin id) r1) (mr:r.M) (hr:∀ ws vs G H Q,TrL X.K H vs ws→RelH X.K H G→r ws G (dn X.K H Q)→r1 vs H Q) (hg:Gl X x) (hm:X.mg x=none) (hv:bootBuiltins x=some (.builtin id)) (hn:x≠"__name__") (hdb:(x==("__debug__":Str))=false)
  (he:starEach (e::es) X.env=(false,eval e X.env)::starEach es X.env) (hpl:(backTo pos (starEach es X.env)).any (·.1)=false) (ha:Am X (e::es) gs):Em X (.Call (.Name x p) (e::es) [] pos) (gB r gs) :=
 ⟨Zbi (Zp5 hc hg hm hv ha.p hn hdb he hpl) (Zxq mr ha.m hr),Zxd mr ha.m⟩
theorem Zuk (hc:CallR X (.type T) r1) (mr:r.M) (hr:∀ ws vs G H Q,TrL X.K H vs ws→RelH X.K H G→r ws G (dn X.K H Q)→r1 vs H Q) (hg:Gl X x) (hm:X.mg x=none) (hv:bootBuiltins x=some (.type T)) (hn:x≠"__name__") (hdb:(x==("__debug__":Str))=false)
  (he:starEach (e::es) X.env=(false,eval e X.env)::starEach es X.env) (hpl:(backTo pos (starEach es X.env)).any (·.1)=false) (ha:Am X (e::es) gs):Em X (.Call (.Name x p) (e::es) [] pos) (gB r gs) :=
 ⟨Zbi (ZoH hc hg hm hv ha.p hn hdb he hpl) (Zxq mr ha.m hr),Zxd mr ha.m⟩
end
def rF (f:List W→Hw→Option W):RWc:=fun ws G Q=>opt (f ws G) fun w=>Q w G
theorem Zv2 {f:List W→Hw→Option W}:RWc.M (rF f):=fun ws G Q Q' h q=>Ztq (fun w z=>h _ _ z) q
def Zlm:List W→Option (List Bool)
 | []=>some []
 | .bl b::r=>(Zlm r).map (b::·)
 | _=>none
theorem ZlH:∀ {ws:List W} {bs:List Bool} {vs:List V},Zlm ws=some bs→TrL K H vs ws→vs=bs.map V.bl
 | [],bs,vs,e,t=>by cases e;cases t;rfl
 | w::ws,bs,vs,e,t=>by
  cases t with
  | cons tw t =>
   cases w with
   | bl b =>
    unfold Zlm at e
    cases z:Zlm ws with
    | none=>rw [z] at e;cases e
    | some bs' =>
     rw [z] at e;cases e
     rw [ZmL tw,ZlH z t];rfl
   | _=>cases e
def Zi9 (G:Hw) (w:W):Option (List W):=match w with
 | .ref a=>(match G a with | some (.lst xs)=>some xs | _=>none)
 | _=>none
theorem Zfw {G:Hw} {w:W} {xs:List W} {v:V} (r:RelH K H G) (t:Tr K H v w) (e:Zi9 G w=some xs):∃ a vs,v=.ref a∧w=.ref a∧G a=some (.lst xs)∧H a=some (.lst vs)∧TrL K H vs xs:=by
 cases t with
 | ref a =>
  unfold Zi9 at e;dsimp only at e
  cases z:G a with
  | none=>rw [z] at e;cases e
  | some o =>
   rw [z] at e
   cases o with
   | lst ys=>cases e;obtain ⟨vs,e1,t1⟩:=r a _ z;exact ⟨a,vs,rfl,rfl,z,e1,t1⟩
   | exc C=>cases e
   | ins C fs=>cases e
   | dct kvs=>cases e
 | _=>cases e
def ZiK (ws:List W) (G:Hw):Option W:=match ws with | [w]=>(Zi9 G w).bind fun xs=>(Zlm xs).map fun bs=>.bl (bs.all id) | _=>none
theorem Zsf (ws:List W) (vs:List V) (G:Hw) (H:Hp) (Q:VK) (t:TrL K H vs ws) (r:RelH K H G) (q:rF ZiK ws G (dn K H Q)):∃ (p:Addr) (bs:List Bool),vs=[.ref p]∧SqL K H p (bs.map V.bl)∧Q (.bl (bs.all id)) H:=by
 obtain ⟨w,e,q'⟩:=Zeq q
 unfold ZiK at e
 split at e
 ·rename_i w0
  cases t with
  | cons tw t =>
   cases t
   obtain ⟨xs,e1,e2⟩:=Option.bind_eq_some_iff.mp e
   obtain ⟨bs,e3,e4⟩:=Option.map_eq_some_iff.mp e2
   obtain ⟨a,us,rfl,rfl,_,e5,t5⟩:=Zfw r tw e1
   subst e4
   have:=ZlH e3 t5
   subst this
   exact ⟨a,bs,rfl,SqL.of e5,q' _ H .refl (.bl _) r⟩
 ·cases e
def Zio (w:W) (G:Hw):Option W:=match w with
 | .tup xs=>some (.int xs.length)
 | .rol xs=>some (.int xs.length)
 | .str z=>if z.length≤sizeLine then some (.int z.length) else none
 | .ref a=>(match G a with | some (.lst xs)=>some (.int xs.length) | _=>none)
 | _=>none
def ZeP (ws:List W) (G:Hw):Option W:=match ws with | [w]=>Zio w G | _=>none
theorem ZsR (ws:List W) (vs:List V) (G:Hw) (H:Hp) (Q:VK) (t:TrL K H vs ws) (r:RelH K H G) (q:rF ZeP ws G (dn K H Q)):∃ x n,vs=[x]∧Zxh K x H n∧Q (.int n) H:=by
 obtain ⟨w,e,q'⟩:=Zeq q
 unfold ZeP at e
 split at e
 ·cases t with
  | cons tw t =>
   cases t
   cases tw with
   | tup h l=>cases e;exact ⟨_,_,rfl,.inr ⟨_,h,rfl⟩,by rw [l.length];exact q' _ H .refl (.int _) r⟩
   | rol h l=>cases e;exact ⟨_,_,rfl,.inl ⟨_,h.sq,rfl⟩,by rw [l.length];exact q' _ H .refl (.int _) r⟩
   | str z =>
    unfold Zio at e;dsimp only at e
    split at e
    ·rename_i hz;cases e;exact ⟨_,_,rfl,⟨hz,rfl⟩,q' _ H .refl (.int _) r⟩
    ·cases e
   | ref a =>
    unfold Zio at e;dsimp only at e
    cases z:G a with
    | none=>rw [z] at e;cases e
    | some o =>
     rw [z] at e
     cases o with
     | exc C=>cases e
     | ins C fs=>cases e
     | dct kvs=>cases e
     | lst xs =>
      cases e
      obtain ⟨us,e1,t1⟩:=r a _ z
      exact ⟨_,_,rfl,.inl ⟨_,SqL.of e1,rfl⟩,by rw [t1.length];exact q' _ H .refl (.int _) r⟩
   | _=>cases e
 ·cases e
end L3
namespace L3
open PySem PySem.Spec PyProof.Rows L2
variable {K:PySem.W.Frag} {H H' H2:Hp}
mutual
def eqD:W→W→Option Bool
 | .tup xs,.tup ys=>Zg6 xs ys
 | .non,.non=>some true
 | .bl a,.bl b=>some (a==b)
 | .bl a,.int b=>some ((if a then 1 else 0)==b)
 | .int a,.bl b=>some (a==(if b then 1 else 0))
 | .int a,.int b=>some (a==b)
 | .str a,.str b=>some (a==b)
 | .non,.int _=>some false
 | .int _,.non=>some false
 | .int _,.str _=>some false
 | .str _,.int _=>some false
 | .bl _,.str _=>some false
 | .str _,.bl _=>some false
 | .non,.str _=>some false
 | .str _,.non=>some false
 | .non,.bl _=>some false
 | .bl _,.non=>some false
 | .tup _,.str _=>some false
 | .str _,.tup _=>some false
 | .tup _,.bl _=>some false
 | .bl _,.tup _=>some false
 | _,_=>none
def Zg6:List W→List W→Option Bool
 | [],[]=>some true
 | [],_::_=>some false
 | _::_,[]=>some false
 | x::xs,y::ys=>match eqD x y,Zg6 xs ys with
  | some a,some b=>some (a&&b)
  | _,_=>none
end
mutual
def dpW:W→Nat
 | .tup xs=>dpL xs+1
 | _=>0
def dpL:List W→Nat
 | []=>0
 | x::xs=>max (dpW x) (dpL xs)
end
def Zpk:W→Option V
 | .non=>some .non
 | .bl b=>some (.bl b)
 | .int i=>some (.int i)
 | .str x=>some (.str x)
 | _=>none
theorem ZlP {v:V} {w:W} {f:V} (t:Tr K H v w) (e:Zpk w=some f):v=f∧ZhV v=true:=by
 cases t <;> first | cases e;exact ⟨rfl,rfl⟩ | cases e
theorem ZgW:∀ {xs ys:List W} {b:Bool},Zg6 xs ys=some b→∃ e:Nat→Bool,(∀ (i:Nat) x y,xs[i]?=some x→ys[i]?=some y→eqD x y=some (e i))∧b=((List.range (min xs.length ys.length)).all e&&xs.length==ys.length)
 | [],[],b,h=>by
  cases (show some true=some b from h)
  exact ⟨fun _=>true,fun i x y h1 h2=>by simp at h1,by simp⟩
 | [],_::_,b,h=>by
  cases (show some false=some b from h)
  exact ⟨fun _=>true,fun i x y h1 h2=>by simp at h1,by simp⟩
 | _::_,[],b,h=>by
  cases (show some false=some b from h)
  exact ⟨fun _=>true,fun i x y h1 h2=>by simp at h2,by simp⟩
 | x::xs,y::ys,b,h=>by
  have h':(match eqD x y,Zg6 xs ys with | some a,some b=>some (a&&b) | _,_=>none)=some b:=by rw [← h];rfl
  cases e1:eqD x y with
  | none=>rw [e1] at h';cases h'
  | some a =>
   cases e2:Zg6 xs ys with
   | none=>rw [e1,e2] at h';cases h'
   | some c =>
    rw [e1,e2] at h'
    cases h'
    obtain ⟨f,hf,hc⟩:=ZgW e2
    refine ⟨fun i=>match i with | 0=>a | j+1=>f j,fun i x' y' h1 h2=>?_,?_⟩
    ·cases i with
     | zero=>simp at h1 h2;subst h1;subst h2;exact e1
     | succ j=>exact hf j x' y' (by simpa using h1) (by simpa using h2)
    ·have em:min (x::xs).length (y::ys).length=min xs.length ys.length+1:=by simp only [List.length_cons];omega
     rw [em,List.range_succ_eq_map,List.all_cons,List.all_map,hc]
     have e5:((x::xs).length==(y::ys).length)=(xs.length==ys.length):=by simp
     rw [e5,Bool.and_assoc]
     rfl
theorem Zl3:∀ (xs:List W),(∀ x∈xs,eqD x x=some true∨eqD x x=none)→Zg6 xs xs=some true∨Zg6 xs xs=none
 | [],_=>.inl rfl
 | x::xs,h=>by
  have e:Zg6 (x::xs) (x::xs)=(match eqD x x,Zg6 xs xs with | some a,some b=>some (a&&b) | _,_=>none):=rfl
  rw [e]
  rcases h x List.mem_cons_self with h1 | h1
  ·rcases Zl3 xs (fun y hy=>h y (List.mem_cons_of_mem _ hy)) with h2 | h2
   ·rw [h1,h2];exact .inl rfl
   ·rw [h1,h2];exact .inr rfl
  ·rw [h1];exact .inr rfl
theorem Zn7:∀ (x:W),eqD x x=some true∨eqD x x=none
 | .non=>.inl rfl
 | .bl b=>.inl (by show some (b==b)=_;simp)
 | .int b=>.inl (by show some (b==b)=_;simp)
 | .str b=>.inl (by show some (b==b)=_;simp)
 | .tup xs=>Zl3 xs (fun x _=>Zn7 x)
 | .rol _=>.inr rfl
 | .ref _=>.inr rfl
theorem Zfc:∀ {xs:List W} {x:W},x∈xs→dpW x≤dpL xs
 | y::xs,x,h=>by
  have e:dpL (y::xs)=max (dpW y) (dpL xs):=rfl
  rw [e]
  rcases List.mem_cons.mp h with rfl | h
  ·exact Nat.le_max_left ..
  ·exact Nat.le_trans (Zfc h) (Nat.le_max_right ..)
theorem Zna:∀ (ws:List W) (ys:List W) (vs:List V),(∀ (v:V) (w y:W),w∈ws→Tr K H v w→Tr K H v y→eqD w y≠none→w=y)→TrL K H vs ws→TrL K H vs ys→Zg6 ws ys≠none→ws=ys:=by
 intro ws
 induction ws with
 | nil =>
  intro ys vs _ l l' _
  cases l
  cases l'
  rfl
 | cons w ws ih =>
  intro ys vs h l l' ne
  cases l with
  | cons t l =>
   cases l' with
   | @cons _ y _ ys t' l' =>
    have e:Zg6 (w::ws) (y::ys)=(match eqD w y,Zg6 ws ys with | some a,some b=>some (a&&b) | _,_=>none):=rfl
    have h1:eqD w y≠none:=fun z=>ne (by rw [e,z])
    have h2:Zg6 ws ys≠none:=fun z=>ne (by rw [e,z];cases eqD w y <;> rfl)
    rw [h _ w y List.mem_cons_self t t' h1,ih ys _ (fun v w y hm=>h v w y (List.mem_cons_of_mem _ hm)) l l' h2]
theorem ZvY {X:Cx} {pins:List (Addr×Obj)} {σ:St} {H:Hp} {s:Shared} (I:Inv X pins σ H s) (n:Nat):∀ (v:V) (w y:W),dpW w < n→Tr X.K H v w→Tr X.K H v y→eqD w y≠none→w=y:=by
 induction n with
 | zero=>intro v w y h;exact absurd h (Nat.not_lt_zero _)
 | succ n ih =>
  intro v w y h tw ty ne
  cases tw with
  | tup hq l =>
   rename_i a vs ws
   generalize hv:V.ref a=vr at ty
   cases ty with
   | tup hq' l' =>
    cases hv
    have e:=I.tuple_inj hq hq'
    subst e
    have hd2:dpL ws+1 < n+1:=h
    rw [Zna ws _ _ (fun v w y hm=>ih v w y (by have:=Zfc hm;omega)) l l' ne]
   | rol _ _=>exact absurd rfl ne
   | ref _=>exact absurd rfl ne
   | non=>cases hv
   | bl _=>cases hv
   | int _=>cases hv
   | str _=>cases hv
  | rol _ _=>exact absurd (by cases y <;> rfl) ne
  | ref _=>exact absurd (by cases y <;> rfl) ne
  | non=>cases ty;rfl
  | bl _=>cases ty;rfl
  | int _=>cases ty;rfl
  | str _=>cases ty;rfl
theorem Zlc {X:Cx} {pins:List (Addr×Obj)} {σ:St} {H:Hp} {s:Shared} (I:Inv X pins σ H s) (n:Nat):∀ (w y:W) (v u:V) (vv uu:Value) (b:Bool) (A:Around),dpW w < n→Tr X.K H v w→Tr X.K H u y→RelV v vv→RelV u uu→eqD w y=some b→A.units+n < cLine→SeqAt.EqAt A s vv uu b:=by
 induction n with
 | zero=>intro w _ _ _ _ _ _ _ h;exact absurd h (Nat.not_lt_zero _)
 | succ n ih =>
  intro w y v u vv uu b A h tw ty rv ru e hu
  cases tw with
  | tup hq l =>
   cases ty with
   | tup hq' l' =>
    rename_i a vs ws a' us ys
    cases rv
    cases ru
    by_cases haa:a=a'
    ·subst haa
     have ew:=ZvY I (dpW (.tup ws)+1) _ _ _ (Nat.lt_succ_self _) (.tup hq l) (.tup hq' l') (by rw [e];simp)
     cases ew
     rcases Zn7 (.tup ws) with z | z
     ·rw [e] at z;cases z;exact SeqAt.EqAt.same _
     ·rw [e] at z;cases z
    ·obtain ⟨its,r1,p1,_⟩:=I.tuple hq
     obtain ⟨its',r2,p2,_⟩:=I.tuple hq'
     obtain ⟨f,hf,hb⟩:=ZgW (show Zg6 ws ys=some b from e)
     have l1:=r1.length
     have l2:=r2.length
     have l3:=l.length
     have l4:=l'.length
     refine SeqAt.EqAt.of_refs haa ?_
     have key:=SeqAt.RcAt.tuples (A:=A) (s:=s) (e:=f) (show s.heap.IsTuple a its.toArray from p1) (show s.heap.IsTuple a' its'.toArray from p2) (by omega) (fun j h1 h2=>?_)
     ·rw [hb]
      have e1:its.toArray.size=ws.length:=by rw [List.size_toArray];omega
      have e2:its'.toArray.size=ys.length:=by rw [List.size_toArray];omega
      rw [e1,e2] at key
      exact key
     ·have j1:j < ws.length:=by rw [List.size_toArray] at h1;omega
      have j2:j < ys.length:=by rw [List.size_toArray] at h2;omega
      obtain ⟨v1,g1,t1⟩:=l.get (List.getElem?_eq_getElem j1)
      obtain ⟨v2,g2,t2⟩:=l'.get (List.getElem?_eq_getElem j2)
      obtain ⟨u1,g3,rr1⟩:=r1.get g1
      obtain ⟨u2,g4,rr2⟩:=r2.get g2
      have eu1:its.toArray[j]=u1:=by
       have z:its[j]?=some its[j]:=List.getElem?_eq_getElem (by omega)
       rw [g3] at z
       have z':=Option.some.inj z
       rw [z'];simp
      have eu2:its'.toArray[j]=u2:=by
       have z:its'[j]?=some its'[j]:=List.getElem?_eq_getElem (by omega)
       rw [g4] at z
       have z':=Option.some.inj z
       rw [z'];simp
      rw [eu1,eu2]
      have hd:dpW (ws[j])≤dpL ws:=Zfc (List.getElem_mem j1)
      have hd2:dpL ws+1 < n+1:=h
      exact ih _ _ _ _ _ _ _ A.in1 (by omega) t1 t2 rr1 rr2 (hf j _ _ (List.getElem?_eq_getElem j1) (List.getElem?_eq_getElem j2)) (by show A.units+1+n < cLine;omega)
   | str _ =>
    cases e;cases rv;obtain ⟨t,rfl⟩:=ru
    obtain ⟨its,r1,p1,_⟩:=I.tuple hq
    exact SeqAt.EqAt.tuple_str (A:=A) _ _ p1 (by omega)
   | bl _ =>
    cases e;cases rv;cases ru
    obtain ⟨its,r1,p1,_⟩:=I.tuple hq
    exact SeqAt.EqAt.tuple_bool _ p1 (by omega)
   | _=>cases e
  | non=>cases ty <;> cases e <;> exact ZjK rv ru rfl rfl
  | bl c =>
   cases ty with
   | tup hq l =>
    cases e;cases rv;cases ru
    obtain ⟨its,r1,p1,_⟩:=I.tuple hq
    exact SeqAt.EqAt.bool_tuple _ p1 (by omega)
   | _=>cases e <;> exact ZjK rv ru rfl rfl
  | int c=>cases ty <;> cases e <;> exact ZjK rv ru rfl rfl
  | str c =>
   cases ty with
   | tup hq l =>
    cases e;cases ru;obtain ⟨t,rfl⟩:=rv
    obtain ⟨its,r1,p1,_⟩:=I.tuple hq
    exact SeqAt.EqAt.str_tuple (A:=A) _ _ p1 (by omega)
   | _=>cases e <;> exact ZjK rv ru rfl rfl
  | rol _ _=>cases y <;> cases e
  | ref _=>cases y <;> cases e
end L3
set_option Elab.async false
set_option linter.all false
set_option maxRecDepth 100000
set_option maxHeartbeats 2000000
namespace L3
open PySem PySem.Spec PyProof.Rows L2
variable {K:PySem.W.Frag} {H H' H2:Hp}
def rSq (K:PySem.W.Frag) (neg:Bool):R2:=fun v u H Q=>∃ (a b:Addr) (vs us:List V) (ws ys:List W) (c:Bool),v=.ref a∧u=.ref b∧((SqT K H a vs∧SqT K H b us)∨(SqL K H a vs∧SqL K H b us))∧TrL K H vs ws∧TrL K H us ys∧dpL ws < 90∧Zg6 ws ys=some c∧Q (.bl (c != neg)) H
section
variable {X:Cx} {pins:List (Addr×Obj)} {σ:St} {H:Hp} {s:Shared}
theorem ZgR (I:Inv X pins σ H s) {A:Around} {vs us:List V} {ws ys:List W} {its its':List Value} (r1:Vals vs its) (r2:Vals us its') (t1:TrL X.K H vs ws) (t2:TrL X.K H us ys) (hd:dpL ws < 90) (hu:A.units+100 < cLine) {f:Nat→Bool}
  (hf:∀ (i:Nat) x y,ws[i]?=some x→ys[i]?=some y→eqD x y=some (f i)) (j:Nat) (h1:j < its.toArray.size) (h2:j < its'.toArray.size):SeqAt.EqAt A.in1 s its.toArray[j] its'.toArray[j] (f j):=by
 have l1:=r1.length
 have l2:=r2.length
 have l3:=t1.length
 have l4:=t2.length
 have j1:j < ws.length:=by rw [List.size_toArray] at h1;omega
 have j2:j < ys.length:=by rw [List.size_toArray] at h2;omega
 obtain ⟨v1,g1,t1'⟩:=t1.get (List.getElem?_eq_getElem j1)
 obtain ⟨v2,g2,t2'⟩:=t2.get (List.getElem?_eq_getElem j2)
 obtain ⟨u1,g3,rr1⟩:=r1.get g1
 obtain ⟨u2,g4,rr2⟩:=r2.get g2
 have eu1:its.toArray[j]=u1:=by
  have z:its[j]?=some its[j]:=List.getElem?_eq_getElem (by omega)
  rw [g3] at z
  rw [Option.some.inj z];simp
 have eu2:its'.toArray[j]=u2:=by
  have z:its'[j]?=some its'[j]:=List.getElem?_eq_getElem (by omega)
  rw [g4] at z
  rw [Option.some.inj z];simp
 rw [eu1,eu2]
 exact Zlc I 99 _ _ _ _ _ _ _ A.in1 (by have:=Zfc (List.getElem_mem j1);omega) t1' t2' rr1 rr2 (hf j _ _ (List.getElem?_eq_getElem j1) (List.getElem?_eq_getElem j2)) (by show A.units+1+99 < cLine;omega)
end
theorem Zqa {X:Cx} (hu:X.A.units+100 < cLine):OpR X (compareOp .Eq) (rSq X.K false):=by
 intro pins s σ H x y v u Q I rx ry h
 obtain ⟨a,b,vs,us,ws,ys,c,rfl,rfl,hq,t1,t2,hd,e,q⟩:=h
 cases rx
 cases ry
 obtain ⟨f,hf,hb⟩:=ZgW e
 have l3:=t1.length
 have l4:=t2.length
 have fin:∀ d:Bool,d=c→EP X pins σ Q (.bool d) s:=fun d hd=>by subst hd;exact ⟨.bl d,H,I,rfl,by simpa using q⟩
 rcases hq with ⟨h1,h2⟩ | ⟨h1,h2⟩
 ·obtain ⟨its,r1,p1,_⟩:=I.tuple h1
  obtain ⟨its',r2,p2,_⟩:=I.tuple h2
  have l1:=r1.length
  have l2:=r2.length
  refine SeqAt.eq_tupleAt (e:=f) (show s.heap.IsTuple a its.toArray from p1) (show s.heap.IsTuple b its'.toArray from p2) (by omega) (ZgR I r1 r2 t1 t2 hd hu hf) (fin _ ?_)
  have e1:its.toArray.size=ws.length:=by rw [List.size_toArray];omega
  have e2:its'.toArray.size=ys.length:=by rw [List.size_toArray];omega
  rw [e1,e2,hb]
 ·obtain ⟨its,r1,p1,_⟩:=I.list h1
  obtain ⟨its',r2,p2,_⟩:=I.list h2
  have l1:=r1.length
  have l2:=r2.length
  have e1:its.toArray.size=ws.length:=by rw [List.size_toArray];omega
  have e2:its'.toArray.size=ys.length:=by rw [List.size_toArray];omega
  by_cases hl:ws.length=ys.length
  ·refine SeqAt.eq_listAt (e:=f) p1.isList p2.isList (by omega) (by omega) (ZgR I r1 r2 t1 t2 hd hu hf) (fin _ ?_)
   rw [e1,hb,hl];simp
  ·refine SeqAt.eq_list_lengthsAt p1.isList p2.isList (by rw [e1,e2];simpa using hl) (by omega) (fin _ ?_)
   rw [hb];simp [hl]
theorem Zq1 {X:Cx} (hu:X.A.units+100 < cLine):OpR X (compareOp .NotEq) (rSq X.K true):=by
 intro pins s σ H x y v u Q I rx ry h
 obtain ⟨a,b,vs,us,ws,ys,c,rfl,rfl,hq,t1,t2,hd,e,q⟩:=h
 cases rx
 cases ry
 obtain ⟨f,hf,hb⟩:=ZgW e
 have l3:=t1.length
 have l4:=t2.length
 have fin:∀ d:Bool,d=!c→EP X pins σ Q (.bool d) s:=fun d hd=>by subst hd;exact ⟨.bl _,H,I,rfl,by simpa using q⟩
 rcases hq with ⟨h1,h2⟩ | ⟨h1,h2⟩
 ·obtain ⟨its,r1,p1,_⟩:=I.tuple h1
  obtain ⟨its',r2,p2,_⟩:=I.tuple h2
  have l1:=r1.length
  have l2:=r2.length
  refine SeqAt.RcNeAt.tuples (e:=f) (show s.heap.IsTuple a its.toArray from p1) (show s.heap.IsTuple b its'.toArray from p2) (by omega) (ZgR I r1 r2 t1 t2 hd hu hf) _ _ _ _ (fin _ ?_)
  have e1:its.toArray.size=ws.length:=by rw [List.size_toArray];omega
  have e2:its'.toArray.size=ys.length:=by rw [List.size_toArray];omega
  rw [e1,e2,hb]
 ·obtain ⟨its,r1,p1,_⟩:=I.list h1
  obtain ⟨its',r2,p2,_⟩:=I.list h2
  have l1:=r1.length
  have l2:=r2.length
  have e1:its.toArray.size=ws.length:=by rw [List.size_toArray];omega
  have e2:its'.toArray.size=ys.length:=by rw [List.size_toArray];omega
  by_cases hl:ws.length=ys.length
  ·refine SeqAt.RcNeAt.lists (e:=f) p1.isList p2.isList (by omega) (by omega) (ZgR I r1 r2 t1 t2 hd hu hf) _ _ _ _ (fin _ ?_)
   rw [e1,hb,hl];simp
  ·refine SeqAt.RcNeAt.lists_lengths p1.isList p2.isList (by rw [e1,e2];simpa using hl) (by omega) _ _ _ _ (fin _ ?_)
   rw [hb];simp [hl]
def eqW (x y:W) (G:Hw):Option Bool:=match x,y with
 | .tup xs,.tup ys=>if dpL xs < 90 then Zg6 xs ys else none
 | .ref a,.ref b=>(match G a,G b with
  | some (.lst xs),some (.lst ys)=>if dpL xs < 90 then Zg6 xs ys else none
  | _,_=>none)
 | .int a,.int b=>some (a==b)
 | .bl a,.bl b=>some (a==b)
 | .str a,.str b=>some (a==b)
 | .non,.non=>some true
 | .int _,.non=>some false
 | .non,.int _=>some false
 | .int _,.str _=>some false
 | .str _,.int _=>some false
 | .bl _,.str _=>some false
 | .str _,.bl _=>some false
 | .non,.str _=>some false
 | .str _,.non=>some false
 | .non,.bl _=>some false
 | .bl _,.non=>some false
 | _,_=>none
def eqF (neg:Bool) (x y:W) (G:Hw):Option W:=(eqW x y G).map fun c=>.bl (c != neg)
theorem Zxb (c:Bool):(c != true)=!c:=by cases c <;> rfl
theorem ZrC (neg:Bool) (x y:W) (v u:V) (G:Hw) (H:Hp) (Q:VK) (tx:Tr K H v x) (ty:Tr K H u y) (r:RelH K H G) (q:Zam (eqF neg) x y G (dn K H Q)):(Ztr v u=true∧Q (.bl (decide (v=u) != neg)) H)∨rSq K neg v u H Q:=by
 obtain ⟨w,e,q'⟩:=Zeq q
 obtain ⟨c,e1,e2⟩:=Option.map_eq_some_iff.mp e
 subst e2
 have qq:=q' (.bl (c != neg)) H .refl (.bl _) r
 have sc:∀ {i j:V},decide (i=j)=c→Ztr i j=true→(Ztr i j=true∧Q (.bl (decide (i=j) != neg)) H)∨rSq K neg i j H Q:=fun {i j} h1 h2=>.inl ⟨h2,by rw [h1];exact qq⟩
 cases tx with
 | tup hq l =>
  cases ty with
  | tup hq' l' =>
   unfold eqW at e1;dsimp only at e1
   split at e1
   ·rename_i hd
    exact .inr ⟨_,_,_,_,_,_,c,rfl,rfl,.inl ⟨hq,hq'⟩,l,l',hd,e1,qq⟩
   ·cases e1
  | _=>cases e1
 | ref a =>
  cases ty with
  | ref b =>
   unfold eqW at e1;dsimp only at e1
   cases ea:G a with
   | none=>rw [ea] at e1;cases e1
   | some oa =>
    cases eb:G b with
    | none=>rw [ea,eb] at e1;cases oa <;> cases e1
    | some ob =>
     rw [ea,eb] at e1
     cases oa <;> cases ob <;> try cases e1
     dsimp only at e1
     split at e1
     ·rename_i hd
      obtain ⟨vs,z1,t1⟩:=r a _ ea
      obtain ⟨us,z2,t2⟩:=r b _ eb
      exact .inr ⟨_,_,_,_,_,_,c,rfl,rfl,.inr ⟨SqL.of z1,SqL.of z2⟩,t1,t2,hd,e1,qq⟩
     ·cases e1
  | _=>cases e1
 | rol _ _=>cases y <;> cases e1
 | non=>cases ty <;> cases e1 <;> exact sc (by simp) rfl
 | bl b=>cases ty <;> cases e1 <;> exact sc (by first | exact ZnN | simp) rfl
 | int b=>cases ty <;> cases e1 <;> exact sc (by first | exact Zk6 | simp) rfl
 | str b=>cases ty <;> cases e1 <;> exact sc (by first | exact Zlu | simp) rfl
theorem Zvd {X:Cx} (hu:X.A.units+100 < cLine):OpR X (compareOp .Eq) (fun x y H Q=>(Ztr x y=true∧Q (.bl (decide (x=y) != false)) H)∨rSq X.K false x y H Q):=by
 intro pins s σ H x y v u Q I rx ry h
 rcases h with ⟨h1,h2⟩ | h
 ·exact ZwN pins s σ H x y v u Q I rx ry ⟨h1,by simpa using h2⟩
 ·exact Zqa hu pins s σ H x y v u Q I rx ry h
theorem ZuZ {X:Cx} (hu:X.A.units+100 < cLine):OpR X (compareOp .NotEq) (fun x y H Q=>(Ztr x y=true∧Q (.bl (decide (x=y) != true)) H)∨rSq X.K true x y H Q):=by
 intro pins s σ H x y v u Q I rx ry h
 rcases h with ⟨h1,h2⟩ | h
 ·exact Zwn pins s σ H x y v u Q I rx ry ⟨h1,by rw [← Zxb];exact h2⟩
 ·exact Zq1 hu pins s σ H x y v u Q I rx ry h
section
variable {X:Cx} {a b c e:Expr} {es Zcf:List Expr} {pos pos' p:Pos} {ga gb gc:GE} {gt gu:GT} {gs:GA}
def Zh5 (G:Hw) (w:W):Option (List W):=match w with
 | .tup xs=>some xs
 | .rol xs=>some xs
 | .ref a=>(match G a with | some (.lst xs)=>some xs | _=>none)
 | _=>none
theorem Zjn {G:Hw} {w:W} {xs:List W} {v:V} (r:RelH K H G) (t:Tr K H v w) (e:Zh5 G w=some xs):∃ a vs,v=.ref a∧(SqL K H a vs∨SqT K H a vs)∧TrL K H vs xs:=by
 cases t with
 | tup h l=>cases e;exact ⟨_,_,rfl,.inr h,l⟩
 | rol h l=>cases e;exact ⟨_,_,rfl,.inl h.sq,l⟩
 | ref a =>
  unfold Zh5 at e;dsimp only at e
  cases z:G a with
  | none=>rw [z] at e;cases e
  | some o =>
   rw [z] at e
   cases o with
   | lst ys=>cases e;obtain ⟨vs,e1,t1⟩:=r a _ z;exact ⟨a,vs,rfl,.inl (SqL.of e1),t1⟩
   | exc C=>cases e
   | ins C fs=>cases e
   | dct kvs=>cases e
 | _=>cases e
def Zh6:List W→Option (List V)
 | []=>some []
 | w::ws=>(Zpk w).bind fun v=>(Zh6 ws).map (v::·)
theorem Zmr:∀ {ws:List W} {vs us:List V},Zh6 ws=some us→TrL K H vs ws→vs=us∧vs.all ZhV=true
 | [],vs,us,e,t=>by cases e;cases t;exact ⟨rfl,rfl⟩
 | w::ws,vs,us,e,t=>by
  cases t with
  | cons tw t =>
   obtain ⟨f,e1,e2⟩:=Option.bind_eq_some_iff.mp (show (Zpk w).bind (fun v=>(Zh6 ws).map (v::·))=some us from e)
   obtain ⟨fs,e3,e4⟩:=Option.map_eq_some_iff.mp e2
   obtain ⟨h1,h2⟩:=ZlP tw e1
   obtain ⟨h3,h4⟩:=Zmr e3 t
   subst e4
   exact ⟨by rw [h1,h3],by rw [List.all_cons,h2,h4];rfl⟩
def inF (neg:Bool) (x y:W) (G:Hw):Option W:=(Zpk x).bind fun v=>(Zh5 G y).bind fun xs=>(Zh6 xs).map fun us=>.bl (if neg then !inV v us else inV v us)
theorem ZrV (neg:Bool) (x y:W) (v u:V) (G:Hw) (H:Hp) (Q:VK) (tx:Tr K H v x) (ty:Tr K H u y) (r:RelH K H G) (q:Zam (inF neg) x y G (dn K H Q)):rIn K neg v u H Q:=by
 obtain ⟨w,e,q'⟩:=Zeq q
 obtain ⟨f,e1,e2⟩:=Option.bind_eq_some_iff.mp e
 obtain ⟨xs,e3,e4⟩:=Option.bind_eq_some_iff.mp e2
 obtain ⟨us,e5,e6⟩:=Option.map_eq_some_iff.mp e4
 subst e6
 obtain ⟨h1,h2⟩:=ZlP tx e1
 obtain ⟨a,vs,rfl,hq,t⟩:=Zjn r ty e3
 obtain ⟨h3,h4⟩:=Zmr e5 t
 subst h1;subst h3
 exact ⟨a,vs,rfl,hq,h2,h4,q' _ H .refl (.bl _) r⟩
end
end L3
namespace L3
open PySem PySem.Spec PyProof.Rows L2
variable {K:PySem.W.Frag} {H H' H2:Hp}
section
variable {X:Cx} {P:Hp→Prop} {a b c e o i:Expr} {sts:List Stmt} {pos pos':Pos} {ga gb gc gv go gi:GE} {gt:GT} {g:GS} {gs:GA}
def Zmy (gt:GT) (g:GS):GS:=fun D ω G=>∃ W:Nat→Sw→Hw→Prop,(∃ m,W m ω G)∧∀ m ω G,W m ω G →
 gt ω G fun b G1=>if b=true then g { nx:=fun ω' G'=>∃ m',m' < m∧W m' ω' G',rt:=D.rt,bk:=D.nx,ct:=fun ω' G'=>∃ m',m' < m∧W m' ω' G' } ω G1 else D.nx ω G1
theorem ZpP (mt:gt.M) (mb:g.M):GS.M (Zmy gt g):=fun ω G D D' h1 h2 h3 h4 ⟨W,w0,turn⟩=>⟨W,w0,fun m ω G w=>mt _ _ _ _ (fun b G1 z=>by
 cases b with
 | true=>exact mb _ _ { nx:=fun ω' G'=>∃ m',m' < m∧W m' ω' G',rt:=D.rt,bk:=D.nx,ct:=fun ω' G'=>∃ m',m' < m∧W m' ω' G' } _ (fun _ _ y=>y) h2 h1 (fun _ _ y=>y) z
 | false=>exact h1 _ _ z) (turn m ω G w)⟩
theorem ZqC (hp:PassesOwn (model X.prog X.w) X.A X.env X.xe) (mt:gt.M) (mb:g.M) (hc:PTw X c gt) (hb:ZqA X P sts g):PSw X P (.While c sts [] pos) (Zmy gt g):=fun B hB =>
 Zgp (ZpR hp hc (hb B hB)) <| by
  rintro D σ H ⟨ω,G,ts,r,mb0,W,⟨m0,w0⟩,turn⟩
  refine ⟨fun m σ' H'=>Mono X.K B H'∧∃ ω' G',TrSt X.K H' σ' ω'∧RelH X.K H' G'∧W m ω' G',⟨m0,mb0,ω,G,ts,r,w0⟩,?_⟩
  rintro m σ' H' ⟨mm,ω',G',ts',r',w'⟩
  refine ⟨ω',G',ts',r',mt _ _ _ _ (fun b G1 z H1 m1 r1=>?_) (turn m ω' G' w')⟩
  cases b with
  | true =>
   rw [if_pos rfl]
   refine ⟨fun σ2 H2=>∃ m',m' < m∧Mono X.K B H2∧∃ ω2 G2,TrSt X.K H2 σ2 ω2∧RelH X.K H2 G2∧W m' ω2 G2,(by rintro σ2 H2 ⟨m',h1,h2⟩;exact ⟨m',h1,h2⟩),ω',G1,ts'.mono m1,r1,mm.trans m1,?_⟩
   exact mb _ _ { nx:=fun ω' G'=>∃ m',m' < m∧W m' ω' G',rt:=(dnD X.K B D).rt,bk:=(dnD X.K B D).nx,ct:=fun ω' G'=>∃ m',m' < m∧W m' ω' G' } _
    ((by rintro a b ⟨m',h1,h2⟩ σ2 H2 m2 ts2 r2;exact ⟨m',h1,m2,a,b,ts2,r2,h2⟩)) (fun a b y=>y) (fun a b y=>y) ((by rintro a b ⟨m',h1,h2⟩ σ2 H2 m2 ts2 r2;exact ⟨m',h1,m2,a,b,ts2,r2,h2⟩)) z
  | false =>
   rw [if_neg Bool.false_ne_true]
   exact z σ' H1 (mm.trans m1) (ts'.mono m1) r1
theorem ZpJ (hp:PassesOwn (model X.prog X.w) X.A X.env X.xe) (hc:Tm X c gt) (hb:Ssm X P sts g):Sm X P (.While c sts [] pos) (Zmy gt g):=⟨ZqC hp hc.m hb.m hc.p hb.p,ZpP hc.m hb.m⟩
def Zpv (ω:Sw) (i:Nat):Option W:=match ω[i]? with | some (some w)=>some w | _=>none
theorem Ztm {σ:St} {ω:Sw} {n:Nat} {w:W} (ts:TrSt K H σ ω) (e:Zpv ω n=some w):∃ v,σ[n]?=some (some v)∧Tr K H v w:=by
 unfold Zpv at e
 split at e
 ·rename_i u z
  cases e
  exact ts.get n _ z
 ·cases e
def Zjz (n:Nat) (r:RW2) (ga:GE):GS:=fun D ω G=>opt (Zpv ω n) fun x=>ga ω G fun y G1=>r x y G1 fun z G2=>D.nx (ω.set n (some z)) G2
theorem ZtN {n:Nat} {r:RW2} (mr:r.M) (ma:ga.M):GS.M (Zjz n r ga):=fun ω G D D' h1 _ _ _ q=>Ztq (fun x q=>ma _ _ _ _ (fun y G1 z=>mr _ _ _ _ _ (fun w G2 z2=>h1 _ _ z2) z) q) q
theorem Zug {op:Operator} {r:RW2} {r2:R2} {n:Nat} {x:Str} (ho:OpR X (inplaceOp op) r2) (mr:r.M) (hr:∀ (x y:W) (v u:V) (G:Hw) (H:Hp) (Q:VK),Tr X.K H v x→Tr X.K H u y→RelH X.K H G→r x y G (dn X.K H Q)→r2 v u H Q)
  (hN:X.N.Nodup) (hi:X.N[n]?=some x) (hx:Loc X.env.scope x) (hf:X.fn x=true∨X.env.scope.names.lookup x=some .local) (ma:ga.M) (ha:PEw X e ga):PSw X P (.AugAssign (.Name x pos') op e pos) (Zjz n r ga):=fun B hB =>
 Zgp (ZuW hN hi hx ha (fun pins s σ H x y v u Q I r1 r2 h=>ho pins s σ H x y v u Q I r1 r2 h) hf) <| by
  rintro D σ H ⟨ω,G,ts,rh,mb,q⟩
  obtain ⟨w,e1,q⟩:=Zeq q
  obtain ⟨v,e2,t⟩:=Ztm ts e1
  refine ⟨v,e2,ω,G,ts,rh,ma _ _ _ _ (fun y G1 z u H1 m tu r1=>?_) q⟩
  exact hr w y v u G1 H1 _ (t.mono m) tu r1 (mr _ _ _ _ _ (fun w2 G2 z2 v2 H2 m2 t2 r2=>z2 _ H2 ((mb.trans m).trans m2) (((ts.mono m).mono m2).set n t2) r2) z)
def Zeh:RW2:=fun x y G Q=>match x,y with
 | .int i,.int j=>Q (.int (i+j)) G
 | .str a,.str b=>a.length+b.length≤sizeLine∧Q (.str (a++b)) G
 | _,_=>False
theorem Znr:RW2.M Zeh:=fun x y G Q Q' h q=>by
 cases x <;> cases y <;> first | exact q | exact h _ _ q | exact ⟨q.1,h _ _ q.2⟩
theorem Zqj (x y:W) (v u:V) (G:Hw) (H:Hp) (Q:VK) (tx:Tr K H v x) (ty:Tr K H u y) (r:RelH K H G) (q:Zeh x y G (dn K H Q)) :
  (rI0 fun i j=>.int (i+j)) v u H Q∨(∃ i j,v=.str i∧u=.str j∧i.length+j.length≤sizeLine∧Q (.str (i++j)) H):=by
 cases tx with
 | int i=>cases ty <;> first | exact q.elim | exact .inl ⟨_,_,rfl,rfl,q _ H .refl (.int _) r⟩
 | str i=>cases ty <;> first | exact q.elim | exact .inr ⟨_,_,rfl,rfl,q.1,q.2 _ H .refl (.str _) r⟩
 | _=>exact q.elim
def Zia (o k v:W) (G:Hw) (Q:Hw→Prop):Prop:=match o,k with
 | .ref a,.int j=>(match G a with
  | some (.lst xs)=>(match ixN xs.length j with | some n=>Q (put G a (.lst (xs.set n v))) | none=>False)
  | _=>False)
 | _,_=>False
theorem Zmi {o k v:W} {G:Hw} {Q:Hw→Prop} (q:Zia o k v G Q):∃ a j xs n,o=.ref a∧k=.int j∧G a=some (.lst xs)∧ixN xs.length j=some n∧Q (put G a (.lst (xs.set n v))):=by
 unfold Zia at q
 split at q
 ·split at q
  ·rename_i xs e
   split at q
   ·rename_i n e2;exact ⟨_,_,xs,n,rfl,rfl,e,e2,q⟩
   ·exact q.elim
  ·exact q.elim
 ·exact q.elim
theorem Zjt {v:W} {G:Hw} {Q:Hw→Prop} {a:Addr} {j:Int} {xs:List W} {n:Nat} (e:G a=some (.lst xs)) (e2:ixN xs.length j=some n) (q:Q (put G a (.lst (xs.set n v)))):Zia (.ref a) (.int j) v G Q:=by
 unfold Zia
 dsimp only
 rw [e]
 dsimp only
 rw [e2]
 exact q
theorem ZsE {o k v:W} {G:Hw} {Q Q':Hw→Prop} (h:∀ G,Q G→Q' G) (q:Zia o k v G Q):Zia o k v G Q':=by
 obtain ⟨a,j,xs,n,rfl,rfl,e,e2,q⟩:=Zmi q
 exact Zjt e e2 (h _ q)
theorem Zqm {o k v:W} {x y u:V} {G:Hw} {Pq:Hw→Prop} {R:Hp→Prop} (tx:Tr K H x v) (ty:Tr K H y o) (tu:Tr K H u k) (r:RelH K H G) (q:Zia o k v G Pq) (f:∀ G4 H4,Mono K H H4→RelH K H4 G4→Pq G4→R H4):Zuz y u x H R:=by
 obtain ⟨a,j,xs,n,rfl,rfl,e,e2,q⟩:=Zmi q
 cases ty
 cases tu
 obtain ⟨vs,e3,t⟩:=r a _ e
 exact ⟨a,vs,j,n,rfl,rfl,e3,by rw [t.length];exact e2,f _ _ (Mono.lst e3 _) (r.chg e3 (TrL.set tx n t)) q⟩
def ZcV (gv go gi:GE):GS:=fun D ω G=>gv ω G fun v G1=>go ω G1 fun o G2=>gi ω G2 fun k G3=>Zia o k v G3 fun G4=>D.nx ω G4
theorem ZpC (mv:gv.M) (mo:go.M) (mi:gi.M):GS.M (ZcV gv go gi):=fun ω G D D' h1 _ _ _ q =>
 mv _ _ _ _ (fun v G1 z=>mo _ _ _ _ (fun o G2 z=>mi _ _ _ _ (fun k G3 z=>ZsE (fun G4 z=>h1 _ _ z) z) z) z) q
theorem Zja (ha:∀ v,assign (.Subscript o i pos') X.env v=(do
   let ov ← holding [v] (eval o X.env)
   let iv ← holding [v,ov] (eval i X.env)
   standAt pos'
   holding [v,ov,iv] (setItem ov iv v)
   release [v,ov,iv] [])) (hs:swapsWithSole [.Subscript o i pos'] e pos.line X.env=pure false) (hw:swappedStores [.Subscript o i pos'] e X.env=pure none)
  (h1:(assignEach [.Subscript o i pos'] X.env).map (·.2)=[assign (.Subscript o i pos') X.env]) (hv:Em X e gv) (ho:Em X o go) (hi:Em X i gi):Sm X P (.Assign [.Subscript o i pos'] e pos) (ZcV gv go gi) :=
 ⟨fun B hB=>Zgp (ZuQ hv.p (Zvy ho.p hi.p Zq2 ha) hs hw h1) fun D σ H ⟨ω,G,ts,r,mb,q⟩=>⟨ω,G,ts,r,hv.m _ _ _ _ (fun v G1 z x H1 m1 tx r1 =>
  ⟨ω,G1,ts.mono m1,r1,ho.m _ _ _ _ (fun ow G2 z2 y H2 m2 ty r2 =>
   ⟨ω,G2,(ts.mono m1).mono m2,r2,hi.m _ _ _ _ (fun k G3 z3 u H3 m3 tu r3 =>
    Zqm ((tx.mono m2).mono m3) (ty.mono m3) tu r3 z3 (fun G4 H4 m4 r4 q4=>q4 σ H4 ((((mb.trans m1).trans m2).trans m3).trans m4) ((((ts.mono m1).mono m2).mono m3).mono m4) r4)) z2⟩) z⟩) q⟩,ZpC hv.m ho.m hi.m⟩
abbrev GO:=Sw→Hw→(Option Int→Hw→Prop)→Prop
def GO.M (g:GO):Prop:=∀ ω G (Q Q':Option Int→Hw→Prop),(∀ w G',Q w G'→Q' w G')→g ω G Q→g ω G Q'
def dnO (K:PySem.W.Frag) (H:Hp) (Q:Option Int→Hp→Prop):Option Int→Hw→Prop:=fun b G=>∀ H',Mono K H H'→RelH K H' G→Q b H'
def upO (K:PySem.W.Frag) (g:GO):TO:=fun σ H Q=>∃ ω G,TrSt K H σ ω∧RelH K H G∧g ω G (dnO K H Q)
structure Om (X:Cx) (e:Option Expr) (g:GO):Prop where
 p:PO X e (upO X.K g)
 m:g.M
def Zav:GO:=fun _ G Q=>Q none G
def ZaX (ga:GE):GO:=fun ω G Q=>ga ω G fun w G1=>match w with | .int j=>Q (some j) G1 | _=>False
theorem Zb9:Om X none Zav:=⟨(by rintro pins s σ H Q I ⟨ω,G,ts,r,q⟩;exact Zti pins s σ H Q I (q H .refl r)),fun _ _ _ _ h q=>h _ _ q⟩
theorem Zcc (h:Em X e ga):Om X (some e) (ZaX ga):=⟨fun pins s σ H Q I ⟨ω,G,ts,r,q⟩=>ZsO h.p pins s σ H Q I ⟨ω,G,ts,r,h.m _ _ _ _ (fun w G1 z v H1 m t r1=>by
  cases w with
  | int j=>exact ⟨j,Zuy t,z H1 m r1⟩
  | _=>exact z.elim) q⟩,fun ω G Q Q' hh q=>h.m _ _ _ _ (fun w G1 z=>by cases w <;> first | exact hh _ _ z | exact z) q⟩
def ZgS {α:Type} (xs:List α) (lo hi:Option Int):List α:=(xs.drop (HT.sIx xs.length 0 lo)).take (HT.sIx xs.length xs.length hi - HT.sIx xs.length 0 lo)
def slW (w:W) (lo hi:Option Int) (G:Hw) (Q:Kw):Prop:=match w with
 | .tup xs=>¬ (HT.sIx xs.length 0 lo=0∧HT.sIx xs.length xs.length hi=xs.length)∧Q (.tup (ZgS xs lo hi)) G
 | .rol xs=>∀ p,G p=none→Q (.ref p) (put G p (.lst (ZgS xs lo hi)))
 | .ref a=>(match G a with | some (.lst xs)=>∀ p,G p=none→Q (.ref p) (put G p (.lst (ZgS xs lo hi))) | _=>False)
 | _=>False
theorem Zq6 {w:W} {lo hi:Option Int} {G:Hw} {Q Q':Kw} (h:∀ w G',Q w G'→Q' w G') (q:slW w lo hi G Q):slW w lo hi G Q':=by
 cases w with
 | tup xs=>exact ⟨q.1,h _ _ q.2⟩
 | rol xs=>exact fun p hp=>h _ _ (q p hp)
 | ref a =>
  unfold slW at q ⊢
  dsimp only at q ⊢
  cases e:G a with
  | none=>rw [e] at q;exact q.elim
  | some ob =>
   rw [e] at q
   cases ob with
   | lst xs=>exact fun p hp=>h _ _ (q p hp)
   | exc C=>exact q.elim
   | ins C fs=>exact q.elim
   | dct kvs=>exact q.elim
 | _=>exact q.elim
theorem TrL.cut {vs:List V} {ws:List W} (t:TrL K H vs ws) (lo hi:Option Int):TrL K H (Zrm vs lo hi) (ZgS ws lo hi):=by
 unfold Zrm ZgS
 rw [t.length]
 exact (t.drop _).take _
theorem Zmq {w:W} {v:V} {lo hi:Option Int} {G:Hw} {Q:VK} (t:Tr K H v w) (r:RelH K H G) (q:slW w lo hi G (dn K H Q)):Zwd K v lo hi H Q∨Zwf K v lo hi H Q:=by
 cases t with
 | tup h l =>
  refine .inl ⟨_,_,rfl,h,by rw [l.length];exact q.1,fun p hp=>?_⟩
  exact q.2 _ _ (Mono.new hp _) (.tup (SqT.of Zbt) ((l.cut lo hi).mono (Mono.new hp _))) (r.mono0 hp)
 | rol h l=>exact .inr ⟨_,_,rfl,h.sq,fun p hp=>q p (r.no hp) _ _ (Mono.new hp _) (.ref p) (r.new hp (l.cut lo hi))⟩
 | ref a =>
  unfold slW at q
  dsimp only at q
  cases e:G a with
  | none=>rw [e] at q;exact q.elim
  | some ob =>
   rw [e] at q
   cases ob with
   | lst xs =>
    obtain ⟨vs,e1,l⟩:=r a _ e
    exact .inr ⟨_,_,rfl,SqL.of e1,fun p hp=>q p (r.no hp) _ _ (Mono.new hp _) (.ref p) (r.new hp (l.cut lo hi))⟩
   | exc C=>exact q.elim
   | ins C fs=>exact q.elim
   | dct kvs=>exact q.elim
 | _=>exact q.elim
def gSl (ga:GE) (gl gh:GO):GE:=fun ω G Q=>ga ω G fun w G1=>gl ω G1 fun lo G2=>gh ω G2 fun hi G3=>slW w lo hi G3 Q
theorem ZvE {lo hi:Option Expr} {gl gh:GO} {p2:Pos} (ha:Em X e ga) (hl:Om X lo gl) (hh:Om X hi gh):Em X (.Subscript e (.Slice lo hi none p2) pos) (gSl ga gl gh) :=
 ⟨Zbi (Zme (SlR.or Zrw Zps) ha.p hl.p hh.p) fun σ H Q ⟨ω,G,ts,r,q⟩=>⟨ω,G,ts,r,ha.m _ _ _ _ (fun w G1 z v H1 m1 t r1=>⟨ω,G1,ts.mono m1,r1,hl.m _ _ _ _ (fun l G2 z2 H2 m2 r2 =>
   ⟨ω,G2,(ts.mono m1).mono m2,r2,hh.m _ _ _ _ (fun h G3 z3 H3 m3 r3=>Zmq ((t.mono m2).mono m3) r3 (Zq6 (fun w G' z=>ZcG ((m1.trans m2).trans m3) z) z3)) z2⟩) z⟩) q⟩,
  fun ω G Q Q' h q=>ha.m _ _ _ _ (fun w G1 z=>hl.m _ _ _ _ (fun l G2 z2=>hh.m _ _ _ _ (fun u G3 z3=>Zq6 h z3) z2) z) q⟩
end
end L3
set_option Elab.async false
set_option linter.all false
set_option maxRecDepth 100000
set_option maxHeartbeats 2000000
namespace L3
open PySem PySem.Spec PyProof.Rows L2
variable {K:PySem.W.Frag} {H H' H2:Hp}
abbrev UpW (K:PySem.W.Frag) (r:RW2) (r2:R2):Prop:=∀ (x y:W) (v u:V) (G:Hw) (H:Hp) (Q:VK),Tr K H v x→Tr K H u y→RelH K H G→r x y G (dn K H Q)→r2 v u H Q
structure Cop (X:Cx) (op:CmpOp) (r:RW2):Prop where
 ex:∃ r2,OpR X (compareOp op) r2∧UpW X.K r r2
 m:r.M
def ZaP (a b:Str):Bool:=decide (a.cps.toList < b.cps.toList)
def ZfY (f:Int→Int→Bool) (g:Str→Str→Bool):RW2:=fun x y G Q=>match x,y with
 | .int i,.int j=>Q (.bl (f i j)) G
 | .str i,.str j=>Q (.bl (g i j)) G
 | _,_=>False
theorem ZrU {f:Int→Int→Bool} {g:Str→Str→Bool}:RW2.M (ZfY f g):=fun x y G Q Q' h q=>by
 cases x <;> cases y <;> first | exact q | exact h _ _ q
theorem ZoB {f:Int→Int→Bool} {g:Str→Str→Bool}:UpW K (ZfY f g) (fun x y H Q=>rI0 (fun i j=>.bl (f i j)) x y H Q∨∃ i j,x=.str i∧y=.str j∧Q (.bl (g i j)) H):=fun x y v u G H Q tx ty r q=>by
 cases tx with
 | int i=>cases ty <;> first | exact q.elim | exact .inl ⟨_,_,rfl,rfl,q _ H .refl (.bl _) r⟩
 | str i=>cases ty <;> first | exact q.elim | exact .inr ⟨_,_,rfl,rfl,q _ H .refl (.bl _) r⟩
 | _=>exact q.elim
theorem Zo9 {X:Cx}:OpR X (compareOp .LtE) (fun x y H Q=>∃ i j,x=.str i∧y=.str j∧Q (.bl (!ZaP j i)) H):=by
 intro pins s σ H x y v u Q I rx ry h
 obtain ⟨i,j,rfl,rfl,q⟩:=h
 obtain ⟨t,rfl⟩:=rx
 obtain ⟨t',rfl⟩:=ry
 exact PySem.P.le_str ⟨.bl _,H,I,rfl,q⟩
theorem ZlX {X:Cx}:Cop X .Lt (ZfY (fun i j=>decide (i < j)) ZaP):=⟨⟨_,OpR.or ZwQ ZoJ,ZoB⟩,ZrU⟩
theorem Zl1 {X:Cx}:Cop X .LtE (ZfY (fun i j=>decide (i≤j)) (fun a b=>!ZaP b a)):=⟨⟨_,OpR.or Zw5 Zo9,ZoB⟩,ZrU⟩
theorem Zii {X:Cx}:Cop X .Gt (Zgg fun i j=>decide (j < i)):=⟨⟨_,ZwB,Znl⟩,ZrR⟩
theorem ZtY {X:Cx}:Cop X .GtE (Zgg fun i j=>decide (j≤i)):=⟨⟨_,Zw6,Znl⟩,ZrR⟩
theorem Zbn {X:Cx} (hu:X.A.units+100 < cLine):Cop X .Eq (Zam (eqF false)):=⟨⟨_,Zvd hu,ZrC false⟩,ZeT⟩
theorem ZcC {X:Cx} (hu:X.A.units+100 < cLine):Cop X .NotEq (Zam (eqF true)):=⟨⟨_,ZuZ hu,ZrC true⟩,ZeT⟩
theorem ZjI {X:Cx}:Cop X .In (Zam (inF false)):=⟨⟨_,ZoW,ZrV false⟩,ZeT⟩
theorem Zon {X:Cx}:Cop X .NotIn (Zam (inF true)):=⟨⟨_,ZkF,ZrV true⟩,ZeT⟩
section
variable {X:Cx} {op op':CmpOp} {r r':RW2} {a b c e:Expr} {es:List Expr} {pos:Pos} {ga gb gc:GE}
theorem Zdg (C:Cop X op r) (hm:behindInMarks op b=false) (ha:Em X a ga) (hb:Em X b gb):Em X (.Compare a [op] [b] pos) (Zaj r ga gb) :=
 let ⟨_,h1,h2⟩:=C.ex
 ⟨Zuj h1 C.m ha.m hb.m h2 ha.p hb.p hm,Zes C.m ha.m hb.m⟩
theorem ZaB (C:Cop X op r) (hm:behindInMarks op b=false) (ha:Em X a ga) (hb:Em X b gb):Tm X (.Compare a [op] [b] pos) (gTB (Zaj r ga gb)) :=
 let ⟨_,h1,h2⟩:=C.ex
 ⟨Zuh h1 C.m ha.m hb.m h2 ha.p hb.p hm,Zvx (Zes C.m ha.m hb.m)⟩
def Zcz (r r':RW2) (ga gb gc:GE):GE:=fun ω G Q=>ga ω G fun x G1=>gb ω G1 fun y G2=>r x y G2 fun z G3=>match z with
 | .bl k=>if k=true then gc ω G3 fun w G4=>r' y w G4 Q else Q (.bl false) G3
 | _=>False
theorem Zi2 (mr:r.M) (mr':r'.M) (ma:ga.M) (mb:gb.M) (mc:gc.M):GE.M (Zcz r r' ga gb gc):=fun ω G Q Q' h q =>
 ma _ _ _ _ (fun x G1 z=>mb _ _ _ _ (fun y G2 z=>mr _ _ _ _ _ (fun z1 G3 z=>by
  cases z1 with
  | bl k =>
   cases k with
   | true=>exact mc _ _ _ _ (fun w G4 z=>mr' _ _ _ _ _ h z) z
   | false=>exact h _ _ z
  | _=>exact z) z) z) q
theorem ZlG {r2 r2':R2} (u:UpW K r r2) (u':UpW K r' r2') (mr:r.M) (mr':r'.M) (ma:ga.M) (mb:gb.M) (mc:gc.M) (σ:St) (H:Hp) (Q:VK) (h:up K (Zcz r r' ga gb gc) σ H Q):Zpq r2 r2' (up K ga) (up K gb) (up K gc) σ H Q:=by
 obtain ⟨ω,G,ts,rh,q⟩:=h
 refine ⟨ω,G,ts,rh,ma _ _ _ _ (fun x G1 z1 v H1 m1 tx r1=>⟨ω,G1,ts.mono m1,r1,mb _ _ _ _ (fun y G2 z2 v2 H2 m2 ty r2=>?_) z1⟩) q⟩
 refine u x y v v2 G2 H2 _ (tx.mono m2) ty r2 (mr _ _ _ _ _ (fun k G3 z3 v3 H3 m3 tk r3=>?_) z2)
 cases k with
 | bl k =>
  refine ⟨k,ZmL tk,?_⟩
  cases k with
  | true =>
   rw [if_pos rfl]
   refine ⟨ω,G3,((ts.mono m1).mono m2).mono m3,r3,mc _ _ _ _ (fun w G4 z4 v4 H4 m4 tw r4=>?_) z3⟩
   exact u' y w v2 v4 G4 H4 Q ((ty.mono m3).mono m4) tw r4 (mr' _ _ _ _ _ (fun w5 G5 z5=>ZcG (((m1.trans m2).trans m3).trans m4) z5) z4)
  | false =>
   rw [if_neg Bool.false_ne_true]
   exact z3 _ H3 ((m1.trans m2).trans m3) (.bl false) r3
 | _=>exact z3.elim
theorem ZpO (C:Cop X op r) (C':Cop X op' r') (hm:lastMarks [op,op'] [b,c]=false) (ha:Em X a ga) (hb:Em X b gb) (hc:Em X c gc):Em X (.Compare a [op,op'] [b,c] pos) (Zcz r r' ga gb gc) :=
 let ⟨_,h1,h2⟩:=C.ex
 let ⟨_,h3,h4⟩:=C'.ex
 ⟨Zbi (ZqP h1 h3 ha.p hb.p hc.p hm) (ZlG h2 h4 C.m C'.m ha.m hb.m hc.m),Zi2 C.m C'.m ha.m hb.m hc.m⟩
theorem ZqF (C:Cop X op r) (C':Cop X op' r') (hm:lastMarks [op,op'] [b,c]=false) (ha:Em X a ga) (hb:Em X b gb) (hc:Em X c gc):Tm X (.Compare a [op,op'] [b,c] pos) (gTB (Zcz r r' ga gb gc)) :=
 let ⟨_,h1,h2⟩:=C.ex
 let ⟨_,h3,h4⟩:=C'.ex
 ⟨Zmj (Zqs h1 h3 ha.p hb.p hc.p hm) fun σ H Q z=>ZlG h2 h4 C.m C'.m ha.m hb.m hc.m σ H _ (Zu0 (Zi2 C.m C'.m ha.m hb.m hc.m) z),Zvx (Zi2 C.m C'.m ha.m hb.m hc.m)⟩
end
abbrev UpC (K:PySem.W.Frag) (r:RWc) (r1:List V→Hp→VK→Prop):Prop:=∀ ws vs G H Q,TrL K H vs ws→RelH K H G→r ws G (dn K H Q)→r1 vs H Q
structure Blt (X:Cx) (f:Value) (r:RWc):Prop where
 ex:∃ r1,CallR X f r1∧UpC X.K r r1
 m:r.M
section
variable {X:Cx} {x:Str} {p pos:Pos} {e:Expr} {es:List Expr} {gs:GA} {r:RWc} {id T:String}
theorem Zgh (hv:bootBuiltins x=some (.builtin id)) (B:Blt X (.builtin id) r) (hg:Gl X x) (hm:X.mg x=none) (hn:x≠"__name__") (hdb:(x==("__debug__":Str))=false)
  (he:starEach (e::es) X.env=(false,eval e X.env)::starEach es X.env) (hpl:(backTo pos (starEach es X.env)).any (·.1)=false) (ha:Am X (e::es) gs):Em X (.Call (.Name x p) (e::es) [] pos) (gB r gs) :=
 let ⟨_,h1,h2⟩:=B.ex
 Zuc h1 B.m h2 hg hm hv hn hdb he hpl ha
theorem Zh8 (hv:bootBuiltins x=some (.type T)) (B:Blt X (.type T) r) (hg:Gl X x) (hm:X.mg x=none) (hn:x≠"__name__") (hdb:(x==("__debug__":Str))=false)
  (he:starEach (e::es) X.env=(false,eval e X.env)::starEach es X.env) (hpl:(backTo pos (starEach es X.env)).any (·.1)=false) (ha:Am X (e::es) gs):Em X (.Call (.Name x p) (e::es) [] pos) (gB r gs) :=
 let ⟨_,h1,h2⟩:=B.ex
 Zuk h1 B.m h2 hg hm hv hn hdb he hpl ha
end
theorem Zd4 {X:Cx}:Blt X (.builtin "len") (rF ZeP):=⟨⟨_,Zp8,ZsR⟩,Zv2⟩
theorem Zji {X:Cx} (hc:X.calm=true):Blt X (.builtin "all") (rF ZiK):=⟨⟨_,Zoy hc,Zsf⟩,Zv2⟩
def ZmM:RWc:=fun ws G Q=>match ws with
 | [w]=>(match Zh5 G w with | some xs=>∀ p,G p=none→Q (.ref p) (put G p (.lst xs)) | none=>False)
 | _=>False
theorem Zsy:RWc.M ZmM:=fun ws G Q Q' h q=>by
 unfold ZmM at q ⊢
 split at q
 ·split at q
  ·exact fun p hp=>h _ _ (q p hp)
  ·exact q.elim
 ·exact q.elim
theorem ZqZ:UpC K ZmM (fun xs H Q=>∃ p ys,xs=[.ref p]∧(SqL K H p ys∨SqT K H p ys)∧∀ l,H l=none→Q (.ref l) (upd H l (.lst ys))):=fun ws vs G H Q t r q=>by
 unfold ZmM at q
 split at q
 ·rename_i w0
  split at q
  ·rename_i xs e
   cases t with
   | cons tw t =>
    cases t
    obtain ⟨a,us,rfl,hq,l⟩:=Zjn r tw e
    exact ⟨a,us,rfl,hq,fun p hp=>q p (r.no hp) _ _ (Mono.new hp _) (.ref p) (r.new hp l)⟩
  ·exact q.elim
 ·exact q.elim
theorem Zqy {X:Cx}:Blt X (.type "list") ZmM:=⟨⟨_,ZkD,ZqZ⟩,Zsy⟩
def Zgx (ws:List W) (G:Hw):Option W:=match ws with | [w]=>(Zh5 G w).map W.tup | _=>none
theorem Zr4:UpC K (rF Zgx) (fun xs H Q=>∃ p ys,xs=[.ref p]∧((SqL K H p ys∧∀ l,H l=none→Q (.ref l) (upd H l (.tup ys)))∨(SqT K H p ys∧Q (.ref p) H))):=fun ws vs G H Q t r q=>by
 obtain ⟨w,e,q'⟩:=Zeq q
 unfold Zgx at e
 split at e
 ·obtain ⟨xs,e1,e2⟩:=Option.map_eq_some_iff.mp e
  subst e2
  cases t with
  | cons tw t =>
   cases t
   obtain ⟨a,us,rfl,hq,l⟩:=Zjn r tw e1
   rcases hq with hq | hq
   ·exact ⟨a,us,rfl,.inl ⟨hq,fun p hp=>q' _ _ (Mono.new hp _) (.tup (SqT.of Zbt) (l.mono (Mono.new hp _))) (r.mono0 hp)⟩⟩
   ·exact ⟨a,us,rfl,.inr ⟨hq,q' _ H .refl (.tup hq l) r⟩⟩
 ·cases e
theorem ZdR {X:Cx}:Blt X (.type "tuple") (rF Zgx):=⟨⟨_,Zjd,Zr4⟩,Zv2⟩
def ZmB (ws:List W) (_:Hw):Option W:=match ws with | [.int i]=>some (.int i) | [.bl k]=>some (.int (if k then 1 else 0)) | _=>none
theorem Ztt:UpC K (rF ZmB) (fun xs H Q=>(∃ i,xs=[.int i]∧Q (.int i) H)∨∃ k,xs=[.bl k]∧Q (.int (if k then 1 else 0)) H):=fun ws vs G H Q t r q=>by
 obtain ⟨w,e,q'⟩:=Zeq q
 unfold ZmB at e
 split at e
 ·cases e
  cases t with
  | cons tw t=>cases t;cases tw;exact .inl ⟨_,rfl,q' _ H .refl (.int _) r⟩
 ·cases e
  cases t with
  | cons tw t=>cases t;cases tw;exact .inr ⟨_,rfl,q' _ H .refl (.int _) r⟩
 ·cases e
theorem ZoZ {X:Cx}:Blt X (.type "int") (rF ZmB):=⟨⟨_,Zol,Ztt⟩,Zv2⟩
structure Mth (X:Cx) (T:String) (name:Str) (id:String) (pre:W→Hw→Prop) (r:W→List W→Hw→Kw→Prop):Prop where
 pa:PlainAttrs T
 slot:Slot T name id
 ty:typeOf (.builtin id)=pure (.type "method_descriptor")
 ex:∃ r2,MtR X id r2∧∀ (o:W) (ws:List W) (v:V) (vs:List V) (G:Hw) (H:Hp) (Q:VK),Tr X.K H v o→TrL X.K H vs ws→RelH X.K H G→r o ws G (dn X.K H Q)→r2 v vs H Q
 pr:∀ (o:W) (v:V) (G:Hw) (H:Hp),Tr X.K H v o→RelH X.K H G→pre o G→tyV X.K T v H
 m:∀ o ws G (Q Q':Kw),(∀ w G',Q w G'→Q' w G')→r o ws G Q→r o ws G Q'
def gMt (pre:W→Hw→Prop) (r:W→List W→Hw→Kw→Prop) (go:GE) (gs:GA):GE:=fun ω G Q=>go ω G fun o G1=>pre o G1∧gs ω G1 fun ws G2=>r o ws G2 Q
section
variable {X:Cx} {o e:Expr} {es:List Expr} {go:GE} {gs:GA} {name:Str} {apos cpos:Pos} {T id:String} {pre:W→Hw→Prop} {r:W→List W→Hw→Kw→Prop}
theorem ZfF (M:Mth X T name id pre r) (hbase:attributeBase o name X.env (eval o X.env)=eval o X.env)
  (hfew:((backTo cpos (starEach (e::es) X.env)).all (fun x=>!x.1)&&(backToKw cpos (keywordEach [] X.env)).all (fun x=>x.1.isSome)&&decide ((e::es).length+([]:List Keyword).length+(if ([]:List Keyword).isEmpty then 0 else 1) < 30))=true)
  (hline:(apos.endLine==cpos.line)=true) (hs:starEach (e::es) X.env=(false,eval e X.env)::starEach es X.env) (hplain:(backTo cpos (starEach es X.env)).any (·.1)=false) (ho:Em X o go) (ha:Am X (e::es) gs) :
  Em X (.Call (.Attribute o name apos) (e::es) [] cpos) (gMt pre r go gs) :=
 let ⟨_,h1,h2⟩:=M.ex
 ⟨Zbi (ZwE M.pa M.slot M.ty h1 ho.p ha.p hbase hfew hline hs hplain) fun σ H Q ⟨ω,G,ts,rh,q⟩=>⟨ω,G,ts,rh,ho.m _ _ _ _ (fun ow G1 z v H1 m1 tv r1=>⟨M.pr ow v G1 H1 tv r1 z.1,
   ω,G1,ts.mono m1,r1,ha.m _ _ _ _ (fun ws G2 z2 vs H2 m2 tvs r2=>h2 ow ws v vs G2 H2 Q (tv.mono m2) tvs r2 (M.m _ _ _ _ _ (fun w G' y=>ZcG (m1.trans m2) y) z2)) z.2⟩) q⟩,
  fun ω G Q Q' h q=>ho.m _ _ _ _ (fun ow G1 z=>⟨z.1,ha.m _ _ _ _ (fun ws G2 z2=>M.m _ _ _ _ _ h z2) z.2⟩) q⟩
end
def ZdB (o:W) (G:Hw):Prop:=∃ xs,Zi9 G o=some xs
theorem Zi1 {o:W} {v:V} {G:Hw} (t:Tr K H v o) (r:RelH K H G) (h:ZdB o G):tyV K "list" v H:=by
 obtain ⟨xs,e⟩:=h
 obtain ⟨a,vs,rfl,_,_,e1,_⟩:=Zfw r t e
 exact .inl ⟨rfl,_,SqL.of e1⟩
def Zrz (o:W) (G:Hw) (f:List W→Option (List W)) (Q:Kw):Prop:=match o with
 | .ref a=>(match G a with | some (.lst xs)=>(match f xs with | some ys=>Q .non (put G a (.lst ys)) | none=>False) | _=>False)
 | _=>False
theorem ZkQ {o:W} {G:Hw} {f:List W→Option (List W)} {Q:Kw} (q:Zrz o G f Q):∃ a xs ys,o=.ref a∧G a=some (.lst xs)∧f xs=some ys∧Q .non (put G a (.lst ys)):=by
 unfold Zrz at q
 split at q
 ·split at q
  ·rename_i xs e
   split at q
   ·rename_i ys e2;exact ⟨_,xs,ys,rfl,e,e2,q⟩
   ·exact q.elim
  ·exact q.elim
 ·exact q.elim
theorem ZkS {G:Hw} {f:List W→Option (List W)} {Q:Kw} {a:Addr} {xs ys:List W} (e:G a=some (.lst xs)) (e2:f xs=some ys) (q:Q .non (put G a (.lst ys))):Zrz (.ref a) G f Q:=by
 unfold Zrz
 dsimp only
 rw [e]
 dsimp only
 rw [e2]
 exact q
theorem ZrJ {o:W} {G:Hw} {f:List W→Option (List W)} {Q Q':Kw} (h:∀ w G',Q w G'→Q' w G') (q:Zrz o G f Q):Zrz o G f Q':=by
 obtain ⟨a,xs,ys,rfl,e,e2,q⟩:=ZkQ q
 exact ZkS e e2 (h _ _ q)
def Zni (o:W) (ws:List W) (G:Hw) (Q:Kw):Prop:=match ws with
 | [y]=>Zrz o G (fun xs=>if xs.length < sizeLine then some (xs++[y]) else none) Q
 | _=>False
theorem Zf7 {X:Cx}:Mth X "list" "append" "list.append" ZdB Zni where
 pa:=PySem.F.plainAttrs_list
 slot:=PySem.F.slot_list_append
 ty:=PySem.F.type_list_append
 ex:=⟨_,ZoS,fun o ws v vs G H Q tv tvs r q=>by
  unfold Zni at q
  split at q
  ·obtain ⟨a,xs,ys,rfl,e,e2,q⟩:=ZkQ q
   split at e2
   ·rename_i hlen
    cases e2
    cases tv
    cases tvs with
    | cons ty t =>
     cases t
     obtain ⟨us,e1,l⟩:=r a _ e
     exact ⟨a,us,_,rfl,rfl,e1,by rw [l.length];exact hlen,q _ _ (Mono.lst e1 _) .non (r.chg e1 (l.append (.cons ty .nil)))⟩
   ·cases e2
  ·exact q.elim⟩
 pr:=fun o v G H t r h=>Zi1 t r h
 m:=fun o ws G Q Q' h q=>by
  unfold Zni at q ⊢
  split at q
  ·exact ZrJ h q
  ·exact q.elim
def ZsD (o:W) (ws:List W) (G:Hw) (Q:Kw):Prop:=match ws with
 | [y]=>Zrz o G (fun xs=>(Zi9 G y).bind fun zs=>if xs.length+zs.length≤sizeLine then some (xs++zs) else none) Q
 | _=>False
theorem Zm4 {X:Cx}:Mth X "list" "extend" "list.extend" ZdB ZsD where
 pa:=PySem.F.plainAttrs_list
 slot:=PySem.F.slot_list_extend
 ty:=PySem.F.type_list_extend
 ex:=⟨_,Zo3,fun o ws v vs G H Q tv tvs r q=>by
  unfold ZsD at q
  split at q
  ·obtain ⟨a,xs,ys,rfl,e,e2,q⟩:=ZkQ q
   obtain ⟨zs,e3,e4⟩:=Option.bind_eq_some_iff.mp e2
   split at e4
   ·rename_i hlen
    cases e4
    cases tv
    cases tvs with
    | cons ty t =>
     cases t
     obtain ⟨us,e1,l⟩:=r a _ e
     obtain ⟨b,ws',rfl,_,_,e5,l5⟩:=Zfw r ty e3
     exact ⟨a,b,us,ws',rfl,rfl,e1,e5,by rw [l.length,l5.length];exact hlen,q _ _ (Mono.lst e1 _) .non (r.chg e1 (l.append l5))⟩
   ·cases e4
  ·exact q.elim⟩
 pr:=fun o v G H t r h=>Zi1 t r h
 m:=fun o ws G Q Q' h q=>by
  unfold ZsD at q ⊢
  split at q
  ·exact ZrJ h q
  ·exact q.elim
end L3
namespace L3
open PySem PySem.Spec PyProof.Rows L2
variable {K:PySem.W.Frag} {H H' H2:Hp}
section
variable {P:Program} {w:World} {mg:Str→Option Value} {base:Heap} {N:List Str} {qual:Str} {scope:Scope} {f:Addr} {cd:Value} {A:Around} {outer:List Env} {s:Shared} {E:XK} {Pb:Hp→Prop}
end
section
variable {X:Cx} {e:Expr} {es:List Expr} {pos p:Pos} {gs:GA}
end
def tyN (w:W) (G:Hw):Option String:=match w with
 | .non=>some "NoneType"
 | .bl _=>some "bool"
 | .int _=>some "int"
 | .str _=>some "str"
 | .tup _=>some "tuple"
 | .rol _=>some "list"
 | .ref a=>(match G a with | some (.lst _)=>some "list" | _=>none)
def Zn8 (n T:String):Bool:=n==T||(n=="bool"&&T=="int")
theorem Zfm {n T:String} (hn:n∈["NoneType","bool","int","str","tuple","list"]) (hT:T∈["tuple","list","str","int","bool","dict"]):PySem.W.kitOne K (.type n) (.type T)=some (Zn8 n T):=by
 simp only [List.mem_cons,List.not_mem_nil,or_false] at hn hT
 rcases hn with rfl | rfl | rfl | rfl | rfl | rfl <;> rcases hT with rfl | rfl | rfl | rfl | rfl | rfl <;> kernel_rfl
def Zc3 (T:String) (ge:GE):GE:=fun ω G Q=>ge ω G fun w G1=>match tyN w G1 with | some n=>Q (.bl (Zn8 n T)) G1 | none=>False
theorem ZsI {T:String} {ge:GE} (m:ge.M):GE.M (Zc3 T ge):=fun ω G Q Q' h q=>m _ _ _ _ (fun w G1 z=>by
 cases e:tyN w G1 with
 | none=>rw [e] at z;exact z
 | some n=>rw [e] at z;exact h _ _ z) q
theorem Zvh {X:Cx} {pins:List (Addr×Obj)} {σ:St} {s:Shared} {v:V} {u:Value} {w:W} {G:Hw} {n T:String} {Q:Value→Shared→Prop} {E:Value→Shared→Prop} (I:Inv X pins σ H s) (rv:RelV v u) (t:Tr X.K H v w) (r:RelH X.K H G) (e:tyN w G=some n)
  (hT:T∈["tuple","list","str","int","bool","dict"]) (h:∀ tk,Q (.bool (Zn8 n T)) { s with toks:=tk }):wpAny (model X.prog X.w) X.A (call (.builtin "isinstance") [u,.type T]) Q E s:=by
 cases t with
 | non=>cases e;cases (show u=Value.none from rv);exact PySem.W.kia_one PySem.W.kitx_none I.kIn True.intro (Zfm (by simp) hT) (fun z=>nomatch z) h
 | bl y=>cases e;cases (show u=Value.bool y from rv);exact PySem.W.kia_one PySem.W.kitx_bool I.kIn True.intro (Zfm (by simp) hT) (fun z=>nomatch z) h
 | int i=>cases e;obtain ⟨t,rfl⟩:=rv;exact PySem.W.kia_one PySem.W.kitx_int I.kIn True.intro (Zfm (by simp) hT) (fun z=>nomatch z) h
 | str y=>cases e;obtain ⟨t,rfl⟩:=rv;exact PySem.W.kia_one PySem.W.kitx_str I.kIn True.intro (Zfm (by simp) hT) (fun z=>nomatch z) h
 | tup hq l =>
  cases e
  cases rv
  obtain ⟨its,_,p,_⟩:=I.tuple hq
  obtain ⟨o,h1,h2,_⟩:=p
  exact PySem.W.kia_one PySem.W.kitx_tuple I.kIn ⟨o,h1,h2⟩ (Zfm (by simp) hT) (fun z=>nomatch z) h
 | rol hq l =>
  cases e
  cases rv
  obtain ⟨its,_,p,_⟩:=I.list hq.sq
  obtain ⟨o,h1,h2,_⟩:=p.isList
  exact PySem.W.kia_one PySem.W.kitx_list I.kIn ⟨o,h1,h2⟩ (Zfm (by simp) hT) (fun z=>nomatch z) h
 | ref a =>
  unfold tyN at e
  dsimp only at e
  cases ea:G a with
  | none=>rw [ea] at e;cases e
  | some o =>
   rw [ea] at e
   cases o with
   | exc C=>cases e
   | ins C fs=>cases e
   | dct kvs=>cases e
   | lst xs =>
    cases e
    cases rv
    obtain ⟨vs,e1,_⟩:=r a _ ea
    obtain ⟨its,_,p,_⟩:=I.list (SqL.of e1)
    obtain ⟨o,h1,h2,_⟩:=p.isList
    exact PySem.W.kia_one PySem.W.kitx_list I.kIn ⟨o,h1,h2⟩ (Zfm (by simp) hT) (fun z=>nomatch z) h
theorem ZqU:bootBuiltins "isinstance"=some (.builtin "isinstance"):=by decide +kernel
section
variable {X:Cx} {e:Expr} {p pc pos:Pos} {ge:GE}
theorem Zfl {c:Str} {T:String} (hT:T∈["tuple","list","str","int","bool","dict"]) (hv:bootBuiltins c=some (.type T)) (hmc:X.mg c=none) (hmi:X.mg "isinstance"=none) (hgi:Gl X "isinstance") (hgc:Gl X c) (hn:c≠"__name__") (hd:(c==("__debug__":Str))=false)
  (he:starEach [e,.Name c pc] X.env=[(false,eval e X.env),(false,eval (.Name c pc) X.env)]) (he2:starEach [.Name c pc] X.env=[(false,eval (.Name c pc) X.env)]) (h:Em X e ge):Em X (.Call (.Name "isinstance" p) [e,.Name c pc] [] pos) (Zc3 T ge):=by
 refine ⟨fun pins s σ H Q I zz3=>?_,ZsI h.m⟩
 obtain ⟨ω,G,ts,r,q⟩:=zz3
 have pa:PA X [e,.Name c pc] (Zqe (up X.K ge) (Zqe (tC (.ty T)) ZwI)):=Zjl h.p (Zjl (ZsT hgc hmc hv rfl hn hd) ZoA (by rw [he2];rfl)) (by rw [he,he2])
 refine wpAny_Call_Name_kw (Ze3 I hgi hmi ZqU ?_ (by decide) (by decide))
 refine PyProof.Rows.callWith_builtin1 (thn (pa pos pins s σ H (fun vs H1=>∃ v w G1 n,vs=[v,.ty T]∧Tr X.K H1 v w∧RelH X.K H1 G1∧tyN w G1=some n∧Q (.bl (Zn8 n T)) H1) I ?_) fun us s1 ⟨vs,H1,I1,r1,v,w,G1,n,e1,tv,rr,ey,qq⟩=>?_) (by rw [he,he2]) (by rw [he2];rfl)
 ·refine ⟨ω,G,ts,r,h.m _ _ _ _ (fun w G1 z v H1 m t r1=>?_) q⟩
  cases ey:tyN w G1 with
  | none=>rw [ey] at z;exact z.elim
  | some n=>rw [ey] at z;exact ⟨v,w,G1,n,rfl,t,r1,ey,z _ H1 m (.bl _) r1⟩
 ·subst e1
  obtain ⟨u,u2,rfl,rv,rt⟩:=Zvv r1
  cases rt
  exact Zvh I1 rv tv rr ey hT fun tk=>⟨.bl _,H1,I1.tok tk,rfl,qq⟩
end
structure ZxO (K:PySem.W.Frag) (C:Addr):Prop where
 ga:PySem.W.findIn K (.ref C) "__getattribute__"=some (some (.builtin "BaseException.__getattribute__"))
 gh:PySem.W.findIn K (.ref C) "__getattr__"=some none
 cl:(PySem.W.clsIn K C).isSome=true
 fc:PySem.W.findIn K (.ref C) "__class__"=some (some (.builtin "object.__class__"))
 sp:PySem.W.specialIn K (.builtin "object.__class__") "__get__"=some (some (.builtin "getset_descriptor.__get__"))
 tk:PySem.W.takesIn K (.builtin "object.__class__")=some true
 mr:PySem.W.mroIn K C (.type "object")=some true
 mb:PySem.W.mroIn K C (.type "BaseException")=some true
end L3
set_option Elab.async false
set_option linter.all false
set_option maxRecDepth 100000
set_option maxHeartbeats 2000000
namespace L3
open PySem PySem.W PySem.Spec PySem.Calls PyProof.Rows PySem.Builtin PySem.Builtin.ObjectAttr PySem.Builtin.Getset_descriptor
section
variable {prog:Program} {w:World} {A:Around} {E:Value→Shared→Prop} {s:Shared} {K:Frag} {x C:Addr} {name:Str}
end
end L3
namespace L3
open PySem PySem.Spec PyProof.Rows L2
variable {K:PySem.W.Frag} {H H' H2:Hp}
def ZxH (K:PySem.W.Frag) (cv:Value) (ge:GE):GE:=fun ω G Q=>ge ω G fun w G1=>match w with
 | .ref a=>(match G1 a with | some (.exc C)=>∃ b,ZxO K C∧PySem.W.kitOne K (.ref C) cv=some b∧Q (.bl b) G1 | _=>False)
 | _=>False
section
variable {X:Cx} {e:Expr} {p pc pos:Pos} {ge:GE}
end
theorem ZmH {n:Nat} {gd:Hw→Prop} {H1:Hp}:Zse K H1 (Itr 0 n) ((List.range n).map fun i:Nat=>W.int i) gd where
 go:=fun i H G m r g hi=>by show i < n;simpa using hi
 yld:=fun i H G x H' m r g y hi=>by
  obtain ⟨e,ex⟩:=y
  subst ex
  have hn:i < n:=by simpa using hi
  refine ZgO r e ⟨.int i,by simp [hn],?_⟩
  rw [Int.zero_add];exact .int _
 stop:=fun H G m r g=>by show n≤_;simp
def Zdq (gs:GA):GI:=fun ω G R=>gs ω G fun ws G1=>match ws with
 | [.int j]=>-(2 ^ 62)≤j∧j < 2 ^ 62∧R ((List.range j.toNat).map fun i:Nat=>W.int i) yes G1
 | _=>False
theorem ZpS {gs:GA} (m:gs.M):GI.M (Zdq gs):=fun ω G R R' h q=>m _ _ _ _ (fun ws G1 z=>by
 split at z
 ·exact ⟨z.1,z.2.1,h _ _ _ z.2.2⟩
 ·exact z.elim) q
theorem ZlN {X:Cx} {tg a:Expr} {p pos:Pos} {gs:GA} (hm:X.mg "range"=none) (hg:Gl X "range") (hs:starEach [a] X.env=[(false,eval a X.env)]) (ha:Am X [a] gs):Im X tg (.Call (.Name "range" p) [a] [] pos) (Zdq gs):=by
 refine ⟨⟨_,Znx hg hm ha.p hs,fun σ H ω G R R0 ts r q k=>⟨ω,G,ts,r,ha.m _ _ _ _ (fun ws G1 z vs H1 m t r1=>?_) q⟩⟩,ZpS ha.m⟩
 split at z
 ·cases t with
  | cons tw t=>cases t;cases tw;exact ⟨_,rfl,z.1,z.2.1,k _ _ _ H1 _ z.2.2 m r1 trivial ZmH⟩
 ·exact z.elim
theorem Inv.turneds {X:Cx} {pins:List (Addr×Obj)} {σ:St} {s:Shared} {h':Heap} {t':Nat} {fp:List Addr} (I:Inv X pins σ H s) (hf:∀ b∈fp,Zoo X pins H b) (k:∀ b o,b∉fp→s.heap.get? b=some o→h'.get? b=some o):Inv X pins σ H { s with heap:=h',toks:=t' }:=by
 have nit:∀ b u,H b=some u→b∉fp:=fun b u e z=>by rw [(hf b z).1] at e;cases e
 refine I.step (g':=s.gens) (d':=s.drawn) (ch:=fp) (fun b hb=>⟨(hf b hb).2.2.2.1,(hf b hb).2.1,(hf b hb).2.2.2.2.1,(hf b hb).2.2.2.2.2⟩) (fun b o _ _ hc e _=>k b o hc e) (fun b o _ _ hc e _=>⟨o.slots,k b o hc e⟩) (fun _ _ _ _ n=>n)
  (fun b o hc e=>⟨o,k b o hc e⟩) (fun _ _ e=>e) (fun _ _ _ e=>e) (fun b ps e=>⟨#[],by rw [e];simp⟩) (fun m hm=>?_) (fun b u e=>?_) I.bare
 ·obtain ⟨o,es,ep,ho,r⟩:=hm
  exact ⟨o,es,ep,k _ o (fun z=>(hf _ z).2.1 rfl) ho,r⟩
 ·refine (I.hok b u e).stay (fun c v hc q=>k c v ?_ q) (fun _ q=>q) fun _ _ q=>q
  rcases hc with z | z
  ·rw [z];exact nit b u e
  ·exact nit c _ z
def Itz (K:PySem.W.Frag) (l1 l2:Addr):It :=
 ⟨fun i H=>∃ xs ys,SqL K H l1 xs∧SqL K H l2 ys∧i < xs.length∧i < ys.length,
  fun i H v H'=>∃ T x y,H T=none∧v=.ref T∧H'=upd H T (.tup [x,y])∧∀ xs ys,SqL K H l1 xs→SqL K H l2 ys→xs[i]?=some x∧ys[i]?=some y,
  fun i H=>∃ xs ys,SqL K H l1 xs∧SqL K H l2 ys∧i=min xs.length ys.length⟩
theorem ZqW {P:Program} {w:World} {elts:List Expr} {k:Nat} {tpos:Pos} {z TI TO i1 i2 l1 l2:Addr} (D:ZipApart z TI TO i1 i2 l1 l2) :
  Zra P w K (.Tuple elts k tpos) (Itz K l1 l2) [z,TI,TO,i1,i2] z (fun i h=>IsZip h z TI TO .none∧IsPair h TI (.ref i1) (.ref i2)∧(∃ a b,IsPair h TO a b)∧h.IsListIter i1 l1 i∧h.IsListIter i2 l2 i) where
 mem:=by simp
 obj:=fun i h st b hb=>by
  obtain ⟨hz,hTI,⟨a,c,hTO⟩,⟨o1,e1,_,d1⟩,⟨o2,e2,_,d2⟩⟩:=st
  simp only [List.mem_cons,List.not_mem_nil,or_false] at hb
  rcases hb with rfl | rfl | rfl | rfl | rfl
  ·exact ⟨_,hz,fun v z=>by cases z⟩
  ·exact ⟨_,hTI,fun v z=>by cases z⟩
  ·exact ⟨_,hTO,fun v z=>by cases z⟩
  ·exact ⟨o1,e1,fun v z=>by rw [d1] at z;cases z⟩
  ·exact ⟨o2,e2,fun v z=>by rw [d2] at z;cases z⟩
 keep:=fun i h h' st kk=>by
  obtain ⟨hz,hTI,⟨a,c,hTO⟩,h1,h2⟩:=st
  exact ⟨kk z (by simp) _ hz,kk TI (by simp) _ hTI,⟨a,c,kk TO (by simp) _ hTO⟩,h1.at fun o e=>kk i1 (by simp) o e,h2.at fun o e=>kk i2 (by simp) o e⟩
 item:=by
  intro X hP hw hK hc i pins s σ H E I hf st hg
  subst hP hw hK
  obtain ⟨xs,ys,hx,hy,hix,hiy⟩:=hg
  obtain ⟨its1,r1,pl1,z1⟩:=I.list hx
  obtain ⟨its2,r2,pl2,z2⟩:=I.list hy
  have n1:=r1.length
  have n2:=r2.length
  obtain ⟨hz,hTI,hTO,h1,h2⟩:=st
  have Wk:=WalksT.zip2 (prog:=X.prog) (w:=X.w) (A:=X.A) (I.ok.hd hc) z TI TO i1 i2 l1 l2 D its1.toArray its2.toArray
  refine Wk.item i s _ _ (by simp only [List.size_toArray];omega) ⟨hz,hTI,hTO,h1,h2,pl1.isList,pl2.isList⟩ fun T vals h' tk hPt hT hTup hMid hk=>⟨.ref T,rfl,?_⟩
  refine Wk.go elts k tpos i T _ _ _ hMid fun h2' st2 hk2=>?_
  obtain ⟨v1,v2,g1,g2,rfl⟩:=hPt
  have g1':its1[i]?=some v1:=by simpa using g1
  have g2':its2[i]?=some v2:=by simpa using g2
  have gx:xs[i]?=some xs[i]:=List.getElem?_eq_getElem hix
  have gy:ys[i]?=some ys[i]:=List.getElem?_eq_getElem hiy
  obtain ⟨u1,q1,rv1⟩:=r1.get gx
  obtain ⟨u2,q2,rv2⟩:=r2.get gy
  rw [g1'] at q1;cases q1
  rw [g2'] at q2;cases q2
  have hw1:∀ b,b∉[z,TI,TO,i1,i2]→b∉[z,TO,i1,i2]:=fun b hb hc=>hb (by
   simp only [List.mem_cons,List.not_mem_nil,or_false] at hc ⊢
   rcases hc with h | h | h | h <;> simp [h])
  have I1:Inv X pins σ H { s with heap:=h2',toks:=tk }:=Inv.turneds I hf fun b o hb e=>hk2 b o (hw1 b hb) (hk b o (hw1 b hb) e)
  have hTn:H T=none:=I.hok.fresh hT
  have hTup2:IsTup h2' T #[v1,v2]:=by
   obtain ⟨o,e,c,m,d⟩:=hTup
   exact ⟨o,hk2 _ _ (Wk.apart _ _ _ hMid) e,c,m,d⟩
  have lt:∀ {b:Addr} {o:Obj},s.heap.get? b=some o→b≠T:=fun e q=>absurd (Nat.lt_of_lt_of_le (Heap.lt_size e) hT) (by rw [q];exact Nat.lt_irrefl _)
  have I2:Inv X pins σ (upd H T (.tup [xs[i],ys[i]])) { s with heap:=h2',toks:=tk }:=by
   refine I1.track hTn ?_ (fun x c e=>?_) (fun p hp=>?_) ?_ ⟨by show 2≤sizeLine;decide,[v1,v2],.cons rv1 (.cons rv2 .nil),hTup2⟩
   ·obtain ⟨m,⟨o,es,ep,ho,_⟩,_⟩:=I.loc
    exact Ne.symm (lt ho)
   ·obtain ⟨v,o,ho,_⟩:=I.cell x c e
    exact lt ho
   ·exact lt (I.pin p hp).1
   ·cases e:X.s₀.heap.get? T with
    | none=>rfl
    | some o=>exact absurd (Nat.lt_of_lt_of_le (Heap.lt_size e) (Nat.le_trans I.sz hT)) (Nat.lt_irrefl _)
  refine ⟨.ref T,_,I2,rfl,⟨T,_,_,hTn,rfl,rfl,fun xs' ys' hx' hy'=>?_⟩,⟨st2.1,st2.2.1,st2.2.2.1,st2.2.2.2.1,st2.2.2.2.2.1⟩,fun b hb=>?_⟩
  ·rw [I.list_inj hx' hx,I.list_inj hy' hy];exact ⟨gx,gy⟩
  ·have hb':=(hf b hb).1
   have:b≠T:=by
    obtain ⟨o,e,_⟩:∃ o,s.heap.get? b=some o∧True:=by
     obtain ⟨a,c,hTO'⟩:=hTO
     obtain ⟨o1,e1,_⟩:=h1
     obtain ⟨o2,e2,_⟩:=h2
     simp only [List.mem_cons,List.not_mem_nil,or_false] at hb
     rcases hb with rfl | rfl | rfl | rfl | rfl
     ·exact ⟨_,hz,trivial⟩
     ·exact ⟨_,hTI,trivial⟩
     ·exact ⟨_,hTO',trivial⟩
     ·exact ⟨_,e1,trivial⟩
     ·exact ⟨_,e2,trivial⟩
    exact lt e
   rw [Za4 this];exact hb'
 done:=by
  intro X hP hw hK hc i pins s σ H E I hf st hg
  subst hP hw hK
  obtain ⟨xs,ys,hx,hy,hi⟩:=hg
  obtain ⟨its1,r1,pl1,z1⟩:=I.list hx
  obtain ⟨its2,r2,pl2,z2⟩:=I.list hy
  have n1:=r1.length
  have n2:=r2.length
  obtain ⟨hz,hTI,hTO,h1,h2⟩:=st
  have Wk:=WalksT.zip2 (prog:=X.prog) (w:=X.w) (A:=X.A) (I.ok.hd hc) z TI TO i1 i2 l1 l2 D its1.toArray its2.toArray
  have hi':i=min its1.toArray.size its2.toArray.size:=by simp only [List.size_toArray];omega
  subst hi'
  refine Wk.done s _ _ ⟨hz,hTI,hTO,h1,h2,pl1.isList,pl2.isList⟩ fun h' tk hk=>⟨rfl,Inv.turneds I hf fun b o hb e=>hk b o (fun hc=>hb ?_) e⟩
  simp only [List.mem_cons,List.not_mem_nil,or_false] at hc ⊢
  rcases hc with h | h | h | h <;> simp [h]
 self:=fun A i s Q E st h=>wpAny_pyIter_zip st.1 h
def Zxx (K:PySem.W.Frag) (ta:TA):TI:=fun σ H R=>ta σ H fun vs H1=>∃ a b xs ys,vs=[.ref a,.ref b]∧SqL K H1 a xs∧SqL K H1 b ys∧R (Itz K a b) H1
theorem ZuG {X:Cx} {a b:Expr} {ta:TA} {p pos tpos:Pos} {elts:List Expr} {k:Nat} (hg:Gl X "zip") (hm:X.mg "zip"=none) (ha:PA X [a,b] ta) (hs:starEach [a,b] X.env=[(false,eval a X.env),(false,eval b X.env)]) (hs2:starEach [b] X.env=[(false,eval b X.env)]) :
  PI X (.Tuple elts k tpos) (.Call (.Name "zip" p) [a,b] [] pos) (Zxx X.K ta):=by
 intro pins s σ H R I h
 refine Call_ (Ze3 I hg hm boot_zip (PyProof.Rows.callWith_type1 (thn (ha pos pins s σ H _ I h) fun us s1 zz2=>?_) (by rw [hs,hs2]) (by rw [hs2];rfl)))
 obtain ⟨vs,H1,I1,r1,q1⟩:=zz2
 obtain ⟨l1,l2,xs,ys,e,hx,hy,q⟩:=q1
 subst e
 obtain ⟨u,u2,rfl,ru,ru2⟩:=Zvv r1
 cases ru
 cases ru2
 obtain ⟨its1,_,pl1,_⟩:=I1.list hx
 obtain ⟨its2,_,pl2,_⟩:=I1.list hy
 have a1:l1 < s1.heap.objs.size:=by obtain ⟨_,e,_⟩:=pl1.isList;exact Heap.lt_size e
 have a2:l2 < s1.heap.objs.size:=by obtain ⟨_,e,_⟩:=pl2.isList;exact Heap.lt_size e
 refine call_zip_2 pl1.isList pl2.isList fun h' hz hTI hTO hi1 hi2 hsz hk=>wpAny_pyIter_zip hz ?_
 refine ⟨_,_,_,_,H1,rfl,I1.kept (t':=s1.toks) hk,ZqW (zipApart_new a1 a2),⟨hz,hTI,⟨_,_,hTO⟩,hi1,hi2⟩,fun b hb=>?_,q⟩
 have hge:s1.heap.objs.size≤b:=by
  simp only [List.mem_cons,List.not_mem_nil,or_false] at hb
  rcases hb with rfl | rfl | rfl | rfl | rfl
  ·exact Nat.le_add_right _ 4
  ·exact Nat.le_add_right _ 2
  ·exact Nat.le_add_right _ 3
  ·exact Nat.le_refl _
  ·exact Nat.le_add_right _ 1
 exact I1.fpOk hge (I1.hok.fresh hge)
def rdL (G:Hw) (w:W):Option (List W):=match w with
 | .rol xs=>some xs
 | .ref a=>(match G a with | some (.lst xs)=>some xs | _=>none)
 | _=>none
theorem Zeu {G:Hw} {w:W} {xs:List W} {v:V} (r:RelH K H G) (t:Tr K H v w) (e:rdL G w=some xs):∃ a vs,v=.ref a∧SqL K H a vs∧TrL K H vs xs:=by
 cases t with
 | rol h l=>cases e;exact ⟨_,_,rfl,h.sq,l⟩
 | ref a =>
  unfold rdL at e;dsimp only at e
  cases z:G a with
  | none=>rw [z] at e;cases e
  | some o =>
   rw [z] at e
   cases o with
   | lst ys=>cases e;obtain ⟨vs,e1,t1⟩:=r a _ z;exact ⟨a,vs,rfl,SqL.of e1,t1⟩
   | exc C=>cases e
   | ins C fs=>cases e
   | dct kvs=>cases e
 | _=>cases e
def Zmz:List W→List W→List W
 | x::xs,y::ys=>.tup [x,y]::Zmz xs ys
 | _,_=>[]
theorem ZiZ:∀ (xs ys:List W),(Zmz xs ys).length=min xs.length ys.length
 | [],_=>by simp [Zmz]
 | _::_,[]=>by simp [Zmz]
 | _::xs,_::ys=>by simp only [Zmz,List.length_cons,ZiZ xs ys];omega
theorem ZlW:∀ (xs ys:List W) (i:Nat) {x y:W},xs[i]?=some x→ys[i]?=some y→(Zmz xs ys)[i]?=some (.tup [x,y])
 | [],_,_,_,_,h,_=>by simp at h
 | _::_,[],_,_,_,_,h=>by simp at h
 | a::xs,b::ys,0,x,y,h,h'=>by simp at h h';subst h;subst h';rfl
 | a::xs,b::ys,i+1,x,y,h,h'=>by
  have:=ZlW xs ys i (x:=x) (y:=y) (by simpa using h) (by simpa using h')
  simpa [Zmz] using this
def ZkK (gs:GA):GI:=fun ω G R=>gs ω G fun ws G1=>match ws with
 | [x,y]=>(match rdL G1 x,rdL G1 y with
  | some xs,some ys=>R (Zmz xs ys) (fun G=>rdL G x=some xs∧rdL G y=some ys) G1
  | _,_=>False)
 | _=>False
theorem ZnJ {gs:GA} {R:List W→(Hw→Prop)→Hw→Prop} {ws:List W} {G1:Hw} (z:match ws with
 | [x,y]=>(match rdL G1 x,rdL G1 y with
  | some xs,some ys=>R (Zmz xs ys) (fun G=>rdL G x=some xs∧rdL G y=some ys) G1
  | _,_=>False)
 | _=>False):∃ x y xs ys,ws=[x,y]∧rdL G1 x=some xs∧rdL G1 y=some ys∧R (Zmz xs ys) (fun G=>rdL G x=some xs∧rdL G y=some ys) G1:=by
 split at z
 ·rename_i x y
  split at z
  ·rename_i xs ys e1 e2;exact ⟨x,y,xs,ys,rfl,e1,e2,z⟩
  ·exact z.elim
 ·exact z.elim
theorem ZuI {gs:GA} (m:gs.M):GI.M (ZkK gs):=fun ω G R R' h q=>m _ _ _ _ (fun ws G1 z=>by
 obtain ⟨x,y,xs,ys,rfl,e1,e2,z⟩:=ZnJ (gs:=gs) z
 dsimp only
 rw [e1,e2]
 exact h _ _ _ z) q
theorem ZvC {X:Cx} {a b:Expr} {p pos tpos:Pos} {elts:List Expr} {k:Nat} {gs:GA} (hm:X.mg "zip"=none) (hg:Gl X "zip") (hs:starEach [a,b] X.env=[(false,eval a X.env),(false,eval b X.env)]) (hs2:starEach [b] X.env=[(false,eval b X.env)]) (ha:Am X [a,b] gs) :
  Im X (.Tuple elts k tpos) (.Call (.Name "zip" p) [a,b] [] pos) (ZkK gs):=by
 refine ⟨⟨_,ZuG hg hm ha.p hs hs2,fun σ H ω G R R0 ts r q kk=>⟨ω,G,ts,r,ha.m _ _ _ _ (fun ws G1 z vs H1 m t r1=>?_) q⟩⟩,ZuI ha.m⟩
 obtain ⟨x,y,xs,ys,rfl,e1,e2,z⟩:=ZnJ (gs:=gs) z
 cases t with
 | cons tx t =>
  cases t with
  | cons ty t =>
   cases t
   obtain ⟨a1,us1,rfl,hq1,l1⟩:=Zeu r1 tx e1
   obtain ⟨a2,us2,rfl,hq2,l2⟩:=Zeu r1 ty e2
   refine ⟨a1,a2,us1,us2,rfl,hq1,hq2,kk _ _ _ H1 _ z m r1 ⟨e1,e2⟩ ⟨fun i H3 G3 m3 r3 g3 hi=>?_,fun i H3 G3 v H4 m3 r3 g3 y3 hi=>?_,fun H3 G3 m3 r3 g3=>?_⟩⟩
   ·obtain ⟨b1,vs1,e3,h3,t3⟩:=Zeu r3 (tx.mono m3) g3.1
    obtain ⟨b2,vs2,e4,h4,t4⟩:=Zeu r3 (ty.mono m3) g3.2
    cases e3;cases e4
    rw [ZiZ] at hi
    exact ⟨vs1,vs2,h3,h4,by rw [t3.length];omega,by rw [t4.length];omega⟩
   ·obtain ⟨b1,vs1,e3,h3,t3⟩:=Zeu r3 (tx.mono m3) g3.1
    obtain ⟨b2,vs2,e4,h4,t4⟩:=Zeu r3 (ty.mono m3) g3.2
    cases e3;cases e4
    obtain ⟨T,v1,v2,hT,rfl,rfl,hv⟩:=y3
    obtain ⟨g1,g2⟩:=hv _ _ h3 h4
    obtain ⟨w1,q1,tw1⟩:=t3.get' g1
    obtain ⟨w2,q2,tw2⟩:=t4.get' g2
    have mn:Mono X.K H3 (upd H3 T (.tup [v1,v2])):=Mono.new hT _
    exact ⟨mn,r3.mono0 hT,_,ZlW _ _ i q1 q2,.tup (SqT.of Zbt) (.cons (tw1.mono mn) (.cons (tw2.mono mn) .nil))⟩
   ·obtain ⟨b1,vs1,e3,h3,t3⟩:=Zeu r3 (tx.mono m3) g3.1
    obtain ⟨b2,vs2,e4,h4,t4⟩:=Zeu r3 (ty.mono m3) g3.2
    cases e3;cases e4
    exact ⟨vs1,vs2,h3,h4,by rw [ZiZ,t3.length,t4.length]⟩
end L3
namespace L3
open PySem PySem.Spec PyProof.Rows L2
variable {K:PySem.W.Frag} {H H' H2:Hp}
theorem ZfS:bootBuiltins "len"=some (.builtin "len"):=by decide +kernel
theorem ZlR:bootBuiltins "all"=some (.builtin "all"):=by decide +kernel
theorem Zts:bootBuiltins "list"=some (.type "list"):=by decide +kernel
theorem ZcY:bootBuiltins "tuple"=some (.type "tuple"):=by decide +kernel
theorem ZrQ:bootBuiltins "int"=some (.type "int"):=by decide +kernel
theorem ZrI:bootBuiltins "str"=some (.type "str"):=by decide +kernel
theorem Zod:bootBuiltins "bool"=some (.type "bool"):=by decide +kernel
theorem ZsM:bootBuiltins "dict"=some (.type "dict"):=by decide +kernel
section
variable {X:Cx} {P:Hp→Prop} {a b c e:Expr} {es:List Expr} {pos pos' p:Pos} {ga gb ge:GE} {gt:GT}
theorem Zan {x:Str} {i:Nat} (hi:X.N[i]?=some x) (hv:Zv9 X.env.scope x=true) (hd:(x==("__debug__":Str))=false) (hc:(x==("__classdict__":Str))=false):Em X (.Name x pos) (Zad i):=⟨Zu2 hi (ZlD hv) hd hc,ZvK⟩
theorem Zej {x:Str} {i:Nat} (hN:X.N.Nodup) (hi:X.N[i]?=some x) (hx:Zms X.env.scope x=true) (hs:swapsWith e (some (.Name x pos')) pos.line X.env=pure false) (ha:Em X e ga):Sm X P (.Assign [.Name x pos'] e pos) (Zbd i ga) :=
 ⟨Zru hN hi (.inl (ZgU hx)) ha.m ha.p hs (.inr (ZgU hx)),Zry ha.m⟩
theorem Zxv {n:Nat} {x:Str} (hN:X.N.Nodup) (hi:X.N[n]?=some x) (hx:Zms X.env.scope x=true) (ha:Em X e ga):Sm X P (.AugAssign (.Name x pos') .Add e pos) (Zjz n Zeh ga) :=
 ⟨Zug (OpR.or Zs9 Zk0) Znr Zqj hN hi (.inl (ZgU hx)) (.inr (ZgU hx)) ha.m ha.p,ZtN Znr ha.m⟩
def Glb (K:PySem.W.Frag) (mg:Str→Option Value) (x:Str) (w:W):Prop:=∃ v u,mg x=some u∧RelV v u∧∀ H,Tr K H v w
theorem ZiV {x:Str} {w:W} (h:Glb X.K X.mg x w) (hg:Gl X x) (hd:(x==("__debug__":Str))=false):Em X (.Name x pos) (gC w) :=
 let ⟨_,_,h1,h2,h3⟩:=h
 ⟨Zpa hg h1 h2 h3 hd,ZtK⟩
structure Fm (X:Cx) (ifs:List Expr) (g:GT):Prop where
 p:PFw X ifs g
 m:g.M
theorem Zeg:Fm X [] Zf6:=⟨ZtR,Zvs⟩
theorem Zfa {elt tg iter:Expr} {ifs:List Expr} {scope:Scope} {Nc:List Str} {gi:GI} {gg:GG} (hc:X.calm=true) (B:Blk X Nc scope [] (fun _=>List.replicate Nc.length none)) (hs:∀ x,foldedSetIterable iter X.env x=pure x) (hi:Im X tg iter gi)
  (hu:TgU X Nc scope tg gg) (ht:∀ C fp s H,Fm (cxB X Nc scope [] C fp s H) ifs gt) (he:∀ C fp s H,Em (cxB X Nc scope [] C fp s H) elt ge):Em X (.ListComp elt [⟨tg,iter,ifs,0⟩] scope pos) (Zc1 gi Nc.length gg gt ge) :=
 have mt:gt.M:=(ht 0 [] X.s₀ X.H₀).m
 have me:ge.M:=(he 0 [] X.s₀ X.H₀).m
 ⟨Zst hc hi.p B hu mt (fun C fp s H=>(ht C fp s H).p) me (fun C fp s H=>(he C fp s H).p) hs,ZsH hi.m hu.mono mt me⟩
theorem ZaH:Zpe X (fun _ _ _=>False):=(by rintro pins σ H s ev s' I ⟨e,C,H',ee,F,C',ω,G,eC,ts,r,q⟩;exact q.elim)
theorem ZeQ {k:Nat} {A:Around} (hr:Room k A):A.units+100 < cLine:=by have:=hr.un;omega
end
def Zlr:List (Str×Int)→Str→W
 | [],_=>.non
 | (x,i)::D,z=>if z=x then .int i else Zlr D z
def Zwh (mg:Str→Option Value) (base:Heap) (x:Str) (D:List (Str×Int)):Prop:=∃ d,mg x=some (.ref d)∧KTD.TextTab base d (D.map fun p=>(p.1,KTD.Dat.flat (.int p.2)))
theorem ZiP:∀ {D:List (Str×Int)} {z:Str} {d:KTD.Dat},KTD.datumAt z (D.map fun p=>(p.1,KTD.Dat.flat (.int p.2)))=some d→∃ i,d=.flat (.int i)∧Zlr D z=.int i
 | [],_,_,h=>by cases h
 | (x,i)::D,z,d,h=>by
  have h':(if decide (z=x)=true then some (KTD.Dat.flat (.int i)) else KTD.datumAt z (D.map fun p=>(p.1,KTD.Dat.flat (.int p.2))))=some d:=h
  unfold Zlr
  by_cases hx:z=x
  ·rw [if_pos (decide_eq_true hx)] at h'
   cases h'
   exact ⟨i,rfl,if_pos hx⟩
  ·rw [if_neg (by simpa using hx)] at h'
   rw [if_neg hx]
   exact ZiP h'
theorem ZiJ:∀ {D:List (Str×Int)} {z:Str},KTD.datumAt z (D.map fun p=>(p.1,KTD.Dat.flat (.int p.2)))=none→Zlr D z=.non
 | [],_,_=>rfl
 | (x,i)::D,z,h=>by
  have h':(if decide (z=x)=true then some (KTD.Dat.flat (.int i)) else KTD.datumAt z (D.map fun p=>(p.1,KTD.Dat.flat (.int p.2))))=none:=h
  unfold Zlr
  by_cases hx:z=x
  ·rw [if_pos (decide_eq_true hx)] at h';cases h'
  ·rw [if_neg (by simpa using hx)] at h'
   rw [if_neg hx]
   exact ZiJ h'
def Zd7 (D:List (Str×Int)) (gk:GE):GE:=fun ω G Q=>gk ω G fun w G1=>match w with | .str z=>Q (Zlr D z) G1 | _=>False
theorem Zox {X:Cx} {x:Str} {D:List (Str×Int)} {e:Expr} {p0 apos cpos:Pos} {gk:GE} (h:Zwh X.mg X.base x D) (hg:Gl X x) (hd:(x==("__debug__":Str))=false) (hbase:attributeBase (.Name x p0) "get" X.env (eval (.Name x p0) X.env)=eval (.Name x p0) X.env)
  (hfew:((backTo cpos (starEach [e] X.env)).all (fun x=>!x.1)&&(backToKw cpos (keywordEach [] X.env)).all (fun x=>x.1.isSome)&&decide ([e].length+([]:List Keyword).length+(if ([]:List Keyword).isEmpty then 0 else 1) < 30))=true)
  (hline:(apos.endLine==cpos.line)=true) (hs:starEach [e] X.env=(false,eval e X.env)::starEach [] X.env) (hplain:(backTo cpos (starEach [] X.env)).any (·.1)=false) (hk:Em X e gk) :
  Em X (.Call (.Attribute (.Name x p0) "get" apos) [e] [] cpos) (Zd7 D gk):=by
 refine ⟨fun pins s σ H Q I ⟨ω,G,ts,r,q⟩=>?_,fun ω G Q Q' hh q=>hk.m _ _ _ _ (fun w G1 z=>by cases w <;> first | exact hh _ _ z | exact z) q⟩
 obtain ⟨d,hm,T⟩:=h
 have here:KTD.Here X.base s.heap d (D.map fun p=>(p.1,KTD.Dat.flat (.int p.2))):=⟨T,I.bk⟩
 refine wpAny_Call_method_late hbase hfew hline rfl (Zls I hg hm ⟨"dict","dict.get",PySem.F.plainAttrs_dict,PySem.F.slot_dict_get,PySem.F.type_dict_get,here.typeIs,here.noDict,?_⟩ hd)
 have pa:PA X [e] (Zqe (up X.K gk) ZwI):=Zjl hk.p ZoA hs
 have hA:=pa cpos pins s σ H (fun vs H1=>∃ z,vs=[.str z]∧∀ v,Tr X.K H1 v (Zlr D z)→Q v H1) I ⟨ω,G,ts,r,hk.m _ _ _ _ (fun w G1 z v H1 m t r1=>by
  cases w with
  | str y=>exact ⟨y,by rw [ZrN t],fun v tv=>z v H1 m tv r1⟩
  | _=>exact z.elim) q⟩
 rw [hs] at hA ⊢
 refine Calls.callWith_builtin (by show (false||(backTo cpos (starEach [] X.env)).any (·.1))=false;rw [hplain] <;> rfl) (Calls.evalArgs_plain ?_)
 refine thn hA fun us s2 zz1=>?_
 obtain ⟨vs,H2,I2,r2,z,e1,q2⟩:=zz1
 subst e1
 obtain ⟨u,rfl,ru⟩:=ZjT r2
 obtain ⟨t,rfl⟩:=ru
 have here2:KTD.Here X.base s2.heap d (D.map fun p=>(p.1,KTD.Dat.flat (.int p.2))):=⟨T,I2.bk⟩
 refine call_meetsIn PySem.F.slot_dict_get here2.typeIs PySem.F.entry_dict_get (PySem.F.args_dict_get_2 _ _) (KTD.meets_get1 (h₀:=X.base) (D:=D.map fun p=>(p.1,KTD.Dat.flat (.int p.2)))) ⟨here2,fun dd v ha hv=>?_,fun hn=>?_⟩
 ·obtain ⟨i,rfl,e2⟩:=ZiP ha
  obtain ⟨t2,rfl⟩:=PyProof.V.Flat.int_inv hv
  exact ⟨.int i,H2,I2.tok _,⟨_,rfl⟩,q2 _ (by rw [e2];exact .int i)⟩
 ·exact ⟨.non,H2,I2.tok _,rfl,q2 _ (by rw [ZiJ hn];exact .non)⟩
def Fn (K:PySem.W.Frag) (mg:Str→Option Value) (st:Stmt) (x:Str) (ps:List Str):Prop:=∃ f fd,mg x=some (.ref f)∧Fun K x x st f fd∧Binds K fd ps []
section
variable {P:Program} {w:World} {mg:Str→Option Value} {base:Heap}
theorem mk0 {x:Str} {st:Stmt} {N ps:List Str} {k n:Nat} {sp:Spw} {g:GS} (Fx:Fn K mg st x ps) (hn:ps.length=n) (S:ZaD N ps (Zac st)) (spm:sp.M) (len:∀ ws G Q E,sp ws G Q E→ws.length=n)
  (hg:∀ {f:Addr} {cdv:Value} {A:Around} {outer:List Env} {s:Shared} {H:Hp} {E:XK},Room k (A.deeper (envOfC x (Zac st) s.heap.objs.size f cdv))→Ssm (cxW P w K mg base N x (Zac st) f cdv A outer s H E).nox (fun B=>B=H) (Zaz st) g)
  (ok:∀ ws G (Q:Kw) (E:Addr→Hw→Prop),Kw.C Q→sp ws G Q E→g (ZaR Q) (ZbY N ws) G):Df P w K mg base x (k+1) n sp:=by
 obtain ⟨f,fd,h1,F,h3⟩:=Fx
 refine ⟨⟨f,fd,ps,h1,F.kp,h3,hn,?_⟩,spm⟩
 obtain ⟨oc,od,kV,doc,pm,an,cdv,ct,osl,rfl,lk,hcd⟩:=F.ex
 refine ZsX lk hcd S ((by rintro vs H Q E ⟨ws,G,t,r,q⟩;rw [t.length,hn];exact len ws G _ _ q)) fun A outer s H vs Q E hr hsp=>?_
 obtain ⟨ws,G,t,r,q⟩:=hsp
 have D:=hg (cdv:=cdv) (outer:=outer) (H:=H) (E:=E) hr
 refine ⟨_,(D.p H rfl).nox,ZbY N ws,G,ZiH t,r,.refl,?_⟩
 exact D.m _ _ (ZaR (dn K H Q)) _ (fun a b z σ H2 m ts r2=>z _ H2 m Tr.non r2) (fun a b z=>z) (fun a b z=>z.elim) (fun a b z=>z.elim) (ok ws G _ _ Zxl q)
end
end L3
set_option Elab.async false
set_option linter.all false
set_option maxRecDepth 100000
set_option maxHeartbeats 4000000
namespace L3
open PySem PySem.Spec PyProof.Rows L2
def Zh1 {α:Type} (n:Nat) (js:List Nat) (l:List (Option α)):List (Option α):=List.replicate n none++js.map fun j=>(l[j]?).getD none
theorem Zjx {α:Type} {n:Nat} {js:List Nat} {l:List (Option α)}:(Zh1 n js l).length=n+js.length:=by simp [Zh1]
theorem ZlE {α:Type} {n i:Nat} {js:List Nat} {l:List (Option α)} {v:α} (h:(Zh1 n js l)[i]?=some (some v)):∃ m j,i=n+m∧js[m]?=some j∧l[j]?=some (some v):=by
 unfold Zh1 at h
 by_cases hi:i < n
 ·rw [List.getElem?_append_left (by simpa using hi),List.getElem?_replicate] at h
  split at h <;> cases h
 ·rw [List.getElem?_append_right (by simpa using Nat.le_of_not_lt hi),List.length_replicate,List.getElem?_map] at h
  cases hj:js[i - n]? with
  | none=>rw [hj] at h;cases h
  | some j =>
   rw [hj] at h
   refine ⟨i - n,j,by omega,hj,?_⟩
   have h':(l[j]?).getD none=some v:=Option.some.inj h
   cases e:l[j]? with
   | none=>rw [e] at h';cases h'
   | some o=>rw [e] at h';exact congrArg some h'
theorem Zqz {α:Type} {n m j:Nat} {js:List Nat} {l:List (Option α)} {v:α} (h1:js[m]?=some j) (h2:l[j]?=some (some v)):(Zh1 n js l)[n+m]?=some (some v):=by
 unfold Zh1
 rw [List.getElem?_append_right (by simp),List.length_replicate,List.getElem?_map]
 have:n+m - n=m:=by omega
 rw [this,h1]
 show some ((l[j]?).getD none)=_
 rw [h2];rfl
theorem TrSt.cap {K:PySem.W.Frag} {H:Hp} {σ:St} {ω:Sw} (t:TrSt K H σ ω) (n:Nat) (js:List Nat):TrSt K H (Zh1 n js σ) (Zh1 n js ω):=by
 refine ⟨by rw [Zjx,Zjx],fun i w e=>?_⟩
 obtain ⟨m,j,rfl,h1,h2⟩:=ZlE e
 obtain ⟨v,h3,r⟩:=t.get j w h2
 exact ⟨v,Zqz h1 h3,r⟩
def Zjc (env:Env):List (Str×NameKind)→List (Str×Addr)→List (Str×Addr)
 | [],cs=>cs
 | (n,k)::r,cs=>Zjc env r (if k=.free then (n,(env.cells.lookup n).getD 0)::cs else cs)
theorem Zmc {env:Env}:∀ (l:List (Str×NameKind)) (cs:List (Str×Addr)),(∀ y∈l,y.2=.free→∃ c,env.cells.lookup y.1=some c) →
  (forIn l cs fun (x:Str×NameKind) r=>if (x.2==NameKind.free)=true then do let c ← cellOf env x.1;pure (ForInStep.yield ((x.1,c)::r)) else pure (ForInStep.yield r):Sem (List (Str×Addr)))=pure (Zjc env l cs)
 | [],cs,_=>by simp [Zjc]
 | (n,k)::r,cs,h=>by
  have ih:=fun cs=>Zmc r cs fun y hy=>h y (List.mem_cons_of_mem _ hy)
  rw [List.forIn_cons]
  by_cases hk:k=.free
  ·obtain ⟨c,hc⟩:=h (n,k) List.mem_cons_self hk
   subst hk
   have e:cellOf env n=pure c:=by unfold cellOf;rw [hc]
   simp only [beq_self_eq_true,if_true,e,pure_bind,Zjc,hc,Option.getD_some]
   exact ih _
  ·have:(k==NameKind.free)=false:=by simpa using hk
   simp only [this,Bool.false_eq_true,if_false,pure_bind,Zjc,hk]
   exact ih _
theorem Zkl {env:Env} {y:Str} {c:Addr}:∀ (l:List (Str×NameKind)) (cs:List (Str×Addr)),(Zjc env l cs).lookup y=some c→cs.lookup y=some c∨((y,NameKind.free)∈l∧c=(env.cells.lookup y).getD 0)
 | [],cs,h=>.inl h
 | (n,k)::r,cs,h=>by
  rcases Zkl r _ h with q | ⟨q1,q2⟩
  ·split at q
   ·rename_i hk
    subst hk
    rw [List.lookup_cons] at q
    split at q
    ·rename_i e
     have e':y=n:=beq_iff_eq.mp e
     subst e'
     exact .inr ⟨List.mem_cons_self,(Option.some.inj q).symm⟩
    ·exact .inl q
   ·exact .inl q
  ·exact .inr ⟨List.mem_cons_of_mem _ q1,q2⟩
theorem ZiI {env:Env} {y:Str}:∀ (l:List (Str×NameKind)) (cs:List (Str×Addr)),(∃ c,cs.lookup y=some c)→∃ c,(Zjc env l cs).lookup y=some c
 | [],cs,h=>h
 | (n,k)::r,cs,h=>ZiI r _ (by
  split
  ·rw [List.lookup_cons]
   split
   ·exact ⟨_,rfl⟩
   ·exact h
  ·exact h)
theorem ZjN {env:Env} {y:Str}:∀ (l:List (Str×NameKind)) (cs:List (Str×Addr)),(y,NameKind.free)∈l→∃ c,(Zjc env l cs).lookup y=some c
 | [],cs,h=>by cases h
 | (n,k)::r,cs,h=>by
  rcases List.mem_cons.mp h with h | h
  ·cases h
   refine ZiI r _ ⟨(env.cells.lookup y).getD 0,?_⟩
   rw [if_pos rfl,List.lookup_cons,beq_self_eq_true]
  ·exact ZjN r _ h
theorem ZhR {scope:Scope} {env:Env} {y:Str} {k:NameKind} (nocell:∀ z∈scope.names,z.2≠.cell) (h:(relabel scope env).names.lookup y=some k) (hk:k=.cell∨k=.free):(y,NameKind.free)∈scope.names:=by
 have m:=Zfg h
 unfold relabel at m
 obtain ⟨⟨n,k0⟩,hm,e⟩:=List.mem_map.mp m
 dsimp only at e
 split at e
 ·rename_i hc
  cases e
  simp only [Bool.and_eq_true,beq_iff_eq] at hc
  rw [hc.1.1] at hm
  exact hm
 ·cases e
  rcases hk with rfl | rfl
  ·exact absurd rfl (nocell _ hm)
  ·exact hm
theorem Zda {env:Env} (hf:env.scope.kind=.function):∀ {names:List (Str×NameKind)} {x:Str},names.lookup x=some .free→env.kindOf x=some .cell →
  (names.map fun (n,k)=>if (k==NameKind.free&&env.scope.kind==.function&&env.kindOf n==some .cell) then (n,NameKind.cell) else (n,k)).lookup x=some .cell
 | [],_,h,_=>by cases h
 | (n,k)::r,x,h,hk=>by
  rw [List.lookup_cons] at h
  rw [List.map_cons]
  split at h
  ·rename_i e
   have e':x=n:=beq_iff_eq.mp e
   subst e'
   cases h
   have c:(NameKind.free==NameKind.free&&env.scope.kind==ScopeKind.function&&env.kindOf x==some NameKind.cell)=true:=by rw [hf,hk];rfl
   dsimp only
   rw [if_pos c,List.lookup_cons,beq_self_eq_true]
  ·rename_i e
   have ih:=Zda hf (names:=r) h hk
   rw [List.lookup_cons]
   have e2:(x==(if (k==NameKind.free&&env.scope.kind==ScopeKind.function&&env.kindOf n==some NameKind.cell)=true then (n,NameKind.cell) else (n,k)).1)=false:=by
    split <;> exact e
   dsimp only at e2 ⊢
   split
   ·rename_i e3;rw [e2] at e3;cases e3
   ·exact ih
theorem ZvZ {X:Cx} {own fr:List Str} {js:List Nat} {scope scX:Scope} {n:Nat} (kind:scope.kind=.function) (names:∀ x∈scope.names,x.2=.local→scope.names.lookup x.1=some .local) (nocell:∀ y∈scope.names,y.2≠.cell)
  (hf:∀ y∈scope.names,y.2=.free→y.1∈fr) (hk:∀ y∈fr,scope.names.lookup y=some .free) (hsc:X.env.scope=scX) (hkx:scX.kind=.function) (hce:X.env.cells=cellsFrom n scX.names []) (hx:∀ y∈fr,scX.names.lookup y=some .cell)
  (hj:js.map (fun j=>X.N[j]?)=fr.map some):Blk X (own++fr) scope (Zjc X.env scope.names []) (Zh1 own.length js):=by
 have cel:∀ y∈fr,∃ c,X.env.cells.lookup y=some c:=fun y hy=>by
  rw [hce]
  exact ZiY (hx y hy)
 have frl:js.length=fr.length:=by have:=congrArg List.length hj;simpa using this
 refine ⟨?_,kind,names,nocell,fun y c h=>?_,fun y h=>?_,fun σ i y v h1 h2 h3=>?_,fun σ=>by rw [Zjx,List.length_append,frl]⟩
 ·have:=Zmc (env:=X.env) scope.names [] fun y hy hy2=>cel _ (hf y hy hy2)
  unfold closureFor
  simp only [bind_pure]
  exact this
 ·rcases Zkl _ _ h with q | ⟨q1,q2⟩
  ·cases q
  ·obtain ⟨c',e⟩:=cel y (hf _ q1 rfl)
   rw [e] at q2 ⊢
   exact congrArg some q2.symm
 ·refine ZjN _ _ ?_
  rcases h with h | h
  ·exact ZhR nocell h (.inl rfl)
  ·exact ZhR nocell h (.inr rfl)
 ·obtain ⟨m,j,rfl,e1,e2⟩:=ZlE h2
  rw [List.getElem?_append_right (by omega)] at h1
  have:own.length+m - own.length=m:=by omega
  rw [this] at h1
  have hy:y∈fr:=List.mem_of_getElem? h1
  have q:=congrArg (fun l=>l[m]?) hj
  simp only [List.getElem?_map,e1,h1,Option.map_some] at q
  have l1:X.env.scope.names.lookup y=some .cell:=by rw [hsc];exact hx y hy
  refine ⟨.inl (Zda (by rw [hsc];exact hkx) (hk y hy) l1),.inr (.inl l1),(by rw [l1];intro z;cases z),j,Option.some.inj q,e2⟩
def Zcs (gi:GI) (n:Nat) (js:List Nat) (gg:GG) (gt:GT) (ge:GE):GE:=fun ω G Q=>gi ω G fun ws gd G1=>Zb3 gd gg gt ge (fun ys G2=>∀ p,G2 p=none→Q (.ref p) (put G2 p (.lst ys))) ws (Zh1 n js ω) G1 []
theorem Zrc {gi:GI} {n:Nat} {js:List Nat} {gg:GG} {gt:GT} {ge:GE} (mi:gi.M) (mg:gg.M) (mt:gt.M) (me:ge.M):GE.M (Zcs gi n js gg gt ge):=fun ω G Q Q' h q =>
 mi _ _ _ _ (fun ws gd G1 z=>ZgQ mg mt me (fun ys G2 z p hp=>h _ _ (z p hp)) _ _ _ _ z) q
theorem ZpF {X:Cx} {n:Nat} {js:List Nat} {gi:GI} {gg:GG} {gt:GT} {ge:GE} {wi:TI} {g:TG} (hwi:∀ (σ:St) (H:Hp) (ω:Sw) (G:Hw) (R:List W→(Hw→Prop)→Hw→Prop) (R0:It→Hp→Prop),TrSt X.K H σ ω→RelH X.K H G→gi ω G R →
   (∀ ws gd G1 H1 J,R ws gd G1→Mono X.K H H1→RelH X.K H1 G1→gd G1→Zse X.K H1 J ws gd→R0 J H1)→wi σ H R0)
  (hgg:∀ (x:V) (w:W) (σ:St) (ω:Sw) (H:Hp) (G:Hw) (Q:St→Hp→Prop),Tr X.K H x w→TrSt X.K H σ ω→RelH X.K H G→gg w ω G (dnS X.K H Q)→g x σ H Q) (mg:gg.M) (mt:gt.M) (me:ge.M) (σ:St) (H:Hp) (Q:VK) (h:up X.K (Zcs gi n js gg gt ge) σ H Q) :
  ZrX wi (Zh1 n js) g (upT X.K gt) (up X.K ge) σ H Q:=by
 obtain ⟨ω,G,ts,r,q⟩:=h
 refine hwi σ H ω G _ _ ts r q fun ws gd G1 H1 J z m1 r1 hgd wk=>?_
 refine ⟨fun i m σ' H' vs=>m=ws.length - i∧i≤ws.length∧Mono X.K H1 H'∧∃ ω' G' ys,TrSt X.K H' σ' ω'∧RelH X.K H' G'∧TrL X.K H' vs ys∧Zb3 gd gg gt ge (fun ys G2=>∀ p,G2 p=none→dn X.K H Q (.ref p) (put G2 p (.lst ys))) (ws.drop i) ω' G' ys,
  ⟨ws.length,by simp,Nat.zero_le _,.refl,_,G1,[],(ts.mono m1).cap n js,r1,.nil,by simpa using z⟩,?_⟩
 rintro i m σ' H' vs ⟨rfl,hle,mm,ω',G',ys,ts',r',tv,q'⟩
 have hgd':=Zku q'
 by_cases hlt:i < ws.length
 ·have hw:∃ w,ws[i]?=some w:=⟨ws[i],by simp [hlt]⟩
  obtain ⟨w0,ew0⟩:=hw
  have ed:ws.drop i=w0::ws.drop (i+1):=by
   obtain ⟨h',e'⟩:=List.getElem?_eq_some_iff.mp ew0
   rw [← e'];exact List.drop_eq_getElem_cons h'
  rw [ed] at q'
  refine .inr ⟨wk.go i H' G' mm r' hgd' hlt,by rw [tv.length];exact q'.2.1,fun σ2 H2 vs2=>Mono X.K H1 H2∧∃ ω2 G2 ys2,TrSt X.K H2 σ2 ω2∧RelH X.K H2 G2∧TrL X.K H2 vs2 ys2∧Zb3 gd gg gt ge (fun ys G2=>∀ p,G2 p=none→dn X.K H Q (.ref p) (put G2 p (.lst ys))) (ws.drop (i+1)) ω2 G2 ys2,
   (by rintro σ2 H2 vs2 ⟨y1,y2⟩;exact ⟨ws.length - (i+1),by omega,rfl,hlt,y1,y2⟩),fun x H2 y=>?_⟩
  obtain ⟨my,ry,w,ew,tw⟩:=wk.yld i H' G' x H2 mm r' hgd' y hlt
  have mm:=mm.trans my
  have tv:=tv.mono my
  rw [ew0] at ew;cases ew
  refine hgg x _ σ' ω' _ G' _ tw (ts'.mono my) ry (mg _ _ _ _ _ (fun ω1 G1' z1 σ1 H3 m3 ts3 r3=>?_) q'.2.2)
  refine ⟨ω1,G1',ts3,r3,mt _ _ _ _ (fun b G4 z4 H4 m4 r4=>?_) z1⟩
  cases b with
  | true=>exact ⟨ω1,G4,ts3.mono m4,r4,me _ _ _ _ (fun y5 G5 z5 v5 H5 m5 t5 r5=>⟨((mm.trans m3).trans m4).trans m5,ω1,G5,_,(ts3.mono m4).mono m5,r5,(((tv.mono m3).mono m4).mono m5).append (.cons t5 .nil),z5⟩) z4⟩
  | false=>exact ⟨(mm.trans m3).trans m4,ω1,G4,_,ts3.mono m4,r4,(tv.mono m3).mono m4,z4⟩
 ·have e:i=ws.length:=by omega
  subst e
  rw [List.drop_length] at q'
  exact .inl ⟨wk.stop H' G' mm r' hgd',fun p hp=>q'.2 p (r'.no hp) _ _ ((m1.trans mm).trans (Mono.new hp _)) (.ref p) (r'.new hp tv)⟩
structure TgC (X:Cx) (Nc:List Str) (scope:Scope) (cl:List (Str×Addr)) (tg:Expr) (gg:GG):Prop where
 ex:∃ g:TG,(∀ C fp s H,PG (cxB X Nc scope cl C fp s H) tg g)∧∀ (x:V) (w:W) (σ:St) (ω:Sw) (H:Hp) (G:Hw) (Q:St→Hp→Prop),Tr X.K H x w→TrSt X.K H σ ω→RelH X.K H G→gg w ω G (dnS X.K H Q)→g x σ H Q
 mono:gg.M
theorem Zfv {X:Cx} {Nc:List Str} {scope:Scope} {cl:List (Str×Addr)} {x:Str} {p:Pos} {i:Nat} (hN:Nc.Nodup) (hi:Nc[i]?=some x) (hx:scope.names.lookup x=some .local):TgC X Nc scope cl (.Name x p) (gNm i) where
 ex:=⟨Zi8 i,fun C fp s H=>Zex (X:=cxB X Nc scope cl C fp s H) hN hi (.inl (lookup_relabel_local hx)) (.inr (lookup_relabel_local hx)),fun x w σ ω H G Q t ts r q=>q _ H .refl (ts.set i t) r⟩
 mono:=fun _ _ _ _ _ h q=>h _ _ q
def Zib (i j k:Nat):GG:=fun w ω G Q=>match w with
 | .tup [a,b,c]=>Q (((ω.set i (some a)).set j (some b)).set k (some c)) G
 | _=>False
theorem Zuu {i j k:Nat}:GG.M (Zib i j k):=fun w ω G Q Q' h q=>by
 unfold Zib at q ⊢
 split
 ·exact h _ _ q
 ·rename_i z
  split at q
  ·exact (z _ _ _ rfl).elim
  ·exact q
theorem Zum {K:PySem.W.Frag} {i j k:Nat} (v:V) (w:W) (σ:St) (ω:Sw) (H:Hp) (G:Hw) (Q:St→Hp→Prop) (t:Tr K H v w) (ts:TrSt K H σ ω) (r:RelH K H G) (q:Zib i j k w ω G (dnS K H Q)) :
  L2.Zbc K 3 (L2.Zab (Zi8 i) (L2.Zab (Zi8 j) (L2.Zab (Zi8 k) L2.Zal))) v σ H Q:=by
 unfold Zib at q
 split at q
 ·cases t with
  | tup h l =>
   cases l with
   | cons ta l =>
    cases l with
    | cons tb l =>
     cases l with
     | cons tc l =>
      cases l
      exact ⟨_,_,rfl,h,rfl,_,_,rfl,_,_,rfl,_,_,rfl,rfl,q _ H .refl (((ts.set i ta).set j tb).set k tc) r⟩
 ·exact q.elim
section
variable {X:Cx} {P:Hp→Prop} {e:Expr} {pos pos':Pos} {ga ge:GE} {gt:GT}
theorem ZfH {elt tg iter:Expr} {ifs:List Expr} {scope:Scope} {Nc:List Str} {n:Nat} {js:List Nat} {cl:List (Str×Addr)} {gi:GI} {gg:GG} (hc:X.calm=true) (B:Blk X Nc scope cl (Zh1 n js)) (hs:∀ x,foldedSetIterable iter X.env x=pure x) (hi:Im X tg iter gi)
  (hu:TgC X Nc scope cl tg gg) (ht:∀ C fp s H,Fm (cxB X Nc scope cl C fp s H) ifs gt) (he:∀ C fp s H,Em (cxB X Nc scope cl C fp s H) elt ge):Em X (.ListComp elt [⟨tg,iter,ifs,0⟩] scope pos) (Zcs gi n js gg gt ge):=by
 have mt:gt.M:=(ht 0 [] X.s₀ X.H₀).m
 have me:ge.M:=(he 0 [] X.s₀ X.H₀).m
 refine ⟨?_,Zrc hi.m hu.mono mt me⟩
 obtain ⟨wi,hwi,hi⟩:=hi.p
 obtain ⟨g,hpg,hgg⟩:=hu.ex
 exact Zbi (Zpr hc hwi B hpg (fun C fp s H=>(ht C fp s H).p) (fun C fp s H=>(he C fp s H).p) hs) (ZpF hi hgg hu.mono mt me)
def ZnZ (sc:Scope) (x:Str):Bool:=match sc.names.lookup x with | some .cell=>true | _=>false
theorem Zn5 {sc:Scope} {x:Str} (h:ZnZ sc x=true):sc.names.lookup x=some .cell:=by
 unfold ZnZ at h
 split at h
 ·assumption
 ·cases h
theorem Zsq {x:Str} {i:Nat} (hN:X.N.Nodup) (hi:X.N[i]?=some x) (hx:ZnZ X.env.scope x=true) (hf:X.fn x=true) (hs:swapsWith e (some (.Name x pos')) pos.line X.env=pure false) (ha:Em X e ga):Sm X P (.Assign [.Name x pos'] e pos) (Zbd i ga) :=
 ⟨Zru hN hi (.inr (Zn5 hx)) ha.m ha.p hs (.inl hf),Zry ha.m⟩
end
end L3
namespace L3
open PySem PySem.Spec PyProof.Rows L2
theorem ZgT {X:Cx} {x y z:Str} {p p' p2 pos:Pos} {n i j k:Nat} (hc:X.calm=true) (hN:X.N.Nodup) (hi:X.N[i]?=some x) (hx:Loc X.env.scope x) (hf:X.fn x=true∨X.env.scope.names.lookup x=some .local)
  (hj:X.N[j]?=some y) (hy:Loc X.env.scope y) (hfy:X.fn y=true∨X.env.scope.names.lookup y=some .local) (hk:X.N[k]?=some z) (hz:Loc X.env.scope z) (hfz:X.fn z=true∨X.env.scope.names.lookup z=some .local) :
  TgW X (.Tuple [.Name x p,.Name y p',.Name z p2] n pos) (Zib i j k) where
 ex:=⟨_,ZrP hc (ZfQ (Zex hN hi hx hf) (ZfQ (Zex hN hj hy hfy) (ZfQ (Zex hN hk hz hfz) Znv))),Zum⟩
 mono:=Zuu
section
variable {prog:Program} {w:World} {A:Around} {E:Value→Shared→Prop} {s:Shared}
theorem Zqg {t b:Addr} {ws:List Value} {Q:Value→Shared→Prop} (ht:IsTup s.heap t #[]) (hb:IsTup s.heap b ws.toArray) (h1:Q (.ref b) s):wpAny (model prog w) A (binaryOp .Add (.ref t) (.ref b)) Q E s:=by
 obtain ⟨⟨cls,dd,data,sl⟩,ho,hc,n,hd⟩:=id ht
 obtain ⟨⟨cls2,dd2,data2,sl2⟩,ho2,hc2,n2,hd2⟩:=id hb
 simp only at hc hd hc2 hd2
 subst hc hd hc2 hd2
 exact concat_meets ⟨_,ho,rfl⟩ ⟨_,ho2,rfl⟩ noFill_tuple_add seq_tuple_add PySem.F.slot_tuple_add PySem.F.entry_tuple_add (PySem.F.args_tuple_add_2 _ _) (tuple_addW0 t b #[] ws.toArray n n2 dd dd2 sl sl2 rfl) ⟨ho,ho2,h1⟩
end
def Zng (K:PySem.W.Frag):R2:=fun x y H Q=>∃ a b ys,x=.ref a∧y=.ref b∧SqT K H a []∧SqT K H b ys∧Q (.ref b) H
theorem Zq0 {X:Cx}:OpR X (binaryOp .Add) (Zng X.K):=by
 intro pins s σ H x y v u Q I rx ry h
 obtain ⟨a,b,ys,rfl,rfl,ha,hb,q⟩:=h
 cases rx
 cases ry
 obtain ⟨its,r1,p1,_⟩:=I.tuple ha
 obtain ⟨its2,r2,p2,_⟩:=I.tuple hb
 cases r1
 exact Zqg p1 p2 ⟨.ref b,H,I,rfl,q⟩
def ZdF:RW2:=fun x y G Q=>match x,y with
 | .tup xs,.tup ys=>xs.length+ys.length≤sizeLine∧Q (.tup (xs++ys)) G
 | x,y=>ZeX x y G Q
theorem Zcq {xs ys:List W} {G:Hw} {Q:Kw}:ZdF (.tup xs) (.tup ys) G Q=(xs.length+ys.length≤sizeLine∧Q (.tup (xs++ys)) G):=rfl
theorem Zmx {x y:W} {G:Hw} {Q:Kw} (hb:¬((∃ xs,x=.tup xs)∧∃ ys,y=.tup ys)):ZdF x y G Q=ZeX x y G Q:=by
 cases x <;> cases y <;> first | rfl | exact absurd ⟨⟨_,rfl⟩,⟨_,rfl⟩⟩ hb
theorem Zn4:RW2.M ZdF:=fun x y G Q Q' h q=>by
 by_cases hb:(∃ xs,x=.tup xs)∧∃ ys,y=.tup ys
 ·obtain ⟨⟨xs,rfl⟩,⟨ys,rfl⟩⟩:=hb
  exact ⟨q.1,h _ _ q.2⟩
 ·rw [Zmx hb] at q ⊢
  exact Zno _ _ _ _ _ h q
theorem Zsa {X:Cx}:OpR X (binaryOp .Add) (fun x y H Q=>((rI0 fun i j=>.int (i+j)) x y H Q∨(∃ i j,x=.str i∧y=.str j∧i.length+j.length≤sizeLine∧Q (.str (i++j)) H)∨Zus x y H Q)∨Zng X.K x y H Q∨Zr7 X.K x y H Q):=OpR.or Zpj (OpR.or Zq0 Zr1)
theorem Zrf {K:PySem.W.Frag} (x y:W) (v u:V) (G:Hw) (H:Hp) (Q:VK) (tx:Tr K H v x) (ty:Tr K H u y) (r:RelH K H G) (q:ZdF x y G (dn K H Q)) :
  ((rI0 fun i j=>.int (i+j)) v u H Q∨(∃ i j,v=.str i∧u=.str j∧i.length+j.length≤sizeLine∧Q (.str (i++j)) H)∨Zus v u H Q)∨Zng K v u H Q∨Zr7 K v u H Q:=by
 by_cases hb:(∃ xs,x=.tup xs)∧∃ ys,y=.tup ys
 ·obtain ⟨⟨xs,rfl⟩,⟨ys,rfl⟩⟩:=hb
  rw [Zcq] at q
  cases tx with
  | tup sa la =>
   cases ty with
   | tup sb lb =>
    rename_i a vs b us
    cases la with
    | nil=>exact .inr (.inl ⟨a,b,us,rfl,rfl,sa,sb,by simpa using q.2 _ H .refl (.tup sb lb) r⟩)
    | cons t1 la =>
     refine .inr (.inr ⟨a,b,_,us,rfl,rfl,sa,sb,by simp,?_,fun e=>?_,fun e p hp=>?_⟩)
     ·rw [(TrL.cons t1 la).length,lb.length];exact q.1
     ·subst e
      cases lb
      have:=q.2 (.ref a) H .refl (by simpa using Tr.tup sa (.cons t1 la)) r
      exact this
     ·exact q.2 _ _ (Mono.new hp _) (.tup (SqT.of Zbt) (((TrL.cons t1 la).append lb).mono (Mono.new hp _))) (r.mono0 hp)
 ·refine .inl (Zog x y v u G H Q tx ty r ?_)
  rwa [Zmx hb] at q
theorem Zff {X:Cx} {a b:Expr} {ga gb:GE} {pos:Pos} (ha:Em X a ga) (hb:Em X b gb):Em X (.BinOp a .Add b pos) (Zaj ZdF ga gb):=⟨Zg8 Zsa Zn4 ha.m hb.m Zrf ha.p hb.p,Zes Zn4 ha.m hb.m⟩
end L3
namespace L3
open PySem PySem.Spec PyProof.Rows L2
variable {K:PySem.W.Frag} {H H' H2:Hp}
theorem TrP.lookup {α:Type} [BEq α]:∀ {vs:List (α×V)} {ws:List (α×W)} {f:α} {w:W},TrP K H vs ws→ws.lookup f=some w→∃ v,vs.lookup f=some v∧Tr K H v w
 | _,_,_,_,.nil,e=>by cases e
 | _,_,f,w,.cons (f:=g) r t,e=>by
  rw [List.lookup_cons] at e ⊢
  cases hb:f==g with
  | true=>rw [hb] at e;cases e;exact ⟨_,rfl,r⟩
  | false=>rw [hb] at e;exact t.lookup e
theorem TrP.length {α:Type}:∀ {vs:List (α×V)} {ws:List (α×W)},TrP K H vs ws→vs.length=ws.length
 | _,_,.nil=>rfl
 | _,_,.cons _ t=>congrArg (·+1) t.length
section
variable {X:Cx} {P:Hp→Prop} {o e value:Expr} {es:List Expr} {f m:Str} {C:Addr} {pos pos' tpos apos p:Pos} {ga gv:GE} {gs:GA} {ex:Xw}
theorem Mono.ins {p C dx:Addr} {xs:List (Str×V)} (hp:H p=some (.ins C dx xs)) (o:HO):Mono K H (upd H p o):=Mono.was hp _ (fun _ z=>by cases z) (fun _ _ z=>by cases z)
end
end L3
set_option Elab.async false
set_option linter.all false
set_option maxRecDepth 100000
set_option maxHeartbeats 4000000
namespace L3
open PySem PySem.Spec PyProof.Rows L2
variable {K:PySem.W.Frag} {H H' H2:Hp}
section
variable {X:Cx} {P:Hp→Prop} {o e value:Expr} {es:List Expr} {f m:Str} {C:Addr} {pos pos' tpos apos p:Pos} {ga gv:GE} {gs:GA} {ex:Xw}
end
section
variable {P:Program} {w:World} {mg:Str→Option Value} {base:Heap} {C:Addr}
end
def ZrL:GS:=fun _ _ _=>False
theorem ZpB {X:Cx} {P:Hp→Prop} {st:Stmt}:Sm X P st ZrL:=⟨(by rintro B hB pins s σ H D I ⟨ω,G,ts,r,mb,q⟩;exact q.elim),fun ω G D D' _ _ _ _ q=>q⟩
end L3
namespace L3
open PySem PySem.Spec PyProof.Rows L2
variable {K:PySem.W.Frag} {H H' H2:Hp}
def isStr (o:W) (_:Hw):Prop:=∃ x,o=.str x
def ZwY (o:W) (ws:List W) (G:Hw) (Q:Kw):Prop:=match o,ws with
 | .str x,[.str y]=>Q (.bl (Txt.startswith x y)) G
 | .str x,[.str y,.int i]=>Q (.bl (Txt.startswith3 x y i)) G
 | _,_=>False
def ZfA:List W→Option (List Str)
 | []=>some []
 | .str x::ws=>(ZfA ws).map (x::·)
 | _::_=>none
theorem Zkt {s:Shared}:∀ {vs:List V} {ws:List W} {ys:List Str} {us:List Value},TrL K H vs ws→ZfA ws=some ys→Vals vs us→StrsAre us ys
 | _,_,_,_,.nil,e,.nil=>by cases e;exact .nil
 | _,_,_,_,.cons (w:=w) r t,e,.cons rv rvs=>by
  cases w with
  | str x =>
   unfold ZfA at e
   obtain ⟨zs,e1,rfl⟩:=Option.map_eq_some_iff.mp e
   cases r
   obtain ⟨tk,rfl⟩:=rv
   exact .cons x tk (Zkt (s:=s) t e1 rvs)
  | _=>cases e
end L3
namespace HT
open PySem PySem.Spec PyProof.Rows
section
variable {prog:Program} {w:World} {A:Around} {E:Value→Shared→Prop} {s:Shared}
theorem getItem_tuple_whole {t sl:Addr} {items:Array Value} {vl vu:Value} {lo hi:Option Int} {Q:Value→Shared→Prop} (ht:IsTup s.heap t items) (hs:s.heap.IsSliceOf sl vl vu .none) (pl:IsPart vl lo) (pu:IsPart vu hi)
  (hw:sIx items.size 0 lo=0∧sIx items.size items.size hi=items.size) (h:Q (.ref t) s):wpAny (model prog w) A (getItem (.ref t) (.ref sl)) Q E s:=by
 obtain ⟨os,hos,hcs,hds⟩:=id hs
 have hTs:s.TypeIs (.ref sl) "slice":=⟨os,hos,hcs⟩
 unfold getItem
 try with_reducible refine wpAny_holding ?_
 first | refine wpAny_bind (wpAny_pure ?_) | skip
 refine wpAny_bind (wpAny_sequenceKey ht.typeIs (by decide) ?_)
 refine wpAny_bind (wpAny_callSpecial?_slot (name:=Str.ofString "__getitem__") ht.typeIs PyProof.Rows.slot_tuple_getitem
  (wpAny_call_entry PyProof.Rows.slot_tuple_getitem ht.typeIs entry_tuple_getitem ?_ (args_tuple_getitem _ _)))
 show wpAny _ _ (Builtin.Tuple.tupleItemsOf (.ref t) >>= _) _ _ s
 refine wpAny_bind (tupleItemsOf_ ht ?_)
 refine wpAny_bind (wpAny_typeOf hTs ?_)
 rw [if_pos (by decide)]
 refine wpAny_bind (Zef hs pl pu ?_)
 have hyes:(((sIx items.size 0 lo:Nat):Int)==0&&(1:Int)==1&&(sIx items.size items.size hi - sIx items.size 0 lo)==items.size)=true:=by
  rw [hw.1,hw.2]
  simp
 show wpAny _ _ (if (((sIx items.size 0 lo:Nat):Int)==0&&(1:Int)==1&&(sIx items.size items.size hi - sIx items.size 0 lo)==items.size)=true then _ else _) _ _ s
 rw [if_pos hyes]
 have hT:=ht.typeIs
 unfold Builtin.Tuple.tupleIsExact
 repeat (any_goals (first | assumption | wp_step))
 exact ⟨_,rfl,wpAny_pure h⟩
end
end HT
namespace L3
open PySem PySem.Spec PyProof.Rows L2
variable {K:PySem.W.Frag} {H H' H2:Hp}
def Zxp (K:PySem.W.Frag):V→Option Int→Option Int→Hp→VK→Prop:=fun x lo hi H Q=>∃ a xs,x=.ref a∧SqT K H a xs∧(HT.sIx xs.length 0 lo=0∧HT.sIx xs.length xs.length hi=xs.length)∧Q (.ref a) H
theorem Zs1 {X:Cx}:SlR X (Zxp X.K):=by
 intro pins s σ H x v vl vu lo hi sl Q I rx hs pl pu h
 obtain ⟨a,xs,rfl,hx,hw,q⟩:=h
 cases rx
 obtain ⟨its,r,ht,hz⟩:=I.tuple hx
 have hlen:its.toArray.size=xs.length:=by rw [List.size_toArray];exact r.length.symm
 refine ⟨"tuple",_,PyProof.Rows.slot_tuple_getitem.lookup,ht.typeIs,?_⟩
 exact HT.getItem_tuple_whole ht hs pl pu (by rw [hlen];exact hw) ⟨.ref a,H,I,rfl,q⟩
def Zxs:V→Option Int→Option Int→Hp→VK→Prop:=fun x lo hi H Q=>∃ z,x=.str z∧z.length≤sizeLine∧Q (.str (Txt.slice z lo hi)) H
theorem Zvm {X:Cx}:SlR X Zxs:=by
 intro pins s σ H x v vl vu lo hi sl Q I rx hs pl pu h
 obtain ⟨z,rfl,hz,q⟩:=h
 obtain ⟨t,rfl⟩:=rx
 obtain ⟨os,hos,hcs,hds⟩:=id hs
 refine ⟨"str",_,F.slot_str_getitem.lookup,typeIs_str _ _ _,?_⟩
 have fin:∀ t' k,EP X pins σ Q (.str (Txt.slice z lo hi) t') { s with toks:=k }:=fun t' k=>⟨.str _,H,I.tok k,⟨t',rfl⟩,q⟩
 cases pl with
 | none =>
  cases pu with
  | none=>exact wpAny_getItem_str_slice (l:=none) (u:=none) (st:=none) ⟨os,hos,hcs,hds⟩ rfl (post_val_or_str ⟨Nat.le_trans (Txt.slice_le z _ _) hz,fin⟩)
  | int j u=>exact wpAny_getItem_str_slice (l:=none) (u:=some (j,u)) (st:=none) ⟨os,hos,hcs,hds⟩ rfl (post_val_or_str ⟨Nat.le_trans (Txt.slice_le z _ _) hz,fin⟩)
 | int i u =>
  cases pu with
  | none=>exact wpAny_getItem_str_slice (l:=some (i,u)) (u:=none) (st:=none) ⟨os,hos,hcs,hds⟩ rfl (post_val_or_str ⟨Nat.le_trans (Txt.slice_le z _ _) hz,fin⟩)
  | int j u2=>exact wpAny_getItem_str_slice (l:=some (i,u)) (u:=some (j,u2)) (st:=none) ⟨os,hos,hcs,hds⟩ rfl (post_val_or_str ⟨Nat.le_trans (Txt.slice_le z _ _) hz,fin⟩)
def slA (w:W) (lo hi:Option Int) (G:Hw) (Q:Kw):Prop:=match w with
 | .tup xs=>Q (.tup (ZgS xs lo hi)) G
 | .str z=>z.length≤sizeLine∧Q (.str (Txt.slice z lo hi)) G
 | w=>slW w lo hi G Q
theorem ZtO {w:W} {lo hi:Option Int} {G:Hw} {Q Q':Kw} (h:∀ w G',Q w G'→Q' w G') (q:slA w lo hi G Q):slA w lo hi G Q':=by
 cases w with
 | tup xs=>exact h _ _ q
 | str z=>exact ⟨q.1,h _ _ q.2⟩
 | non=>exact False.elim q
 | bl b=>exact False.elim q
 | int i=>exact False.elim q
 | rol xs=>exact Zq6 (w:=.rol xs) (lo:=lo) (hi:=hi) (G:=G) h q
 | ref a=>exact Zq6 (w:=.ref a) (lo:=lo) (hi:=hi) (G:=G) h q
theorem Zu4 {w:W} {v:V} {lo hi:Option Int} {G:Hw} {Q:VK} (t:Tr K H v w) (r:RelH K H G) (q:slA w lo hi G (dn K H Q)):((Zwd K v lo hi H Q∨Zwf K v lo hi H Q)∨Zxp K v lo hi H Q)∨Zxs v lo hi H Q:=by
 cases t with
 | tup h l =>
  rename_i a vs ws
  by_cases hw:HT.sIx ws.length 0 lo=0∧HT.sIx ws.length ws.length hi=ws.length
  ·refine .inl (.inr ⟨a,vs,rfl,h,by rw [l.length];exact hw,?_⟩)
   refine q _ H .refl ?_ r
   have e:ZgS ws lo hi=ws:=by unfold ZgS;rw [hw.1,hw.2];simp
   rw [e]
   exact .tup h l
  ·exact .inl (.inl (Zmq (.tup h l) r ⟨hw,q⟩))
 | str z=>exact .inr ⟨z,rfl,q.1,q.2 _ H .refl (.str _) r⟩
 | non=>exact False.elim q
 | bl b=>exact False.elim q
 | int i=>exact False.elim q
 | rol h l=>exact .inl (.inl (Zmq (.rol h l) r q))
 | ref a=>exact .inl (.inl (Zmq (.ref a) r q))
section
variable {X:Cx} {a b e:Expr} {ga gb:GE} {pos:Pos}
def Zee (ga:GE) (gl gh:GO):GE:=fun ω G Q=>ga ω G fun w G1=>gl ω G1 fun lo G2=>gh ω G2 fun hi G3=>slA w lo hi G3 Q
theorem ZdT {lo hi:Option Expr} {gl gh:GO} {p2:Pos} (ha:Em X e ga) (hl:Om X lo gl) (hh:Om X hi gh):Em X (.Subscript e (.Slice lo hi none p2) pos) (Zee ga gl gh) :=
 ⟨Zbi (Zme (SlR.or (SlR.or (SlR.or Zrw Zps) Zs1) Zvm) ha.p hl.p hh.p) fun σ H Q ⟨ω,G,ts,r,q⟩=>⟨ω,G,ts,r,ha.m _ _ _ _ (fun w G1 z v H1 m1 t r1=>⟨ω,G1,ts.mono m1,r1,hl.m _ _ _ _ (fun l G2 z2 H2 m2 r2 =>
   ⟨ω,G2,(ts.mono m1).mono m2,r2,hh.m _ _ _ _ (fun h G3 z3 H3 m3 r3=>Zu4 ((t.mono m2).mono m3) r3 (ZtO (fun w G' z=>ZcG ((m1.trans m2).trans m3) z) z3)) z2⟩) z⟩) q⟩,
  fun ω G Q Q' h q=>ha.m _ _ _ _ (fun w G1 z=>hl.m _ _ _ _ (fun l G2 z2=>hh.m _ _ _ _ (fun u G3 z3=>ZtO h z3) z2) z) q⟩
end
end L3
namespace L3
open PySem PySem.Spec PyProof.Rows L2
variable {K:PySem.W.Frag} {H H' H2:Hp}
theorem Zf4 (k:Str):∀ {vs:List Value} {ys:List Str},StrsAre vs ys→∀ (j:Nat) (h1:j < vs.length) (y:Str),ys[j]?=some y→isStrOf k vs[j]=(y==k)
 | _,_,.cons n t _,0,_,y,e=>by cases e;rfl
 | _,_,.cons n t r,j+1,h1,y,e=>Zf4 k r j (Nat.lt_of_succ_lt_succ h1) y (by simpa using e)
theorem StrsAre.len:∀ {vs:List Value} {ys:List Str},StrsAre vs ys→vs.length=ys.length
 | _,_,.nil=>rfl
 | _,_,.cons _ _ r=>congrArg (·+1) (StrsAre.len r)
section
variable {prog:Program} {w:World} {A:Around} {E:Value→Shared→Prop} {s:Shared}
theorem ZhO {l:Addr} {vs:List Value} {ys:List Str} {k:Str} {t:Tok} {j:Nat} {Q:Value→Shared→Prop} (hl:s.heap.IsList l vs.toArray) (hi:StrsAre vs ys) (hz:ys.length≤sizeLine)
  (hj:ys[j]?=some k) (hno:∀ m,m < j→ys[m]?≠some k) (h:Q (.int (j:Nat) s.toks) { s with toks:=s.toks+1 }):wpAny (model prog w) A (call (.builtin "list.index") [.ref l,.str k t]) Q E s:=by
 obtain ⟨⟨cls,dd,data,sl⟩,ho,hc,n,hd⟩:=id hl
 simp only at hc hd
 subst hc hd
 have hlen:=StrsAre.len hi
 have hlt:j < ys.length:=(List.getElem?_eq_some_iff.mp hj).1
 have hs:(sizeLine:Nat) < 2 ^ 63 - 1:=by decide
 refine call_meets PySem.F.slot_list_index ⟨_,ho,rfl⟩ PySem.F.entry_list_index (PySem.F.args_list_index_2 _ _)
  (PySem.SeqAt.list_indexAt l vs.toArray n dd sl (.str k t) (isStrOf k) j (by simpa [hlen] using hlt) (by omega) ?_ ?_) ⟨ho,fun y hy=>(eq_isStrOf k t hi y (by simpa using hy)).at _ _,h⟩
 ·show isStrOf k vs[j]=true
  rw [Zf4 k hi _ (by omega) k hj]
  simp
 ·intro m hm hlt2
  have hm':m < vs.length:=by simpa using hm
  show isStrOf k vs[m]=false
  have e:ys[m]?=some ys[m]:=by simp [show m < ys.length by omega]
  rw [Zf4 k hi m hm' _ e]
  have:=hno m hlt2
  rw [e] at this
  simpa using fun q=>this (by rw [q])
end
def Zfy (o:W) (ws:List W) (G:Hw) (Q:Kw):Prop:=∃ xs ys k j,rdL G o=some xs∧ZfA xs=some ys∧ws=[.str k]∧ys[j]?=some k∧(∀ m,m < j→ys[m]?≠some k)∧Q (.int (j:Nat)) G
def Zte (K:PySem.W.Frag):V→List V→Hp→VK→Prop:=fun v vs H Q=>∃ a us ws ys k j,v=.ref a∧SqL K H a us∧TrL K H us ws∧ZfA ws=some ys∧vs=[.str k]∧ys[j]?=some k∧(∀ m,m < j→ys[m]?≠some k)∧Q (.int (j:Nat)) H
theorem ZiA:∀ {ws:List W} {ys:List Str},ZfA ws=some ys→ys.length=ws.length
 | [],_,e=>by cases e;rfl
 | w::ws,ys,e=>by
  cases w with
  | str x =>
   unfold ZfA at e
   obtain ⟨zs,e1,rfl⟩:=Option.map_eq_some_iff.mp e
   exact congrArg (·+1) (ZiA e1)
  | _=>cases e
theorem Zqv {X:Cx}:MtR X "list.index" (Zte X.K):=by
 intro pins s σ H x vs v us Q I rx rv h
 obtain ⟨a,us',ws,ys,k,j,rfl,sq,t,e,rfl,hj,hno,q⟩:=h
 cases rx
 obtain ⟨u,rfl,ru⟩:=rv.one
 obtain ⟨tk,rfl⟩:=ru
 obtain ⟨its,r,pl,hz⟩:=I.list sq
 have hs:=Zkt (s:=s) t e r
 refine ZhO pl.isList hs (by rw [ZiA e,← t.length];exact hz) hj hno ⟨.int _,H,I.tok _,⟨_,rfl⟩,q⟩
theorem Zhm {X:Cx}:Mth X "list" "index" "list.index" ZdB Zfy where
 pa:=PySem.F.plainAttrs_list
 slot:=PySem.F.slot_list_index
 ty:=PySem.F.type_list_index
 ex:=⟨_,Zqv,fun o ws v vs G H Q tv tvs r q=>by
  obtain ⟨xs,ys,k,j,e1,e2,rfl,e3,e4,q⟩:=q
  obtain ⟨a,us,rfl,sq,tl⟩:=Zeu r tv e1
  cases tvs with
  | cons t1 tvs=>cases tvs;cases t1;exact ⟨a,us,xs,ys,k,j,rfl,sq,tl,e2,rfl,e3,e4,q _ H .refl (.int _) r⟩⟩
 pr:=fun o v G H t r h=>Zi1 t r h
 m:=(by rintro o ws G Q Q' h ⟨xs,ys,k,j,h1,h2,h3,h4,h5,q⟩;exact ⟨xs,ys,k,j,h1,h2,h3,h4,h5,h _ _ q⟩)
end L3
set_option Elab.async false
set_option linter.all false
set_option maxRecDepth 100000
set_option maxHeartbeats 4000000
namespace L3
open PySem PySem.Spec PyProof.Rows L2
variable {K:PySem.W.Frag} {H H' H2:Hp}
def ZxD (K:PySem.W.Frag) (tl:TE):TI:=fun σ H R=>tl σ H fun x H1=>(∃ a,x=.ref a∧(∃ xs,SqL K H1 a xs)∧R (Itl K a) H1)∨(∃ a,x=.ref a∧(∃ xs,SqT K H1 a xs)∧R (Itt K a) H1)
theorem Zvj {X:Cx} {tg l:Expr} {tl:TE} (hl:PE X l tl):PI X tg l (ZxD X.K tl):=by
 intro pins s σ H R I h
 refine thn (hl pins s σ H _ I h) fun v s1 zz1=>?_
 obtain ⟨x,H1,I1,r1,q1⟩:=zz1
 rcases q1 with ⟨a,e,⟨xs,hq⟩,q⟩ | ⟨a,e,⟨xs,hq⟩,q⟩
 ·subst e
  cases r1
  obtain ⟨its,rv,p,hz⟩:=I1.list hq
  refine wpAny_pyIter_list p.isList ?_
  refine ⟨s1.heap.objs.size,[s1.heap.objs.size],_,_,H1,rfl,I1.kept (t':=s1.toks) fun b o e=>Heap.get?_push_of_some _ e,ZjM a _,⟨_,Heap.get?_push_size _ rfl,rfl,rfl⟩,fun b hb=>?_,q⟩
  have e:b=s1.heap.objs.size:=by simpa using hb
  subst e
  exact I1.fpOk (Nat.le_refl _) (I1.hok.fresh (Nat.le_refl _))
 ·subst e
  cases r1
  obtain ⟨its,rv,p,hz⟩:=I1.tuple hq
  refine wpAny_pyIter_tuple (show s1.heap.IsTuple a its.toArray from p) ?_
  refine ⟨s1.heap.objs.size,[s1.heap.objs.size],_,_,H1,rfl,I1.kept (t':=s1.toks) fun b o e=>Heap.get?_push_of_some _ e,Ziu a _,⟨_,Heap.get?_push_size _ rfl,rfl,rfl⟩,fun b hb=>?_,q⟩
  have e:b=s1.heap.objs.size:=by simpa using hb
  subst e
  exact I1.fpOk (Nat.le_refl _) (I1.hok.fresh (Nat.le_refl _))
def Ze2 (ga:GE):GI:=fun ω G R=>ga ω G fun w G1=>match w with
 | .tup ws=>R ws yes G1
 | .rol ws=>R ws yes G1
 | .ref a=>match G1 a with | some (.lst ws)=>R ws (holds a ws) G1 | _=>False
 | _=>False
theorem ZqI {ga:GE} (m:ga.M):GI.M (Ze2 ga):=fun ω G R R' h q=>m _ _ _ _ (fun w G1 z=>by
 cases w with
 | tup ws=>exact h _ _ _ z
 | rol ws=>exact h _ _ _ z
 | ref a =>
  dsimp only at z ⊢
  cases e:G1 a with
  | none=>rw [e] at z;exact z
  | some o =>
   rw [e] at z
   cases o <;> first | exact h _ _ _ z | exact z
 | _=>exact z) q
theorem Zrj {X:Cx} {tg l:Expr} {ga:GE} (hl:Em X l ga):Im X tg l (Ze2 ga):=by
 refine ⟨⟨_,Zvj hl.p,fun σ H ω G R R0 ts r q k=>⟨ω,G,ts,r,hl.m _ _ _ _ (fun w G1 z v H1 m t r1=>?_) q⟩⟩,ZqI hl.m⟩
 cases t with
 | tup h l=>exact .inr ⟨_,rfl,⟨_,h⟩,k _ _ _ H1 _ z m r1 trivial (ZlU h l)⟩
 | rol h l=>exact .inl ⟨_,rfl,⟨_,h.sq⟩,k _ _ _ H1 _ z m r1 trivial (ZgK fun H2 G2 m2 _ _=>⟨_,(m2.rol _ _ h).sq,l.mono m2⟩)⟩
 | ref a =>
  dsimp only at z
  cases e:G1 a with
  | none=>rw [e] at z;exact z.elim
  | some o =>
   rw [e] at z
   cases o with
   | lst ws =>
    obtain ⟨vs,e1,t1⟩:=r1 a _ e
    exact .inl ⟨a,rfl,⟨vs,SqL.of e1⟩,k _ _ _ H1 _ z m r1 e (ZgK fun H2 G2 m2 r2 g2=>let ⟨vs,e2,t2⟩:=r2 a _ g2;⟨vs,SqL.of e2,t2⟩)⟩
   | _=>exact z.elim
 | _=>exact z.elim
end L3
namespace L3
open PySem PySem.Spec PyProof.Rows L2
variable {K:PySem.W.Frag} {H H' H2:Hp}
section
variable {X:Cx} {CX:CXT} {k:Nat} {f:Addr} {fd:FuncData} {ps:List Str} {sp:Sp} {Eσ:St→XK} {x:Str} {p pos:Pos} {e:Expr} {es:List Expr} {t:TA}
theorem Zuw {E:Value→Shared→Prop} {pins:List (Addr×Obj)} {s:Shared} {σ:St} {H:Hp} {i:Nat} {x:Str} {v:V} {pos:Pos} {Q:Value→Shared→Prop} (I:Inv X pins σ H s) (hN:X.N[i]?=some x) (hv:Vis X.env.scope x) (e:σ[i]?=some (some v)) (hd:(x==("__debug__":Str))=false) (hcd:(x==("__classdict__":Str))=false)
  (fin:∀ u,RelV v u→Q u s):wpAny (model X.prog X.w) X.A (eval (.Name x pos) X.env) Q E s:=by
 obtain ⟨m,hn,hl⟩:=I.loc
 obtain ⟨u,r,l⟩:=hl i x v hN e hv
 rcases l with ⟨hk,hm⟩ | ⟨hk,c,hc,hcell⟩
 ·exact wpAny_Name (wpAny_loadName_local I.ok.kind hk hn hm (fin u r)) hd
 ·rcases hk with hk | hk
  ·exact wpAny_Name (wpAny_loadName_cell I.ok.kind hk hc hcell (fin u r)) hd
  ·exact wpAny_Name (wpAny_loadName_free I.ok.kind hk hc hcell (fin u r) hcd) hd
theorem ZpX {i:Nat} (F:FnOk X.prog X.w X.K X.mg X.base CX k f fd ps sp) (hr:Room k X.A) (hN:X.N[i]?=some x) (hv:Vis X.env.scope x) (hk:PySem.W.keepIn X.K (.ref f)=true) (hb:Binds X.K fd ps []) (hx:Zln CX X Eσ)
  (ha:PA X (e::es) t) (hdb:(x==("__debug__":Str))=false) (hcd:(x==("__classdict__":Str))=false) (he:starEach (e::es) X.env=(false,eval e X.env)::starEach es X.env) (hpl:(backTo pos (starEach es X.env)).any (·.1)=false) :
  PE X (.Call (.Name x p) (e::es) [] pos) (fun σ H Q=>σ[i]?=some (some (.ref f))∧ZrH sp [] Eσ t σ H Q):=by
 intro pins s σ H Q I ⟨hi,h⟩
 refine wpAny_Call_Name_kw (Zuw I hN hv hi hdb hcd fun u hu=>?_)
 cases hu
 refine PySem.W.callWith_K (h₀:=X.base) I.ok.mod.kin hk (thn (ha pos pins s σ H _ I h) fun us s1 ⟨vs,H1,I1,r,q⟩=>⟨I1.kIn,?_⟩) he hpl
 have r2:Vals (vs++[]) (us++[]):=r.append .nil
 have hl:(us++[]).length=ps.length:=by rw [← r2.length];exact F.len _ _ _ _ q
 refine wpAny_call (codeAny_mono (F.run X.A X.stack s1 H1 ⟨us,[]⟩ (us++[]) (vs++[]) Q (Eσ σ) hr I1.env0 (hb s1 us I1.kIn hl) r2 q) fun r s' hq=>?_)
 cases r with
 | error e=>exact hx pins σ H1 s1 e s' I1 hq
 | ok fl =>
  cases fl with
  | ret u=>exact I1.after hq
  | next=>exact False.elim hq
  | brk=>exact False.elim hq
  | cont=>exact False.elim hq
end
def fAt (mg:Str→Option Value) (x:Str):Addr:=match mg x with | some (.ref f)=>f | _=>0
theorem ZrB {mg:Str→Option Value} {x:Str} {f:Addr} (h:mg x=some (.ref f)):fAt mg x=f:=by unfold fAt;rw [h]
section
variable {X:Cx} {e:Expr} {es:List Expr} {pos p:Pos} {ga gb:GE} {gs:GA} {ex:Xw}
def ZgF (i:Nat) (f:Addr) (sp:Spw) (ex:Xw) (gs:GA):GE:=fun ω G Q=>ω[i]?=some (some (.ref f))∧gs ω G fun ws G1=>sp ws G1 Q (ex ω)
theorem Zqx {i:Nat} {f:Addr} {sp:Spw} (m:sp.M) (ms:gs.M):GE.M (ZgF i f sp ex gs):=fun ω G Q Q' h q=>⟨q.1,ms _ _ _ _ (fun ws G1 q1=>m _ _ _ _ _ _ h (fun _ _ z=>z) q1) q.2⟩
theorem ZpH {i:Nat} {x y:Str} {k n:Nat} {sp:Spw} (D:Df X.prog X.w X.K X.mg X.base y k n sp) (hr:Room k X.A) (hN:X.N[i]?=some x) (hv:Vis X.env.scope x) (hp:Zpe X ex) (ms:gs.M) (ha:PAw X (e::es) gs)
  (hdb:(x==("__debug__":Str))=false) (hcd:(x==("__classdict__":Str))=false) (he:starEach (e::es) X.env=(false,eval e X.env)::starEach es X.env) (hpl:(backTo pos (starEach es X.env)).any (·.1)=false) :
  PEw X (.Call (.Name x p) (e::es) [] pos) (ZgF i (fAt X.mg y) sp ex gs):=by
 obtain ⟨f,fd,ps,hm,hk,hb,_,F⟩:=D.ex
 rw [ZrB hm]
 refine Zbi (ZpX F hr hN hv hk hb hp ha hdb hcd he hpl) fun σ H Q zz1=>?_
 obtain ⟨ω,G,ts,r,q0,q⟩:=zz1
 obtain ⟨v,ev,tv⟩:=ts.get i _ q0
 cases tv
 refine ⟨ev,ω,G,ts,r,ms _ _ _ _ (fun ws G1 q1 vs H1 m1 tvs r1=>?_) q⟩
 refine ⟨ws,G1,by rw [List.append_nil];exact tvs,r1,D.mono _ _ _ _ _ _ (fun w G' z=>ZcG m1 z) (fun C G' z H2 m2 r2=>?_) q1⟩
 exact ⟨C,ω,G',rfl,(ts.mono m1).mono m2,r2,z⟩
theorem Zlz {i:Nat} {x y:Str} {k n:Nat} {sp:Spw} (D:Df X.prog X.w X.K X.mg X.base y k n sp) (hr:Room k X.A) (hi:place X.N x=some i) (hv:Zv9 X.env.scope x=true) (hp:Zpe X ex) (hdb:(x==("__debug__":Str))=false) (hcd:(x==("__classdict__":Str))=false) (he:starEach (e::es) X.env=(false,eval e X.env)::starEach es X.env) (hpl:(backTo pos (starEach es X.env)).any (·.1)=false)
  (ha:Am X (e::es) gs):Em X (.Call (.Name x p) (e::es) [] pos) (ZgF i (fAt X.mg y) sp ex gs):=⟨ZpH D hr (ZpQ hi) (ZlD hv) hp ha.m ha.p hdb hcd he hpl,Zqx D.mono ha.m⟩
theorem ZtZ {x:Str} {k n:Nat} {sp:Spw} (D:Df X.prog X.w X.K X.mg X.base x k n sp) (hg:Gl X x) (hd:(x==("__debug__":Str))=false):Em X (.Name x pos) (gC (.ref (fAt X.mg x))):=by
 obtain ⟨f,fd,ps,hm,hk,hb,_,F⟩:=D.ex
 rw [ZrB hm]
 exact ⟨Zpa (v:=.ref f) hg hm rfl (fun H=>.ref f) hd,ZtK⟩
end
end L3
namespace L3
open PySem PySem.Spec PyProof.Rows L2
namespace Tb
def hop (M:Nat):Nat→Nat→Nat
 | 0,i=>i
 | n+1,i=>hop M n ((i*5+1) % M)
def cover (M:Nat):Bool:=(List.range M).all fun i=>(List.range M).all fun j=>(List.range M).any fun n=>hop M n i==j
theorem cover8:cover 8=true:=by decide +kernel
theorem cover16:cover 16=true:=by decide +kernel
theorem cover32:cover 32=true:=by decide +kernel
theorem cover64:cover 64=true:=by decide +kernel
theorem Zqd {M i j:Nat} (h:cover M=true) (hi:i < M) (hj:j < M):∃ n,n < M∧hop M n i=j:=by
 unfold cover at h
 have h1:=List.all_eq_true.mp h i (List.mem_range.mpr hi)
 have h2:=List.all_eq_true.mp h1 j (List.mem_range.mpr hj)
 obtain ⟨n,hn,e⟩:=List.any_eq_true.mp h2
 exact ⟨n,List.mem_range.mp hn,by simpa using e⟩
theorem Zj7 {mask:Nat} {owner:Array (Option Nat)} {fuel i p:Nat} (h:SetTable.layClean.free mask owner (fuel+1) i p=none) :
  (owner.getD i (some 0)).isSome=true∧SetTable.layClean.free mask owner fuel ((i*5+1+p / 32) % (mask+1)) (p / 32)=none:=by
 unfold SetTable.layClean.free at h
 have hr:0 < SetTable.runEnd mask i+1 - i:=by unfold SetTable.runEnd;split <;> omega
 cases hf:(List.range (SetTable.runEnd mask i+1 - i)).find? fun k=>(owner.getD (i+k) (some 0)).isNone with
 | some k=>rw [hf] at h;cases h
 | none =>
  rw [hf] at h
  refine ⟨?_,h⟩
  have hz:=List.find?_eq_none.mp hf 0 (List.mem_range.mpr hr)
  rw [Nat.add_zero] at hz
  cases hg:owner.getD i (some 0) with
  | some b=>rfl
  | none=>rw [hg] at hz;exact absurd rfl hz
theorem ZkJ {mask:Nat} {owner:Array (Option Nat)}:∀ (n fuel i:Nat),SetTable.layClean.free mask owner (n+fuel) i 0=none→∀ m,m < n→(owner.getD (hop (mask+1) m i) (some 0)).isSome=true
 | 0,fuel,i,h,m,hm=>by omega
 | n+1,fuel,i,h,m,hm=>by
  rw [show n+1+fuel=(n+fuel)+1 by omega] at h
  obtain ⟨h1,h2⟩:=Zj7 h
  simp only [Nat.zero_div,Nat.add_zero] at h2
  cases m with
  | zero=>exact h1
  | succ m=>exact ZkJ n fuel _ h2 m (by omega)
theorem ZjJ {mask:Nat} {owner:Array (Option Nat)}:∀ (n fuel i p:Nat),SetTable.layClean.free mask owner (n+fuel) i p=none→i < mask+1→∃ i',i' < mask+1∧SetTable.layClean.free mask owner fuel i' (p / 32 ^ n)=none
 | 0,fuel,i,p,h,hi=>⟨i,hi,by rw [Nat.zero_add] at h;simpa using h⟩
 | n+1,fuel,i,p,h,hi=>by
  rw [show n+1+fuel=(n+fuel)+1 by omega] at h
  obtain ⟨_,h2⟩:=Zj7 h
  obtain ⟨i',hi',h3⟩:=ZjJ n fuel _ _ h2 (Nat.mod_lt _ (by omega))
  refine ⟨i',hi',?_⟩
  rw [Nat.div_div_eq_div_mul,show 32*32 ^ n=32 ^ (n+1) by rw [Nat.pow_succ,Nat.mul_comm]] at h3
  exact h3
theorem Ztz {mask:Nat} {owner:Array (Option Nat)} {i p:Nat} (hc:cover (mask+1)=true) (hi:i < mask+1) (hp:p < 2 ^ 64) (he:∃ j,j < mask+1∧owner.getD j (some 0)=none):(SetTable.layClean.free mask owner (SetTable.turns mask) i p).isSome=true:=by
 cases h:SetTable.layClean.free mask owner (SetTable.turns mask) i p with
 | some j=>rfl
 | none =>
  exfalso
  rw [show SetTable.turns mask=13+((mask+1)+1) by unfold SetTable.turns;omega] at h
  obtain ⟨i',hi',h2⟩:=ZjJ 13 _ i p h hi
  rw [Nat.div_eq_of_lt (Nat.lt_of_lt_of_le hp (by decide))] at h2
  have h3:=ZkJ (mask+1) 1 i' h2
  obtain ⟨j,hj,e⟩:=he
  obtain ⟨n,hn,en⟩:=Zqd hc hi' hj
  have:=h3 n hn
  rw [en,e] at this
  cases this
theorem ZoR {mask:Nat} {owner:Array (Option Nat)} (hs:owner.size=mask+1):∀ (fuel i p j:Nat),SetTable.layClean.free mask owner fuel i p=some j→i < mask+1→j < mask+1∧owner.getD j (some 0)=none
 | 0,i,p,j,h,hi=>by unfold SetTable.layClean.free at h;cases h
 | fuel+1,i,p,j,h,hi=>by
  unfold SetTable.layClean.free at h
  cases hf:(List.range (SetTable.runEnd mask i+1 - i)).find? fun k=>(owner.getD (i+k) (some 0)).isNone with
  | none =>
   rw [hf] at h
   exact ZoR hs fuel _ _ j h (Nat.mod_lt _ (by omega))
  | some k =>
   rw [hf] at h
   cases h
   have h1:=List.find?_some hf
   have h2:owner.getD (i+k) (some 0)=none:=by simpa using h1
   refine ⟨?_,h2⟩
   refine Nat.lt_of_not_le fun hge=>?_
   rw [Array.getD_eq_getD_getElem?,Array.getElem?_eq_none (by omega)] at h2
   cases h2
theorem Zjb {α:Type} (x:α):∀ {l:List (Option α)} {j:Nat},l[j]?=some none→((l.set j (some x)).filterMap id).Perm (x::l.filterMap id)
 | [],j,h=>by simp at h
 | a::l,0,h=>by
  simp only [List.getElem?_cons_zero,Option.some.injEq] at h
  subst h
  exact List.Perm.refl _
 | a::l,j+1,h=>by
  simp only [List.getElem?_cons_succ] at h
  rw [List.set_cons_succ]
  cases a with
  | none=>exact Zjb x h
  | some b =>
   show (b::(l.set j (some x)).filterMap id).Perm (x::b::l.filterMap id)
   exact ((Zjb x h).cons b).trans (List.Perm.swap x b _)
theorem Zkg:∀ {l:List (Option Nat)},(l.filterMap id).length < l.length→∃ j,j < l.length∧l[j]?=some none
 | [],h=>by simp at h
 | none::l,h=>⟨0,by simp,rfl⟩
 | some a::l,h=>by
  have h':(l.filterMap id).length+1 < l.length+1:=h
  obtain ⟨j,hj,e⟩:=Zkg (l:=l) (by omega)
  exact ⟨j+1,by simp;omega,by simpa using e⟩
structure Lay (M k:Nat) (owner:Array (Option Nat)):Prop where
 sz:owner.size=M
 pm:(owner.toList.filterMap id).Perm (List.range k)
theorem Zqf {mask k:Nat} {owner:Array (Option Nat)} (hc:cover (mask+1)=true) (L:Lay (mask+1) k owner) (hk:k < mask+1) (h:Int) :
  ∃ j,SetTable.layClean.free mask owner (SetTable.turns mask) (SetTable.bits h % (mask+1)) (SetTable.bits h)=some j∧Lay (mask+1) (k+1) (owner.setIfInBounds j (some k)):=by
 have hb:SetTable.bits h < 2 ^ 64:=by
  unfold SetTable.bits
  have:=Int.emod_lt_of_pos h (show (0:Int) < 2 ^ 64 by decide)
  have:=Int.emod_nonneg h (show (2 ^ 64:Int)≠0 by decide)
  omega
 have hl:(owner.toList.filterMap id).length=k:=by rw [L.pm.length_eq,List.length_range]
 obtain ⟨j,hj,e⟩:=Zkg (l:=owner.toList) (by rw [hl,Array.length_toList,L.sz];exact hk)
 have hj':j < mask+1:=by rw [Array.length_toList,L.sz] at hj;exact hj
 have hi:SetTable.bits h % (mask+1) < mask+1:=Nat.mod_lt _ (by omega)
 have hs:=Ztz (owner:=owner) (i:=SetTable.bits h % (mask+1)) hc hi hb ⟨j,hj',by
  rw [Array.getD_eq_getD_getElem?]
  rw [Array.getElem?_toList] at e
  rw [e];rfl⟩
 obtain ⟨j2,e2⟩:=Option.isSome_iff_exists.mp hs
 obtain ⟨h1,h2⟩:=ZoR L.sz _ _ _ _ e2 hi
 refine ⟨j2,e2,⟨by rw [Array.size_setIfInBounds];exact L.sz,?_⟩⟩
 have h3:owner.toList[j2]?=some none:=by
  rw [Array.getElem?_toList]
  rw [Array.getD_eq_getD_getElem?] at h2
  have h4:j2 < owner.size:=by rw [L.sz];exact h1
  rw [Array.getElem?_eq_getElem h4] at h2 ⊢
  exact congrArg some h2
 rw [Array.toList_setIfInBounds]
 refine (Zjb k h3).trans ?_
 rw [List.range_succ]
 exact ((L.pm.cons k).trans (List.perm_append_singleton k _).symm)
theorem Znm {mask:Nat} (hc:cover (mask+1)=true):∀ (hs:List Int) (k:Nat) (owner:Array (Option Nat)),Lay (mask+1) k owner→k+hs.length≤mask+1 →
  ∃ o',(hs.foldl (fun (acc:Option (Array (Option Nat)×Nat)) h=>do
   let (owner,k) ← acc
   let j ← SetTable.layClean.free mask owner (SetTable.turns mask) (SetTable.bits h % (mask+1)) (SetTable.bits h)
   pure (owner.setIfInBounds j (some k),k+1)) (some (owner,k)))=some (o',k+hs.length)∧Lay (mask+1) (k+hs.length) o'
 | [],k,owner,L,_=>⟨owner,rfl,L⟩
 | h::hs,k,owner,L,hk=>by
  simp only [List.length_cons] at hk
  obtain ⟨j,e,L2⟩:=Zqf hc L (by omega) h
  obtain ⟨o',e2,L3'⟩:=Znm hc hs (k+1) _ L2 (by omega)
  refine ⟨o',?_,by rw [List.length_cons,show k+(hs.length+1)=k+1+hs.length by omega];exact L3'⟩
  rw [List.foldl_cons]
  show hs.foldl _ (some (owner,k) >>= fun x=>_)=_
  rw [Option.bind_eq_bind,Option.bind_some]
  dsimp only
  rw [e]
  rw [Option.bind_eq_bind,Option.bind_some]
  rw [List.length_cons,show k+(hs.length+1)=k+1+hs.length by omega]
  exact e2
theorem Zsd (M:Nat):Lay M 0 (Array.replicate M none):=⟨by simp,by simp⟩
theorem ZqQ {mask:Nat} (hc:cover (mask+1)=true) (hs:Array Int) (hn:hs.size≤mask+1):∃ o',SetTable.layClean mask hs=some o'∧Lay (mask+1) hs.size o':=by
 obtain ⟨o',e,L⟩:=Znm hc hs.toList 0 _ (Zsd (mask+1)) (by simpa using hn)
 refine ⟨o',?_,by simpa using L⟩
 unfold SetTable.layClean
 rw [← Array.foldl_toList]
 rw [e];rfl
theorem ZlJ {M:Nat} {owner:Array (Option Nat)} (h:owner.size=M):(((List.range M).filterMap fun j=>(owner.getD j none).map (j,·)).map (·.2))=owner.toList.filterMap id:=by
 have e:owner.toList=(List.range M).map fun j=>owner.getD j none:=by
  apply List.ext_getElem?
  intro i
  rw [List.getElem?_map,Array.getElem?_toList]
  by_cases hi:i < M
  ·have h2:i < owner.size:=by omega
   rw [List.getElem?_range hi,Array.getElem?_eq_getElem h2,Option.map_some,Array.getD_eq_getD_getElem?,Array.getElem?_eq_getElem h2];rfl
  ·rw [Array.getElem?_eq_none (by omega),List.getElem?_eq_none (by simp;omega)];rfl
 rw [e,List.filterMap_map,List.map_filterMap]
 congr 1
 funext j
 show Option.map (·.2) (Option.map (j,·) (owner.getD j none))=owner.getD j none
 cases owner.getD j none <;> rfl
theorem ZqD {M:Nat} {owner:Array (Option Nat)} (h:owner.size=M):((List.range M).filterMap fun j=>(owner.getD j none).map (j,·)).length=(owner.toList.filterMap id).length:=by
 rw [← ZlJ h,List.length_map]
theorem laid_ok {mask:Nat} (hc:cover (mask+1)=true) (f m:Nat) (l p:Bool) (hs:Array Int) (hn:hs.size≤mask+1) :
  ∃ t order,SetTable.laid mask f m l p hs=some (t,order)∧order.toList.Perm (List.range hs.size)∧t.mask=mask∧t.place.size=hs.size∧t.dummies=#[]∧t.led=l∧t.plain=p:=by
 obtain ⟨o',e,L⟩:=ZqQ hc hs hn
 unfold SetTable.laid
 rw [e]
 refine ⟨_,_,rfl,?_,rfl,?_,rfl,rfl,rfl⟩
 ·rw [List.toList_toArray,ZlJ L.sz];exact L.pm
 ·rw [List.size_toArray,List.length_map,ZqD L.sz,L.pm.length_eq,List.length_range]
theorem order_perm {α:Type} (es:Array α) (order:Array Nat) (h:order.toList.Perm (List.range es.size)):(order.filterMap (es[·]?)).toList.Perm es.toList:=by
 rw [Array.toList_filterMap]
 refine (h.filterMap _).trans ?_
 rw [show (List.range es.size).filterMap (fun x=>es[x]?)=es.toList from ?_]
 have:∀ (l:List α),(List.range l.length).filterMap (fun x=>l[x]?)=l:=fun l=>by
  induction l with
  | nil=>rfl
  | cons a l ih =>
   rw [List.length_cons,List.range_succ_eq_map,List.filterMap_cons]
   simp only [List.getElem?_cons_zero,List.filterMap_map]
   congr 1
 have h2:=this es.toList
 rw [Array.length_toList] at h2
 simpa only [Array.getElem?_toList] using h2
end Tb
end L3
namespace L3
open PySem PySem.Spec PyProof.Rows L2
def bt (w:World):Bool:=w.params.followText "set-order"
structure Tab (w:World) (es:Array (Int×Value)) (t:SetTable) (ks:List Str):Prop where
 el:∀ e∈es.toList,∃ x u,e=(hashStr w x,Value.str x u)
 pm:(es.toList.map fun e=>strOf e.2).Perm ks
 nd:ks.Nodup
 ft:t.fits es.size=true
 ld:bt w=false→t.led=true
 pl:t.plain=true→ks=[]
def SS (w:World) (h:Heap) (a:Addr) (ks:List Str):Prop:=∃ o es ep t,h.get? a=some o∧o.ExactSet∧o.data=.set es ep t∧Tab w es t ks
namespace Tab
variable {w:World} {es es':Array (Int×Value)} {t t':SetTable} {ks ks':List Str}
theorem len (T:Tab w es t ks):es.size=ks.length:=by
 have:=T.pm.length_eq
 rw [List.length_map,Array.length_toList] at this
 exact this
theorem elems (prog:Program) (T:Tab w es t ks):ElemsOf (strKind prog w) es.toList:=fun e he=>by
 obtain ⟨x,u,rfl⟩:=T.el e he
 exact ⟨⟨x,by show Value.isStrOf x (.str x u)=true;simp [Value.isStrOf],rfl⟩,rfl⟩
theorem perm (T:Tab w es t ks) (p:es'.toList.Perm es.toList) (f:t'.fits es'.size=true) (l:bt w=false→t'.led=true) (q:t'.plain=true→ks=[]):Tab w es' t' ks :=
 ⟨fun e he=>T.el e (p.mem_iff.mp he),(p.map _).trans T.pm,T.nd,f,l,q⟩
theorem mem (T:Tab w es t ks) (k:Str):k∈ks↔∃ e∈es.toList,Value.isStrOf k e.2=true:=by
 rw [← T.pm.mem_iff,List.mem_map]
 constructor
 ·rintro ⟨e,he,rfl⟩
  obtain ⟨x,u,rfl⟩:=T.el e he
  exact ⟨_,he,by show Value.isStrOf x (.str x u)=true;simp [Value.isStrOf]⟩
 ·rintro ⟨e,he,h⟩
  obtain ⟨x,u,rfl⟩:=T.el e he
  refine ⟨_,he,?_⟩
  obtain ⟨t,e2⟩:=Value.isStrOf_shape h
  injection e2
end Tab
theorem ZkX (t:SetTable) (n:Nat):(t.orStandIn n).led=t.led:=by
 unfold SetTable.orStandIn
 split <;> rfl
theorem ZsA (t:SetTable) (es:Array (Int×Value)) (h:Int) (x:Value):(layNew t es h x).2.1.led=t.led:=by
 unfold layNew
 split
 ·exact ZkX _ _
 ·rfl
theorem ZoI (t:SetTable) (es:Array (Int×Value)) (n:Nat):(relayAll t es n).2.1.led=t.led∧((relayAll t es n).2.1.plain=true→t.plain=true):=by
 unfold relayAll
 split
 ·rename_i t' order e
  dsimp only
  split
  ·unfold SetTable.relaid SetTable.laid at e
   simp only [Option.bind_eq_bind,Option.bind_eq_some_iff] at e
   obtain ⟨o,_,e⟩:=e
   cases e
   exact ⟨rfl,id⟩
  ·exact ⟨rfl,fun h=>by cases h⟩
 ·exact ⟨rfl,fun h=>by cases h⟩
section
variable {prog:Program} {w:World} {A:Around} {E:Value→Shared→Prop} {s:Shared}
theorem ZeI {h:Heap} {a:Addr} {o:Obj} {es es':Array (Int×Value)} {ep:Nat} {t t':SetTable} {ks:List Str} (ho:h.get? a=some o) (hx:o.ExactSet) (hd:o.data=.set es ep t) (T:Tab w es' t' ks) :
  (h.update a (Obj.putSet es' t')).get? a=some { o with data:=.set es' (ep+1) t' }∧SS w (h.update a (Obj.putSet es' t')) a ks:=by
 have hg:(h.update a (Obj.putSet es' t')).get? a=some { o with data:=.set es' (ep+1) t' }:=by
  have hz:=Heap.get?_update_self (Obj.putSet es' t') ho (by rw [putSet_of es' t' hd];rfl)
  rw [putSet_of es' t' hd] at hz
  exact hz
 exact ⟨hg,_,es',ep+1,t',hg,hx,rfl,T⟩
theorem Zs2 {es es1:Array (Int×Value)} {t t1:SetTable} {ks:List Str} {k:Str} {u:Tok} (T:Tab w es t ks) (hk:k∉ks) (p:es1.toList.Perm (es.toList++[(hashStr w k,Value.str k u)])) (f:t1.fits es1.size=true) (l:t1.led=t.led) (q:t1.plain=false):Tab w es1 t1 (k::ks):=by
 refine ⟨fun e he=>?_,?_,List.nodup_cons.mpr ⟨hk,T.nd⟩,f,fun h=>by rw [l];exact T.ld h,fun h=>by rw [q] at h;cases h⟩
 ·rcases List.mem_append.mp (p.mem_iff.mp he) with he | he
  ·exact T.el e he
  ·exact ⟨k,u,List.mem_singleton.mp he⟩
 ·refine (p.map _).trans ?_
  rw [List.map_append]
  exact (List.perm_append_singleton k _).trans (T.pm.cons k)
theorem ZrW {a:Addr} {ks:List Str} {k:Str} {u:Tok} {Q:Bool→Shared→Prop} (hS:SS w s.heap a ks) (hn:ks.length+1 < scanBound)
  (h:∀ h' b,Heap.SameBut a s.heap h'→SS w h' a (if k∈ks then ks else k::ks)→Q b { s with heap:=h' }):wpAny (model prog w) A (setAddHashed a (.str k u) (hashStr w k)) Q E s:=by
 obtain ⟨o,es,ep,t,ho,hx,hd,T⟩:=hS
 have hel:=T.elems prog
 have hkey:(strKind prog w).is k (.str k u)=true:=by show Value.isStrOf k (.str k u)=true;simp [Value.isStrOf]
 have hsc:(Value.str k u).scannable=true:=rfl
 have hsz:=T.len
 have hb:es.size < scanBound:=by omega
 unfold setAddHashed setAddHashedIn
 refine wpAny_holding (wpAny_bind (wpAny_setState_of ho hd T.ft ?_))
 dsimp only
 rw [byScan_of hsc hb hel,if_pos rfl]
 refine wpAny_bind ?_
 unfold setAddByScan
 refine wpAny_bind (wpAny_rule ?_)
 refine wpAny_bind (wpAny_setScan_of (knd:=strKind prog w) hkey ho hd T.ft hel ?_)
 have hgave:∀ (b:Bool) {s₁:Shared} {Q':Unit→Shared→Prop},Q' () s₁→wpAny (model prog w) A (match b with | true=>rule "set.scan.the-table-gave-way" | false=>pure ()) Q' E s₁:=fun b s₁ Q' z=>by
  cases b
  ·exact wpAny_pure z
  ·exact wpAny_rule z
 cases hr:List.findIdx? (fun e=>(strKind prog w).is k e.2) es.toList with
 | some j =>
  obtain ⟨hj,hpj,_⟩:=List.findIdx?_eq_some_iff_getElem.mp hr
  have hin:k∈ks:=(T.mem k).mpr ⟨_,List.getElem_mem hj,hpj⟩
  have hz:=h s.heap false (Heap.SameBut.refl a s.heap) (by rw [if_pos hin];exact ⟨o,es,ep,t,ho,hx,hd,T⟩)
  exact wpAny_pure (wpAny_pure hz)
 | none =>
  have hout:k∉ks:=fun hin=>by
   obtain ⟨e,he,hp⟩:=(T.mem k).mp hin
   have hz:=List.findIdx?_eq_none_iff.mp hr e he
   exact Bool.noConfusion (hz.symm.trans hp)
  have hperm:=layNew_perm t es (hashStr w k) (.str k u)
  have hfits:=layNew_fits t es (hashStr w k) (.str k u)
  have hled:=ZsA t es (hashStr w k) (.str k u)
  rw [if_neg hout] at h
  dsimp only
  show wpAny (model prog w) A _ _ E s
  have hhash:(strKind prog w).hash k=hashStr w k:=rfl
  revert hperm hfits hled
  generalize layNew t es (hashStr w k) (.str k u)=L
  obtain ⟨es1,t1,dm,gv⟩:=L
  intro hperm hfits hled
  dsimp only at hperm hfits hled ⊢
  rw [Array.toList_push] at hperm
  refine wpAny_bind (hgave _ ?_)
  have hz1:es1.size=es.size+1:=by rw [← Array.length_toList,hperm.length_eq,List.length_append,Array.length_toList];rfl
  have fin:∀ t2:SetTable,t2.fits es1.size=true→t2.led=t.led→t2.plain=false→wpAny (model prog w) A (do
    storeSet a es1 t2
    if (!dm&&t2.tooFull)=true then do
      (match (relayAll t2 es1 (SetTable.grown es1.size)).2.2 with | true=>rule "set.scan.the-table-gave-way" | false=>pure ())
      storeSet a (relayAll t2 es1 (SetTable.grown es1.size)).1 (relayAll t2 es1 (SetTable.grown es1.size)).2.1
      pure (some true)
     else pure (some true)) (fun r s'=>wpAny (model prog w) A (match r with | some added=>pure added | none=>setAddHashedIn a (.str k u) (hashStr w k) 99999) Q E s') E s:=fun t2 f2 l2 p2=>by
   have T2:Tab w es1 t2 (k::ks):=Zs2 T hout hperm f2 l2 p2
   refine wpAny_bind (wpAny_storeSet_of ho hd ?_ (fits_of_scanBound (by omega)))
   obtain ⟨ho1,hS1⟩:=ZeI ho hx hd T2
   have b1:=Heap.SameBut.update s.heap a (Obj.putSet es1 t2)
   split
   ·have hp:=relayAll_perm t2 es1 (SetTable.grown es1.size)
    have hf:=relayAll_fits t2 es1 (SetTable.grown es1.size)
    have hg:=ZoI t2 es1 (SetTable.grown es1.size)
    have T3:=T2.perm hp hf (fun z=>by rw [hg.1,l2];exact T.ld z) (fun z=>by rw [hg.2 z] at p2;cases p2)
    refine wpAny_bind (hgave _ ?_)
    refine wpAny_bind (wpAny_storeSet_of ho1 rfl ?_ (fits_of_scanBound (by rw [T3.len,← T2.len];omega)))
    obtain ⟨_,hS2⟩:=ZeI ho1 hx rfl T3
    exact wpAny_pure (wpAny_pure (h _ _ (b1.trans (Heap.SameBut.update _ a _)) hS2))
   ·exact wpAny_pure (wpAny_pure (h _ _ b1 hS1))
  split
  ·refine wpAny_bind ?_
   rw [hashByValue_scannable 8 hsc]
   refine wpAny_pure ?_
   exact fin _ (SetTable.fits_plain_off hfits) hled rfl
  ·rename_i hpl
   refine wpAny_bind (wpAny_pure ?_)
   exact fin _ hfits hled (by simpa using hpl)
end
end L3
set_option Elab.async false
set_option linter.all false
set_option maxRecDepth 100000
set_option maxHeartbeats 4000000
namespace L3
open PySem PySem.Spec PyProof.Rows L2
section
variable {prog:Program} {w:World} {A:Around} {E:Value→Shared→Prop} {s:Shared}
theorem SS.kept {h h':Heap} {a:Addr} {ks:List Str} (S:SS w h a ks) (k:∀ o,h.get? a=some o→h'.get? a=some o):SS w h' a ks:=by
 obtain ⟨o,es,ep,t,ho,r⟩:=S
 exact ⟨o,es,ep,t,k o ho,r⟩
theorem SS.nd {h:Heap} {a:Addr} {ks:List Str} (S:SS w h a ks):ks.Nodup:=by
 obtain ⟨o,es,ep,t,ho,_,_,T⟩:=S
 exact T.nd
theorem ZlY {h:Heap} {a:Addr} (led:Bool) (hl:bt w=false→led=true) (ho:h.get? a=some { cls:=.type "set",dict:=none,data:=.set #[] 0 (.fresh 0 0 led) }):SS w h a [] :=
 ⟨_,#[],0,_,ho,⟨rfl,rfl,rfl⟩,rfl,⟨fun e he=>by simp at he,List.Perm.refl _,List.nodup_nil,rfl,hl,fun _=>rfl⟩⟩
theorem ZrY {R:Result→Shared→Prop} {I:Addr} {fp wr:List Addr} {G:Array GenState→Array GenState→Prop} {n:Nat} {P:Nat→Value→Prop} {St:Nat→Shared→Prop} (W:WalksS prog w A.in1 I fp wr G n P St) {S:Addr} (hSf:S∉fp)
  {val:Nat→Str} (hval:∀ i v,P i v→∃ t,v=.str (val i) t):∀ (k i:Nat) (s:Shared) (ks:List Str),n - i=k→i≤n→St i s→SS w s.heap S ks→ks.length+k < scanBound →
   (∀ s' ks',Moved (S::wr) G s s'→SS w s'.heap S ks'→(∀ x,x∈ks'↔x∈ks∨∃ j,i≤j∧j < n∧val j=x)→R (.ok (.ret .none)) s') →
   codeAny (model prog w) A (.builtin "set.update.loop" ⟨[.ref S,.ref I],[]⟩) R s:=by
 have hSw:S∉wr:=fun z=>hSf (W.sub _ z)
 have hsub:∀ b∈wr,b∈S::wr:=fun b z=>List.mem_cons_of_mem _ z
 intro k
 induction k with
 | zero =>
  intro i s ks hk hi hst hS _ hR
  obtain rfl:i=n:=by omega
  refine codeAny_builtin PyProof.Rows.F.entry_set_update_loop ?_
  rw [Around.under_plainId PyProof.Rows.F.plain_set_update_loop _]
  refine wpAny_bind (m:=pyNext (.ref I)) (W.done s _ _ hst fun s' hm=>?_)
  refine wpAny_pure (hR s' ks (hm.mono hsub) (hS.kept fun o e=>hm.heap S o hSw e) fun x=>⟨.inl,?_⟩)
  rintro (h | ⟨j,h1,h2,_⟩)
  ·exact h
  ·omega
 | succ k ih =>
  intro i s ks hk hi hst hS hn hR
  have hlt:i < n:=by omega
  refine codeAny_builtin PyProof.Rows.F.entry_set_update_loop ?_
  rw [Around.under_plainId PyProof.Rows.F.plain_set_update_loop _]
  refine wpAny_bind (m:=pyNext (.ref I)) (W.item i s _ _ hlt hst fun v s1 hP hst1 hm=>?_)
  obtain ⟨t,rfl⟩:=hval i v hP
  have hS1:SS w s1.heap S ks:=hS.kept fun o e=>hm.heap S o hSw e
  refine wpAny_bind (m:=holding [Value.str (val i) t] (setAdd S (.str (val i) t))) (wpAny_holding ?_)
  unfold setAdd
  refine wpAny_holding (wpAny_bind ((strKind prog w).pyHash (k:=val i) (by show Value.isStrOf (val i) (.str (val i) t)=true;simp [Value.isStrOf]) ?_))
  refine ZrW (s:={ s1 with toks:=s1.toks+1 }) hS1 (by omega) fun h' b hsb hS2=>?_
  refine wpAny_pure ⟨plainId_quiet PyProof.Rows.F.plain_set_update_loop _,ih (i+1) _ _ (by omega) hlt (W.frame _ s1 _ _ hst1 (Nat.le_succ _) fun c hc o e=>?_) hS2 ?_ fun s2 ks' hm2 hS3 hx=>?_⟩
  ·rw [hsb.2 c fun z:c=S=>hSf (by rw [← z];exact hc)];exact e
  ·split
   ·omega
   ·rw [List.length_cons];omega
  ·refine hR s2 ks' (Moved.trans W.gtrans ((hm.mono hsub).then_heap (Nat.le_succ _) fun c o hc e=>?_) hm2) hS3 fun x=>(hx x).trans ?_
   ·rw [hsb.2 c fun z:c=S=>hc (by rw [z];exact List.mem_cons_self)];exact e
   ·have hmem:x∈(if val i∈ks then ks else val i::ks)↔x∈ks∨val i=x:=by
     split
     ·rename_i hin
      exact ⟨.inl,fun z=>z.elim id fun e=>e▸hin⟩
     ·rw [List.mem_cons]
      exact ⟨fun z=>z.elim (fun e=>.inr e.symm) .inl,fun z=>z.elim .inr fun e=>.inl e.symm⟩
    rw [hmem]
    constructor
    ·rintro ((h | h) | ⟨j,h1,h2,h3⟩)
     ·exact .inl h
     ·exact .inr ⟨i,Nat.le_refl _,hlt,h⟩
     ·exact .inr ⟨j,by omega,h2,h3⟩
    ·rintro (h | ⟨j,h1,h2,h3⟩)
     ·exact .inl (.inl h)
     ·by_cases e:j=i
      ·subst e;exact .inl (.inr h3)
      ·exact .inr ⟨j,by omega,h2,h3⟩
end
end L3
namespace L3
open PySem PySem.Spec PyProof.Rows L2
abbrev Zbb (led:Bool):Obj:={ cls:=.type "set",dict:=none,data:=.set #[] 0 (.fresh 0 0 led) }
section
variable {prog:Program} {w:World} {A:Around} {E:Value→Shared→Prop} {s:Shared}
theorem ZtE {Q:Value→Shared→Prop} (h:∀ led:Bool,(bt w=false→led=true)→Q (.ref s.heap.objs.size) { s with heap:=s.heap.push (Zbb led) }):wpAny (model prog w) A (newSet (.type "set")) Q E s:=by
 unfold newSet setsByText
 refine wpAny_bind (wpAny_bind (wpAny_askSetting (wpAny_pure ?_)))
 simp only [newObj]
 refine wpAny_bind (wpAny_alloc (wpAny_pure (h _ fun z=>?_)))
 show (!(bt w))=true
 rw [z];rfl
theorem ZqH (a:Value) {Q:Value→Shared→Prop} (h:∀ led:Bool,(bt w=false→led=true)→Q (.ref s.heap.objs.size) { s with heap:=s.heap.push (Zbb led) }) :
  codeAny (model prog w) A (.call (.builtin "set.__new__") ⟨[.type "set",a],[]⟩) (wants Q E) s:=by
 refine codeAny_of_tree (?_:wpAny _ A.in1 (do checkBuiltinCall "set.__new__" ⟨[.type "set",a],[]⟩;again (.builtin "set.__new__" ⟨[.type "set",a],[]⟩)) _ _ s)
 refine wpAny_bind (wpAny_of_eq (PySem.F.newCall_set_1 a) (wpAny_pure ⟨plainId_quiet PySem.F.plain_set_new _,codeAny_builtin PySem.F.entry_set_new ?_⟩))
 rw [Around.under_plainId PySem.F.plain_set_new _];unfold Builtin.«set.__new__» Builtin.Frozenset.newClass
 have hq:=sub_set_self
 obtain ⟨hp,g,d,tk,os⟩:=s
 dsimp only
 wp_walk
 refine wpAny_askSetting (wpAny_pure ?_)
 simp only [newObj]
 refine wpAny_bind (wpAny_alloc (wpAny_pure (wpAny_pure (h _ fun z=>?_))))
 show (!(bt w))=true
 rw [z];rfl
theorem Zo6:∀ {vs:List Value} {xs:List Str},StrsAre vs xs→∀ (i:Nat) (v:Value),vs[i]?=some v→∃ t,v=.str (xs.getD i (Str.ofString "")) t
 | _,_,.nil,i,v,h=>by simp at h
 | _,_,.cons x t r,0,v,h=>⟨t,by simp at h;exact h.symm⟩
 | _,_,.cons x t r,i+1,v,h=>Zo6 r i v (by simpa using h)
set_option maxHeartbeats 3200000 in
theorem Zl7 {l:Addr} {items:Array Value} {xs:List Str} {Q:Value→Shared→Prop} (hh:A.handled=none) (hl:s.heap.IsList l items) (hi:StrsAre items.toList xs) (hb:items.size < scanBound)
  (h:∀ (h':Heap) (tk:Nat) (ks:List Str),SS w h' s.heap.objs.size ks→(∀ x,x∈ks↔x∈xs)→(∀ b o,b < s.heap.objs.size→s.heap.get? b=some o→h'.get? b=some o)→Q (.ref s.heap.objs.size) { s with heap:=h',toks:=tk }) :
  wpAny (model prog w) A (call (.type "set") [.ref l]) Q E s:=by
 obtain ⟨c,tl,hmro⟩:=PySem.F.called_set.mro
 have hmade:=PySem.F.called_set.made
 have hsub:=PySem.F.called_set.sub
 refine wpAny_call (codeAny_of_tree (?_:wpAny _ _ (callAny (.type "set") _) _ _ _))
 refine wpAny_pure ⟨Code.quiet_builtin _ (by decide +kernel),codeAny_builtin PySem.F.entry_type_call ?_⟩
 rw [Around.under_plain (weight_type_call_type "set" [.ref l] []) rfl]
 have h1:=PySem.F.called_set.notType
 have h2:=PySem.F.called_set.canCreate
 have hct:=PySem.F.typeCall_set_1 (.ref l)
 (repeat (any_goals (first | assumption | wp_step)))
 refine codeAny_mono (ZqH (.ref l) (E:=E) (Q:=fun obj s₁=>∃ led:Bool,(bt w=false→led=true)∧obj=.ref s.heap.objs.size∧s₁={ s with heap:=s.heap.push (Zbb led) }) fun led z=>⟨led,z,rfl,rfl⟩) fun r s₁ hr=>?_
 match r,hr with
 | .error e,hr=>exact hr
 | .ok .next,hr=>exact hr.elim
 | .ok .brk,hr=>exact hr.elim
 | .ok .cont,hr=>exact hr.elim
 | .ok (.ret obj),hr =>
  obtain ⟨led,hled,rfl,rfl⟩:=hr
  have hS:(s.heap.push (Zbb led)).get? s.heap.objs.size=some (Zbb led):=Heap.get?_push_size _ rfl
  have hT:Shared.TypeIs { s with heap:=s.heap.push (Zbb led) } (.ref s.heap.objs.size) "set":=⟨_,hS,rfl⟩
  have hli:=PySem.F.called_set.init.lookup
  have hbi:=PySem.F.called_set.init.bind (.ref s.heap.objs.size)
  (repeat (any_goals (first | assumption | wp_step)))
  refine codeAny_mono (codeAny_call_builtin (R:=wants (fun r s₂=>r=.none∧∃ h' tk ks,s₂={ s with heap:=h',toks:=tk }∧SS w h' s.heap.objs.size ks∧(∀ x,x∈ks↔x∈xs)∧(∀ b o,b < s.heap.objs.size→s.heap.get? b=some o→h'.get? b=some o)) E) PySem.F.called_set.init.plain PySem.F.entry_set_init (check_set_init_1 hT ?_)) fun r₂ s₂ hr₂=>?_
  ·obtain ⟨ol,hol,hcl,nl,hdl⟩:=hl
   obtain ⟨ocls,odict,odata,oslots⟩:=ol
   simp only at hcl hdl
   subst hcl hdl
   have hol':(s.heap.push (Zbb led)).get? l=some { cls:=.type "list",dict:=odict,data:=.seq items nl,slots:=oslots }:=Heap.get?_push_of_some _ hol
   have hs1:=PySem.F.sub_list_set
   have hs2:=PySem.F.sub_list_frozenset
   have hne:(Value.type "list"==Value.type "dict")=false:=by decide
   have hl1:(s.heap.push (Zbb led)).IsList l items:=⟨_,hol',rfl,nl,rfl⟩
   unfold Builtin.«set.__init__» noKeywords Builtin.Frozenset.updateFrom
   generalize hPI:pyIter=PI
   wp_walk
   subst hPI
   refine wpAny_pyIter_list hl1 (wpAny_bind (wpAny_runValue ?_))
   have hlS:l < s.heap.objs.size:=Heap.lt_size hol
   have hneI:l≠(s.heap.push (Zbb led)).objs.size:=by rw [Heap.size_push];exact Nat.ne_of_lt (Nat.lt_succ_of_lt hlS)
   have hSf:s.heap.objs.size∉[(s.heap.push (Zbb led)).objs.size,l]:=by
    rw [Heap.size_push]
    simp only [List.mem_cons,List.not_mem_nil,or_false,not_or]
    exact ⟨Nat.ne_of_lt (Nat.lt_succ_self _),Nat.ne_of_gt hlS⟩
   have hval:∀ (i:Nat) (v:Value),items[i]?=some v→∃ t,v=.str (xs.getD i (Str.ofString "")) t:=fun i v hv=>Zo6 hi i v (by rw [Array.getElem?_toList];exact hv)
   have hxl:items.size=xs.length:=by rw [← Array.length_toList];exact hi.length
   refine ZrY ((Walks.list (by simp [hh]) _ l hneI items).toS) hSf hval (items.size - 0) 0 _ [] (by omega) (Nat.zero_le _) ⟨⟨_,Heap.get?_push_size _ rfl,rfl,rfl⟩,hl1.push _⟩ ?_ (by simp only [List.length_nil];omega) ?_
   ·exact ZlY led hled (Heap.get?_push_of_some _ hS)
   ·intro s' ks hm hS' hx
    obtain ⟨h',g',d',tk',os'⟩:=s'
    obtain rfl:g'=s.gens:=hm.gens
    obtain rfl:d'=s.drawn:=hm.drawn
    obtain rfl:os'=s.os:=hm.os
    refine wpAny_pure (wpAny_pure ⟨rfl,h',tk',ks,rfl,hS',fun x=>(hx x).trans ?_,fun b o hb e=>?_⟩)
    ·constructor
     ·rintro (z | ⟨j,_,hj,e⟩)
      ·cases z
      ·rw [← e]
       rw [List.getD_eq_getElem?_getD,List.getElem?_eq_getElem (by omega)]
       exact List.getElem_mem _
     ·intro hx
      obtain ⟨j,hj,e⟩:=List.getElem_of_mem hx
      refine .inr ⟨j,Nat.zero_le _,by omega,?_⟩
      rw [List.getD_eq_getElem?_getD,List.getElem?_eq_getElem hj]
      exact e
    ·refine hm.heap b o ?_ (Heap.get?_push_of_some _ (Heap.get?_push_of_some _ e))
     simp only [List.mem_cons,List.not_mem_nil,or_false,not_or]
     rw [Heap.size_push]
     exact ⟨Nat.ne_of_lt hb,Nat.ne_of_lt (Nat.lt_succ_of_lt hb)⟩
  ·match r₂,hr₂ with
   | .error e,hr₂=>exact hr₂
   | .ok .next,hr₂=>exact hr₂.elim
   | .ok .brk,hr₂=>exact hr₂.elim
   | .ok .cont,hr₂=>exact hr₂.elim
   | .ok (.ret r),hr₂ =>
    obtain ⟨rfl,h',tk,ks,rfl,hS',hx,hk'⟩:=hr₂
    (repeat (any_goals (first | assumption | wp_step)))
    exact h _ _ _ hS' hx hk'
end
end L3
namespace L3
open PySem PySem.Spec PyProof.Rows L2
theorem ZpV {n:Nat} (h:n < 64):(SetTable.sizeAbove n=8∨SetTable.sizeAbove n=16∨SetTable.sizeAbove n=32∨SetTable.sizeAbove n=64)∧n < SetTable.sizeAbove n:=by
 have:∀ m:Fin 64,(SetTable.sizeAbove m.1=8∨SetTable.sizeAbove m.1=16∨SetTable.sizeAbove m.1=32∨SetTable.sizeAbove m.1=64)∧m.1 < SetTable.sizeAbove m.1:=by decide +kernel
 exact this ⟨n,h⟩
theorem Zhx {n:Nat} (h:n < 64):Tb.cover (SetTable.sizeAbove n - 1+1)=true∧n < SetTable.sizeAbove n∧SetTable.sizeAbove n≤64:=by
 obtain ⟨h1,h2⟩:=ZpV h
 rcases h1 with e | e | e | e <;> rw [e] at h2 ⊢
 ·exact ⟨Tb.cover8,h2,by decide⟩
 ·exact ⟨Tb.cover16,h2,by decide⟩
 ·exact ⟨Tb.cover32,h2,by decide⟩
 ·exact ⟨Tb.cover64,h2,by decide⟩
theorem ZnT {t:SetTable} {n:Nat} (h1:t.place.size=n) (h2:t.dummies=#[]) (h3:n≤t.mask):t.fits n=true:=by
 unfold SetTable.fits SetTable.fill
 rw [h2,h1]
 simp
 exact h3
section
variable {prog:Program} {w:World} {A:Around} {E:Value→Shared→Prop} {s:Shared}
theorem ZlA {es:Array (Int×Value)} {t:SetTable} {ks:List Str} (T:Tab w es t ks) {mask f m:Nat} {l p:Bool} (hc:Tb.cover (mask+1)=true) (hn:ks.length≤mask) (hl:bt w=false→l=true) (hp:p=true→ks=[]) :
  ∃ t' order,SetTable.laid mask f m l p (es.map (·.1))=some (t',order)∧(order.filterMap (es[·]?)).size=es.size∧Tab w (order.filterMap (es[·]?)) t' ks:=by
 have hz:=T.len
 obtain ⟨t',order,e,hpm,e1,e2,e3,e4,e5⟩:=Tb.laid_ok hc f m l p (es.map (·.1)) (by rw [Array.size_map];omega)
 rw [Array.size_map] at hpm e2
 have hq:=Tb.order_perm es order hpm
 have hsz:(order.filterMap (es[·]?)).size=es.size:=by rw [← Array.length_toList,hq.length_eq,Array.length_toList]
 refine ⟨t',order,e,hsz,T.perm hq ?_ (fun z=>by rw [e4];exact hl z) fun z=>hp (by rw [← e5];exact z)⟩
 rw [hsz]
 exact ZnT e2 e3 (by rw [e1];omega)
theorem ZpG {a:Addr} {ks:List Str} {n:Nat} {Q:Unit→Shared→Prop} (hS:SS w s.heap a ks) (hn:n < 64) (hk:ks.length≤n)
  (h:∀ h',Heap.SameBut a s.heap h'→SS w h' a ks→Q () { s with heap:=h' }):wpAny (model prog w) A (setRelay a n) Q E s:=by
 obtain ⟨o,es,ep,t,ho,hx,hd,T⟩:=hS
 obtain ⟨hc,h1,h2⟩:=Zhx hn
 have hz:=T.len
 unfold setRelay
 refine wpAny_bind (wpAny_setState_of ho hd T.ft ?_)
 dsimp only
 rw [if_neg (by have:(64:Nat)≤sizeLine:=by decide
                omega)]
 obtain ⟨t',order,e,hsz,T'⟩:=ZlA (f:=t.finger) (m:=t.movedTo (SetTable.sizeAbove n - 1)) (l:=t.led) (p:=t.plain) T hc (by omega) T.ld T.pl
 refine wpAny_bind ?_
 unfold SetTable.relaid
 rw [e]
 show wpAny (model prog w) A (if ((order.filterMap (es[·]?)).size != es.size)=true then _ else pure (order.filterMap (es[·]?),t')) _ E s
 rw [if_neg (by rw [hsz];simp)]
 refine wpAny_pure (wpAny_storeSet_of ho hd ?_ (fits_of_scanBound (by rw [hsz];unfold scanBound;omega)))
 exact h _ (Heap.SameBut.update s.heap a _) (ZeI ho hx hd T').2
theorem Ztv {a:Addr} {ks:List Str} {n:Nat} {Q:Unit→Shared→Prop} (hS:SS w s.heap a ks) (hn:ks.length+n < 32)
  (h:∀ h',Heap.SameBut a s.heap h'→SS w h' a ks→Q () { s with heap:=h' }):wpAny (model prog w) A (setRoomFor a n) Q E s:=by
 have hS':=hS
 obtain ⟨o,es,ep,t,ho,hx,hd,T⟩:=hS
 have hz:=T.len
 unfold setRoomFor
 refine wpAny_bind (wpAny_setState_of ho hd T.ft ?_)
 have hp:t.place.size=es.size:=by
  have:=T.ft
  unfold SetTable.fits at this
  simp only [Bool.and_eq_true,beq_iff_eq] at this
  exact this.1
 dsimp only
 unfold SetTable.roomFor
 split
 ·rename_i v e
  split at e
  ·cases e
   exact ZpG hS' (by omega) (by omega) h
  ·cases e
 ·exact wpAny_pure (h s.heap (Heap.SameBut.refl a s.heap) hS')
end
end L3
namespace L3
open PySem PySem.Spec PyProof.Rows L2
theorem Zf1 {α:Type}:∀ (l:List α) (i:Nat) (h:i < l.length),(l[i]::l.eraseIdx i).Perm l
 | a::l,0,h=>List.Perm.refl _
 | a::l,i+1,h=>by
  have h':i < l.length:=Nat.lt_of_succ_lt_succ h
  exact (List.Perm.swap a (l[i]'h') (l.eraseIdx i)).trans ((Zf1 l i h').cons a)
theorem ZnP {α:Type} (next:Nat→Nat):∀ (n k:Nat) (left:List α) (out:Array α),left.length=n→(pickOrder.go next n k left out).toList.Perm (out.toList++left)
 | 0,k,left,out,h=>by
  obtain rfl:=List.length_eq_zero_iff.mp h
  rw [List.append_nil]
  exact List.Perm.refl _
 | n+1,k,left,out,h=>by
  have hlt:next k % left.length < left.length:=Nat.mod_lt _ (by omega)
  unfold pickOrder.go
  rw [List.getElem?_eq_getElem hlt]
  dsimp only
  refine (ZnP next n (k+1) _ _ (by rw [List.length_eraseIdx_of_lt hlt];omega)).trans ?_
  rw [Array.toList_push,List.append_assoc]
  refine List.Perm.append_left _ ?_
  exact Zf1 left _ hlt
theorem ZjV {α:Type} (next:Nat→Nat) (xs:Array α):(pickOrder next xs).toList.Perm xs.toList:=by
 have:=ZnP next xs.size 0 xs.toList #[] (by simp)
 unfold pickOrder
 simpa using this
section
variable {prog:Program} {w:World} {A:Around} {E:Value→Shared→Prop} {s:Shared}
theorem Zjm {Q:Option Bool×Unit→Shared→Prop} {f:Int×Value→Option Bool×Unit→Sem (ForInStep (Option Bool×Unit))} (hf:∀ e,(∃ x u,e=(hashStr w x,Value.str x u))→f e (none,())=pure (ForInStep.yield (none,()))) :
  ∀ (l:List (Int×Value)),(∀ e∈l,∃ x u,e=(hashStr w x,Value.str x u))→Q (none,()) s→wpAny (model prog w) A (forIn l (none,()) f) Q E s
 | [],_,q=>wpAny_pure q
 | e::l,h,q=>by
  rw [List.forIn_cons,hf e (h e List.mem_cons_self)]
  exact wpAny_bind (wpAny_pure (Zjm hf l (fun x hx=>h x (List.mem_cons_of_mem _ hx)) q))
theorem Zqh {a b:Addr} {ka kb:List Str} {Q:Bool→Shared→Prop} (ha:SS w s.heap a ka) (hb:SS w s.heap b kb) (q:Q true s):wpAny (model prog w) A (setsQuiet [a,b]) Q E s:=by
 obtain ⟨oa,ea,pa,ta,ho,hx,hd,T⟩:=ha
 obtain ⟨ob,eb,pb,tb,ho2,hx2,hd2,T2⟩:=hb
 have hyield:∀ e:Int×Value,(∃ x u,e=(hashStr w x,Value.str x u))→True:=fun _ _=>trivial
 unfold setsQuiet
 refine wpAny_bind ?_
 rw [List.forIn_cons]
 refine wpAny_bind (wpAny_bind (wpAny_setEntries_of ho hd T.ft ?_))
 rw [← Array.forIn_toList]
 refine wpAny_bind (Zjm (w:=w) (fun e he=>?_) ea.toList T.el (wpAny_pure ?_))
 ·obtain ⟨x,u,rfl⟩:=he;rfl
 dsimp only
 rw [List.forIn_cons]
 refine wpAny_bind (wpAny_bind (wpAny_setEntries_of ho2 hd2 T2.ft ?_))
 rw [← Array.forIn_toList]
 refine wpAny_bind (Zjm (w:=w) (fun e he=>?_) eb.toList T2.el (wpAny_pure ?_))
 ·obtain ⟨x,u,rfl⟩:=he;rfl
 dsimp only
 rw [List.forIn_nil]
 exact wpAny_pure (wpAny_pure q)
theorem Zso {o f:Addr} {ko ks:List Str} {ob:Obj} {es:Array (Int×Value)} {ep:Nat} {t:SetTable} {Q:Array (Int×Value)→Shared→Prop} (ho:s.heap.get? o=some ob) (hx:ob.ExactSet) (hd:ob.data=.set es ep t) (T:Tab w es t ko) (hf:SS w s.heap f ks) (hk:ks.length < scanBound)
  (h:∀ h' l,Heap.SameBut f s.heap h'→SS w h' f ks→l.toList.Perm es.toList→Q l { s with heap:=h' }):wpAny (model prog w) A (setWalkUnseen o [f] (some f)) Q E s:=by
 have hz:=T.len
 have hall:bt w=true∨es.size≤1→wpAny (model prog w) A (setWalk o) Q E s:=fun hw=>by
  unfold setWalk
  refine wpAny_bind (wpAny_setState_of ho hd T.ft ?_)
  dsimp only
  unfold setsByText
  refine wpAny_bind (wpAny_bind (wpAny_askSetting (wpAny_pure ?_)))
  show wpAny (model prog w) A (if bt w=true then _ else _) Q E s
  by_cases hb:bt w=true
  ·rw [if_pos hb]
   exact wpAny_bind (wpAny_askSetting (wpAny_pure (h s.heap _ (Heap.SameBut.refl _ _) hf (ZjV _ _))))
  ·rw [if_neg hb]
   have h1:es.size≤1:=hw.resolve_left hb
   show wpAny (model prog w) A (if (!t.plain&&decide (es.size > 1))=true then _ else _) Q E s
   rw [if_neg (by have:¬ es.size > 1:=by omega
                  simp [this])]
   refine wpAny_bind ?_
   show wpAny (model prog w) A (if (!t.led&&decide (es.size > 1))=true then _ else pure ()) _ E s
   rw [if_neg (by have:¬ es.size > 1:=by omega
                  simp [this])]
   exact wpAny_pure (wpAny_pure (h s.heap _ (Heap.SameBut.refl _ _) hf (List.Perm.refl _)))
 unfold setWalkUnseen
 refine wpAny_bind (wpAny_setState_of ho hd T.ft ?_)
 dsimp only
 unfold setsByText
 refine wpAny_bind (wpAny_bind (wpAny_askSetting (wpAny_pure ?_)))
 show wpAny (model prog w) A (if (bt w||t.led&&t.plain||decide (es.size≤1))=true then _ else _) Q E s
 by_cases hc:(bt w||t.led&&t.plain||decide (es.size≤1))=true
 ·rw [if_pos hc]
  refine hall ?_
  simp only [Bool.or_eq_true,Bool.and_eq_true,decide_eq_true_eq] at hc
  rcases hc with (hc | hc) | hc
  ·exact .inl hc
  ·have:=T.pl hc.2
   subst this
   exact .inr (by rw [hz];decide)
  ·exact .inr hc
 ·rw [if_neg hc]
  simp only [Bool.or_eq_true,Bool.and_eq_true,decide_eq_true_eq,not_or] at hc
  have hb:bt w=false:=by simpa using hc.1.1
  refine wpAny_bind (Zqh ⟨ob,es,ep,t,ho,hx,hd,T⟩ hf ?_)
  rw [if_neg (by decide)]
  refine wpAny_bind (wpAny_rule ?_)
  have hf':=hf
  obtain ⟨of,ef,pf,tf,hof,hxf,hdf,Tf⟩:=hf
  refine wpAny_bind (wpAny_setState_of hof hdf Tf.ft ?_)
  dsimp only
  split
  ·refine wpAny_bind (wpAny_storeSet_of hof hdf ?_ ?_)
   ·refine wpAny_pure (h _ _ (Heap.SameBut.update s.heap f _) (ZeI hof hxf hdf (Tf.perm (List.Perm.refl _) ?_ (fun _=>?_) fun z=>?_)).2 (List.Perm.refl _))
    ·cases tf;exact Tf.ft
    ·show (tf.led&&t.led)=true
     rw [Tf.ld hb,T.ld hb];rfl
    ·refine Tf.pl ?_
     have z':(tf.plain&&t.plain)=true:=z
     simp only [Bool.and_eq_true] at z'
     exact z'.1
   ·exact fits_of_scanBound (by rw [Tf.len];exact hk)
  ·exact wpAny_pure (h _ _ (Heap.SameBut.refl _ _) hf' (List.Perm.refl _))
theorem Zom {a o:Addr} {ob:Obj} {es:Array (Int×Value)} {ep:Nat} {t:SetTable} (hne:o≠a) (hd:ob.data=.set es ep t) (hf:t.fits es.size=true) {each:Sem Unit} (he:∀ (s':Shared) (Q':Unit→Shared→Prop),s'.heap.get? o=some ob→Q' () s'→wpAny (model prog w) A each Q' E s') {f:Int×Value→PUnit→Sem (ForInStep PUnit)}
  (hbody:∀ x u,f (hashStr w x,Value.str x u) PUnit.unit=(do let _ ← holding [Value.str x u] (setAddHashed a (Value.str x u) (hashStr w x));each;let r ← setState o;if (r.2.1 != ep)=true then (do unsupported "set.changed-during-merge";pure (ForInStep.yield PUnit.unit)) else pure (ForInStep.yield PUnit.unit))) :
  ∀ (l:List (Int×Value)) (s:Shared) (ks:List Str) (Q:PUnit→Shared→Prop),(∀ e∈l,∃ x u,e=(hashStr w x,Value.str x u))→s.heap.get? o=some ob→SS w s.heap a ks→ks.length+l.length < scanBound →
   (∀ h' ks',Heap.SameBut a s.heap h'→SS w h' a ks'→(∀ x,x∈ks'↔x∈ks∨x∈l.map fun e=>strOf e.2)→Q PUnit.unit { s with heap:=h' })→wpAny (model prog w) A (forIn l PUnit.unit f) Q E s
 | [],s,ks,Q,_,_,hS,_,h=>wpAny_pure (h s.heap ks (Heap.SameBut.refl _ _) hS fun x=>⟨.inl,fun z=>z.elim id fun z=>by cases z⟩)
 | e::l,s,ks,Q,hel,ho,hS,hn,h=>by
  obtain ⟨x,u,rfl⟩:=hel e List.mem_cons_self
  simp only [List.length_cons] at hn
  rw [List.forIn_cons,hbody x u]
  refine wpAny_bind (wpAny_bind (wpAny_holding (ZrW hS (by omega) fun h1 b hsb hS1=>?_)))
  have ho1:h1.get? o=some ob:=by rw [hsb.2 o hne];exact ho
  refine wpAny_bind (he _ _ ho1 (wpAny_bind (wpAny_setState_of ho1 hd hf ?_)))
  rw [if_neg (by simp)]
  refine wpAny_pure (Zom hne hd hf he hbody l _ _ Q (fun y hy=>hel y (List.mem_cons_of_mem _ hy)) ho1 hS1 (by split <;> (try rw [List.length_cons]) <;> omega) fun h2 ks' hsb2 hS2 hx=>?_)
  refine h h2 ks' (hsb.trans hsb2) hS2 fun y=>(hx y).trans ?_
  rw [List.map_cons,List.mem_cons]
  show _↔y∈ks∨y=x∨_
  have hm:y∈(if x∈ks then ks else x::ks)↔y∈ks∨y=x:=by
   split
   ·rename_i hin
    exact ⟨.inl,fun z=>z.elim id fun e=>e▸hin⟩
   ·rw [List.mem_cons]
    exact ⟨fun z=>z.elim .inr .inl,fun z=>z.elim .inr .inl⟩
  rw [hm,or_assoc]
end
end L3
set_option Elab.async false
set_option linter.all false
set_option maxRecDepth 100000
set_option maxHeartbeats 4000000
namespace L3
open PySem PySem.Spec PyProof.Rows L2
section
variable {prog:Program} {w:World} {A:Around} {E:Value→Shared→Prop} {s:Shared}
structure Bare (led:Bool) (n:Nat) (t:SetTable):Prop where
 pl:t.place=#[]
 dm:t.dummies=#[]
 cv:Tb.cover (t.mask+1)=true
 rm:n≤t.mask
 ld:t.led=led
theorem Bare.fits {led:Bool} {n:Nat} {t:SetTable} (B:Bare led n t):t.fits 0=true:=ZnT (by rw [B.pl];rfl) B.dm (Nat.zero_le _)
theorem ZoX {a:Addr} {led:Bool} {n:Nat} {Q:Unit→Shared→Prop} (ha:s.heap.get? a=some (Zbb led)) (hn:n < 16)
  (h:∀ h' ep t,Heap.SameBut a s.heap h'→h'.get? a=some { Zbb led with data:=.set #[] ep t }→Bare led n t→Q () { s with heap:=h' }):wpAny (model prog w) A (setRoomFor a n) Q E s:=by
 unfold setRoomFor
 refine wpAny_bind (wpAny_setState_of ha rfl rfl ?_)
 show wpAny (model prog w) A (match (if (0+n)*5≥7*3 then some ((0+n)*2) else none) with | some v=>setRelay a v | _=>pure ()) Q E s
 by_cases hc:(0+n)*5≥7*3
 ·rw [if_pos hc]
  obtain ⟨hcv,h1,h2⟩:=Zhx (n:=(0+n)*2) (by omega)
  dsimp only
  unfold setRelay
  refine wpAny_bind (wpAny_setState_of ha rfl rfl ?_)
  dsimp only
  rw [if_neg (by have:(64:Nat)≤sizeLine:=by decide
                 omega)]
  obtain ⟨t',order,e,hpm,e1,e2,e3,e4,e5⟩:=Tb.laid_ok hcv (SetTable.fresh 0 0 led).finger ((SetTable.fresh 0 0 led).movedTo (SetTable.sizeAbove ((0+n)*2) - 1)) (SetTable.fresh 0 0 led).led (SetTable.fresh 0 0 led).plain (Array.map (·.1) (#[]:Array (Int×Value))) (by simp)
  refine wpAny_bind ?_
  unfold SetTable.relaid
  rw [e]
  have hord:order=#[]:=by
   have:=hpm.length_eq
   simp at this
   exact this
  subst hord
  show wpAny (model prog w) A (pure ((#[]:Array Nat).filterMap ((#[]:Array (Int×Value))[·]?),t')) _ E s
  refine wpAny_pure (wpAny_storeSet_of ha rfl ?_ (Nat.zero_le _))
  refine h _ 1 t' (Heap.SameBut.update s.heap a _) ?_ ⟨?_,e3,by rw [e1];exact hcv,by rw [e1];omega,e4⟩
  ·have hz:=Heap.get?_update_self (Obj.putSet #[] t') ha (by rw [putSet_of #[] t' rfl];rfl)
   rw [putSet_of #[] t' rfl] at hz
   exact hz
  ·exact Array.eq_empty_of_size_eq_zero (by rw [e2];simp)
 ·rw [if_neg hc]
  exact wpAny_pure (h s.heap 0 _ (Heap.SameBut.refl _ _) ha ⟨rfl,rfl,Tb.cover8,by show n≤7;omega,rfl⟩)
theorem ZiC {a o:Addr} {led:Bool} {ko:List Str} {each:Sem Unit} {Q:Unit→Shared→Prop} (hne:o≠a) (ha:s.heap.get? a=some (Zbb led)) (hl:bt w=false→led=true) (hS:SS w s.heap o ko) (hn:ko.length < 16)
  (h:∀ h',Heap.SameBut a s.heap h'→SS w h' a ko→(ko=[]→h'.get? a=some (Zbb led))→Q () { s with heap:=h' }):wpAny (model prog w) A (setMerge a o each) Q E s:=by
 obtain ⟨ob,es,ep,t,ho,hx,hd,T⟩:=hS
 have hz:=T.len
 unfold setMerge
 rw [if_neg (by simp only [beq_iff_eq];exact fun z=>hne z.symm)]
 refine wpAny_bind (wpAny_setState_of ho hd T.ft ?_)
 dsimp only
 by_cases hem:es.isEmpty=true
 ·rw [if_pos hem]
  have:ko=[]:=by
   rw [Array.isEmpty_iff] at hem
   subst hem
   exact List.length_eq_zero_iff.mp hz.symm
  subst this
  exact wpAny_pure (h s.heap (Heap.SameBut.refl _ _) (ZlY led hl ha) fun _=>ha)
 ·rw [if_neg hem]
  have hko:ko≠[]:=fun z=>by
   subst z
   exact hem (by rw [Array.isEmpty_iff];exact Array.eq_empty_of_size_eq_zero hz)
  refine wpAny_bind (ZoX ha (by omega) fun h1 ep1 t1 hsb ha1 B=>?_)
  refine wpAny_bind (wpAny_setState_of ha1 rfl B.fits ?_)
  dsimp only
  have hld:bt w=false→(t1.led&&t.led)=true:=fun z=>by rw [B.ld,hl z,T.ld z];rfl
  have hpl:(t1.plain&&t.plain)=true→ko=[]:=fun z=>by
   simp only [Bool.and_eq_true] at z
   exact T.pl z.2
  have hfill:(t1.fill != 0)=false:=by unfold SetTable.fill;rw [B.pl,B.dm];rfl
  unfold SetTable.road
  rw [hfill]
  simp only [Bool.false_eq_true,if_false]
  by_cases hr:(t1.mask==t.mask&&t.dummies.isEmpty)=true
  ·rw [if_pos hr]
   dsimp only
   refine wpAny_storeSet_of ha1 rfl ?_ (fits_of_scanBound (by unfold scanBound;omega))
   refine h _ (hsb.trans (Heap.SameBut.update h1 a _)) (ZeI ha1 ⟨rfl,rfl,rfl⟩ rfl (T.perm (List.Perm.refl _) ?_ hld hpl)).2 fun z=>absurd z hko
   have:=T.ft
   cases t
   exact this
  ·rw [if_neg hr]
   dsimp only
   obtain ⟨t',order,e,hsz,T'⟩:=ZlA (f:=t1.finger) (m:=t1.moves) T B.cv (by have:=B.rm;omega) hld hpl
   refine wpAny_bind ?_
   rw [e]
   show wpAny (model prog w) A (if ((order.filterMap (es[·]?)).size != es.size)=true then _ else pure (order.filterMap (es[·]?),t')) _ E _
   rw [if_neg (by rw [hsz];simp)]
   refine wpAny_pure (wpAny_storeSet_of ha1 rfl ?_ (fits_of_scanBound (by rw [hsz];unfold scanBound;omega)))
   exact h _ (hsb.trans (Heap.SameBut.update h1 a _)) (ZeI ha1 ⟨rfl,rfl,rfl⟩ rfl T').2 fun z=>absurd z hko
theorem Zm8 {a o:Addr} {ks ko:List Str} {each:Sem Unit} {Q:Unit→Shared→Prop} (hne:o≠a) (hk:ks≠[]) (hA:SS w s.heap a ks) (hS:SS w s.heap o ko) (hn:ks.length+ko.length < 32)
  (he:∀ ob,s.heap.get? o=some ob→∀ (s':Shared) (Q':Unit→Shared→Prop),s'.heap.get? o=some ob→Q' () s'→wpAny (model prog w) A each Q' E s')
  (h:∀ h' ks',Heap.SameBut a s.heap h'→SS w h' a ks'→(∀ x,x∈ks'↔x∈ks∨x∈ko)→Q () { s with heap:=h' }):wpAny (model prog w) A (setMerge a o each) Q E s:=by
 obtain ⟨ob,es,ep,t,ho,hx,hd,T⟩:=hS
 have hz:=T.len
 have he:=he ob ho
 unfold setMerge
 rw [if_neg (by simp only [beq_iff_eq];exact fun z=>hne z.symm)]
 refine wpAny_bind (wpAny_setState_of ho hd T.ft ?_)
 dsimp only
 by_cases hem:es.isEmpty=true
 ·rw [if_pos hem]
  have:ko=[]:=by
   rw [Array.isEmpty_iff] at hem
   subst hem
   exact List.length_eq_zero_iff.mp hz.symm
  subst this
  exact wpAny_pure (h s.heap ks (Heap.SameBut.refl _ _) hA fun x=>⟨.inl,fun z=>z.elim id fun z=>by cases z⟩)
 ·rw [if_neg hem]
  refine wpAny_bind (Ztv hA (by omega) fun h1 hsb hA1=>?_)
  have hA1':=hA1
  obtain ⟨oa,ea,pa,ta,hoa,hxa,hda,Ta⟩:=hA1
  refine wpAny_bind (wpAny_setState_of hoa hda Ta.ft ?_)
  dsimp only
  have hfill:(ta.fill != 0)=true:=by
   have hp:=Ta.ft
   unfold SetTable.fits at hp
   simp only [Bool.and_eq_true,beq_iff_eq] at hp
   have hl:=Ta.len
   have:ks.length≠0:=fun z=>hk (List.length_eq_zero_iff.mp z)
   unfold SetTable.fill
   simp only [bne_iff_ne,ne_eq]
   omega
  unfold SetTable.road
  rw [hfill]
  simp only [if_true]
  have ho1:h1.get? o=some ob:=by rw [hsb.2 o hne];exact ho
  refine wpAny_bind (Zso ho1 hx hd T hA1' (by unfold scanBound;omega) fun h2 l hsb2 hA2 hp=>?_)
  have ho2:h2.get? o=some ob:=by rw [hsb2.2 o hne];exact ho1
  rw [← Array.forIn_toList]
  refine wpAny_bind (Zom hne hd T.ft he (fun x u=>rfl) l.toList _ ks _ (fun e hm=>T.el e (hp.mem_iff.mp hm)) ho2 hA2 ?_ fun h3 ks' hsb3 hA3 hx=>?_)
  ·have hl:l.toList.length=es.size:=hp.length_eq.trans Array.length_toList
   rw [hl];unfold scanBound;omega
  ·refine wpAny_pure (h h3 ks' ((hsb.trans hsb2).trans hsb3) hA3 fun x=>(hx x).trans ?_)
   rw [((hp.map _).trans T.pm).mem_iff]
end
end L3
namespace L3
open PySem PySem.Spec PyProof.Rows L2
theorem Zql:entryFor table "set.__or__"=some Builtin.«frozenset.__or__»:=entryFor_alias (id':="frozenset.__or__") (by kernel_rfl) rfl (by decide +kernel) (by kernel_rfl)
section
variable {prog:Program} {w:World} {A:Around} {E:Value→Shared→Prop} {s:Shared}
theorem SS.ty {a:Addr} {ks:List Str} (S:SS w s.heap a ks):s.TypeIs (.ref a) "set":=by
 obtain ⟨o,es,ep,t,ho,hx,_⟩:=S
 exact ⟨o,ho,hx.1⟩
theorem ZkW {a:Addr} {Q:Bool→Shared→Prop} (hT:s.TypeIs (.ref a) "set") (q:Q true s):wpAny (model prog w) A (Builtin.Frozenset.isAnySet (.ref a)) Q E s:=by
 unfold Builtin.Frozenset.isAnySet
 refine wpAny_bind (wpAny_isInstance hT sub_set_self ?_)
 exact wpAny_pure q
theorem SS.new {a:Addr} {ks:List Str} (S:SS w s.heap a ks) (o:Obj):SS w (s.heap.push o) a ks:=S.kept fun _ e=>Heap.get?_push_of_some _ e
theorem SS.lt {a:Addr} {ks:List Str} (S:SS w s.heap a ks):a < s.heap.objs.size:=by
 obtain ⟨o,es,ep,t,ho,_⟩:=S
 exact Heap.lt_size ho
theorem SS.same {h h':Heap} {a b:Addr} {ks:List Str} (S:SS w h a ks) (hne:a≠b) (hsb:Heap.SameBut b h h'):SS w h' a ks:=S.kept fun o e=>by rw [hsb.2 a hne];exact e
theorem Zwz {a b:Addr} {ka kb:List Str} {Q:Value→Shared→Prop} (hab:a≠b) (ha:SS w s.heap a ka) (hb:SS w s.heap b kb) (hna:ka.length < 16) (hnb:kb.length < 16)
  (h:∀ h' ks,SS w h' s.heap.objs.size ks→(∀ x,x∈ks↔x∈ka∨x∈kb)→(∀ c o,c < s.heap.objs.size→s.heap.get? c=some o→h'.get? c=some o)→Q (.ref s.heap.objs.size) { s with heap:=h' }) :
  wpAny (model prog w) A (binaryOp .BitOr (.ref a) (.ref b)) Q E s:=by
 refine wpAny_binaryOp_same (op:=.BitOr) (T:="set") ha.ty hb.ty PySem.F.fills_set_or PySem.F.slot_set_or (wpAny_call_entry PySem.F.slot_set_or ha.ty Zql ?_ (PySem.F.args_set_or_2 _ _))
 unfold Builtin.«frozenset.__or__»
 refine wpAny_bind (m:=Builtin.Frozenset.slot1 "__or__" ⟨[.ref a,.ref b],[]⟩) ?_
 unfold Builtin.Frozenset.slot1
 refine wpAny_bind (wpAny_pure (a:=(Value.ref a,[Value.ref b])) ?_)
 refine wpAny_pure ?_
 refine wpAny_bind (m:=(Builtin.Frozenset.isAnySet (.ref a) <&&> Builtin.Frozenset.isAnySet (.ref b))) ?_
 refine wpAny_bind (ZkW ha.ty (ZkW hb.ty ?_))
 rw [if_neg (by decide)]
 refine wpAny_bind (m:=Builtin.Frozenset.addrOf (.ref a)) (wpAny_pure ?_)
 refine wpAny_bind ?_
 refine wpAny_bind (m:=Builtin.Frozenset.copyOf a) ?_
 unfold Builtin.Frozenset.copyOf Builtin.Frozenset.baseOf
 refine wpAny_bind (wpAny_bind (wpAny_isInstance ha.ty sub_set_self (wpAny_pure ?_)))
 rw [if_pos rfl]
 refine wpAny_bind (ZtE fun led hled=>?_)
 refine wpAny_bind (wpAny_pure ?_)
 have hne:∀ {c:Addr},c < s.heap.objs.size→c≠s.heap.objs.size:=fun z=>Nat.ne_of_lt z
 have hfr:(s.heap.push (Zbb led)).get? s.heap.objs.size=some (Zbb led):=Heap.get?_push_size _ rfl
 refine wpAny_bind (ZiC (s:={ s with heap:=s.heap.push (Zbb led) }) (hne ha.lt) hfr hled (ha.new _) hna fun h1 hsb hS1 hnil=>?_)
 refine wpAny_pure ?_
 show wpAny (model prog w) A.in1 (if (Value.ref b != Value.ref a)=true then _ else _) _ E _
 rw [if_pos (by simp only [bne_iff_ne,ne_eq,Value.ref.injEq];exact fun z=>hab z.symm)]
 refine wpAny_bind (m:=Builtin.Frozenset.addrOf _) (wpAny_pure ?_)
 have hb1:SS w h1 b kb:=(hb.new (Zbb led)).same (hne hb.lt) hsb
 have hT1:Shared.TypeIs { s with heap:=h1 } (.ref b) "set":=SS.ty (s:={ s with heap:=h1 }) hb1
 have keep:∀ h2,Heap.SameBut s.heap.objs.size h1 h2→∀ c o,c < s.heap.objs.size→s.heap.get? c=some o→h2.get? c=some o:=fun h2 hsb2 c o hc e=>by
  rw [hsb2.2 c (hne hc),hsb.2 c (hne hc)]
  exact Heap.get?_push_of_some _ e
 refine wpAny_bind (wpAny_holding ?_)
 unfold Builtin.Frozenset.updateFrom
 refine wpAny_bind (ZkW hT1 ?_)
 rw [if_pos rfl]
 refine wpAny_bind (m:=Builtin.Frozenset.addrOf (.ref b)) (wpAny_pure ?_)
 unfold Builtin.Frozenset.merge
 have hb1':=hb1
 obtain ⟨ob,es,ep,t,ho,hx,hd,T⟩:=hb1
 refine wpAny_bind (wpAny_setEpoch_of ho hd T.ft ?_)
 have fin:∀ h2 ks,Heap.SameBut s.heap.objs.size h1 h2→SS w h2 s.heap.objs.size ks→(∀ x,x∈ks↔x∈ka∨x∈kb)→Q (.ref s.heap.objs.size) { s with heap:=h2 }:=fun h2 ks hsb2 hS2 hx=>h h2 ks hS2 hx (keep h2 hsb2)
 by_cases hk:ka=[]
 ·subst hk
  refine ZiC (s:={ s with heap:=h1 }) (hne hb.lt) (hnil rfl) hled hb1' hnb fun h2 hsb2 hS2 _=>?_
  refine wpAny_pure (wpAny_pure ⟨_,rfl,by simp,fin h2 kb hsb2 hS2 fun x=>⟨.inr,fun z=>z.elim (fun z=>by cases z) id⟩⟩)
 ·refine Zm8 (s:={ s with heap:=h1 }) (hne hb.lt) hk hS1 hb1' (by omega) (fun ob' ho' s' Q' ho2 q'=>?_) fun h2 ks hsb2 hS2 hx=>?_
  ·have e:ob'=ob:=by
    have:=ho'.symm.trans ho
    exact Option.some.inj this
   subst e
   unfold Builtin.Frozenset.unchanged
   refine wpAny_bind (wpAny_setEpoch_of ho2 hd T.ft ?_)
   rw [if_neg (by simp)]
   exact wpAny_pure q'
  ·exact wpAny_pure (wpAny_pure ⟨_,rfl,by simp,fin h2 ks hsb2 hS2 hx⟩)
end
end L3
namespace L3
open PySem PySem.Spec PyProof.Rows L2
theorem Zfb:Slot "set_iterator" "__next__" "set_iterator.__next__":=.of (owner:="set_iterator") (n:="__next__") (by rw [typeLookup_type,builtinLookup_eq_fast];kernel_rfl) (by decide +kernel) (by decide +kernel) (by decide +kernel) (by first | exact .inl (by decide +kernel) | exact .inr (by decide +kernel)) (by rw [isSubtype_type];kernel_rfl)
theorem Zo1:Slot "set" "__iter__" "set.__iter__":=.of (owner:="set") (n:="__iter__") (by rw [typeLookup_type,builtinLookup_eq_fast];kernel_rfl) (by decide +kernel) (by decide +kernel) (by decide +kernel) (by first | exact .inl (by decide +kernel) | exact .inr (by decide +kernel)) (by rw [isSubtype_type];kernel_rfl)
theorem Zmk:entryFor table "set_iterator.__next__"=some Builtin.«set_iterator.__next__»:=entryFor_of_fast (by kernel_rfl)
theorem ZqT:entryFor table "set.__iter__"=some Builtin.«frozenset.__iter__»:=entryFor_alias (id':="frozenset.__iter__") (by kernel_rfl) rfl (by decide +kernel) (by kernel_rfl)
theorem ZoG (a:Value):argsOk "set_iterator.__next__" ⟨[a],[]⟩:=by unfold argsOk;kernel_rfl
theorem ZtD (a:Value):argsOk "set.__iter__" ⟨[a],[]⟩:=by unfold argsOk;kernel_rfl
section
variable {prog:Program} {w:World} {A:Around} {E:Value→Shared→Prop} {s:Shared}
theorem Zw8 {src:Source} {n:Nat} {Q:Nat→Shared→Prop} (hn:n≠0) (h:∀ i d,i < n→Q i { s with drawn:=d }):wpAny (model prog w) A (choose src n) Q E s :=
 fun _ _ _=>⟨hn,h _ _ (Nat.mod_lt _ (Nat.pos_of_ne_zero hn))⟩
theorem Zpi {α:Type}:∀ (n:Nat) (xs:List α) (s:Shared) (Q:List α→Shared→Prop),xs.length=n→(∀ ys d,ys.Perm xs→Q ys { s with drawn:=d })→wpAny (model prog w) A (drawOrder n xs) Q E s
 | 0,xs,s,Q,h,q=>by
  obtain rfl:=List.length_eq_zero_iff.mp h
  exact wpAny_pure (q [] s.drawn (List.Perm.refl _))
 | n+1,[],s,Q,h,q=>by cases h
 | n+1,x::xs,s,Q,h,q=>by
  unfold drawOrder
  refine wpAny_bind (Zw8 (by simp) fun i d hi=>?_)
  rw [List.getElem?_eq_getElem hi]
  dsimp only
  refine wpAny_bind (Zpi n _ _ _ (by rw [List.length_eraseIdx_of_lt hi];simpa using h) fun ys d' hp=>?_)
  exact wpAny_pure (q _ d' ((hp.cons _).trans (Zf1 _ i hi)))
abbrev Itr (first:Value) (i:Nat) (a:Addr) (n ep:Nat):Obj:={ cls:=.type "set_iterator",data:=.fields #[first,.int i 0,.ref a,.int n 0,.int ep 0] }
inductive Md (w:World) (a T:Addr) (es:Array (Int×Value)) (ep:Nat) (t:SetTable) (l:List (Int×Value)) (h:Heap):Value→Nat→Prop where
 | drawn {ps:List Nat} {oT:Obj} {c i:Nat}:h.get? T=some oT→oT.data=.seq (ps.map fun p:Nat=>rawInt p).toArray c→ps.length=l.length→(∀ (j p:Nat),ps[j]?=some p→∃ e,es[p]?=some e∧l[j]?=some e)→Md w a T es ep t l h (.ref T) i
 | text {k i:Nat}:bt w=true→l=(pickOrder (w.params.setOrder a ep) es).toList→Md w a T es ep t l h (.int k 0) i
 | few {k i:Nat}:bt w=false→t.led=true→es.size≤1→l=es.toList→(i=0→k=0)→(∀ j:Nat,i=1→t.place[0]?=some j→k=j+1)→Md w a T es ep t l h (.int k 0) i
structure Wk (w:World) (it a T:Addr) (ob:Obj) (es:Array (Int×Value)) (ep:Nat) (t:SetTable) (l:List (Int×Value)) (i:Nat) (h:Heap):Prop where
 st:∃ first,h.get? it=some (Itr first i a es.size ep)∧Md w a T es ep t l h first i
 ob:h.get? a=some ob
theorem Md.at {w:World} {a T:Addr} {es:Array (Int×Value)} {ep:Nat} {t:SetTable} {l:List (Int×Value)} {h h':Heap} {v:Value} {i:Nat} (M:Md w a T es ep t l h v i) (k:∀ o,h.get? T=some o→h'.get? T=some o):Md w a T es ep t l h' v i:=by
 cases M with
 | drawn h1 h2 h3 h4=>exact .drawn (k _ h1) h2 h3 h4
 | text h1 h2=>exact .text h1 h2
 | few h1 h2 h3 h4 h5 h6=>exact .few h1 h2 h3 h4 h5 h6
theorem Zos {h:Heap} {it a:Addr} {first:Value} {i n ep:Nat} (e:h.get? it=some (Itr first i a n ep)) (j:Nat):(h.update it (Obj.mapFields (·.setIfInBounds 1 (rawInt j)))).get? it=some (Itr first j a n ep):=by
 have hz:=Heap.get?_update_self (Obj.mapFields (·.setIfInBounds 1 (rawInt j))) e (Obj.isFreed_of_fields (Obj.data_mapFields rfl _))
 rw [hz];rfl
theorem ZgJ {h:Heap} {it a:Addr} {first:Value} {i n ep:Nat} (e:h.get? it=some (Itr first i a n ep)) (v:Value):(h.update it (Obj.mapFields (·.setIfInBounds 0 v))).get? it=some (Itr v i a n ep):=by
 have hz:=Heap.get?_update_self (Obj.mapFields (·.setIfInBounds 0 v)) e (Obj.isFreed_of_fields (Obj.data_mapFields rfl _))
 rw [hz];rfl
end
end L3
namespace L3
open PySem PySem.Spec PyProof.Rows L2
section
variable {prog:Program} {w:World} {A:Around} {E:Value→Shared→Prop} {s:Shared}
theorem Zky (j k:Nat):SetTable.below #[j] k=if j < k then 1 else 0:=by
 show SetTable.below.go #[j] k 1 0 1=_
 unfold SetTable.below.go
 simp only [Nat.zero_lt_one,if_true]
 show (if j < k then SetTable.below.go #[j] k 0 1 1 else SetTable.below.go #[j] k 0 0 0)=_
 rfl
theorem ZgL {α:Type} {xs:Array α} (h:xs.size≤1):xs=#[]∨∃ x,xs=#[x]:=by
 obtain ⟨l⟩:=xs
 match l,h with
 | [],_=>exact .inl rfl
 | [x],_=>exact .inr ⟨x,rfl⟩
theorem ZoL {it a T:Addr} {ob:Obj} {es:Array (Int×Value)} {ep:Nat} {t:SetTable} {ks:List Str} {l:List (Int×Value)} {i:Nat} {e:Int×Value} {Q:Option Value→Shared→Prop} (hx:ob.ExactSet) (hd:ob.data=.set es ep t) (Tb:Tab w es t ks) (hia:a≠it) (hiT:T≠it) (S:Wk w it a T ob es ep t l i s.heap) (hl:l[i]?=some e)
  (hQ:∀ h',Wk w it a T ob es ep t l (i+1) h'→Heap.SameBut it s.heap h'→Q (some e.2) { s with heap:=h' }):wpAny (model prog w) A (pyNext (.ref it)) Q E s:=by
 obtain ⟨⟨first,hi,M⟩,ho⟩:=S
 have hT:s.TypeIs (.ref it) "set_iterator":=⟨_,hi,rfl⟩
 unfold pyNext
 refine wpAny_bind (wpAny_attempt (wpAny_callSpecial?_slot (name:=Str.ofString "__next__") hT Zfb (wpAny_call_entry Zfb hT Zmk ?_ (ZoG _))))
 unfold Builtin.«set_iterator.__next__»
 refine wpAny_bind (wpAny_pure (a:=(Value.ref it,([]:List Value))) ?_)
 refine wpAny_bind (wpAny_fieldsOf hi rfl ?_)
 dsimp only
 refine wpAny_bind (wpAny_setEntries_of ho hd Tb.ft ?_)
 rw [if_neg (by simp)]
 have two:∀ (v:Value),Md w a T es ep t l s.heap v (i+1)→Q (some e.2) { s with heap:=(s.heap.update it (Obj.mapFields (·.setIfInBounds 0 v))).update it (Obj.mapFields (·.setIfInBounds 1 (rawInt (i+1)))) }:=fun v M'=>by
  have sb:=(Heap.SameBut.update s.heap it (Obj.mapFields (·.setIfInBounds 0 v))).trans (Heap.SameBut.update _ it (Obj.mapFields (·.setIfInBounds 1 (rawInt (i+1)))))
  refine hQ _ ⟨⟨v,Zos (ZgJ hi v) (i+1),M'.at fun o z=>by rw [sb.2 T hiT];exact z⟩,by rw [sb.2 a hia];exact ho⟩ sb
 cases M with
 | drawn h1 h2 h3 h4 =>
  rename_i ps oT c
  obtain ⟨p,hp⟩:∃ p,ps[i]?=some p:=by
   obtain ⟨hlt,_⟩:=List.getElem?_eq_some_iff.mp hl
   exact ⟨_,List.getElem?_eq_getElem (by omega)⟩
  obtain ⟨e',he,hl'⟩:=h4 i p hp
  obtain rfl:e'=e:=Option.some.inj (hl'.symm.trans hl)
  dsimp only
  refine wpAny_bind (wpAny_seqItems h1 h2 ?_)
  dsimp only
  have hq:(ps.map fun p:Nat=>rawInt p).toArray[(Int.ofNat i).toNat]?=some (rawInt p):=by
   simp [hp]
  have hq':(ps.map fun p:Nat=>rawInt p).toArray[((i:Int)).toNat]?=some (.int (p:Int) 0):=hq
  rw [hq']
  dsimp only
  refine wpAny_bind ?_
  unfold setNextDrawn
  refine wpAny_bind (wpAny_setState_of ho hd Tb.ft ?_)
  dsimp only
  rw [if_neg (by simp)]
  rw [show ((p:Int)).toNat=p from Int.toNat_natCast p,he]
  dsimp only
  refine wpAny_pure (wpAny_bind (wpAny_setField hi rfl (by simp) (wpAny_pure ⟨_,rfl,wpAny_pure ?_⟩)))
  have sb:=Heap.SameBut.update s.heap it (Obj.mapFields (·.setIfInBounds 1 (rawInt (i+1))))
  exact hQ _ ⟨⟨_,Zos hi (i+1),.drawn (by rw [sb.2 T hiT];exact h1) h2 h3 h4⟩,by rw [sb.2 a hia];exact ho⟩ sb
 | text h1 h2 =>
  rename_i k
  dsimp only
  refine wpAny_bind ?_
  unfold setNext
  refine wpAny_bind (wpAny_setState_of ho hd Tb.ft ?_)
  dsimp only
  unfold setsByText
  refine wpAny_bind (wpAny_bind (wpAny_askSetting (wpAny_pure ?_)))
  show wpAny (model prog w) _ (if bt w=true then _ else _) _ _ s
  rw [if_pos h1,if_neg (by simp)]
  unfold setWalk
  refine wpAny_bind (wpAny_bind (wpAny_setState_of ho hd Tb.ft ?_))
  dsimp only
  unfold setsByText
  refine wpAny_bind (wpAny_bind (wpAny_askSetting (wpAny_pure ?_)))
  show wpAny (model prog w) _ (if bt w=true then _ else _) _ _ s
  rw [if_pos h1]
  refine wpAny_bind (wpAny_askSetting (wpAny_pure ?_))
  subst h2
  rw [Array.getElem?_toList] at hl
  show wpAny (model prog w) _ (pure (((pickOrder (w.params.setOrder a ep) es)[((i:Int)).toNat]?).map _)) _ _ s
  rw [show ((i:Int)).toNat=i from Int.toNat_natCast i,hl]
  refine wpAny_pure ?_
  dsimp only [Option.map_some]
  refine wpAny_bind (wpAny_setField hi rfl (by simp) ?_)
  refine wpAny_bind (wpAny_setField (ZgJ hi _) rfl (by simp) (wpAny_pure ⟨_,rfl,wpAny_pure ?_⟩))
  exact two _ (.text h1 rfl)
 | few h1 h2 h3 h4 h5 h6 =>
  rename_i k
  subst h4
  rw [Array.getElem?_toList] at hl
  have hft:=Tb.ft
  rcases ZgL h3 with z | ⟨x,z⟩
  ·rw [z] at hl;simp at hl
  ·rw [z] at hl
   have hi0:i=0:=by
    obtain ⟨hlt,_⟩:=Array.getElem?_eq_some_iff.mp hl
    simpa using hlt
   subst hi0
   obtain rfl:x=e:=by simpa using hl
   obtain rfl:=h5 rfl
   have hps:t.place.size=1:=by
    unfold SetTable.fits at hft
    rw [z] at hft
    simp only [Bool.and_eq_true,beq_iff_eq] at hft
    exact hft.1
   obtain ⟨j,hj⟩:∃ j,t.place=#[j]:=by
    rcases ZgL (by omega:t.place.size≤1) with q | q
    ·rw [q] at hps;cases hps
    ·exact q
   dsimp only
   refine wpAny_bind ?_
   unfold setNext
   refine wpAny_bind (wpAny_setState_of ho hd Tb.ft ?_)
   dsimp only
   unfold setsByText
   refine wpAny_bind (wpAny_bind (wpAny_askSetting (wpAny_pure ?_)))
   show wpAny (model prog w) _ (if bt w=true then _ else _) _ _ s
   rw [if_neg (by rw [h1];decide)]
   show wpAny (model prog w) _ (if (!t.plain&&decide (es.size > 1))=true then _ else _) _ _ s
   rw [if_neg (by have:¬ es.size > 1:=by omega
                  simp [this])]
   refine wpAny_bind ?_
   show wpAny (model prog w) _ (if (!t.led&&!es.isEmpty)=true then _ else pure ()) _ _ s
   rw [if_neg (by rw [h2];simp)]
   refine wpAny_pure ?_
   show wpAny (model prog w) _ (pure (match es[SetTable.below t.place 0]?,t.place[SetTable.below t.place 0]? with | some (_,x),some j=>some (x,j+1) | _,_=>none)) _ _ s
   rw [hj,Zky,if_neg (by omega),z]
   refine wpAny_pure ?_
   refine wpAny_bind (wpAny_setField hi rfl (by simp) ?_)
   refine wpAny_bind (wpAny_setField (ZgJ hi _) rfl (by simp) (wpAny_pure ⟨_,rfl,wpAny_pure ?_⟩))
   refine two _ (.few (k:=j+1) h1 h2 h3 rfl (fun q=>by cases q) fun j' _ q=>?_)
   rw [hj] at q
   have:j=j':=by simpa using q
   omega
end
end L3
set_option Elab.async false
set_option linter.all false
set_option maxRecDepth 100000
set_option maxHeartbeats 4000000
namespace L3
open PySem PySem.Spec PyProof.Rows L2
section
variable {prog:Program} {w:World} {A:Around} {E:Value→Shared→Prop} {s:Shared}
theorem Zlb {it:Addr} {h0 h1:Heap} {R:Fin→Shared→Prop} {Q:Option Value→Shared→Prop} (hh:A.handled=none) (x:Heap.ExtBut it h0 h1) (hQ:∀ h',Heap.ExtBut it h0 h'→Q none { s with heap:=h' }) :
  wpAny (model prog w) A.in1 (do let e ← newExc (.type "StopIteration") [];raiseNew e) R (fun e s'=>wpAny (model prog w) A (do let b ← isInstance e (.type "StopIteration");if b=true then pure none else throw e) Q E s') { s with heap:=h1 }:=by
 refine wpAny_bind ?_
 simp only [newExc,newTuple]
 refine wpAny_bind (wpAny_newObj_type ?_ (by size_fits))
 refine wpAny_bind (m:=firstArgMember _ _) (wpAny_of_eq (a:=Value.none) (by first | rfl | (simp only [firstArgMember];rfl)) (wpAny_newObj_type ?_ (by size_fits)))
 simp only [raiseNew]
 refine wpAny_bind (wpAny_handled ?_)
 rw [show A.in1.handled=none from hh]
 refine wpAny_bind (wpAny_pure (wpAny_throw ?_));refine wpAny_bind (wpAny_isInstance (T:="StopIteration") (b:=true) ⟨_,Heap.get?_push_size _ rfl,rfl⟩ isSubtype_stop ?_)
 exact wpAny_pure (hQ _ ((x.push _).push _))
theorem Znh {it a T:Addr} {ob:Obj} {es:Array (Int×Value)} {ep:Nat} {t:SetTable} {ks:List Str} {l:List (Int×Value)} {i:Nat} {Q:Option Value→Shared→Prop} (hh:A.handled=none) (hx:ob.ExactSet) (hd:ob.data=.set es ep t) (Tb:Tab w es t ks) (S:Wk w it a T ob es ep t l i s.heap) (hl:l.length=i) (hes:es.size=i)
  (hQ:∀ h',Heap.ExtBut it s.heap h'→Q none { s with heap:=h' }):wpAny (model prog w) A (pyNext (.ref it)) Q E s:=by
 obtain ⟨⟨first,hi,M⟩,ho⟩:=S
 have hT:s.TypeIs (.ref it) "set_iterator":=⟨_,hi,rfl⟩
 unfold pyNext
 refine wpAny_bind (wpAny_attempt (wpAny_callSpecial?_slot (name:=Str.ofString "__next__") hT Zfb (wpAny_call_entry Zfb hT Zmk ?_ (ZoG _))))
 unfold Builtin.«set_iterator.__next__»
 refine wpAny_bind (wpAny_pure (a:=(Value.ref it,([]:List Value))) ?_)
 refine wpAny_bind (wpAny_fieldsOf hi rfl ?_)
 dsimp only
 refine wpAny_bind (wpAny_setEntries_of ho hd Tb.ft ?_)
 rw [if_neg (by simp)]
 have e1:((i:Int)).toNat=i:=Int.toNat_natCast i
 cases M with
 | drawn h1 h2 h3 h4 =>
  rename_i ps oT c
  dsimp only
  refine wpAny_bind (wpAny_seqItems h1 h2 ?_)
  dsimp only
  have hq:(ps.map fun p:Nat=>rawInt p).toArray[((i:Int)).toNat]?=none:=by
   rw [e1];simp;omega
  rw [hq]
  dsimp only
  refine wpAny_bind (wpAny_setField hi rfl (by simp) ?_)
  refine wpAny_bind (wpAny_setField (ZgJ hi _) rfl (by simp) ?_)
  exact Zlb hh ((Heap.SameBut.update s.heap it (Obj.mapFields (·.setIfInBounds 0 (rawInt 0)))).trans (Heap.SameBut.update _ it _)).extBut hQ
 | text h1 h2 =>
  rename_i k
  dsimp only
  refine wpAny_bind ?_
  unfold setNext
  refine wpAny_bind (wpAny_setState_of ho hd Tb.ft ?_)
  dsimp only
  unfold setsByText
  refine wpAny_bind (wpAny_bind (wpAny_askSetting (wpAny_pure ?_)))
  show wpAny (model prog w) _ (if bt w=true then _ else _) _ _ s
  rw [if_pos h1,if_neg (by simp)]
  unfold setWalk
  refine wpAny_bind (wpAny_bind (wpAny_setState_of ho hd Tb.ft ?_))
  dsimp only
  unfold setsByText
  refine wpAny_bind (wpAny_bind (wpAny_askSetting (wpAny_pure ?_)))
  show wpAny (model prog w) _ (if bt w=true then _ else _) _ _ s
  rw [if_pos h1]
  refine wpAny_bind (wpAny_askSetting (wpAny_pure ?_))
  show wpAny (model prog w) _ (pure (((pickOrder (w.params.setOrder a ep) es)[((i:Int)).toNat]?).map _)) _ _ s
  have hn:(pickOrder (w.params.setOrder a ep) es)[i]?=none:=by
   rw [← Array.getElem?_toList,← h2]
   exact List.getElem?_eq_none (by omega)
  rw [e1,hn]
  refine wpAny_pure ?_
  dsimp only [Option.map_none]
  refine wpAny_bind (wpAny_setField hi rfl (by simp) ?_)
  exact Zlb hh (Heap.SameBut.update s.heap it _).extBut hQ
 | few h1 h2 h3 h4 h5 h6 =>
  rename_i k
  have hft:=Tb.ft
  have hnone:es[SetTable.below t.place k]?=none:=by
   refine Array.getElem?_eq_none ?_
   rcases ZgL h3 with z | ⟨x,z⟩
   ·rw [z];exact Nat.zero_le _
   ·have hps:t.place.size=1:=by
     unfold SetTable.fits at hft
     rw [z] at hft
     simp only [Bool.and_eq_true,beq_iff_eq] at hft
     exact hft.1
    obtain ⟨j,hj⟩:∃ j,t.place=#[j]:=by
     rcases ZgL (by omega:t.place.size≤1) with q | q
     ·rw [q] at hps;cases hps
     ·exact q
    have hi1:i=1:=by rw [← hes,z];rfl
    have:=h6 j hi1 (by rw [hj];rfl)
    rw [hj,this,Zky,if_pos (by omega),z]
    exact Nat.le_refl _
  dsimp only
  refine wpAny_bind ?_
  unfold setNext
  refine wpAny_bind (wpAny_setState_of ho hd Tb.ft ?_)
  dsimp only
  unfold setsByText
  refine wpAny_bind (wpAny_bind (wpAny_askSetting (wpAny_pure ?_)))
  show wpAny (model prog w) _ (if bt w=true then _ else _) _ _ s
  rw [if_neg (by rw [h1];decide)]
  show wpAny (model prog w) _ (if (!t.plain&&decide (es.size > 1))=true then _ else _) _ _ s
  rw [if_neg (by have:¬ es.size > 1:=by omega
                 simp [this])]
  refine wpAny_bind ?_
  show wpAny (model prog w) _ (if (!t.led&&!es.isEmpty)=true then _ else pure ()) _ _ s
  rw [if_neg (by rw [h2];simp)]
  refine wpAny_pure ?_
  show wpAny (model prog w) _ (pure (match es[SetTable.below t.place ((k:Int)).toNat]?,t.place[SetTable.below t.place ((k:Int)).toNat]? with | some (_,x),some j=>some (x,j+1) | _,_=>none)) _ _ s
  rw [show ((k:Int)).toNat=k from Int.toNat_natCast k,hnone]
  refine wpAny_pure ?_
  refine wpAny_bind (wpAny_setField hi rfl (by simp) ?_)
  exact Zlb hh (Heap.SameBut.update s.heap it _).extBut hQ
theorem Zot:Slot "set_iterator" "__iter__" "set_iterator.__iter__":=.of (owner:="set_iterator") (n:="__iter__") (by rw [typeLookup_type,builtinLookup_eq_fast];kernel_rfl) (by decide +kernel) (by decide +kernel) (by decide +kernel) (by first | exact .inl (by decide +kernel) | exact .inr (by decide +kernel)) (by rw [isSubtype_type];kernel_rfl)
theorem ZpW:entryFor table "set_iterator.__iter__"=some Builtin.«dict_keyiterator.__iter__»:=entryFor_alias (id':="dict_keyiterator.__iter__") (by kernel_rfl) rfl (by decide +kernel) (by kernel_rfl)
theorem ZsU (a:Value):argsOk "set_iterator.__iter__" ⟨[a],[]⟩:=by unfold argsOk;kernel_rfl
theorem Zn2 {it a T:Addr} {ob:Obj} {es:Array (Int×Value)} {ep:Nat} {t:SetTable} {ks:List Str} {l:List (Int×Value)} (hh:A.handled=none) (hx:ob.ExactSet) (hd:ob.data=.set es ep t) (Tb:Tab w es t ks) (hia:a≠it) (hiT:T≠it) (hl:l.length=es.size) :
  Walks prog w A it [it,a,T] [it] es.size (fun i v=>∃ e,l[i]?=some e∧v=e.2) (fun i h=>Wk w it a T ob es ep t l i h) where
 sub:=fun b hb=>by simp at hb;simp [hb]
 frame:=fun _ _ _ st hk=>by
  obtain ⟨⟨first,hi,M⟩,ho⟩:=st
  exact ⟨⟨first,hk it (by simp) _ hi,M.at fun o e=>hk T (by simp) o e⟩,hk a (by simp) _ ho⟩
 item:=fun i s Q E hi st hQ=>by
  obtain ⟨e,he⟩:∃ e,l[i]?=some e:=⟨_,List.getElem?_eq_getElem (by omega)⟩
  refine ZoL hx hd Tb hia hiT st he fun h' W hs'=>?_
  exact hQ _ h' s.toks ⟨e,he,rfl⟩ W (fun b o hb z=>hs'.extBut b o (fun h=>hb (by simp [h])) z)
 done:=fun s Q E st hQ=>Znh hh hx hd Tb st hl rfl fun h' he'=>hQ h' s.toks fun b o hb e=>he' b o (fun h=>hb (by simp [h])) e
 self:=fun _ s Q E st hQ=>by
  obtain ⟨⟨first,hi,M⟩,ho⟩:=st
  have hT:s.TypeIs (.ref it) "set_iterator":=⟨_,hi,rfl⟩
  refine wpAny_pyIter_slot hT Zot (wpAny_call_entry Zot hT ZpW (wpAny_pure ⟨_,rfl,"set_iterator",_,hT,Zfb.lookup,hQ⟩) (ZsU _))
end
end L3
namespace L3
open PySem PySem.Spec PyProof.Rows L2
theorem ZrO {α:Type} {es:Array α}:∀ {ys:List Nat},(∀ p∈ys,p < es.size)→(ys.filterMap (es[·]?)).length=ys.length∧∀ (j p:Nat),ys[j]?=some p→∃ e,es[p]?=some e∧(ys.filterMap (es[·]?))[j]?=some e
 | [],_=>⟨rfl,fun j p h=>by simp at h⟩
 | y::ys,h=>by
  have hy:es[y]?=some (es[y]'(h y List.mem_cons_self)):=Array.getElem?_eq_getElem _
  obtain ⟨h1,h2⟩:=ZrO (ys:=ys) fun p hp=>h p (List.mem_cons_of_mem _ hp)
  rw [List.filterMap_cons,hy]
  refine ⟨by simp [h1],fun j p hj=>?_⟩
  cases j with
  | zero =>
   simp only [List.getElem?_cons_zero,Option.some.injEq] at hj
   subst hj
   exact ⟨_,hy,rfl⟩
  | succ j =>
   simp only [List.getElem?_cons_succ] at hj ⊢
   exact h2 j p hj
section
variable {prog:Program} {w:World} {A:Around} {E:Value→Shared→Prop} {s:Shared}
theorem Zp2 {a:Addr} {ob:Obj} {es:Array (Int×Value)} {ep:Nat} {t:SetTable} {ks:List Str} {Q:Value→Shared→Prop} (ho:s.heap.get? a=some ob) (hx:ob.ExactSet) (hd:ob.data=.set es ep t) (Tb:Tab w es t ks) (hn:ks.length < scanBound)
  (h:∀ it T l h' d,s.heap.objs.size≤it→T≠it→(T=a∨s.heap.objs.size≤T)→(∀ c o,s.heap.get? c=some o→h'.get? c=some o)→Wk w it a T ob es ep t l 0 h'→l.Perm es.toList→T < h'.objs.size→it < h'.objs.size→Q (.ref it) { s with heap:=h',drawn:=d }):wpAny (model prog w) A (pyIter (.ref a)) Q E s:=by
 have hT:s.TypeIs (.ref a) "set":=⟨ob,ho,hx.1⟩
 have hlt:a < s.heap.objs.size:=Heap.lt_size ho
 have hz:=Tb.len
 refine wpAny_pyIter_slot hT Zo1 (wpAny_call_entry Zo1 hT ZqT ?_ (ZtD _))
 unfold Builtin.«frozenset.__iter__»
 refine wpAny_bind (m:=Builtin.Frozenset.slot0 "__iter__" ⟨[.ref a],[]⟩) (wpAny_pure (a:=a) ?_)
 refine wpAny_bind (m:=Builtin.Frozenset.sizeOf a) (wpAny_bind (wpAny_setEntries_of ho hd Tb.ft (wpAny_pure ?_)))
 refine wpAny_bind ?_
 unfold setDrawn
 refine wpAny_bind (wpAny_setState_of ho hd Tb.ft ?_)
 dsimp only
 unfold setsByText
 refine wpAny_bind (wpAny_bind (wpAny_askSetting (wpAny_pure ?_)))
 show wpAny (model prog w) _ (pure (!(bt w)&&(!t.plain&&decide (es.size > 1)))) _ _ s
 refine wpAny_pure ?_
 by_cases hc:(!(bt w)&&(!t.plain&&decide (es.size > 1)))=true
 ·rw [if_pos hc]
  refine wpAny_bind (Zpi es.size (List.range es.size) s _ (List.length_range) fun ys d hp=>?_)
  have hyl:ys.length=es.size:=by rw [hp.length_eq,List.length_range]
  refine wpAny_bind (wpAny_newTuple (items:=ys.map fun i:Nat=>rawInt i) ?_ (by rw [List.length_map,hyl,hz];exact fits_of_scanBound hn))
  refine wpAny_bind (wpAny_setEpoch_of (s:={ s with heap:=s.heap.push _,drawn:=d }) (Heap.get?_push_of_some _ ho) hd Tb.ft ?_)
  simp only [newFields]
  refine wpAny_bind (wpAny_newObj_type ?_ (by show (5:Nat)≤sizeLine+2;decide))
  refine wpAny_pure ⟨_,rfl,"set_iterator",_,⟨_,Heap.get?_push_size _ rfl,rfl⟩,Zfb.lookup,?_⟩
  obtain ⟨hpl,hpj⟩:=ZrO (es:=es) (ys:=ys) fun p z=>List.mem_range.mp (hp.mem_iff.mp z)
  have hperm:(ys.filterMap (es[·]?)).Perm es.toList:=by
   have hz2:=L3.Tb.order_perm es ys.toArray (by simpa using hp)
   simpa using hz2
  refine h _ s.heap.objs.size (ys.filterMap (es[·]?)) _ d ?_ ?_ (.inr (Nat.le_refl _)) (fun c o e=>Heap.get?_push_of_some _ (Heap.get?_push_of_some _ e)) ⟨⟨_,Heap.get?_push_size _ rfl,.drawn (Heap.get?_push_of_some _ (Heap.get?_push_size _ rfl)) rfl hpl.symm hpj⟩,Heap.get?_push_of_some _ (Heap.get?_push_of_some _ ho)⟩ hperm ?_ ?_
  ·rw [Heap.size_push];exact Nat.le_succ _
  ·rw [Heap.size_push];exact Nat.ne_of_lt (Nat.lt_succ_self _)
  ·rw [Heap.size_push,Heap.size_push];exact Nat.lt_succ_of_lt (Nat.lt_succ_self _)
  ·simp only [Heap.size_push];exact Nat.lt_succ_self _
 ·rw [if_neg hc]
  refine wpAny_bind (wpAny_pure ?_)
  refine wpAny_bind (wpAny_setEpoch_of ho hd Tb.ft ?_)
  simp only [newFields]
  refine wpAny_bind (wpAny_newObj_type ?_ (by show (5:Nat)≤sizeLine+2;decide))
  refine wpAny_pure ⟨_,rfl,"set_iterator",_,⟨_,Heap.get?_push_size _ rfl,rfl⟩,Zfb.lookup,?_⟩
  have fin:∀ l,l.Perm es.toList→Md w a a es ep t l (s.heap.push (Itr (rawInt 0) 0 a es.size ep)) (rawInt 0) 0→Q (.ref s.heap.objs.size) { s with heap:=s.heap.push (Itr (rawInt 0) 0 a es.size ep) }:=fun l hp M =>
   h _ a l _ s.drawn (Nat.le_refl _) (Nat.ne_of_lt hlt) (.inl rfl) (fun c o e=>Heap.get?_push_of_some _ e) ⟨⟨_,Heap.get?_push_size _ rfl,M⟩,Heap.get?_push_of_some _ ho⟩ hp (by rw [Heap.size_push];exact Nat.lt_succ_of_lt hlt) (by rw [Heap.size_push];exact Nat.lt_succ_self _)
  by_cases hb:bt w=true
  ·exact fin _ (ZjV _ _) (.text (k:=0) hb rfl)
  ·have hb':bt w=false:=by simpa using hb
   have h1:es.size≤1:=by
    rw [hb'] at hc
    simp only [Bool.not_false,Bool.true_and,Bool.and_eq_true,decide_eq_true_eq,not_and] at hc
    cases hpl:t.plain with
    | true=>have:=Tb.pl hpl;subst this;rw [hz];decide
    | false=>have:=hc (by rw [hpl];rfl);omega
   exact fin es.toList (List.Perm.refl _) (.few (k:=0) hb' (Tb.ld hb') h1 rfl (fun _=>rfl) fun j z=>by cases z)
end
end L3
namespace L3
open PySem PySem.Spec PyProof.Rows L2
theorem Zqw:Slot "set" "__len__" "set.__len__":=.of (owner:="set") (n:="__len__") (by rw [typeLookup_type,builtinLookup_eq_fast];kernel_rfl) (by decide +kernel) (by decide +kernel) (by decide +kernel) (by first | exact .inl (by decide +kernel) | exact .inr (by decide +kernel)) (by rw [isSubtype_type];kernel_rfl)
section
variable {prog:Program} {w:World} {A:Around} {E:Value→Shared→Prop} {s:Shared}
theorem ZpK {a:Addr} {Q:Bool→Shared→Prop} (hT:s.TypeIs (.ref a) "set") (q:Q false s):wpAny (model prog w) A (Builtin.List.listLengthHint (.ref a)) Q E s:=by
 unfold Builtin.List.listLengthHint
 refine wpAny_bind (wpAny_specialOf hT Zqw.lookup ?_)
 have hs:splitId "set.__len__"=some ("set","__len__"):=by kernel_rfl
 dsimp only
 rw [hs]
 dsimp only
 refine wpAny_bind (wpAny_isInstance hT sub_set_self ?_)
 rw [if_neg (by decide)]
 show wpAny (model prog w) A (if _=true then _ else _) Q E s
 rw [if_pos (by decide +kernel)]
 refine wpAny_bind (wpAny_typeOf hT ?_)
 exact wpAny_pure q
theorem Zk3 {a:Addr} {ks:List Str} {Q:List Value→Shared→Prop} (hh:A.handled=none) (hS:SS w s.heap a ks) (hn:ks.length < scanBound)
  (h:∀ (s':Shared) (vs:List Value) (xs:List Str),StrsAre vs xs→xs.Perm ks→(∀ c o,c < s.heap.objs.size→s.heap.get? c=some o→s'.heap.get? c=some o)→s'.gens=s.gens→s'.os=s.os→s.heap.objs.size≤s'.heap.objs.size→Q vs s'):wpAny (model prog w) A (collect (.ref a)) Q E s:=by
 have hS':=hS
 obtain ⟨ob,es,ep,t,ho,hx,hd,T⟩:=hS
 have hz:=T.len
 have hlt:a < s.heap.objs.size:=Heap.lt_size ho
 unfold collect
 refine wpAny_bind (wpAny_runValue (codeAny_builtin PySem.F.entry_proto_collect ?_));rw [Around.under_plainId PySem.F.plain_proto_collect _]
 refine wpAny_bind (m:=newList []) (wpAny_newList ?_ (Nat.zero_le _))
 refine wpAny_pure ⟨plainId_quiet PySem.F.plain_list_iadd _,codeAny_builtin PySem.F.entry_list_iadd ?_⟩;rw [Around.under_plainId PySem.F.plain_list_iadd _]
 have hne:s.heap.objs.size≠a:=Ne.symm (Nat.ne_of_lt hlt)
 have ho1:(s.heap.push (seqObj "list" #[] 0)).get? a=some ob:=Heap.get?_push_of_some _ ho
 have hT1:Shared.TypeIs { s with heap:=s.heap.push (seqObj "list" #[] 0) } (.ref a) "set":=⟨ob,ho1,hx.1⟩
 refine (?_:wpAny (model prog w) A.in1 (Builtin.List.listExtendWith (.ref s.heap.objs.size) (.ref a) (.ref s.heap.objs.size)) _ _ { s with heap:=s.heap.push (seqObj "list" #[] 0) })
 unfold Builtin.List.listExtendWith
 refine wpAny_bind (wpAny_typeOf hT1 ?_)
 have c1:Builtin.List.listSameRef (.ref s.heap.objs.size) (.ref a)=false:=by simp [Builtin.List.listSameRef,hne]
 have c2:(Value.type "set"==Value.type "list")=false:=by decide
 have c3:(Value.type "set"==Value.type "tuple")=false:=by decide
 simp only [c1,c2,c3,Bool.or_false,Bool.false_eq_true,if_false]
 refine wpAny_bind (Zp2 ho1 hx hd T hn fun it Tp l h' d hit hTit hTa keep W hp hTl hil=>?_)
 obtain ⟨⟨first,hi,M⟩,hob⟩:=id W
 have hT2:Shared.TypeIs { s with heap:=h',drawn:=d } (.ref a) "set":=⟨ob,hob,hx.1⟩
 refine wpAny_bind (wpAny_holding (ZpK hT2 ?_))
 refine (?_:wpAny (model prog w) A.in1 (rule "list.extend.makes-room" >>= fun _=>Builtin.List.listTouch (.ref s.heap.objs.size) >>= fun _=>again (.builtin "list.extend.loop" ⟨[.ref s.heap.objs.size,.ref it,.ref s.heap.objs.size],[]⟩)) _ _ { s with heap:=h',drawn:=d })
 refine wpAny_bind (wpAny_rule ?_)
 have hS0:h'.get? s.heap.objs.size=some (seqObj "list" #[] 0):=keep _ _ (Heap.get?_push_size _ rfl)
 refine wpAny_bind (m:=Builtin.List.listTouch (.ref s.heap.objs.size)) (wpAny_bind (m:=updateSeq s.heap.objs.size (·.push .none)) (wpAny_updateSeq (s:={ s with heap:=h',drawn:=d }) hS0 rfl ?_))
 have hS2:=Heap.get?_update_self (Obj.mapSeq (·.push Value.none)) hS0 rfl
 refine (?_:wpAny (model prog w) A.in1 (updateSeq s.heap.objs.size (·.pop)) _ _ _)
 refine wpAny_updateSeq hS2 rfl ?_
 have hS3:=Heap.get?_update_self (Obj.mapSeq (·.pop)) hS2 rfl
 have hit0:s.heap.objs.size < it:=by rw [Heap.size_push] at hit;exact hit
 have hTs:s.heap.objs.size≠Tp:=by
  rcases hTa with e | e
  ·rw [e];exact hne
  ·rw [Heap.size_push] at e;exact Nat.ne_of_lt e
 have hSf:s.heap.objs.size∉[it,a,Tp]:=by
  simp only [List.mem_cons,List.not_mem_nil,or_false,not_or]
  exact ⟨Nat.ne_of_lt hit0,hne,hTs⟩
 have hai:a≠it:=Nat.ne_of_lt (Nat.lt_trans hlt hit0)
 have hll:l.length=es.size:=by rw [hp.length_eq,Array.length_toList]
 have WS:=(Zn2 (prog:=prog) (w:=w) (A:=A.in1) (by simp [hh]) hx hd T hai hTit hll).toS
 have oth:∀ b o,b≠s.heap.objs.size→h'.get? b=some o→((h'.update s.heap.objs.size (Obj.mapSeq (·.push Value.none))).update s.heap.objs.size (Obj.mapSeq (·.pop))).get? b=some o :=
  fun b o hb e=>(Heap.get?_update_other _ _ (Ne.symm hb)).trans ((Heap.get?_update_other _ _ (Ne.symm hb)).trans e)
 refine wpAny_pure ⟨plainId_quiet PySem.F.plain_extend_loop _,codeAny_extend_loopS WS (fits_of_scanBound (by rw [hz];exact hn)) _ hSf _ es.size 0 _ _ _ rfl (Nat.zero_le _)
  ⟨⟨first,oth _ _ (Ne.symm (Nat.ne_of_lt hit0)) hi,M.at fun o e=>oth _ _ (Ne.symm hTs) e⟩,oth _ _ (Ne.symm hne) hob⟩ hS3 (ItemsOf.nil _) fun s' acc c hm hS' hacc=>?_⟩
 refine wpAny_bind (m:=load s.heap.objs.size) (wpAny_load hS' (wpAny_pure ?_))
 have hvs:acc.toList=l.map (·.2):=by
  apply List.ext_getElem?
  intro i
  rw [List.getElem?_map,Array.getElem?_toList]
  by_cases hi':i < acc.size
  ·obtain ⟨e,he,hv⟩:=hacc.2 i _ (Array.getElem?_eq_getElem hi')
   rw [Array.getElem?_eq_getElem hi',he,hv];rfl
  ·rw [Array.getElem?_eq_none (by omega),List.getElem?_eq_none (by rw [hll,← hacc.1];omega)];rfl
 have hall:∀ v∈l.map (·.2),∃ x t,v=Value.str x t:=fun v hv=>by
  obtain ⟨e,he,rfl⟩:=List.mem_map.mp hv
  obtain ⟨x,u,rfl⟩:=T.el e (hp.mem_iff.mp he)
  exact ⟨x,u,rfl⟩
 refine h s' acc.toList ((l.map (·.2)).map strOf) (by rw [hvs];exact strsAre_map _ hall) ?_ (fun b o hb e=>?_) hm.gens hm.os ?_
 ·rw [List.map_map]
  exact ((hp.map _).trans T.pm)
 ·refine hm.heap b o ?_ (oth b o (Nat.ne_of_lt hb) (keep b o (Heap.get?_push_of_some _ e)))
  simp only [List.mem_cons,List.not_mem_nil,or_false,not_or]
  exact ⟨Nat.ne_of_lt hb,Nat.ne_of_lt (Nat.lt_trans hb hit0)⟩
 ·exact Nat.le_of_lt (Heap.lt_size hS')
theorem ZmP {a:Addr} {ks:List Str} {Q:Value→Shared→Prop} (hh:A.handled=none) (hS:SS w s.heap a ks) (hn:ks.length < 64)
  (h:∀ (s':Shared) (p:Addr) (vs:List Value) (xs:List Str) (e:Nat),s.heap.objs.size≤p→s'.heap.get? p=some (seqObj "list" vs.toArray e)→StrsAre vs xs→xs.Perm ks→sortedS xs=true→(∀ c o,c < s.heap.objs.size→s.heap.get? c=some o→s'.heap.get? c=some o)→s'.gens=s.gens→s'.os=s.os→Q (.ref p) s') :
  wpAny (model prog w) A (call (.builtin "sorted") [.ref a]) Q E s:=by
 refine Calls.call_function_entry kind_sorted plain_sorted entry_sorted (args_sorted1 _) ?_;unfold Builtin.«sorted»
 refine wpAny_bind (m:=checkCount "sorted" 1 1 _) (wpAny_pure ?_)
 refine wpAny_bind (Zk3 (by simp [hh]) hS (by unfold scanBound;omega) fun s1 vs xs hv hp keep hg hos hsz=>?_)
 have hvl:vs.length < 64:=by rw [hv.length,hp.length_eq];exact hn
 refine wpAny_bind (wpAny_newList ?_ (by have:(64:Nat)≤sizeLine:=by decide
                                         omega))
 have hoL:(s1.heap.push (seqObj "list" vs.toArray 0)).get? s1.heap.objs.size=some (seqObj "list" vs.toArray 0):=Heap.get?_push_size _ rfl
 refine wpAny_bind (wpAny_holding (wpAny_call_entry slot_list_sort ⟨_,hoL,rfl⟩ entry_list_sort (list_sort_treeK (s:={ s1 with heap:=s1.heap.push (seqObj "list" vs.toArray 0) }) strKind_oneLt hoL hv.keysOf (fun v1 v2 r e=>keyKind_strs (by rw [← e];exact hv)) hvl fun st' a1 a2=>⟨_,rfl,?_⟩) (args_list_sort _)))
 obtain ⟨xs',hv',hp',hs'⟩:=sorted_out_str hv a1 a2
 obtain ⟨e,he⟩:=sortedHeap_at (n:=0) (vs:=vs) (out:=(arrOf st').map (·.2)) hoL
 refine wpAny_pure ⟨_,rfl,h _ _ ((arrOf st').map (·.2)).toList xs' e hsz (by rw [Array.toArray_toList];exact he) hv' (hp'.trans hp) hs' (fun c o hc z=>?_) hg hos⟩
 rw [sortedHeap_old (Nat.ne_of_lt (Nat.lt_of_lt_of_le hc hsz)) (by rw [Heap.size_push];exact Nat.lt_succ_of_lt (Nat.lt_of_lt_of_le hc hsz))]
 exact Heap.get?_push_of_some _ (keep c o hc z)
end
end L3
namespace L3
open PySem PySem.Spec PyProof.Rows L2
variable {K:PySem.W.Frag} {H H' H2:Hp}
theorem ZhG:∀ {xs:List Str} {its:List Value},Vals (xs.map V.str) its→StrsAre its xs
 | [],_,.nil=>.nil
 | x::xs,_,.cons r rs=>by
  obtain ⟨t,rfl⟩:=r
  exact .cons x t (ZhG rs)
theorem ZjD:∀ {xs:List Str} {its:List Value},StrsAre its xs→Vals (xs.map V.str) its
 | [],_,.nil=>.nil
 | x::xs,_,.cons _ t rs=>.cons ⟨t,rfl⟩ (ZjD rs)
theorem Zc8 {α:Type} [BEq α] [LawfulBEq α]:∀ {ks xs:List α},ks.Nodup→(∀ x∈ks,x∈xs)→ks.length≤xs.length
 | [],xs,_,_=>Nat.zero_le _
 | k::ks,xs,hn,h=>by
  have hk:=List.nodup_cons.mp hn
  have hin:k∈xs:=h k List.mem_cons_self
  have h1:=Zc8 (xs:=xs.erase k) hk.2 fun x hx=>(List.mem_erase_of_ne (fun e=>hk.1 (by rw [← e];exact hx))).mpr (h x (List.mem_cons_of_mem _ hx))
  rw [List.length_erase_of_mem hin] at h1
  have:0 < xs.length:=List.length_pos_of_mem hin
  rw [List.length_cons];omega
section
variable {X:Cx} {e eb:Expr} {p1 p2 p3 q1 q2 q3 qb:Pos} {ta tb:TE}
theorem Zlh {A:Around} {E:Value→Shared→Prop} {s:Shared} {pos:Pos} {Q:List Value→Shared→Prop} (hs:starEach [e] X.env=(false,eval e X.env)::starEach [] X.env) (h:wpAny (model X.prog X.w) A (eval e X.env) (fun v s1=>Q [v] s1) E s):wpAny (model X.prog X.w) A (spliced (backTo pos (starEach [e] X.env))) Q E s:=by
 rw [hs]
 refine Calls.spliced_cons (wpAny_mono h (fun v s1 q=>?_) fun _ _ z=>z)
 exact Calls.spliced_nil q
def ZvJ (K:PySem.W.Frag) (ta tb:TE):TE:=fun σ H Q=>ta σ H fun x H1=>∃ (p:Addr) (xs:List Str),x=.ref p∧SqL K H1 p (xs.map V.str)∧xs.length < 16∧tb σ H1 fun y H2=>∃ (q:Addr) (ys:List Str),y=.ref q∧SqL K H2 q (ys.map V.str)∧ys.length < 16 ∧
 ∀ (zs:List Str) (r:Addr),zs.Nodup→sortedS zs=true→(∀ x,x∈zs↔x∈xs∨x∈ys)→H2 r=none→Q (.ref r) (upd H2 r (.lst (zs.map V.str)))
theorem Zp6 (hc:X.calm=true) (n1:X.mg "sorted"=none) (n2:X.mg "set"=none) (g1:Gl X "sorted") (g2:Gl X "set") (h1:starEach [e] X.env=(false,eval e X.env)::starEach [] X.env) (h2:starEach [eb] X.env=(false,eval eb X.env)::starEach [] X.env)
  (h3:starEach [.BinOp (.Call (.Name "set" p1) [e] [] q1) .BitOr (.Call (.Name "set" p2) [eb] [] q2) qb] X.env=(false,eval (.BinOp (.Call (.Name "set" p1) [e] [] q1) .BitOr (.Call (.Name "set" p2) [eb] [] q2) qb) X.env)::starEach [] X.env) (ha:PE X e ta) (hb:PE X eb tb) :
  PE X (.Call (.Name "sorted" p3) [.BinOp (.Call (.Name "set" p1) [e] [] q1) .BitOr (.Call (.Name "set" p2) [eb] [] q2) qb] [] q3) (ZvJ X.K ta tb):=by
 intro pins s σ H Q I h
 have bS:bootBuiltins "sorted"=some (.builtin "sorted"):=by decide +kernel
 have bT:bootBuiltins "set"=some (.type "set"):=by decide +kernel
 have hh:X.A.handled=none:=I.ok.hd hc
 refine wpAny_Call_Name_kw (Ze3 I g1 n1 bS ?_)
 refine PyProof.Rows.callWith_builtin1 (Zlh h3 ?_) h3 rfl
 refine wpAny_BinOp ?_
 refine wpAny_Call_Name_kw (Ze3 I g2 n2 bT ?_)
 refine PyProof.Rows.callWith_type1 (Zlh h1 ?_) h1 rfl
 refine thn (ha pins s σ H _ I h) fun v s1 zz1=>?_
 obtain ⟨x,H1,I1,r1,p,xs,ex,hq,hn,q1⟩:=zz1
 subst ex
 cases r1
 obtain ⟨its,rv,pl,hz⟩:=I1.list hq
 have hil:its.length=xs.length:=by have:=rv.length;rw [List.length_map] at this;exact this.symm
 refine Zl7 hh pl.isList (by simpa using ZhG rv) (by rw [List.size_toArray,hil];unfold scanBound;omega) fun h' tk ka hA hxa keep=>?_
 have hA':=hA
 obtain ⟨oa,esA,epA,tA,hoA,hxA,hdA,TA⟩:=hA
 have I2:Inv X pins σ H1 { s1 with heap:=h',toks:=tk }:=I1.kept fun b u z=>keep b u (Heap.lt_size z) z
 have I3:Inv X (pins++[(s1.heap.objs.size,oa)]) σ H1 { s1 with heap:=h',toks:=tk }:=I2.pins_of fun p hp=>by
  rcases List.mem_append.mp hp with hp | hp
  ·exact I2.pin p (List.mem_append_right _ hp)
  ·have e:=List.mem_singleton.mp hp
   subst e
   exact ⟨hoA,I1.hok.fresh (Nat.le_refl _),Ne.symm (Nat.ne_of_lt I1.lt),I1.nofs (Nat.le_refl _),fun v z=>by rw [hdA] at z;cases z⟩
 refine wpAny_Call_Name_kw (Ze3 I3 g2 n2 bT ?_)
 refine PyProof.Rows.callWith_type1 (Zlh h2 ?_) h2 rfl
 refine thn (hb _ _ σ H1 _ I3 q1) fun v2 s2 zz2=>?_
 obtain ⟨y,H2,I4,r2,q,ys,ey,hq2,hn2,q2⟩:=zz2
 subst ey
 cases r2
 have hoA2:s2.heap.get? s1.heap.objs.size=some oa:=(I4.pin (s1.heap.objs.size,oa) (List.mem_append_right _ (List.mem_append_right _ (List.mem_singleton.mpr rfl)))).1
 have I5:Inv X pins σ H2 s2:=I4.unpinned
 obtain ⟨its2,rv2,pl2,hz2⟩:=I5.list hq2
 have hil2:its2.length=ys.length:=by have:=rv2.length;rw [List.length_map] at this;exact this.symm
 refine Zl7 hh pl2.isList (by simpa using ZhG rv2) (by rw [List.size_toArray,hil2];unfold scanBound;omega) fun h'' tk2 kb hB hxb keep2=>?_
 have hA2:SS X.w h'' s1.heap.objs.size ka:=⟨oa,esA,epA,tA,keep2 _ _ (Heap.lt_size hoA2) hoA2,hxA,hdA,TA⟩
 have lka:ka.length < 16:=Nat.lt_of_le_of_lt (Zc8 hA'.nd fun x hx=>(hxa x).mp hx) hn
 have lkb:kb.length < 16:=Nat.lt_of_le_of_lt (Zc8 hB.nd fun x hx=>(hxb x).mp hx) hn2
 refine Zwz (s:={ s2 with heap:=h'',toks:=tk2 }) (Nat.ne_of_lt (Heap.lt_size hoA2)) hA2 hB lka lkb fun h3 kc hC hxc keep3=>?_
 have lkc:kc.length < 64:=by
  have:=Zc8 (xs:=ka++kb) hC.nd fun x hx=>List.mem_append.mpr ((hxc x).mp hx)
  rw [List.length_append] at this
  omega
 refine ZmP hh hC lkc fun s' r vs zs en hr hget hv hp hs keep4 hg hos=>?_
 have z1:s2.heap.objs.size < h''.objs.size:=SS.lt (s:={ s2 with heap:=h'' }) hB
 have z2:h''.objs.size < h3.objs.size:=SS.lt (s:={ s2 with heap:=h3 }) hC
 have hr2:s2.heap.objs.size≤r:=Nat.le_of_lt (Nat.lt_of_lt_of_le (Nat.lt_trans z1 z2) hr)
 have kall:∀ b u,s2.heap.get? b=some u→s'.heap.get? b=some u:=fun b u z=>by
  have y1:=keep2 b u (Heap.lt_size z) z
  have y2:=keep3 b u (Heap.lt_size y1) y1
  exact keep4 b u (Heap.lt_size y2) y2
 have hzl:zs.length≤sizeLine:=by
  have:(64:Nat)≤sizeLine:=by decide
  rw [hp.length_eq];omega
 have J:Inv X pins σ (upd H2 r (.lst (zs.map V.str))) { s2 with heap:=s'.heap,toks:=s'.toks }:=I5.laid (t':=s'.toks) kall hr2 (show ObjOk X.prog X.w _ s'.heap r (.lst (zs.map V.str)) from ⟨by rw [List.length_map];exact hzl,vs,en,ZjD hv,hget⟩)
 refine ⟨.ref r,_,⟨J.ok,by rw [hos];exact J.os,by rw [hg];exact J.bare,J.base,J.loc,J.cell,J.free,J.freeC,J.pin,J.hok,J.len⟩,rfl,q2 zs r (hp.nodup_iff.mpr hC.nd) hs (fun x=>?_) (I5.hok.fresh hr2)⟩
 rw [hp.mem_iff,hxc,hxa,hxb]
def Zhn (ga gb:GE):GE:=fun ω G Q=>ga ω G fun x G1=>∃ xs:List Str,Zi9 G1 x=some (xs.map W.str)∧xs.length < 16∧gb ω G1 fun y G2=>∃ ys:List Str,Zi9 G2 y=some (ys.map W.str)∧ys.length < 16 ∧
 ∀ (zs:List Str) (p:Addr),zs.Nodup→sortedS zs=true→(∀ x,x∈zs↔x∈xs∨x∈ys)→G2 p=none→Q (.ref p) (put G2 p (.lst (zs.map W.str)))
theorem Zqt {ga gb:GE} (ma:ga.M) (mb:gb.M):GE.M (Zhn ga gb):=fun ω G Q Q' h q=>ma _ _ _ _ ((by rintro x G1 ⟨xs,h1,h2,q1⟩;exact ⟨xs,h1,h2,mb _ _ _ _ ((by rintro y G2 ⟨ys,h3,h4,q2⟩;exact ⟨ys,h3,h4,fun zs p a b c d=>h _ _ (q2 zs p a b c d)⟩)) q1⟩)) q
theorem ZkU:∀ {xs:List Str} {vs:List V},TrL K H vs (xs.map W.str)→vs=xs.map V.str
 | [],_,.nil=>rfl
 | x::xs,_,.cons t ts=>by
  cases t
  rw [ZkU ts];rfl
theorem Znw:∀ (xs:List Str),TrL K H (xs.map V.str) (xs.map W.str)
 | []=>.nil
 | x::xs=>.cons (.str x) (Znw xs)
theorem Zqi {ga gb:GE} (hc:X.calm=true) (n1:X.mg "sorted"=none) (n2:X.mg "set"=none) (g1:Gl X "sorted") (g2:Gl X "set") (h1:starEach [e] X.env=(false,eval e X.env)::starEach [] X.env) (h2:starEach [eb] X.env=(false,eval eb X.env)::starEach [] X.env)
  (h3:starEach [.BinOp (.Call (.Name "set" p1) [e] [] q1) .BitOr (.Call (.Name "set" p2) [eb] [] q2) qb] X.env=(false,eval (.BinOp (.Call (.Name "set" p1) [e] [] q1) .BitOr (.Call (.Name "set" p2) [eb] [] q2) qb) X.env)::starEach [] X.env) (ha:Em X e ga) (hb:Em X eb gb) :
  Em X (.Call (.Name "sorted" p3) [.BinOp (.Call (.Name "set" p1) [e] [] q1) .BitOr (.Call (.Name "set" p2) [eb] [] q2) qb] [] q3) (Zhn ga gb):=by
 refine ⟨Zbi (Zp6 hc n1 n2 g1 g2 h1 h2 h3 ha.p hb.p) fun σ H Q zz3=>?_,Zqt ha.m hb.m⟩
 obtain ⟨ω,G,ts,rh,q⟩:=zz3
 refine ⟨ω,G,ts,rh,ha.m _ _ _ _ (fun x G1 zz4 v H1 m1 tx r1=>?_) q⟩
 obtain ⟨xs,hx,hn,q1⟩:=zz4
 obtain ⟨a,vs,rfl,rfl,hG,hH,tv⟩:=Zfw r1 tx hx
 obtain rfl:=ZkU tv
 refine ⟨a,xs,rfl,.inl (.inl hH),hn,ω,G1,ts.mono m1,r1,hb.m _ _ _ _ (fun y G2 zz5 u H2 m2 ty r2=>?_) q1⟩
 obtain ⟨ys,hy,hn2,q2⟩:=zz5
 obtain ⟨b,us,rfl,rfl,hG2,hH2,tu⟩:=Zfw r2 ty hy
 obtain rfl:=ZkU tu
 refine ⟨b,ys,rfl,.inl (.inl hH2),hn2,fun zs r z1 z2 z3 z4=>?_⟩
 exact q2 zs r z1 z2 z3 (r2.no z4) _ _ (m1.trans (m2.trans (Mono.new z4 _))) (.ref r) (r2.new z4 (Znw zs))
end
end L3
set_option Elab.async false
set_option linter.all false
set_option maxRecDepth 100000
set_option maxHeartbeats 4000000
namespace L3
open PySem PySem.Spec PyProof.Rows L2
section
variable {prog:Program} {w:World} {A:Around} {E:Value→Shared→Prop} {s:Shared}
theorem Zk4 {it l:Addr} {i:Nat} {xs:Array Value} {x:Value} {Q:Value→Shared→Prop} (u:s.heap.IsTupleIter it l i) (v:s.heap.IsTuple l xs) (hx:xs[i]?=some x) (hQ:∀ h',h'.IsTupleIter it l (i+1)→Heap.SameBut it s.heap h'→Q x { s with heap:=h' }) :
  wpAny (model prog w) A (Builtin.SmallTypes.nextOf (.ref it)) Q E s:=by
 obtain ⟨oi,ei,ci,di⟩:=id u
 obtain ⟨ol,el,_,nl,dl⟩:=v
 unfold Builtin.SmallTypes.nextOf
 refine wpAny_bind (wpAny_callSpecial?_slot (name:=Str.ofString "__next__") u.typeIs PySem.F.slot_tuple_iterator_next (wpAny_call_entry PySem.F.slot_tuple_iterator_next u.typeIs PySem.F.entry_tuple_iterator_next ?_ (PySem.F.args_tuple_iterator_next_1 _)))
 refine wpAny_bind (m:=field (.ref it) 0) (wpAny_field ei di (x:=.ref l) rfl ?_)
 show wpAny (model prog w) _ (if (Value.ref l==Value.none)=true then _ else _) _ E s
 rw [if_neg (show ¬ ((Value.ref l==Value.none)=true) from Bool.false_ne_true)];refine wpAny_bind (m:=field (.ref it) 1) (wpAny_field ei di (x:=.int i 0) rfl ?_)
 refine wpAny_bind (m:=seqItems? (.ref l)) (wpAny_seqItems el dl ?_)
 simp only [Int.toNat_natCast];rw [hx]
 refine wpAny_bind (wpAny_setField ei di (by simp) (wpAny_pure ⟨x,rfl,wpAny_pure (hQ _ ⟨_,Heap.get?_update_self _ ei (Obj.isFreed_of_fields (Obj.data_mapFields di _)),(Obj.cls_mapFields ..).trans ci,?_⟩ (Heap.SameBut.update ..))⟩))
 rw [Obj.data_mapFields di];simp [rawInt]
theorem Zt9 {it l:Addr} {i:Nat} {xs:Array Value} {Q:Value→Shared→Prop} (hh:A.handled=none) (u:s.heap.IsTupleIter it l i) (v:s.heap.IsTuple l xs) (hx:xs[i]?=none)
  (hE:∀ h' e,Heap.ExtBut it s.heap h'→(∃ o,h'.get? e=some o∧o.cls=.type "StopIteration")→E (.ref e) { s with heap:=h' }):wpAny (model prog w) A (Builtin.SmallTypes.nextOf (.ref it)) Q E s:=by
 obtain ⟨oi,ei,ci,di⟩:=id u
 obtain ⟨ol,el,_,nl,dl⟩:=v
 unfold Builtin.SmallTypes.nextOf
 refine wpAny_bind (wpAny_callSpecial?_slot (name:=Str.ofString "__next__") u.typeIs PySem.F.slot_tuple_iterator_next (wpAny_call_entry PySem.F.slot_tuple_iterator_next u.typeIs PySem.F.entry_tuple_iterator_next ?_ (PySem.F.args_tuple_iterator_next_1 _)))
 refine wpAny_bind (m:=field (.ref it) 0) (wpAny_field ei di (x:=.ref l) rfl ?_)
 show wpAny (model prog w) _ (if (Value.ref l==Value.none)=true then _ else _) _ E s
 rw [if_neg (show ¬ ((Value.ref l==Value.none)=true) from Bool.false_ne_true)];refine wpAny_bind (m:=field (.ref it) 1) (wpAny_field ei di (x:=.int i 0) rfl ?_)
 refine wpAny_bind (m:=seqItems? (.ref l)) (wpAny_seqItems el dl ?_)
 simp only [Int.toNat_natCast];rw [hx]
 refine wpAny_bind (wpAny_rule (wpAny_bind (wpAny_setField ei di (by simp) ?_)));refine wpAny_bind (m:=newExc (.type "StopIteration") []) ?_
 simp only [newExc,newTuple]
 refine wpAny_bind (wpAny_newObj_type ?_ (by size_fits));refine wpAny_bind (m:=firstArgMember _ _) (wpAny_of_eq (a:=Value.none) (by first | rfl | (simp only [firstArgMember];rfl)) (wpAny_newObj_type ?_ (by size_fits)))
 simp only [raiseNew]
 refine wpAny_bind (wpAny_handled ?_);rw [show A.in1.handled=none from hh]
 refine wpAny_bind (wpAny_pure (wpAny_throw ?_))
 exact hE _ _ (((Heap.SameBut.update ..).extBut.push _).push _) ⟨_,Heap.get?_push_size _ rfl,rfl⟩
end
end L3
namespace L3
open PySem PySem.Spec PyProof.Rows L2
variable {K:PySem.W.Frag} {H H' H2:Hp}
section
variable {prog:Program} {w:World} {A:Around} {E:Value→Shared→Prop} {s:Shared}
theorem tat {h h':Heap} {a t:Addr} {i:Nat} (x:h.IsTupleIter a t i) (k:∀ o,h.get? a=some o→h'.get? a=some o):h'.IsTupleIter a t i:=by
 obtain ⟨o,e,r⟩:=x
 exact ⟨o,k o e,r⟩
end
theorem Znd {v:V} {xs:List W} (t:Tr K H v (.tup xs)):∃ a vs,v=.ref a∧SqT K H a vs∧TrL K H vs xs:=by
 cases t with
 | tup h l=>exact ⟨_,_,rfl,h,l⟩
end L3
namespace L3
open PySem PySem.Spec PyProof.Rows L2
theorem nA {a b:Nat} (h:a≠b):@Ne Addr a b:=h
abbrev ZkL (h:Heap) (T:Addr) (a b c:Value):Prop:=h.get? T=some { cls:=.type "tuple",data:=.seq #[a,b,c] }
section
variable {prog:Program} {w:World} {A:Around} {E:Value→Shared→Prop} {s:Shared}
theorem Zwq {T:Addr} {a b c x:Value} {k:Nat} {Q:Unit→Shared→Prop} (hT:ZkL s.heap T a b c)
  (h:∀ h',h'.get? T=some { cls:=.type "tuple",data:=.seq ((#[a,b,c]:Array Value).setIfInBounds k x) }→Heap.SameBut T s.heap h'→Q () { s with heap:=h' }) :
  wpAny (model prog w) A (updateSeq T (·.setIfInBounds k x)) Q E s:=by
 refine wpAny_updateSeq hT rfl (h _ ?_ (Heap.SameBut.update ..))
 rw [Heap.get?_update_self _ hT rfl];simp [Obj.mapSeq]
def St3 (n l1 l2 l3:Nat) (f0:Value) (i:Nat) (h:Heap):Prop:=IsZip h (n+5) (n+3) (n+4) f0∧ZkL h (n+3) (.ref n) (.ref (n+1)) (.ref (n+2))∧(∃ a b c,ZkL h (n+4) a b c)∧h.IsListIter n l1 i∧h.IsListIter (n+1) l2 i∧h.IsListIter (n+2) l3 i
end
end L3
set_option Elab.async false
set_option linter.all false
set_option maxRecDepth 100000
set_option maxHeartbeats 4000000
namespace L3
open PySem PySem.Spec PyProof.Rows L2
variable {K:PySem.W.Frag} {H H' H2:Hp}
section
variable {prog:Program} {w:World} {A:Around} {E:Value→Shared→Prop} {s:Shared}
theorem St3.at {n l1 l2 l3:Nat} {f0:Value} {i:Nat} {h h':Heap} (st:St3 n l1 l2 l3 f0 i h) (k:∀ (c:Nat) o,n≤c→c≤n+5→h.get? c=some o→h'.get? c=some o):St3 n l1 l2 l3 f0 i h':=by
 obtain ⟨hz,hTI,⟨a,b,c,hTO⟩,u1,u2,u3⟩:=st
 exact ⟨k _ _ (by omega) (by omega) hz,k _ _ (by omega) (by omega) hTI,⟨a,b,c,k _ _ (by omega) (by omega) hTO⟩,u1.at fun o e=>k _ o (by omega) (by omega) e,u2.at fun o e=>k _ o (by omega) (by omega) e,u3.at fun o e=>k _ o (by omega) (by omega) e⟩
theorem tc3 (a b c:Value):checkTypeCall "zip" ⟨[a,b,c],[]⟩=pure ():=by kernel_rfl
theorem nc3 (a b c:Value):checkBuiltinCall "zip.__new__" ⟨[.type "zip",a,b,c],[]⟩=pure ():=by kernel_rfl
theorem oi4 (a b c d:Value):argsOk "object.__init__" ⟨[a,b,c,d],[]⟩:=by
 unfold argsOk
 rw [signature?_of (o:=['t','c','e','j','b','o']) (n:=['_','_','t','i','n','i','_','_']) (id:="object.__init__") (by kernel_rfl) PySem.F.owner_object]
 kernel_rfl
end
theorem in6 {n b:Nat} (h:b∈[n+5,n+3,n+4,n,n+1,n+2]):n≤b∧b≤n+5:=by
 have h':b=n+5∨b=n+3∨b=n+4∨b=n∨b=n+1∨b=n+2:=by simpa using h
 omega
theorem of6 {n b:Nat} (h1:n≤b) (h2:b≤n+5):b∈[n+5,n+3,n+4,n,n+1,n+2]:=by
 have h':b=n+5∨b=n+3∨b=n+4∨b=n∨b=n+1∨b=n+2:=by omega
 simpa using h'
theorem no6 {n b:Nat} (h:b∉[n+5,n+3,n+4,n,n+1,n+2]):b < n∨n+5 < b:=by
 rcases Nat.lt_or_ge b n with z | z
 ·exact .inl z
 ·exact .inr (Nat.lt_of_not_le fun q=>h (of6 z q))
end L3
namespace L3
open PySem PySem.Spec PyProof.Rows L2
variable {K:PySem.W.Frag} {H H' H2:Hp}
theorem Zwk {a b c:V} {us:List Value} (h:Vals [a,b,c] us):∃ u v w,us=[u,v,w]∧RelV a u∧RelV b v∧RelV c w:=by
 cases h with
 | cons h1 h =>
  cases h with
  | cons h2 h =>
   cases h with
   | cons h3 h=>cases h;exact ⟨_,_,_,rfl,h1,h2,h3⟩
def Zjw:List W→List W→List W→List W
 | x::xs,y::ys,z::zs=>.tup [x,y,z]::Zjw xs ys zs
 | _,_,_=>[]
theorem Zjg:∀ (xs ys zs:List W),ys.length=xs.length→zs.length=xs.length→(Zjw xs ys zs).length=xs.length
 | [],_,_,_,_=>by simp [Zjw]
 | _::xs,y::ys,z::zs,h,h'=>by
  simp only [List.length_cons] at h h'
  simp only [Zjw,List.length_cons,Zjg xs ys zs (by omega) (by omega)]
 | _::xs,[],_,h,_=>by simp at h
 | _::xs,_::_,[],_,h=>by simp at h
theorem ZlI:∀ (xs ys zs:List W) (i:Nat) {x y z:W},xs[i]?=some x→ys[i]?=some y→zs[i]?=some z→(Zjw xs ys zs)[i]?=some (.tup [x,y,z])
 | [],_,_,_,_,_,_,h,_,_=>by simp at h
 | _::_,[],_,_,_,_,_,_,h,_=>by simp at h
 | _::_,_::_,[],_,_,_,_,_,_,h=>by simp at h
 | a::xs,b::ys,c::zs,0,x,y,z,h,h',h''=>by simp at h h' h'';subst h;subst h';subst h'';rfl
 | a::xs,b::ys,c::zs,i+1,x,y,z,h,h',h''=>by
  have:=ZlI xs ys zs i (x:=x) (y:=y) (z:=z) (by simpa using h) (by simpa using h') (by simpa using h'')
  simpa [Zjw] using this
end L3
namespace L3
open PySem PySem.Spec PyProof.Rows L2
variable {K:PySem.W.Frag} {H H' H2:Hp}
def ZqY (x:W):List W→Option Bool
 | []=>some false
 | w::ws=>if dpW w < 90 then (match eqD w x,ZqY x ws with | some a,some b=>some (a||b) | _,_=>none) else none
theorem Zlf {x:W}:∀ {ws:List W} {b:Bool},ZqY x ws=some b→∃ e:Nat→Bool,(∀ (j:Nat) w,ws[j]?=some w→eqD w x=some (e j)∧dpW w < 90)∧(b=true↔∃ j,j < ws.length∧e j=true)
 | [],b,h=>by
  cases h
  exact ⟨fun _=>false,fun j w e=>by simp at e,by simp⟩
 | w::ws,b,h=>by
  unfold ZqY at h
  split at h
  ·rename_i hd
   split at h
   ·rename_i c d e1 e2
    cases h
    obtain ⟨e,h1,h2⟩:=Zlf e2
    refine ⟨fun j=>match j with | 0=>c | j+1=>e j,fun j u hu=>?_,?_⟩
    ·cases j with
     | zero=>simp only [List.getElem?_cons_zero,Option.some.injEq] at hu;subst hu;exact ⟨e1,hd⟩
     | succ j=>exact h1 j u (by simpa using hu)
    ·rw [Bool.or_eq_true,h2]
     constructor
     ·rintro (z | ⟨j,hj,z⟩)
      ·exact ⟨0,by simp,z⟩
      ·exact ⟨j+1,by simpa using hj,z⟩
     ·rintro ⟨j,hj,z⟩
      cases j with
      | zero=>exact .inl z
      | succ j=>exact .inr ⟨j,by simpa using hj,z⟩
   ·cases h
  ·cases h
def inT (x y:W) (G:Hw):Option W:=(rdL G y).bind fun ws=>(ZqY x ws).map .bl
def Zxt (K:PySem.W.Frag):R2:=fun v u H Q=>∃ p vs ws x b,u=.ref p∧SqL K H p vs∧TrL K H vs ws∧Tr K H v x∧ZqY x ws=some b∧Q (.bl b) H
open Classical in
theorem ZtS {X:Cx} (hu:X.A.units+100 < cLine):OpR X (compareOp .In) (Zxt X.K):=by
 intro pins s σ H x y v u Q I rx ry h
 obtain ⟨p,vs,ws,xw,b,rfl,hq,tl,tx,e,q⟩:=h
 cases ry
 obtain ⟨its,r,pl,hz⟩:=I.list hq
 obtain ⟨f,hf,hb⟩:=Zlf e
 have l1:=r.length
 have l2:=tl.length
 have at':∀ (i:Nat) (z:Value),its[i]?=some z→SeqAt.EqAt X.A.in1 s z v (f i):=fun i z hi=>by
  have hlt:i < its.length:=by
   rcases Nat.lt_or_ge i its.length with h | h
   ·exact h
   ·rw [List.getElem?_eq_none h] at hi;cases hi
  have gv:vs[i]?=some (vs[i]'(by omega)):=List.getElem?_eq_getElem _
  obtain ⟨z',g',rz⟩:=r.get gv
  rw [hi] at g';cases g'
  obtain ⟨w,gw,tw⟩:=tl.get' gv
  obtain ⟨h1,h2⟩:=hf i w gw
  exact Zlc I 99 _ _ _ _ _ _ _ X.A.in1 (by omega) tw tx rz rx h1 (by show X.A.units+1+99 < cLine;omega)
 refine SeqAt.in_listAt (fun z=>decide (∃ i,its[i]?=some z∧f i=true)) pl.isList (fun z hz'=>?_) ⟨.bl b,H,I,?_,q⟩
 ·have hm:z∈its:=by simpa using hz'
  obtain ⟨i,hi,rfl⟩:=List.getElem_of_mem hm
  have gi:its[i]?=some its[i]:=List.getElem?_eq_getElem hi
  by_cases h:∃ j,its[j]?=some its[i]∧f j=true
  ·obtain ⟨j,g,hj⟩:=h
   have:=at' j _ g
   rw [hj] at this
   rw [decide_eq_true ⟨j,g,hj⟩];exact this
  ·have:=at' i _ gi
   rw [decide_eq_false h]
   cases hfi:f i with
   | false=>rw [hfi] at this;exact this
   | true=>exact absurd ⟨i,gi,hfi⟩ h
 ·show RelV (.bl b) (.bool _)
  have:(its.toArray.any fun z=>decide (∃ i,its[i]?=some z∧f i=true))=b:=by
   rw [Bool.eq_iff_iff,hb]
   simp only [List.any_toArray,List.any_eq_true,decide_eq_true_eq]
   constructor
   ·rintro ⟨z,hz',i,hi,hfi⟩
    refine ⟨i,?_,hfi⟩
    rcases Nat.lt_or_ge i its.length with h | h
    ·omega
    ·rw [List.getElem?_eq_none h] at hi;cases hi
   ·rintro ⟨j,hj,hfj⟩
    have hj':j < its.length:=by omega
    exact ⟨its[j],List.getElem_mem hj',j,List.getElem?_eq_getElem hj',hfj⟩
  rw [this];rfl
theorem Zu5 (x y:W) (v u:V) (G:Hw) (H:Hp) (Q:VK) (tx:Tr K H v x) (ty:Tr K H u y) (r:RelH K H G) (q:Zam inT x y G (dn K H Q)):Zxt K v u H Q:=by
 obtain ⟨w,e,q'⟩:=Zeq q
 obtain ⟨ws,e1,e2⟩:=Option.bind_eq_some_iff.mp e
 obtain ⟨b,e3,e4⟩:=Option.map_eq_some_iff.mp e2
 subst e4
 obtain ⟨a,vs,rfl,hq,t⟩:=Zeu r ty e1
 exact ⟨a,vs,ws,x,b,rfl,hq,t,tx,e3,q' _ H .refl (.bl _) r⟩
theorem Zsn {X:Cx} (hu:X.A.units+100 < cLine):Cop X .In (Zam inT):=⟨⟨_,ZtS hu,Zu5⟩,ZeT⟩
end L3
namespace L3
open PySem PySem.Spec PyProof.Rows L2
variable {K:PySem.W.Frag} {H H' H2:Hp}
def Zpo (w:W):Bool:=match w with | .non=>true | _=>false
def isF (neg:Bool) (x y:W) (_:Hw):Option W:=match y with | .non=>some (.bl (Zpo x != neg)) | _=>none
theorem Znu {v:V} {x:W} (t:Tr K H v x):decide (v=.non)=Zpo x:=by cases t <;> rfl
theorem Zp0 {u:V} (t:Tr K H u .non):u=.non:=by cases t;rfl
theorem ZrS (neg:Bool) (x y:W) (v u:V) (G:Hw) (H:Hp) (Q:VK) (tx:Tr K H v x) (ty:Tr K H u y) (r:RelH K H G) (q:Zam (isF neg) x y G (dn K H Q)):u=.non∧Q (.bl (Zpo x != neg)) H:=by
 obtain ⟨w,e,q'⟩:=Zeq q
 cases y with
 | non=>cases e;exact ⟨Zp0 ty,q' _ H .refl (.bl _) r⟩
 | _=>cases e
theorem ZrF {X:Cx}:Cop X .Is (Zam (isF false)):=⟨⟨_,ZvO,fun x y v u G H Q tx ty r q=>by
 obtain ⟨h1,h2⟩:=ZrS false x y v u G H Q tx ty r q
 refine ⟨h1,?_⟩
 rw [Znu tx];simpa using h2⟩,ZeT⟩
theorem ZnU {X:Cx}:Cop X .IsNot (Zam (isF true)):=⟨⟨_,Zs8,fun x y v u G H Q tx ty r q=>by
 obtain ⟨h1,h2⟩:=ZrS true x y v u G H Q tx ty r q
 refine ⟨h1,?_⟩
 rw [Znu tx];simpa using h2⟩,ZeT⟩
end L3
set_option Elab.async false
set_option linter.all false
set_option maxRecDepth 100000
set_option maxHeartbeats 4000000
namespace L3
open PySem PySem.Spec PyProof.Rows L2
variable {K:PySem.W.Frag} {H H' H2:Hp}
section
variable {prog:Program} {w:World} {A:Around} {E:Value→Shared→Prop} {s:Shared}
def St3T (n l1 l2 l3:Nat) (f0:Value) (i:Nat) (h:Heap):Prop:=IsZip h (n+5) (n+3) (n+4) f0∧ZkL h (n+3) (.ref n) (.ref (n+1)) (.ref (n+2))∧(∃ a b c,ZkL h (n+4) a b c)∧h.IsTupleIter n l1 i∧h.IsTupleIter (n+1) l2 i∧h.IsTupleIter (n+2) l3 i
theorem Zq8 {n l1 l2 l3:Nat} {k:Nat} {xs ys vs:Array Value} {x y v:Value} {Q:Value→Shared→Prop} (a1:l1 < n) (a2:l2 < n) (a3:l3 < n) (st:St3T n l1 l2 l3 .none k s.heap) (v1:s.heap.IsTuple l1 xs) (v2:s.heap.IsTuple l2 ys) (v3:s.heap.IsTuple l3 vs)
  (hx:xs[k]?=some x) (hy:ys[k]?=some y) (hv:vs[k]?=some v)
  (hQ:∀ h',St3T n l1 l2 l3 (rawInt s.heap.objs.size) (k+1) h'→ZkL h' s.heap.objs.size x y v→(∀ (c:Nat) o,c < n∨n+5 < c→s.heap.get? c=some o→h'.get? c=some o)→Q (.ref s.heap.objs.size) { s with heap:=h' }) :
  wpAny (model prog w) A (Builtin.«zip.__next__» ⟨[.ref (n+5)],[]⟩) (fun fin s'=>∃ v,fin=.done (.ret v)∧Q v s') E s:=by
 obtain ⟨hz,hTI,⟨a,b,c,hTO⟩,u1,u2,u3⟩:=st
 refine wpAny_bind (m:=field (.ref (n+5)) 2) (wpAny_field hz rfl (x:=.bool false) rfl ?_)
 refine wpAny_bind (m:=field (.ref (n+5)) 3) (wpAny_field hz rfl (x:=.ref (n+3)) rfl (wpAny_bind (m:=seqItems? (.ref (n+3))) (wpAny_seqItems hTI rfl ?_)))
 refine wpAny_bind (m:=Builtin.SmallTypes.ownedTupleIsFree (.ref (n+5))) ?_
 unfold Builtin.SmallTypes.ownedTupleIsFree
 refine wpAny_bind (m:=field (.ref (n+5)) 0) (wpAny_field hz rfl (x:=.none) rfl (wpAny_pure ?_));simp only [if_true]
 refine wpAny_bind (wpAny_rule (wpAny_bind (wpAny_field hz rfl (x:=.ref (n+4)) rfl (wpAny_bind (wpAny_setField_rec hz (by simp) fun h₁ hz₁ hs₁=>?_)))))
 replace hz₁:IsZip h₁ (n+5) (n+3) (n+4) .ellipsis:=hz₁
 refine wpAny_bind ?_
 simp only [List.zipIdx_cons,List.zipIdx_nil,List.forIn_cons,List.forIn_nil]
 have e1:=hs₁.extBut
 refine wpAny_bind (wpAny_bind (wpAny_onRaise ?_));refine wpAny_bind (m:=Builtin.SmallTypes.nextOf (.ref n)) ?_
 refine Zk4 (u1.extBut e1 (nA (by omega))) (v1.extBut e1 (nA (by omega))) hx fun h₂ w1 hs₂=>wpAny_pure ?_
 have e2:=hs₂.extBut
 have t2:ZkL h₂ (n+4) a b c:=e2 _ _ (nA (by omega)) (e1 _ _ (nA (by omega)) hTO)
 refine wpAny_bind (wpAny_seqItems t2 rfl (wpAny_bind (Zwq t2 fun h₃ t3 hs₃=>?_)))
 replace t3:ZkL h₃ (n+4) x b c:=t3
 have e3:=hs₃.extBut
 refine wpAny_bind (wpAny_letGo (wpAny_pure ?_));refine wpAny_bind (wpAny_bind (wpAny_onRaise ?_));refine wpAny_bind (m:=Builtin.SmallTypes.nextOf (.ref (n+1))) ?_
 refine Zk4 (((u2.extBut e1 (nA (by omega))).extBut e2 (nA (by omega))).extBut e3 (nA (by omega))) (((v2.extBut e1 (nA (by omega))).extBut e2 (nA (by omega))).extBut e3 (nA (by omega))) hy fun h₄ w2 hs₄=>wpAny_pure ?_
 have e4:=hs₄.extBut
 have t4:ZkL h₄ (n+4) x b c:=e4 _ _ (nA (by omega)) t3
 refine wpAny_bind (wpAny_seqItems t4 rfl (wpAny_bind (Zwq t4 fun h₅ t5 hs₅=>?_)))
 replace t5:ZkL h₅ (n+4) x y c:=t5
 have e5:=hs₅.extBut
 refine wpAny_bind (wpAny_letGo (wpAny_pure ?_));refine wpAny_bind (wpAny_bind (wpAny_onRaise ?_));refine wpAny_bind (m:=Builtin.SmallTypes.nextOf (.ref (n+2))) ?_
 refine Zk4 (((((u3.extBut e1 (nA (by omega))).extBut e2 (nA (by omega))).extBut e3 (nA (by omega))).extBut e4 (nA (by omega))).extBut e5 (nA (by omega))) (((((v3.extBut e1 (nA (by omega))).extBut e2 (nA (by omega))).extBut e3 (nA (by omega))).extBut e4 (nA (by omega))).extBut e5 (nA (by omega))) hv fun h₆ w3 hs₆=>wpAny_pure ?_
 have e6:=hs₆.extBut
 have t6:ZkL h₆ (n+4) x y c:=e6 _ _ (nA (by omega)) t5
 refine wpAny_bind (wpAny_seqItems t6 rfl (wpAny_bind (Zwq t6 fun h₇ t7 hs₇=>?_)))
 replace t7:ZkL h₇ (n+4) x y v:=t7
 have e7:=hs₇.extBut
 refine wpAny_bind (wpAny_letGo (wpAny_pure (wpAny_pure ?_)));refine wpAny_bind (wpAny_seqItems t7 rfl (wpAny_bind (wpAny_newTuple ?_ (by show (3:Nat)≤sizeLine;decide))))
 have hsz:h₇.objs.size=s.heap.objs.size:=by rw [hs₇.1,hs₆.1,hs₅.1,hs₄.1,hs₃.1,hs₂.1,hs₁.1]
 have up:∀ (c:Nat) o,c < n∨n+5 < c∨c=n+3→s.heap.get? c=some o→h₇.get? c=some o:=fun c o hc e=>e7 _ _ (nA (by omega)) (e6 _ _ (nA (by omega)) (e5 _ _ (nA (by omega)) (e4 _ _ (nA (by omega)) (e3 _ _ (nA (by omega)) (e2 _ _ (nA (by omega)) (e1 _ _ (nA (by omega)) e))))))
 have z7:IsZip h₇ (n+5) (n+3) (n+4) .ellipsis:=e7 _ _ (nA (by omega)) (e6 _ _ (nA (by omega)) (e5 _ _ (nA (by omega)) (e4 _ _ (nA (by omega)) (e3 _ _ (nA (by omega)) (e2 _ _ (nA (by omega)) hz₁)))))
 have y1:h₇.IsTupleIter n l1 (k+1):=((((w1.extBut e3 (nA (by omega))).extBut e4 (nA (by omega))).extBut e5 (nA (by omega))).extBut e6 (nA (by omega))).extBut e7 (nA (by omega))
 have y2:h₇.IsTupleIter (n+1) l2 (k+1):=((w2.extBut e5 (nA (by omega))).extBut e6 (nA (by omega))).extBut e7 (nA (by omega))
 have y3:h₇.IsTupleIter (n+2) l3 (k+1):=w3.extBut e7 (nA (by omega))
 refine wpAny_bind (m:=Builtin.SmallTypes.ownedTupleHandOut (.ref (n+5)) (.ref h₇.objs.size)) ?_
 unfold Builtin.SmallTypes.ownedTupleHandOut
 have z8:IsZip (h₇.push { cls:=.type "tuple",data:=.seq #[x,y,v] }) (n+5) (n+3) (n+4) .ellipsis:=Heap.get?_push_of_some _ z7
 refine wpAny_bind (wpAny_setField_rec z8 (by simp) fun h₉ z9 hs₉=>?_)
 replace z9:IsZip h₉ (n+5) (n+3) (n+4) (rawInt h₇.objs.size):=z9
 refine wpAny_setField_rec z9 (by simp) fun k₁ zk hk₁=>?_
 replace zk:IsZip k₁ (n+5) (n+3) (n+4) (rawInt h₇.objs.size):=zk
 have zlt:n+5 < h₇.objs.size:=Heap.lt_size z7
 have upp:∀ c o,c≠n+5→h₇.get? c=some o→k₁.get? c=some o:=fun c o c1 e=>hk₁.extBut _ _ c1 (hs₉.extBut _ _ c1 (Heap.get?_push_of_some _ e))
 have hT:ZkL k₁ h₇.objs.size x y v:=hk₁.extBut _ _ (nA (by omega)) (hs₉.extBut _ _ (nA (by omega)) (Heap.get?_push_size _ rfl))
 rw [hsz] at zk hT
 refine wpAny_pure ⟨_,rfl,(?_:Q (.ref h₇.objs.size) _)⟩
 rw [hsz]
 exact hQ k₁ ⟨zk,upp _ _ (nA (by omega)) (up _ _ (.inr (.inr rfl)) hTI),⟨_,_,_,upp _ _ (nA (by omega)) t7⟩,tat y1 fun o e=>upp _ o (nA (by omega)) e,tat y2 fun o e=>upp _ o (nA (by omega)) e,tat y3 fun o e=>upp _ o (nA (by omega)) e⟩ hT fun c o hc e=>upp c o (nA (by omega)) (up c o (by omega) e)
theorem Zs7 {n l1 l2 l3:Nat} {k:Nat} {xs:Array Value} {Q:Fin→Shared→Prop} (hh:A.handled=none) (a1:l1 < n) (st:St3T n l1 l2 l3 .none k s.heap) (v1:s.heap.IsTuple l1 xs) (hx:xs[k]?=none)
  (hE:∀ h' e,(∀ (c:Nat) o,c < n∨n+5 < c→s.heap.get? c=some o→h'.get? c=some o)→(∃ o,h'.get? e=some o∧o.cls=.type "StopIteration")→E (.ref e) { s with heap:=h' }):wpAny (model prog w) A (Builtin.«zip.__next__» ⟨[.ref (n+5)],[]⟩) Q E s:=by
 obtain ⟨hz,hTI,⟨a,b,c,hTO⟩,u1,u2,u3⟩:=st
 refine wpAny_bind (m:=field (.ref (n+5)) 2) (wpAny_field hz rfl (x:=.bool false) rfl ?_)
 refine wpAny_bind (m:=field (.ref (n+5)) 3) (wpAny_field hz rfl (x:=.ref (n+3)) rfl (wpAny_bind (m:=seqItems? (.ref (n+3))) (wpAny_seqItems hTI rfl ?_)))
 refine wpAny_bind (m:=Builtin.SmallTypes.ownedTupleIsFree (.ref (n+5))) ?_
 unfold Builtin.SmallTypes.ownedTupleIsFree
 refine wpAny_bind (m:=field (.ref (n+5)) 0) (wpAny_field hz rfl (x:=.none) rfl (wpAny_pure ?_));simp only [if_true]
 refine wpAny_bind (wpAny_rule (wpAny_bind (wpAny_field hz rfl (x:=.ref (n+4)) rfl (wpAny_bind (wpAny_setField_rec hz (by simp) fun h₁ hz₁ hs₁=>?_)))))
 replace hz₁:IsZip h₁ (n+5) (n+3) (n+4) .ellipsis:=hz₁
 refine wpAny_bind ?_
 simp only [List.zipIdx_cons,List.zipIdx_nil,List.forIn_cons,List.forIn_nil]
 have e1:=hs₁.extBut
 refine wpAny_bind (wpAny_bind (wpAny_onRaise ?_));refine wpAny_bind (m:=Builtin.SmallTypes.nextOf (.ref n)) ?_
 refine Zt9 hh (u1.extBut e1 (nA (by omega))) (v1.extBut e1 (nA (by omega))) hx fun h₂ e hs₂ he=>?_
 obtain ⟨oe,hoe,hce⟩:=he
 have hz₂:IsZip h₂ (n+5) (n+3) (n+4) .ellipsis:=hs₂ _ _ (nA (by omega)) hz₁
 have hez:e≠n+5:=fun q=>by subst q;rw [hz₂] at hoe;cases hoe;simp at hce
 exact wpAny_setField_rec hz₂ (by simp) fun h₃ _ hs₃=>hE h₃ e (fun c o c1 q=>hs₃.extBut _ _ (nA (by omega)) (hs₂ _ _ (nA (by omega)) (e1 _ _ (nA (by omega)) q))) ⟨oe,hs₃.extBut _ _ hez hoe,hce⟩
theorem St3T.at {n l1 l2 l3:Nat} {f0:Value} {i:Nat} {h h':Heap} (st:St3T n l1 l2 l3 f0 i h) (k:∀ (c:Nat) o,n≤c→c≤n+5→h.get? c=some o→h'.get? c=some o):St3T n l1 l2 l3 f0 i h':=by
 obtain ⟨hz,hTI,⟨a,b,c,hTO⟩,u1,u2,u3⟩:=st
 exact ⟨k _ _ (by omega) (by omega) hz,k _ _ (by omega) (by omega) hTI,⟨a,b,c,k _ _ (by omega) (by omega) hTO⟩,tat u1 fun o e=>k _ o (by omega) (by omega) e,tat u2 fun o e=>k _ o (by omega) (by omega) e,tat u3 fun o e=>k _ o (by omega) (by omega) e⟩
abbrev ztL (h:Heap) (l:Addr):Heap:=h.push { cls:=.type "tuple_iterator",data:=.fields #[.ref l,.int 0 0] }
abbrev ZuL (h:Heap) (l1 l2 l3:Addr):Heap:=ztL (ztL (ztL h l1) l2) l3
abbrev Zv4 (h:Heap) (l1 l2 l3:Addr):Heap:=(ZuL h l1 l2 l3).push { cls:=.type "tuple",data:=.seq #[.ref h.objs.size,.ref (ztL h l1).objs.size,.ref (ztL (ztL h l1) l2).objs.size] }
abbrev Zwb (h:Heap) (l1 l2 l3:Addr):Heap:=(Zv4 h l1 l2 l3).push { cls:=.type "tuple",data:=.seq #[.none,.none,.none] }
abbrev Zro (h:Heap) (l1 l2 l3:Addr):Heap:=(Zwb h l1 l2 l3).push { cls:=.type "zip",data:=.fields #[.none,.bool false,.bool false,.ref (ZuL h l1 l2 l3).objs.size,.ref (Zv4 h l1 l2 l3).objs.size] }
theorem Zpc (l1 l2 l3:Addr) (xs ys vs:Array Value):Meets (Builtin.«zip.__new__» ⟨[.type "zip",.ref l1,.ref l2,.ref l3],[]⟩) (fun _ R s=>s.heap.IsTuple l1 xs∧s.heap.IsTuple l2 ys∧s.heap.IsTuple l3 vs∧R (.ok (.ret (.ref (Zwb s.heap l1 l2 l3).objs.size))) { s with heap:=Zro s.heap l1 l2 l3 }) :=
 .of_wp fun prog w A R s h=>by
  obtain ⟨hp,g,d,tk,os⟩:=s
  obtain ⟨u1,u2,u3,h⟩:=h
  have hsub:=sub_zip
  have hL1:Heap.IsTuple (Shared.heap ⟨hp,g,d,tk,os⟩) l1 xs:=u1
  have hL2:Heap.IsTuple (Shared.heap ⟨hp.push { cls:=.type "tuple_iterator",data:=.fields #[.ref l1,.int 0 0] },g,d,tk,os⟩) l2 ys:=Heap.IsTuple.push u2 _
  have hL3:Heap.IsTuple (Shared.heap ⟨(hp.push { cls:=.type "tuple_iterator",data:=.fields #[.ref l1,.int 0 0] }).push { cls:=.type "tuple_iterator",data:=.fields #[.ref l2,.int 0 0] },g,d,tk,os⟩) l3 vs:=Heap.IsTuple.push (Heap.IsTuple.push u3 _) _
  wp_walk using wpAny_pyIter_tuple hL1,wpAny_pyIter_tuple hL2,wpAny_pyIter_tuple hL3
  exact ⟨_,rfl,h⟩
theorem ZmT {l1 l2 l3:Addr} {xs ys vs:Array Value} {Q:Value→Shared→Prop} (u1:s.heap.IsTuple l1 xs) (u2:s.heap.IsTuple l2 ys) (u3:s.heap.IsTuple l3 vs)
  (h:∀ h',St3T s.heap.objs.size l1 l2 l3 .none 0 h'→(∀ c o,s.heap.get? c=some o→h'.get? c=some o)→Q (.ref (s.heap.objs.size+5)) { s with heap:=h' }) :
  wpAny (model prog w) A (call (.type "zip") [.ref l1,.ref l2,.ref l3]) Q E s:=by
 refine callType_new PySem.F.called_zip (by decide) (tc3 _ _ _) (nc3 _ _ _) (fun obj=>oi4 obj _ _ _) PySem.F.entry_zip_new (Zpc l1 l2 l3 xs ys vs) ⟨u1,u2,u3,?_⟩
 have q1:(ztL s.heap l1).objs.size=s.heap.objs.size+1:=Heap.size_push ..
 have q2:(ztL (ztL s.heap l1) l2).objs.size=s.heap.objs.size+2:=by rw [Heap.size_push,q1]
 have q3:(ZuL s.heap l1 l2 l3).objs.size=s.heap.objs.size+3:=by rw [Heap.size_push,q2]
 have q4:(Zv4 s.heap l1 l2 l3).objs.size=s.heap.objs.size+4:=by rw [Heap.size_push,q3]
 have q5:(Zwb s.heap l1 l2 l3).objs.size=s.heap.objs.size+5:=by rw [Heap.size_push,q4]
 have up:∀ {c:Addr} {o:Obj},(ZuL s.heap l1 l2 l3).get? c=some o→(Zro s.heap l1 l2 l3).get? c=some o:=fun e=>Heap.get?_push_of_some _ (Heap.get?_push_of_some _ (Heap.get?_push_of_some _ e))
 have g6:(Zro s.heap l1 l2 l3).get? (Zwb s.heap l1 l2 l3).objs.size=some _:=Heap.get?_push_size _ rfl
 have g5:(Zro s.heap l1 l2 l3).get? (Zv4 s.heap l1 l2 l3).objs.size=some _:=Heap.get?_push_of_some _ (Heap.get?_push_size _ rfl)
 have g4:(Zro s.heap l1 l2 l3).get? (ZuL s.heap l1 l2 l3).objs.size=some _:=Heap.get?_push_of_some _ (Heap.get?_push_of_some _ (Heap.get?_push_size _ rfl))
 have g3:(Zro s.heap l1 l2 l3).get? (ztL (ztL s.heap l1) l2).objs.size=some _:=up (Heap.get?_push_size _ rfl)
 have g2:(Zro s.heap l1 l2 l3).get? (ztL s.heap l1).objs.size=some _:=up (Heap.get?_push_of_some _ (Heap.get?_push_size _ rfl))
 have g1:(Zro s.heap l1 l2 l3).get? s.heap.objs.size=some _:=up (Heap.get?_push_of_some _ (Heap.get?_push_of_some _ (Heap.get?_push_size _ rfl)))
 rw [q3,q4,q5] at g6
 rw [q1,q2,q3] at g4
 rw [q4] at g5
 rw [q2] at g3
 rw [q1] at g2
 rw [q5]
 exact ⟨⟨_,g6,rfl⟩,h _ ⟨g6,g4,⟨_,_,_,g5⟩,⟨_,g1,rfl,rfl⟩,⟨_,g2,rfl,rfl⟩,⟨_,g3,rfl,rfl⟩⟩ fun c o x=>up (Heap.get?_push_of_some _ (Heap.get?_push_of_some _ (Heap.get?_push_of_some _ x)))⟩
end
def Zxj (K:PySem.W.Frag) (l1 l2 l3:Addr):It :=
 ⟨fun i H=>∃ xs ys vs,SqT K H l1 xs∧SqT K H l2 ys∧SqT K H l3 vs∧ys.length=xs.length∧vs.length=xs.length∧i < xs.length,
  fun i H v H'=>∃ T x y z,H T=none∧v=.ref T∧H'=upd H T (.tup [x,y,z])∧∀ xs ys vs,SqT K H l1 xs→SqT K H l2 ys→SqT K H l3 vs→xs[i]?=some x∧ys[i]?=some y∧vs[i]?=some z,
  fun i H=>∃ xs,SqT K H l1 xs∧i=xs.length⟩
theorem ZmW {P:Program} {w:World} {elts:List Expr} {k:Nat} {tpos:Pos} {n l1 l2 l3:Nat} (a1:l1 < n) (a2:l2 < n) (a3:l3 < n) :
  Zra P w K (.Tuple elts k tpos) (Zxj K l1 l2 l3) [n+5,n+3,n+4,n,n+1,n+2] (n+5) (St3T n l1 l2 l3 .none) where
 mem:=List.mem_cons_self
 obj:=fun i h st b hb=>by
  obtain ⟨hz,hTI,⟨a,c,d,hTO⟩,⟨o1,e1,_,d1⟩,⟨o2,e2,_,d2⟩,⟨o3,e3,_,d3⟩⟩:=st
  simp only [List.mem_cons,List.not_mem_nil,or_false] at hb
  rcases hb with rfl | rfl | rfl | rfl | rfl | rfl
  ·exact ⟨_,hz,fun v z=>by cases z⟩
  ·exact ⟨_,hTI,fun v z=>by cases z⟩
  ·exact ⟨_,hTO,fun v z=>by cases z⟩
  ·exact ⟨o1,e1,fun v z=>by rw [d1] at z;cases z⟩
  ·exact ⟨o2,e2,fun v z=>by rw [d2] at z;cases z⟩
  ·exact ⟨o3,e3,fun v z=>by rw [d3] at z;cases z⟩
 keep:=fun i h h' st kk=>st.at fun c o c1 c2 e=>kk c (of6 c1 c2) o e
 item:=by
  intro X hP hw hK hc i pins s σ H E I hf st hg
  subst hP hw hK
  obtain ⟨xs,ys,vs,hx,hy,hv,ly,lv,hi⟩:=hg
  obtain ⟨its1,r1,pl1,z1⟩:=I.tuple hx
  obtain ⟨its2,r2,pl2,z2⟩:=I.tuple hy
  obtain ⟨its3,r3,pl3,z3⟩:=I.tuple hv
  have gx:xs[i]?=some xs[i]:=List.getElem?_eq_getElem hi
  have gy:ys[i]?=some (ys[i]'(by omega)):=List.getElem?_eq_getElem _
  have gv:vs[i]?=some (vs[i]'(by omega)):=List.getElem?_eq_getElem _
  obtain ⟨v1,q1,rv1⟩:=r1.get gx
  obtain ⟨v2,q2,rv2⟩:=r2.get gy
  obtain ⟨v3,q3,rv3⟩:=r3.get gv
  have hT:s.TypeIs (.ref (n+5)) "zip":=⟨_,st.1,rfl⟩
  unfold pyNext
  refine wpAny_bind (wpAny_attempt (wpAny_callSpecial?_slot (name:=Str.ofString "__next__") hT PySem.F.slot_zip_next (wpAny_call_entry PySem.F.slot_zip_next hT PySem.F.entry_zip_next (Zq8 a1 a2 a3 st pl1 pl2 pl3 (by simpa using q1) (by simpa using q2) (by simpa using q3) fun h' st' hTup hk=>wpAny_pure ⟨.ref s.heap.objs.size,rfl,?_⟩) (PySem.F.args_zip_next_1 _))))
  refine wpAny_letOwnedTupleGo_zip st'.1 fun h2' hz' hs'=>?_
  have e':=hs'.extBut
  have hsz:(n+5:Nat) < s.heap.objs.size:=Heap.lt_size st.1
  have hnT:∀ b:Addr,b∈[n+5,n+3,n+4,n,n+1,n+2]→b≠s.heap.objs.size:=fun b hb=>nA (a:=b) (by have:=in6 (b:=b) hb;omega)
  have st2:St3T n l1 l2 l3 .none (i+1) h2':=by
   obtain ⟨_,hTI,⟨a,c,d,hTO⟩,u1,u2,u3⟩:=st'
   exact ⟨hz',e' _ _ (nA (by omega)) hTI,⟨a,c,d,e' _ _ (nA (by omega)) hTO⟩,u1.extBut e' (nA (by omega)),u2.extBut e' (nA (by omega)),u3.extBut e' (nA (by omega))⟩
  have I1:Inv X pins σ H { s with heap:=h2' }:=Inv.turneds I hf fun b o hb e=>e' _ _ (fun z=>hb (by rw [z];exact List.mem_cons_self)) (hk b o (no6 hb) e)
  have hTn:H s.heap.objs.size=none:=I.hok.fresh (Nat.le_refl _)
  have hTup2:IsTup h2' s.heap.objs.size #[v1,v2,v3]:=⟨_,e' _ _ (nA (by omega)) hTup,rfl,_,rfl⟩
  have lt:∀ {b:Addr} {o:Obj},s.heap.get? b=some o→b≠s.heap.objs.size:=fun e q=>absurd (Heap.lt_size e) (by rw [q];exact Nat.lt_irrefl _)
  have I2:Inv X pins σ (upd H s.heap.objs.size (.tup [xs[i],ys[i]'(by omega),vs[i]'(by omega)])) { s with heap:=h2' }:=by
   refine I1.track hTn ?_ (fun x c e=>?_) (fun p hp=>?_) ?_ ⟨by show 3≤sizeLine;decide,[v1,v2,v3],.cons rv1 (.cons rv2 (.cons rv3 .nil)),hTup2⟩
   ·obtain ⟨m,⟨o,es,ep,ho,_⟩,_⟩:=I.loc
    exact Ne.symm (lt ho)
   ·obtain ⟨v,o,ho,_⟩:=I.cell x c e
    exact lt ho
   ·exact lt (I.pin p hp).1
   ·cases e:X.s₀.heap.get? s.heap.objs.size with
    | none=>rfl
    | some o=>exact absurd (Nat.lt_of_lt_of_le (Heap.lt_size e) I.sz) (Nat.lt_irrefl _)
  refine ⟨.ref s.heap.objs.size,_,I2,rfl,⟨_,_,_,_,hTn,rfl,rfl,fun xs' ys' vs' hx' hy' hv'=>?_⟩,st2,fun b hb=>?_⟩
  ·rw [I.tuple_inj hx' hx,I.tuple_inj hy' hy,I.tuple_inj hv' hv];exact ⟨gx,gy,gv⟩
  ·rw [Za4 (hnT b hb)];exact (hf b hb).1
 done:=by
  intro X hP hw hK hc i pins s σ H E I hf st hg
  subst hP hw hK
  obtain ⟨xs,hx,hi⟩:=hg
  obtain ⟨its1,r1,pl1,z1⟩:=I.tuple hx
  have n1:=r1.length
  have hT:s.TypeIs (.ref (n+5)) "zip":=⟨_,st.1,rfl⟩
  unfold pyNext
  refine wpAny_bind (wpAny_attempt (wpAny_callSpecial?_slot (name:=Str.ofString "__next__") hT PySem.F.slot_zip_next (wpAny_call_entry PySem.F.slot_zip_next hT PySem.F.entry_zip_next (Zs7 (I.ok.hd hc) a1 st pl1 (by simp;omega) fun h' e hk he=>?_) (PySem.F.args_zip_next_1 _))))
  obtain ⟨o,ho,hc'⟩:=he
  exact wpAny_bind (wpAny_isInstance (T:="StopIteration") (b:=true) ⟨o,ho,hc'⟩ isSubtype_stop (wpAny_pure ⟨rfl,Inv.turneds I hf fun b o hb e=>hk b o (no6 hb) e⟩))
 self:=fun A i s Q E st h=>wpAny_pyIter_zip st.1 h
def Zue (K:PySem.W.Frag) (ta:TA):TI:=fun σ H R=>ta σ H fun vs H1=>∃ a b c xs ys zs,vs=[.ref a,.ref b,.ref c]∧SqT K H1 a xs∧SqT K H1 b ys∧SqT K H1 c zs∧R (Zxj K a b c) H1
theorem ZqJ {X:Cx} {a b c:Expr} {ta:TA} {p pos tpos:Pos} {elts:List Expr} {k:Nat} (hg:Gl X "zip") (hm:X.mg "zip"=none) (ha:PA X [a,b,c] ta) (hs:starEach [a,b,c] X.env=[(false,eval a X.env),(false,eval b X.env),(false,eval c X.env)]) (hs2:starEach [b,c] X.env=[(false,eval b X.env),(false,eval c X.env)]) :
  PI X (.Tuple elts k tpos) (.Call (.Name "zip" p) [a,b,c] [] pos) (Zue X.K ta):=by
 intro pins s σ H R I h
 refine Call_ (Ze3 I hg hm boot_zip (PyProof.Rows.callWith_type1 (thn (ha pos pins s σ H _ I h) fun us s1 zz2=>?_) (by rw [hs,hs2]) (by rw [hs2];rfl)))
 obtain ⟨vs,H1,I1,r1,q1⟩:=zz2
 obtain ⟨l1,l2,l3,xs,ys,zs,e,hx,hy,hz,q⟩:=q1
 subst e
 obtain ⟨u,u2,u3,rfl,ru,ru2,ru3⟩:=Zwk r1
 cases ru
 cases ru2
 cases ru3
 obtain ⟨its1,_,pl1,_⟩:=I1.tuple hx
 obtain ⟨its2,_,pl2,_⟩:=I1.tuple hy
 obtain ⟨its3,_,pl3,_⟩:=I1.tuple hz
 have a1:l1 < s1.heap.objs.size:=by obtain ⟨_,e,_⟩:=pl1;exact Heap.lt_size e
 have a2:l2 < s1.heap.objs.size:=by obtain ⟨_,e,_⟩:=pl2;exact Heap.lt_size e
 have a3:l3 < s1.heap.objs.size:=by obtain ⟨_,e,_⟩:=pl3;exact Heap.lt_size e
 refine ZmT pl1 pl2 pl3 fun h' st hk=>wpAny_pyIter_zip st.1 ?_
 refine ⟨_,_,_,_,H1,rfl,I1.kept (t':=s1.toks) hk,ZmW a1 a2 a3,st,fun b hb=>?_,q⟩
 have hge:s1.heap.objs.size≤b:=(in6 (b:=b) hb).1
 exact I1.fpOk hge (I1.hok.fresh hge)
def Zgy (gs:GA):GI:=fun ω G R=>gs ω G fun ws G1=>∃ xs ys zs,ws=[.tup xs,.tup ys,.tup zs]∧ys.length=xs.length∧zs.length=xs.length∧R (Zjw xs ys zs) yes G1
theorem ZqR {gs:GA} (m:gs.M):GI.M (Zgy gs):=fun ω G R R' h q=>m _ _ _ _ (by rintro ws G1 ⟨xs,ys,zs,e,n1,n2,r⟩;exact ⟨xs,ys,zs,e,n1,n2,h _ _ _ r⟩) q
theorem Zmw {X:Cx} {a b c:Expr} {p pos tpos:Pos} {elts:List Expr} {k:Nat} {gs:GA} (hm:X.mg "zip"=none) (hg:Gl X "zip") (hs:starEach [a,b,c] X.env=[(false,eval a X.env),(false,eval b X.env),(false,eval c X.env)]) (hs2:starEach [b,c] X.env=[(false,eval b X.env),(false,eval c X.env)]) (ha:Am X [a,b,c] gs) :
  Im X (.Tuple elts k tpos) (.Call (.Name "zip" p) [a,b,c] [] pos) (Zgy gs):=by
 refine ⟨⟨_,ZqJ hg hm ha.p hs hs2,fun σ H ω G R R0 ts r q kk=>⟨ω,G,ts,r,ha.m _ _ _ _ (fun ws G1 z vs H1 m t r1=>?_) q⟩⟩,ZqR ha.m⟩
 obtain ⟨xs,ys,zs,rfl,n1,n2,z⟩:=z
 cases t with
 | cons tx t =>
  cases t with
  | cons ty t =>
   cases t with
   | cons tv t =>
    cases t
    obtain ⟨c1,us1,rfl,hq1,l1⟩:=Znd tx
    obtain ⟨c2,us2,rfl,hq2,l2⟩:=Znd ty
    obtain ⟨c3,us3,rfl,hq3,l3⟩:=Znd tv
    refine ⟨c1,c2,c3,us1,us2,us3,rfl,hq1,hq2,hq3,kk _ _ _ H1 _ z m r1 trivial ⟨fun i H3 G3 m3 r3 g3 hi=>?_,fun i H3 G3 u H4 m3 r3 g3 y3 hi=>?_,fun H3 G3 m3 r3 g3=>?_⟩⟩
    ·rw [Zjg _ _ _ n1 n2] at hi
     exact ⟨us1,us2,us3,m3.tup _ _ hq1,m3.tup _ _ hq2,m3.tup _ _ hq3,by rw [l1.length,l2.length];exact n1,by rw [l1.length,l3.length];exact n2,by rw [l1.length];exact hi⟩
    ·obtain ⟨T,v1,v2,v3,hT,rfl,rfl,hv⟩:=y3
     obtain ⟨g1,g2,g4⟩:=hv _ _ _ (m3.tup _ _ hq1) (m3.tup _ _ hq2) (m3.tup _ _ hq3)
     obtain ⟨w1,q1,tw1⟩:=(l1.mono m3).get' g1
     obtain ⟨w2,q2,tw2⟩:=(l2.mono m3).get' g2
     obtain ⟨w3,q3,tw3⟩:=(l3.mono m3).get' g4
     have mn:Mono X.K H3 (upd H3 T (.tup [v1,v2,v3])):=Mono.new hT _
     exact ⟨mn,r3.mono0 hT,_,ZlI _ _ _ i q1 q2 q3,.tup (SqT.of Zbt) (.cons (tw1.mono mn) (.cons (tw2.mono mn) (.cons (tw3.mono mn) .nil)))⟩
    ·exact ⟨us1,m3.tup _ _ hq1,by rw [Zjg _ _ _ n1 n2,l1.length]⟩
end L3
namespace L3
open PySem PySem.Spec PyProof.Rows L2
variable {K:PySem.W.Frag} {H H' H2:Hp}
section
variable {prog:Program} {w:World} {A:Around} {E:Value→Shared→Prop} {s:Shared}
theorem Zub {δ:Type} {R:δ→Value→Prop} {h₀:Heap} {a:Addr} {D:List (Str×δ)} {k:Str} {tk:Tok} {dd:δ} {Q:Option Value→Shared→Prop} (T:KTD.TabOf R h₀ a D) (hk:∀ b o,h₀.get? b=some o→s.heap.get? b=some o) (hD:KTD.datumAt k D=some dd)
  (h1:∀ v,R dd v→Q (some v) { s with toks:=s.toks+1 }):wpAny (model prog w) A (dictGet a (.str k tk)) Q E s:=by
 obtain ⟨_,o,es,ep,ho,hc,hd,hr⟩:=T
 have ho':=hk _ _ ho
 obtain ⟨v,hv,hR⟩:=hr.find_some hD
 have hq:=h1 v hR
 unfold dictGet
 try with_reducible refine wpAny_holding ?_
 refine wpAny_bind (wpAny_pyHash_str (wpAny_bind (KTD.kt_dictFind_strs (s:={ s with toks:=s.toks+1 }) ho' hd ?_ ?_)))
 ·obtain ⟨l⟩:=es
  simpa using hr.exact
 have hf:findBy (fun k v=>v.isStr k) es k=some v:=by
  obtain ⟨l⟩:=es
  simpa [findBy] using hv
 rw [findBy_of_findIdx?] at hf
 cases hi:es.findIdx? fun e=>e.key.isStr k with
 | none=>rw [hi] at hf;cases hf
 | some i =>
  rw [hi] at hf
  refine wpAny_bind (wpAny_dictEntries (s:={ s with toks:=s.toks+1 }) ho' hd (wpAny_pure ?_))
  have hf':es[i]?.map (·.val)=some v:=hf
  rw [hf'];exact hq
end
def ZwG (K:PySem.W.Frag) (mg:Str→Option Value) (base:Heap) (x:Str) (D:List (Str×List Str)):Prop:=∃ d,mg x=some (.ref d)∧KTD.TabOf (fun ss v=>∃ a,v=.ref a∧∀ H:Hp,SqT K H a (ss.map V.str)) base d D
def Zk7 (D:List (Str×List Str)) (gk:GE):GE:=fun ω G Q=>gk ω G fun w G1=>match w with | .str z=>∃ ss,KTD.datumAt z D=some ss∧Q (.tup (ss.map W.str)) G1 | _=>False
theorem Zlw (H:Hp):∀ ss:List Str,TrL K H (ss.map V.str) (ss.map W.str)
 | []=>.nil
 | s::ss=>.cons (.str _) (Zlw H ss)
theorem ZnQ {X:Cx} {x:Str} {D:List (Str×List Str)} {e:Expr} {p0 pos:Pos} {gk:GE} (h:ZwG X.K X.mg X.base x D) (hg:Gl X x) (hd:(x==("__debug__":Str))=false) (hs:Zju e) (hk:Em X e gk) :
  Em X (.Subscript (.Name x p0) e pos) (Zk7 D gk):=by
 refine ⟨fun pins s σ H Q I zz=>?_,fun ω G Q Q' hh q=>hk.m _ _ _ _ (fun w G1 z=>by
  cases w with
  | str y=>obtain ⟨ss,h1,h2⟩:=z;exact ⟨ss,h1,hh _ _ h2⟩
  | _=>exact z) q⟩
 obtain ⟨ω,G,ts,r,q⟩:=zz
 obtain ⟨d,hm,T⟩:=h
 refine Subscript_ (Zv1 (R:=fun xv yv H2=>xv=.ref d∧∃ z ss,yv=.str z∧KTD.datumAt z D=some ss∧∀ v,Tr X.K H2 v (.tup (ss.map W.str))→Q v H2) (Zop (v:=.ref d) hg hm rfl hd) hk.p I ?_ fun v u s2 xv yv H2 I2 rx ry q2=>?_)
 ·exact ⟨ω,G,ts,r,hk.m _ _ _ _ (fun w G1 z v H1 m t r1=>by
   cases w with
   | str y=>obtain ⟨ss,h1,h2⟩:=z;exact ⟨rfl,y,ss,ZrN t,h1,fun v tv=>h2 v H1 m tv r1⟩
   | _=>exact z.elim) q⟩
 ·obtain ⟨rfl,z,ss,rfl,hD,q3⟩:=q2
  cases rx
  obtain ⟨t,rfl⟩:=ry
  have hT:s2.TypeIs (.ref d) "dict":=by
   obtain ⟨_,o,_,_,ho,hc,_⟩:=T
   exact ⟨o,I2.bk _ _ ho,hc.1⟩
  refine subscriptTail_builtin hT PySem.F.slot_dict_getitem.lookup ?_ (hs _ _) (fun _=>rfl)
  unfold getItem
  try with_reducible refine wpAny_holding ?_
  refine wpAny_bind (wpAny_sequenceKey hT (by decide) ?_)
  refine wpAny_bind (wpAny_callSpecial?_slot (name:=Str.ofString "__getitem__") hT PySem.F.slot_dict_getitem (wpAny_call_entry PySem.F.slot_dict_getitem hT PySem.F.entry_dict_getitem ?_ (PySem.F.args_dict_getitem_2 _ _)))
  show wpAny _ _ (dictGet d (.str z t) >>= _) _ _ s2
  refine wpAny_bind (Zub T I2.bk hD ?_)
  rintro v ⟨a,rfl,hq⟩
  exact wpAny_pure ⟨_,rfl,wpAny_pure ⟨.ref a,H2,I2.tok _,rfl,q3 _ (.tup (hq H2) (Zlw H2 ss))⟩⟩
theorem ZsN {h base:Heap} {mg:Str→Option Value} (X:K.In h) (G:h.Ns mainGlobals mg) (B:K.In base) {x:Str} {d:Addr} {o:Obj} {es:Array DictEntry} {ep:Nat} {D:List (Str×List Str)} (e:PySem.W.nsIn K mainGlobals x=some (some (.ref d))) (l:K.lookup d=some o)
  (hd:(d==sysModules)=false) (hx:o.ExactDict) (ho:o.data=.dict es ep) (hr:KTD.Rows (fun ss v=>∃ a,v=.ref a∧∀ H:Hp,SqT K H a (ss.map V.str)) es.toList D):ZwG K mg base x D :=
 ⟨d,PySem.W.mg_of X G e,hd,o,es,ep,B _ _ l,hx,ho,hr⟩
theorem ZoV {e:DictEntry} {x:Str} {t:Tok} {a:Addr} {ts:List (Str×Tok)} {dd:Option Addr} {n:Nat} {sl:Array (Option Value)} {es:List DictEntry} {D:List (Str×List Str)} (h1:e.key=.str x t) (h2:e.val=.ref a) (l:K.lookup a=some ⟨.type "tuple",dd,.seq ((ts.map fun p=>Value.str p.1 p.2).toArray) n,sl⟩) (hz:ts.length≤1000)
  (r:KTD.Rows (fun ss v=>∃ a,v=.ref a∧∀ H:Hp,SqT K H a (ss.map V.str)) es D):KTD.Rows (fun ss v=>∃ a,v=.ref a∧∀ H:Hp,SqT K H a (ss.map V.str)) (e::es) ((x,ts.map (·.1))::D):=by
 refine .cons h1 ⟨a,h2,fun H=>.inr ⟨_,_,n,l,rfl,rfl,?_,?_⟩⟩ r
 ·simp only [List.size_toArray,List.length_map]
  exact Nat.le_trans hz (by decide)
 ·have vs:∀ ts:List (Str×Tok),Vals ((ts.map (·.1)).map V.str) (ts.map fun p=>Value.str p.1 p.2):=fun ts=>by
   induction ts with
   | nil=>exact .nil
   | cons p ts ih=>exact .cons ⟨p.2,rfl⟩ ih
  simpa using vs ts
end L3
namespace L3
open PySem PySem.Spec PyProof.Rows L2
abbrev ZuT (h:Heap) (z TI TO:Addr) (f0:Value) (b:Bool):Prop:=h.get? z=some { cls:=.type "zip",dict:=none,data:=.fields #[f0,.bool b,.bool false,.ref TI,.ref TO],slots:=#[] }
section
variable {prog:Program} {w:World} {A:Around} {E:Value→Shared→Prop} {s:Shared}
def Hd3 (n l1 l2 l3 i:Nat) (h:Heap):Prop:=(∃ (T:Nat) (o:Obj) (b:Bool),ZuT h (n+5) (n+3) (n+4) (rawInt T) b∧h.get? T=some o∧(T < n∨n+5 < T))∧ZkL h (n+3) (.ref n) (.ref (n+1)) (.ref (n+2))∧h.IsListIter n l1 i∧h.IsListIter (n+1) l2 i∧h.IsListIter (n+2) l3 i
def Cm3 (n l1 l2 l3 i:Nat) (h:Heap):Prop:=(i=0∧St3 n l1 l2 l3 .none 0 h)∨Hd3 n l1 l2 l3 i h
theorem Cm3.zip {n l1 l2 l3 i:Nat} {h:Heap} (st:Cm3 n l1 l2 l3 i h):∃ o,h.get? (n+5)=some o∧o.cls=.type "zip":=by
 rcases st with ⟨_,st⟩ | st
 ·exact ⟨_,st.1,rfl⟩
 ·obtain ⟨⟨T,o,b,hz,_⟩,_⟩:=st
  exact ⟨_,hz,rfl⟩
end
end L3
set_option Elab.async false
set_option linter.all false
set_option maxRecDepth 100000
set_option maxHeartbeats 4000000
namespace L3
open PySem PySem.Spec PyProof.Rows L2
section
variable {prog:Program} {w:World} {A:Around} {E:Value→Shared→Prop} {s:Shared}
end
end L3
namespace L3
open PySem PySem.Spec PyProof.Rows L2
variable {K:PySem.W.Frag} {H H' H2:Hp}
end L3
namespace L3
open PySem PySem.Spec PyProof.Rows L2
variable {K:PySem.W.Frag} {H H' H2:Hp}
section
variable {prog:Program} {w:World} {A:Around} {E:Value→Shared→Prop} {s:Shared}
def St3M (n l1 l2 l3:Nat) (f0:Value) (i:Nat) (h:Heap):Prop:=IsZip h (n+5) (n+3) (n+4) f0∧ZkL h (n+3) (.ref n) (.ref (n+1)) (.ref (n+2))∧(∃ a b c,ZkL h (n+4) a b c)∧h.IsListIter n l1 i∧h.IsTupleIter (n+1) l2 i∧h.IsTupleIter (n+2) l3 i
theorem St3M.at {n l1 l2 l3:Nat} {f0:Value} {i:Nat} {h h':Heap} (st:St3M n l1 l2 l3 f0 i h) (k:∀ (c:Nat) o,n≤c→c≤n+5→h.get? c=some o→h'.get? c=some o):St3M n l1 l2 l3 f0 i h':=by
 obtain ⟨hz,hTI,⟨a,b,c,hTO⟩,u1,u2,u3⟩:=st
 exact ⟨k _ _ (by omega) (by omega) hz,k _ _ (by omega) (by omega) hTI,⟨a,b,c,k _ _ (by omega) (by omega) hTO⟩,u1.at fun o e=>k _ o (by omega) (by omega) e,tat u2 fun o e=>k _ o (by omega) (by omega) e,tat u3 fun o e=>k _ o (by omega) (by omega) e⟩
end
end L3
set_option Elab.async false
set_option linter.all false
set_option maxRecDepth 100000
set_option maxHeartbeats 4000000
namespace L3
open PySem PySem.Spec PyProof.Rows L2
variable {K:PySem.W.Frag} {H H' H2:Hp}
def ZvL (x y:W) (G:Hw):Option W:=(rdL G y).bind fun ws=>(ZqY x ws).map fun b=>.bl (!b)
def ZuF (K:PySem.W.Frag):R2:=fun v u H Q=>∃ p vs ws x b,u=.ref p∧SqL K H p vs∧TrL K H vs ws∧Tr K H v x∧ZqY x ws=some b∧Q (.bl (!b)) H
open Classical in
theorem Ztk {X:Cx} (hu:X.A.units+100 < cLine):OpR X (compareOp .NotIn) (ZuF X.K):=by
 intro pins s σ H x y v u Q I rx ry h
 obtain ⟨p,vs,ws,xw,b,rfl,hq,tl,tx,e,q⟩:=h
 cases ry
 obtain ⟨its,r,pl,hz⟩:=I.list hq
 obtain ⟨f,hf,hb⟩:=Zlf e
 have l1:=r.length
 have l2:=tl.length
 have at':∀ (i:Nat) (z:Value),its[i]?=some z→SeqAt.EqAt X.A.in1 s z v (f i):=fun i z hi=>by
  have hlt:i < its.length:=by
   rcases Nat.lt_or_ge i its.length with h | h
   ·exact h
   ·rw [List.getElem?_eq_none h] at hi;cases hi
  have gv:vs[i]?=some (vs[i]'(by omega)):=List.getElem?_eq_getElem _
  obtain ⟨z',g',rz⟩:=r.get gv
  rw [hi] at g';cases g'
  obtain ⟨w,gw,tw⟩:=tl.get' gv
  obtain ⟨h1,h2⟩:=hf i w gw
  exact Zlc I 99 _ _ _ _ _ _ _ X.A.in1 (by omega) tw tx rz rx h1 (by show X.A.units+1+99 < cLine;omega)
 refine SeqAt.notIn_listAt (fun z=>decide (∃ i,its[i]?=some z∧f i=true)) pl.isList (fun z hz'=>?_) ⟨.bl (!b),H,I,?_,q⟩
 ·have hm:z∈its:=by simpa using hz'
  obtain ⟨i,hi,rfl⟩:=List.getElem_of_mem hm
  have gi:its[i]?=some its[i]:=List.getElem?_eq_getElem hi
  by_cases h:∃ j,its[j]?=some its[i]∧f j=true
  ·obtain ⟨j,g,hj⟩:=h
   have:=at' j _ g
   rw [hj] at this
   rw [decide_eq_true ⟨j,g,hj⟩];exact this
  ·have:=at' i _ gi
   rw [decide_eq_false h]
   cases hfi:f i with
   | false=>rw [hfi] at this;exact this
   | true=>exact absurd ⟨i,gi,hfi⟩ h
 ·show RelV (.bl (!b)) (.bool _)
  have:(its.toArray.any fun z=>decide (∃ i,its[i]?=some z∧f i=true))=b:=by
   rw [Bool.eq_iff_iff,hb]
   simp only [List.any_toArray,List.any_eq_true,decide_eq_true_eq]
   constructor
   ·rintro ⟨z,hz',i,hi,hfi⟩
    refine ⟨i,?_,hfi⟩
    rcases Nat.lt_or_ge i its.length with h | h
    ·omega
    ·rw [List.getElem?_eq_none h] at hi;cases hi
   ·rintro ⟨j,hj,hfj⟩
    have hj':j < its.length:=by omega
    exact ⟨its[j],List.getElem_mem hj',j,List.getElem?_eq_getElem hj',hfj⟩
  rw [this];rfl
theorem ZtF (x y:W) (v u:V) (G:Hw) (H:Hp) (Q:VK) (tx:Tr K H v x) (ty:Tr K H u y) (r:RelH K H G) (q:Zam ZvL x y G (dn K H Q)):ZuF K v u H Q:=by
 obtain ⟨w,e,q'⟩:=Zeq q
 obtain ⟨ws,e1,e2⟩:=Option.bind_eq_some_iff.mp e
 obtain ⟨b,e3,e4⟩:=Option.map_eq_some_iff.mp e2
 subst e4
 obtain ⟨a,vs,rfl,hq,t⟩:=Zeu r ty e1
 exact ⟨a,vs,ws,x,b,rfl,hq,t,tx,e3,q' _ H .refl (.bl _) r⟩
theorem Zp7 {X:Cx} (hu:X.A.units+100 < cLine):Cop X .NotIn (Zam ZvL):=⟨⟨_,Ztk hu,ZtF⟩,ZeT⟩
end L3
namespace L3
open PySem PySem.Spec PyProof.Rows L2
section
variable {prog:Program} {w:World} {A:Around} {E:Value→Shared→Prop} {s:Shared}
theorem Ztc:typeLookup (.type "list") "keys"=pure none:=by rw [typeLookup_type,builtinLookup_eq_fast];kernel_rfl
set_option maxRecDepth 8000 in
theorem ZoO {a:Addr} {xs:Array Value} {k:Nat} {sl:Array (Option Value)} {Q:Option Value→Shared→Prop} (hx:s.heap.get? a=some { cls:=.type "list",dict:=none,data:=.seq xs k,slots:=sl }) (hA:A.handled=none)
  (h:∀ h' tk,(∀ b o,s.heap.get? b=some o→h'.get? b=some o)→Q none { s with heap:=h',toks:=tk }):wpAny (model prog w) A (getAttr? (.ref a) "keys") Q E s:=by
 obtain ⟨hp,g,d,tk,os⟩:=s
 have hT:∀ tk',(⟨hp,g,d,tk',os⟩:Shared).TypeIs (.ref a) "list":=fun _=>⟨_,hx,rfl⟩
 have f1:=sub_AttributeError
 have f3:=F.slot_list_getattribute.lookup
 have f4:=F.slot_list_getattribute.bind (.ref a)
 have f5:=am_list_getattr_none
 unfold getAttr? getAttrBy? getAttrBy
 repeat (any_goals (first | assumption | exact hT _ | ((with_reducible show wpAny _ _ (call (Value.builtin "list.__getattribute__") _ _) _ _ _);refine call_meets F.slot_list_getattribute (hT _) am_entry_list_getattribute (F.args_list_getattribute_2 _ _) (meets_getattribute_miss_list a xs k sl "keys" _ Ztc (by decide +kernel) (by decide)) ⟨hx,hA,fun h' tk' e hx'=>?_⟩) | wp_step))
 obtain ⟨t',u',he⟩:=hx'.there
 have hT2:∀ tk',(⟨h',g,d,tk',os⟩:Shared).TypeIs (.ref e) "AttributeError":=fun _=>⟨_,he,rfl⟩
 show wpAny _ _ (getattributeRaised _ _ _ _ _ _ _) _ _ _
 unfold getattributeRaised
 repeat (any_goals (first | assumption | exact hT2 _ | wp_step))
 exact h _ _ hx'.of.keeps
end
end L3
namespace L3
open PySem PySem.Spec PyProof.Rows L2
theorem Zew:entryFor table "dict.update.loop"=some Builtin.«dict.update.loop»:=entryFor_of_tree (by kernel_rfl)
theorem Zcx:plainId "dict.update.loop"=true:=by decide +kernel
section
variable {prog:Program} {w:World} {A:Around} {E:Value→Shared→Prop} {s:Shared}
theorem Zs3 {S p:Addr} {x:Str} {t:Tok} {v:Value} {kvs:List (Key×Value)} {i:Int} {Q:Unit→Shared→Prop} (hp:s.heap.IsTuple p #[.str x t,v]) (hS:s.heap.DictOf (Zby prog w) S kvs) (hn:kvs.length≤sizeLine)
  (h:∀ h',h'.DictOf (Zby prog w) S (stored kvs (.inr x) v)→Heap.SameBut S s.heap h'→Q () { s with heap:=h',toks:=s.toks+1 }) :
  wpAny (model prog w) A (holding [Value.ref p] do
   let pair ← (Builtin.Dict.pairItems (.ref p)).tryCatch fun e=>do
    if !(← isInstance e (.type "TypeError")) then throw e
    rule "dict.update.element-no-sequence"
    raiseError "TypeError" s!"cannot convert dictionary update sequence element #{i} to a sequence"
   match pair with
   | [k,v]=>holding [k,v] (dictSet S k v)
   | l =>
    rule "dict.update.element-length"
    raiseError "ValueError" s!"dictionary update sequence element #{i} has length {l.length}; 2 is required") Q E s:=by
 refine wpAny_holding ?_
 have hT:s.TypeIs (.ref p) "tuple":=hp.typeIs
 have hk:wpAny (model prog w) A (Builtin.Dict.pairItems (.ref p)) (fun r s'=>r=[Value.str x t,v]∧s'=s) (fun _ _=>False) s:=by
  obtain ⟨o,ho,hc,n,hd⟩:=hp
  unfold Builtin.Dict.pairItems
  refine wpAny_bind (wpAny_typeOf hT ?_)
  rw [if_pos (by decide)]
  refine wpAny_bind (wpAny_seqItems ho hd ?_)
  exact wpAny_pure ⟨rfl,rfl⟩
 refine wpAny_bind (wpAny_tryCatch (wpAny_mono hk ?_ fun _ _ z=>z.elim))
 rintro r s' ⟨rfl,rfl⟩
 refine wpAny_holding ?_
 exact wpAny_dictSet_pairs (knd:=Zby prog w) (k:=.inr x) (by simp [Zby,Zm6,Value.isStrOf]) hS h hn
theorem ZnW {R:Result→Shared→Prop} {I:Addr} {fp wr:List Addr} {G:Array GenState→Array GenState→Prop} {n:Nat} {P:Nat→Value→Prop} {St:Nat→Shared→Prop} (W:WalksS prog w A.in1 I fp wr G n P St) {S:Addr} (hSf:S∉fp)
  {ps:List (Str×Value)} (hps:ps.length=n):∀ (k i:Nat) (s:Shared) (u:Tok) (kvs:List (Key×Value)),n - i=k→i≤n→St i s→s.heap.DictOf (Zby prog w) S kvs→kvs.length+k≤sizeLine →
   (∀ j v,i≤j→j < n→P j v→∃ p t y,v=.ref p∧p∉S::wr∧ps[j]?=some y∧s.heap.IsTuple p #[.str y.1 t,y.2]) →
   (∀ s',Moved (S::wr) G s s'→s'.heap.DictOf (Zby prog w) S (merged kvs ((ps.drop i).map fun y=>(Sum.inr y.1,y.2)))→R (.ok (.ret .none)) s') →
   codeAny (model prog w) A (.builtin "dict.update.loop" ⟨[.ref S,.ref I,.int i u,.none],[]⟩) R s:=by
 have hSw:S∉wr:=fun z=>hSf (W.sub _ z)
 have hsub:∀ b∈wr,b∈S::wr:=fun b z=>List.mem_cons_of_mem _ z
 intro k
 induction k with
 | zero =>
  intro i s u kvs hk hi hst hS _ _ hR
  obtain rfl:i=n:=by omega
  refine codeAny_builtin Zew ?_
  rw [Around.under_plainId Zcx _]
  refine wpAny_bind (m:=pyNext (.ref I)) (W.done s _ _ hst fun s' hm=>?_)
  refine wpAny_bind (wpAny_pure (wpAny_pure (hR s' (hm.mono hsub) ?_)))
  rw [List.drop_eq_nil_of_le (by omega)]
  obtain ⟨o,es,ep,ho,r⟩:=hS
  exact ⟨o,es,ep,hm.heap S o hSw ho,r⟩
 | succ k ih =>
  intro i s u kvs hk hi hst hS hn hP hR
  have hlt:i < n:=by omega
  refine codeAny_builtin Zew ?_
  rw [Around.under_plainId Zcx _]
  refine wpAny_bind (m:=pyNext (.ref I)) (W.item i s _ _ hlt hst fun v s1 hPv hst1 hm=>?_)
  obtain ⟨p,t,y,rfl,hpn,hy,htup⟩:=hP i v (Nat.le_refl _) hlt hPv
  have hS1:s1.heap.DictOf (Zby prog w) S kvs:=by
   obtain ⟨o,es,ep,ho,r⟩:=hS
   exact ⟨o,es,ep,hm.heap S o hSw ho,r⟩
  have htup1:s1.heap.IsTuple p #[.str y.1 t,y.2]:=htup.at fun o e=>hm.heap p o (fun z=>hpn (hsub _ z)) e
  refine wpAny_bind (Zs3 (i:=i) htup1 hS1 (by omega) fun h' hS2 hsb=>?_)
  have hdrop:ps.drop i=y::ps.drop (i+1):=by
   rw [List.drop_eq_getElem_cons (by omega)]
   rw [List.getElem?_eq_getElem (by omega)] at hy
   rw [Option.some.inj hy]
  refine wpAny_pure ⟨plainId_quiet Zcx _,ih (i+1) _ _ (stored kvs (.inr y.1) y.2) (by omega) hlt (W.frame _ s1 _ _ hst1 (Nat.le_succ _) fun c hc o e=>?_) hS2 ?_ (fun j v h1 h2 hv=>?_) fun s2 hm2 hS3=>?_⟩
  ·rw [hsb.2 c fun z:c=S=>hSf (by rw [← z];exact hc)];exact e
  ·have:=merged_length_le kvs [((Sum.inr y.1:Key),y.2)]
   have e:merged kvs [((Sum.inr y.1:Key),y.2)]=stored kvs (.inr y.1) y.2:=rfl
   rw [e] at this
   simp only [List.length_cons,List.length_nil] at this
   omega
  ·obtain ⟨p',t',y',e1,e2,e3,e4⟩:=hP j v (by omega) h2 hv
   refine ⟨p',t',y',e1,e2,e3,(e4.at fun o e=>hm.heap p' o (fun z=>e2 (hsub _ z)) e).at fun o e=>?_⟩
   rw [hsb.2 p' fun z:p'=S=>e2 (by rw [z];exact List.mem_cons_self)];exact e
  ·refine hR s2 (Moved.trans W.gtrans ((hm.mono hsub).then_heap (Nat.le_succ _) fun c o hc e=>?_) hm2) ?_
   ·rw [hsb.2 c fun z:c=S=>hc (by rw [z];exact List.mem_cons_self)];exact e
   ·rw [hdrop];exact hS3
end
end L3
namespace L3
open PySem PySem.Spec PyProof.Rows L2
section
variable {prog:Program} {w:World} {A:Around} {E:Value→Shared→Prop} {s:Shared}
theorem ZmE {l:Addr} {items:Array Value} {n:Nat} {sl:Array (Option Value)} {ps:List (Str×Value)} {Q:Value→Shared→Prop} (hh:A.handled=none) (hl:s.heap.get? l=some { cls:=.type "list",dict:=none,data:=.seq items n,slots:=sl })
  (hit:∀ (j:Nat) (v:Value),items[j]?=some v→∃ p t y,v=.ref p∧ps[j]?=some y∧s.heap.IsTuple p #[.str y.1 t,y.2]) (hps:ps.length=items.size) (hsz:ps.length≤sizeLine) (hn:(ps.map (·.1)).Nodup)
  (h:∀ h' tk,h'.DictOf (Zby prog w) s.heap.objs.size (ps.map fun y=>(Sum.inr y.1,y.2))→(∀ b o,b < s.heap.objs.size→s.heap.get? b=some o→h'.get? b=some o)→Q (.ref s.heap.objs.size) { s with heap:=h',toks:=tk }) :
  wpAny (model prog w) A (call (.type "dict") [.ref l]) Q E s:=by
 refine callType_codes (Q₁:=fun obj s₁=>obj=.ref s.heap.objs.size∧s₁={ s with heap:=s.heap.push { cls:=.type "dict",data:=.dict #[] } }) F.kt_called_dict (F.kt_typeCall_dict_1 _) F.entry_dict_init (kt_code_dict_new _ ⟨rfl,rfl⟩) ?_
 rintro obj s₁ ⟨rfl,rfl⟩
 have hnew:(s.heap.push { cls:=.type "dict",data:=.dict #[] }).DictOf (Zby prog w) s.heap.objs.size []:=Heap.DictOf.new s.heap
 have hl1:(s.heap.push { cls:=.type "dict",data:=.dict #[] }).get? l=some { cls:=.type "list",dict:=none,data:=.seq items n,slots:=sl }:=Heap.get?_push_of_some _ hl
 refine ⟨hnew.typeIs,F.args_dict_init_2 _ _,?_⟩
 unfold Builtin.«dict.__init__»
 refine wpAny_bind ?_
 unfold Builtin.Dict.selfAndRest
 refine wpAny_bind (wpAny_notOrdered_dict hnew.typeIs ?_)
 show wpAny _ _ (pure (s.heap.objs.size,[Value.ref l])) _ _ _
 refine wpAny_pure ?_
 show wpAny _ _ (Builtin.Dict.updateFrom "dict.__init__" s.heap.objs.size (.ref l) [] .none) _ _ _
 unfold Builtin.Dict.updateFrom
 refine wpAny_bind (wpAny_typeOf (T:="list") ⟨_,hl1,rfl⟩ ?_)
 rw [if_pos (by decide)]
 refine wpAny_bind (ZoO hl1 (by simp [hh]) fun h2 tk2 k2=>?_)
 simp only [Option.isNone_none,if_true]
 refine wpAny_bind (wpAny_rule ?_)
 have hl2:h2.IsList l items:=⟨_,k2 _ _ hl1,rfl,n,rfl⟩
 have hS2:h2.DictOf (Zby prog w) s.heap.objs.size []:=by
  obtain ⟨o,es,ep,ho,r⟩:=hnew
  exact ⟨o,es,ep,k2 _ _ ho,r⟩
 have hlS:l < s.heap.objs.size:=Heap.lt_size hl
 have hS2s:s.heap.objs.size < h2.objs.size:=by
  obtain ⟨o,es,ep,ho,r⟩:=hS2
  exact Heap.lt_size ho
 refine wpAny_bind (wpAny_pyIter_list hl2 ?_)
 refine wpAny_pure ⟨plainId_quiet Zcx _,?_⟩
 have hneI:l≠h2.objs.size:=Nat.ne_of_lt (Nat.lt_trans hlS hS2s)
 have hSf:s.heap.objs.size∉[h2.objs.size,l]:=by
  simp only [List.mem_cons,List.not_mem_nil,or_false,not_or]
  exact ⟨Nat.ne_of_lt hS2s,Nat.ne_of_gt hlS⟩
 refine ZnW (A:=A.in1) ((Walks.list (by simp [hh]) _ l hneI items).toS) hSf (ps:=ps) hps (items.size - 0) 0 _ _ [] (by omega) (Nat.zero_le _) ⟨⟨_,Heap.get?_push_size _ rfl,rfl,rfl⟩,hl2.push _⟩ (hS2.push _) (by simp only [List.length_nil];omega) ?_ ?_
 ·intro j v _ _ hv
  obtain ⟨p,t,y,e1,e2,e3⟩:=hit j v hv
  have hp:p < s.heap.objs.size:=by obtain ⟨o,ho,_⟩:=e3;exact Heap.lt_size ho
  refine ⟨p,t,y,e1,?_,e2,(e3.at fun o e=>k2 _ _ (Heap.get?_push_of_some _ e)).push _⟩
  simp only [List.mem_cons,List.not_mem_nil,or_false,not_or]
  exact ⟨Nat.ne_of_lt hp,Nat.ne_of_lt (Nat.lt_trans hp hS2s)⟩
 ·intro s' hm hS'
  obtain ⟨h',g',d',tk',os'⟩:=s'
  obtain rfl:g'=s.gens:=hm.gens
  obtain rfl:d'=s.drawn:=hm.drawn
  obtain rfl:os'=s.os:=hm.os
  refine ⟨rfl,h h' tk' ?_ fun b o hb e=>?_⟩
  ·rw [List.drop_zero,merged_nil_of_nodup _ ?_] at hS'
   ·exact hS'
   ·rw [List.map_map]
    have:((fun x:Key×Value=>x.1)∘fun y:Str×Value=>((Sum.inr y.1:Key),y.2))=(fun x:Str=>(Sum.inr x:Key))∘(·.1):=rfl
    rw [this,← List.map_map]
    exact List.Pairwise.map _ (fun a b hab z=>hab (Sum.inr.inj z)) hn
  ·refine hm.heap b o ?_ (Heap.get?_push_of_some _ (k2 _ _ (Heap.get?_push_of_some _ e)))
   simp only [List.mem_cons,List.not_mem_nil,or_false,not_or]
   exact ⟨Nat.ne_of_lt hb,Nat.ne_of_lt (Nat.lt_trans hb hS2s)⟩
end
end L3
namespace L3
open PySem PySem.Spec PyProof.Rows L2
def Zpu {α:Type} (kvs:List (Key×α)) (x:Str) (d:α):α:=((kvs.find? fun y=>decide (y.1=Sum.inr x)).map (·.2)).getD d
theorem ZfL {α:Type} {k:Key} {v d:α} {kvs:List (Key×α)} {x:Str}:Zpu ((k,v)::kvs) x d=if k=Sum.inr x then v else Zpu kvs x d:=by
 unfold Zpu
 rw [List.find?_cons]
 by_cases h:k=Sum.inr x
 ·simp [h]
 ·simp [h]
theorem Zrl {x:Str} {d:V} {r:Value} (rd:RelV d r):∀ {kvs:List (Key×V)} {vs:List (Key×Value)},KV kvs vs→RelV (Zpu kvs x d) ((valueAt vs (Sum.inr x)).getD r)
 | _,_,.nil=>rd
 | (k,v)::kvs,(k',v')::vs,.cons ⟨e,rv⟩ t=>by
  have ih:=Zrl (x:=x) rd t
  cases (show k=k' from e)
  rw [ZfL]
  unfold valueAt at ih ⊢
  rw [List.find?_cons]
  by_cases h:k=Sum.inr x
  ·simp [h];exact rv
  ·simp [h];exact ih
theorem Znp {K:PySem.W.Frag} {H:Hp} {x:Str} {d:V} {w:W} (td:Tr K H d w):∀ {vs:List (Key×V)} {ws:List (Key×W)},TrP K H vs ws→Tr K H (Zpu vs x d) (Zpu ws x w)
 | _,_,.nil=>td
 | (k,v)::vs,(_,u)::ws,.cons tv t=>by
  rw [ZfL,ZfL]
  split
  ·exact tv
  ·exact Znp td t
def ZuE (o:W) (ws:List W) (G:Hw) (Q:Kw):Prop:=∃ p kvs x d,o=.ref p∧ws=[.str x,d]∧G p=some (.dct kvs)∧Q (Zpu kvs x d) G
def Zpt (o:W) (G:Hw):Prop:=∃ p kvs,o=.ref p∧G p=some (.dct kvs)
theorem ZtU {X:Cx}:MtR X "dict.get" (fun v vs H Q=>∃ p kvs x d,v=.ref p∧vs=[.str x,d]∧H p=some (.dK kvs)∧Q (Zpu kvs x d) H):=by
 intro pins s σ H x vs v us Q I rx rv h
 obtain ⟨p,kvs,x,d,rfl,rfl,hH,q⟩:=h
 cases rx
 cases rv with
 | cons r1 t =>
  cases t with
  | cons r2 t =>
   cases t
   obtain ⟨t,rfl⟩:=r1
   obtain ⟨z,hd,vs,rel,dd⟩:kvs.length≤sizeLine∧(p==sysModules)=false∧∃ vs,KV kvs vs∧s.heap.DictOf (Zby X.prog X.w) p vs:=I.hok p _ hH
   refine call_meetsIn PySem.F.slot_dict_get dd.typeIs PySem.F.entry_dict_get (PySem.F.args_dict_get_3 _ _ _) (meets_dict_get_default (Zby X.prog X.w) p (k:=Sum.inr x) (by simp [Zby,Zm6,Value.isStrOf]) hd _) ⟨_,dd.mapOf,?_⟩
   exact ⟨_,H,I.tok _,Zrl r2 rel,q⟩
theorem ZoT {X:Cx}:Mth X "dict" "get" "dict.get" Zpt ZuE where
 pa:=PySem.F.plainAttrs_dict
 slot:=PySem.F.slot_dict_get
 ty:=PySem.F.type_dict_get
 ex:=⟨_,ZtU,fun o ws v vs G H Q tv tvs r q=>by
  obtain ⟨p,kvs,x,d,rfl,rfl,e,q⟩:=q
  cases tv
  cases tvs with
  | cons t1 t =>
   cases t with
   | cons t2 t =>
    cases t
    cases t1
    obtain ⟨us,e1,l⟩:=r p _ e
    exact ⟨p,us,x,_,rfl,rfl,e1,q _ _ .refl (Znp t2 l) r⟩⟩
 pr:=fun o v G H t r h=>by
  obtain ⟨p,kvs,rfl,e⟩:=h
  cases t
  obtain ⟨us,e1,l⟩:=r p _ e
  exact .inr (.inr (.inl ⟨rfl,.inl ⟨us,e1⟩⟩))
 m:=(by rintro o ws G Q Q' h ⟨p,kvs,x,d,h1,h2,h3,q⟩;exact ⟨p,kvs,x,d,h1,h2,h3,h _ _ q⟩)
end L3
namespace L3
open PySem PySem.Spec PyProof.Rows L2
inductive PV (K:PySem.W.Frag) (H:Hp):List V→List (Str×V)→Prop where
 | nil:PV K H [] []
 | cons {q:Addr} {x:Str} {v:V} {ys:List V} {pv:List (Str×V)}:SqT K H q [.str x,v]→PV K H ys pv→PV K H (.ref q::ys) ((x,v)::pv)
theorem Zv0 {K:PySem.W.Frag} {H:Hp}:∀ {ws:List (Str×W)} {vs:List V},TrL K H vs (ws.map fun y=>.tup [.str y.1,y.2])→∃ pv,PV K H vs pv∧TrP K H pv ws
 | [],_,.nil=>⟨[],.nil,.nil⟩
 | (x,w)::ws,_,.cons t r=>by
  obtain ⟨pv,h1,h2⟩:=Zv0 r
  cases t with
  | tup hq l =>
   cases l with
   | cons t1 l =>
    cases l with
    | cons t2 l =>
     cases l
     cases t1
     exact ⟨(x,_)::pv,.cons hq h1,.cons t2 h2⟩
theorem Zor {K:PySem.W.Frag} {H:Hp}:∀ {pv:List (Str×V)} {ws:List (Str×W)},TrP K H pv ws→TrP K H (pv.map fun y=>((Sum.inr y.1:Key),y.2)) (ws.map fun y=>((Sum.inr y.1:Key),y.2))
 | _,_,.nil=>.nil
 | _,_,.cons t r=>.cons t (Zor r)
theorem ZnL {K:PySem.W.Frag} {H:Hp}:∀ {pv:List (Str×V)} {ws:List (Str×W)},TrP K H pv ws→pv.map (·.1)=ws.map (·.1)
 | _,_,.nil=>rfl
 | _,_,.cons t r=>by rw [List.map_cons,List.map_cons,ZnL r]
theorem Zpd {X:Cx} {pins:List (Addr×Obj)} {σ:St} {H:Hp} {s:Shared} (I:Inv X pins σ H s):∀ {ys:List V} {pv:List (Str×V)} {its:List Value},PV X.K H ys pv→Vals ys its →
  ∃ ps:List (Str×Value),KV (pv.map fun y=>((Sum.inr y.1:Key),y.2)) (ps.map fun y=>((Sum.inr y.1:Key),y.2))∧ps.map (·.1)=pv.map (·.1)∧ps.length=its.length∧∀ (j:Nat) (v:Value),its[j]?=some v→∃ p t y,v=.ref p∧ps[j]?=some y∧s.heap.IsTuple p #[.str y.1 t,y.2]
 | _,_,_,.nil,r=>by
  cases r
  exact ⟨[],.nil,rfl,rfl,fun j v h=>by simp at h⟩
 | _,_,_,.cons (q:=q) (x:=x) (v:=v) (pv:=pv) hq h,r=>by
  cases r with
  | cons r1 r2 =>
   obtain ⟨ps,h1,h2,h3,h4⟩:=Zpd I h r2
   cases (show _=Value.ref q from r1)
   obtain ⟨it,ri,pt,_⟩:=I.tuple hq
   cases ri with
   | cons a1 t =>
    cases t with
    | cons a2 t =>
     cases t
     obtain ⟨t,rfl⟩:=a1
     refine ⟨(x,_)::ps,.cons ⟨rfl,a2⟩ h1,by rw [List.map_cons,List.map_cons,h2],by rw [List.length_cons,List.length_cons,h3],fun j u hu=>?_⟩
     cases j with
     | zero =>
      rw [List.getElem?_cons_zero] at hu
      cases hu
      exact ⟨q,t,_,rfl,List.getElem?_cons_zero,pt⟩
     | succ j =>
      rw [List.getElem?_cons_succ] at hu
      obtain ⟨p,t',y,e1,e2,e3⟩:=h4 j u hu
      exact ⟨p,t',y,e1,by rw [List.getElem?_cons_succ];exact e2,e3⟩
theorem Zkx {X:Cx} (hc:X.calm=true):CallR X (.type "dict") (fun xs H Q=>∃ p ys pv,xs=[.ref p]∧SqL X.K H p ys∧PV X.K H ys pv∧(pv.map (·.1)).Nodup∧∀ l,H l=none→Q (.ref l) (upd H l (.dK (pv.map fun y=>((Sum.inr y.1:Key),y.2))))):=by
 intro pins s σ H xs us Q I r h
 obtain ⟨p,ys,pv,rfl,hq,hpv,hn,q⟩:=h
 obtain ⟨u,rfl,rx⟩:=ZjT r
 cases rx
 obtain ⟨its,r',pl,hz⟩:=I.list hq
 obtain ⟨o,n,ho,hcl,hdi,hda⟩:=pl
 obtain ⟨oc,od,oda,osl⟩:=o
 simp only at hcl hdi hda
 subst hcl hdi hda
 obtain ⟨ps,h1,h2,h3,h4⟩:=Zpd I hpv r'
 have hl:=r'.length
 have hkl:=Paired.length h1
 rw [List.length_map,List.length_map] at hkl
 refine ZmE (ps:=ps) (I.ok.hd hc) ho (fun j v hv=>h4 j v (by simpa using hv)) (by rw [List.size_toArray];exact h3) (by omega) (by rw [h2];exact hn) fun h' tk dd keep=>?_
 have big:sysModules < s.heap.objs.size:=by
  have h:mainGlobals < s.heap.objs.size:=(I.mod.glob.keeps I.bk).lt
  exact Nat.lt_trans (by decide) h
 have I2:Inv X pins σ (upd H s.heap.objs.size (.dK (pv.map fun y=>((Sum.inr y.1:Key),y.2)))) { s with heap:=h',toks:=tk } :=
  I.laid (t':=tk) (fun b u e=>keep b u (Heap.lt_size e) e) (Nat.le_refl _) (show ObjOk X.prog X.w _ _ _ (.dK _) from ⟨by rw [List.length_map];omega,by simpa using Nat.ne_of_gt big,_,h1,dd⟩)
 exact ⟨.ref s.heap.objs.size,_,I2,rfl,q _ (I.hok.fresh (Nat.le_refl _))⟩
def Zp9 (ws:List W) (G:Hw) (Q:Kw):Prop:=∃ p,∃ ps:List (Str×W),ws=[.ref p]∧G p=some (.lst (ps.map fun y=>.tup [.str y.1,y.2]))∧(ps.map (·.1)).Nodup∧∀ l,G l=none→Q (.ref l) (put G l (.dct (ps.map fun y=>((Sum.inr y.1:Key),y.2))))
theorem Ztl:RWc.M Zp9:=(by rintro ws G Q Q' h ⟨p,ps,h1,h2,h3,q⟩;exact ⟨p,ps,h1,h2,h3,fun l hl=>h _ _ (q l hl)⟩)
theorem Zqr {K:PySem.W.Frag}:UpC K Zp9 (fun xs H Q=>∃ p ys pv,xs=[.ref p]∧SqL K H p ys∧PV K H ys pv∧(pv.map (·.1)).Nodup∧∀ l,H l=none→Q (.ref l) (upd H l (.dK (pv.map fun y=>((Sum.inr y.1:Key),y.2))))):=fun ws vs G H Q t r q=>by
 obtain ⟨p,ps,rfl,hp,hn,q⟩:=q
 cases t with
 | cons tw t =>
  cases t
  cases tw
  obtain ⟨us,e1,l⟩:=r p _ hp
  obtain ⟨pv,h1,h2⟩:=Zv0 l
  refine ⟨p,us,pv,rfl,.inl (Rd.of e1),h1,by rw [ZnL h2];exact hn,fun l hl=>?_⟩
  have hG:G l=none:=by
   cases e:G l with
   | none=>rfl
   | some o =>
    have:=r l o e
    cases o with
    | lst ws=>obtain ⟨_,z,_⟩:=this;rw [hl] at z;cases z
    | exc C=>rw [show H l=_ from this] at hl;cases hl
    | ins C ws=>obtain ⟨_,_,z,_⟩:=this;rw [hl] at z;cases z
    | dct ws=>obtain ⟨_,z,_⟩:=this;rw [hl] at z;cases z
  exact q l hG _ _ (Mono.new hl _) (.ref l) (RelH.laid r (Mono.new hl _) ⟨_,Zbt,(Zor h2).mono (Mono.new hl _)⟩)
theorem ZqM {X:Cx} (hc:X.calm=true):Blt X (.type "dict") Zp9:=⟨⟨_,Zkx hc,Zqr⟩,Ztl⟩
end L3
set_option Elab.async false
set_option linter.all false
set_option maxRecDepth 100000
set_option maxHeartbeats 4000000
namespace L3
open PySem PySem.Spec PyProof.Rows L2
section
variable {X:Cx} {e:Expr} {p1 p3 q1 q3:Pos} {ta:TE}
end
end L3
namespace L3
open PySem PySem.Spec PyProof.Rows L2
def Zu6 (tk1 t1 tk2 t2:TE):TE:=fun σ H Q=>tk1 σ H fun a H1=>t1 σ H1 fun x H2=>tk2 σ H2 fun b H3=>t2 σ H3 fun y H4=>∃ k1 k2,a=.str k1∧b=.str k2∧k1≠k2∧∀ l,H4 l=none→Q (.ref l) (upd H4 l (.dK [((Sum.inr k1:Key),x),((Sum.inr k2:Key),y)]))
theorem Zp3 {X:Cx} {ke1 v1 ke2 v2:Expr} {tk1 t1 tk2 t2:TE} {pos:Pos} (h1:PE X ke1 tk1) (h2:PE X v1 t1) (h3:PE X ke2 tk2) (h4:PE X v2 t2):PE X (.Dict [some ke1,some ke2] [v1,v2] pos) (Zu6 tk1 t1 tk2 t2):=by
 intro pins s σ H Q I h
 have hdn:∀ b:Addr,s.heap.objs.size≤b→H b=none:=fun b hb=>I.hok.fresh hb
 refine wpAny_Dict_pairs (knd:=Zby X.prog X.w) (pairs:=[(eval ke1 X.env,do let x ← eval v1 X.env;standAt pos;pure x),(eval ke2 X.env,do let x ← eval v2 X.env;standAt pos;pure x)]) rfl (by simp) (by simp) ?_
 have hd0:(s.heap.push { cls:=.type "dict",data:=.dict #[] }).get? s.heap.objs.size=some { cls:=.type "dict",data:=.dict #[] }:=Heap.get?_push_size _ rfl
 have I0:Inv X pins σ H { s with heap:=s.heap.push { cls:=.type "dict",data:=.dict #[] } }:=I.kept (t':=s.toks) fun b u e=>Heap.get?_push_of_some _ e
 have I1:Inv X (pins++[(s.heap.objs.size,{ cls:=.type "dict",data:=.dict #[] })]) σ H { s with heap:=s.heap.push { cls:=.type "dict",data:=.dict #[] } }:=I0.pins_of fun p hp=>by
  rcases List.mem_append.mp hp with z | z
  ·exact I0.pin p (List.mem_append_right _ z)
  ·rw [List.mem_singleton.mp z]
   exact ⟨hd0,hdn _ (Nat.le_refl _),Nat.ne_of_gt I.lt,I.nofs (Nat.le_refl _),fun v z=>by cases z⟩
 refine evalPairs_cons (thn (h1 _ _ σ H _ I1 h) fun a s1 zz1=>?_)
 obtain ⟨av,H1,J1,ra,q1⟩:=zz1
 refine wpAny_bind (thn (h2 _ _ σ H1 _ J1 q1) fun x s2 zz2=>wpAny_bind (wpAny_standAt (wpAny_pure ?_)))
 obtain ⟨xv,H2,J2,rx,q2⟩:=zz2
 refine evalPairs_cons (thn (h3 _ _ σ H2 _ J2 q2) fun b s3 zz3=>?_)
 obtain ⟨bv,H3,J3,rb,q3⟩:=zz3
 refine wpAny_bind (thn (h4 _ _ σ H3 _ J3 q3) fun y s4 zz4=>wpAny_bind (wpAny_standAt (wpAny_pure ?_)))
 obtain ⟨yv,H4,J4,ry,q4⟩:=zz4
 refine evalPairs_nil ?_
 obtain ⟨k1,k2,rfl,rfl,hne,q⟩:=q4
 obtain ⟨ta,rfl⟩:=ra
 obtain ⟨tb,rfl⟩:=rb
 have pd:=J4.pin (s.heap.objs.size,{ cls:=.type "dict",data:=.dict #[] }) (by simp)
 refine ⟨[(Sum.inr k1,x),(Sum.inr k2,y)],⟨Zhj _ _ _ _,rfl,Zhj _ _ _ _,rfl,trivial⟩,⟨_,#[],0,pd.1,⟨rfl,rfl,rfl⟩,rfl,fun _ he=>by simp at he,Pairs.nil,List.nodup_nil⟩,fun h' dd sb=>?_⟩
 have em:merged [] [((Sum.inr k1:Key),x),((Sum.inr k2:Key),y)]=[((Sum.inr k1:Key),x),((Sum.inr k2:Key),y)]:=by
  have:¬ ((Sum.inr k1:Key)=Sum.inr k2):=fun z=>hne (Sum.inr.inj z)
  simp [merged,stored,this]
 rw [em] at dd
 have J5:=J4.unpinned
 have big:sysModules < s.heap.objs.size:=by
  have h:mainGlobals < s.heap.objs.size:=(I.mod.glob.keeps I.bk).lt
  exact Nat.lt_trans (by decide) h
 have J6:Inv X pins σ H4 { s4 with heap:=h',toks:=s4.toks+2 }:=by
  refine J5.turned (t':=s4.toks+2) (fun b o hb e=>(sb.2 b hb).trans e) pd.2.1 pd.2.2.1 (.inr I.sz) (fun x c e=>?_) fun p hp=>?_
  ·obtain ⟨v,o,ho,_⟩:=I.cell x c e
   exact Nat.ne_of_lt (Heap.lt_size ho)
  ·exact Nat.ne_of_lt (Heap.lt_size (I.pin p hp).1)
 refine ⟨.ref s.heap.objs.size,_,J6.track (o:=.dK [((Sum.inr k1:Key),xv),((Sum.inr k2:Key),yv)]) pd.2.1 pd.2.2.1 (fun x c e=>?_) (fun p hp=>Nat.ne_of_lt (Heap.lt_size (I.pin p hp).1)) ?_ ⟨(show 2≤sizeLine by decide),by simpa using Nat.ne_of_gt big,_,.cons ⟨rfl,rx⟩ (.cons ⟨rfl,ry⟩ .nil),dd⟩,rfl,q _ pd.2.1⟩
 ·obtain ⟨v,o,ho,_⟩:=I.cell x c e
  exact Nat.ne_of_lt (Heap.lt_size ho)
 ·cases e:X.s₀.heap.get? s.heap.objs.size with
  | none=>rfl
  | some o=>exact absurd (Nat.lt_of_lt_of_le (Heap.lt_size e) I.sz) (Nat.lt_irrefl _)
def ZjU (g1 g2 g3 g4:GE):GE:=fun ω G Q=>g1 ω G fun a G1=>g2 ω G1 fun x G2=>g3 ω G2 fun b G3=>g4 ω G3 fun y G4=>∃ k1 k2,a=.str k1∧b=.str k2∧k1≠k2∧∀ l,G4 l=none→Q (.ref l) (put G4 l (.dct [((Sum.inr k1:Key),x),((Sum.inr k2:Key),y)]))
theorem ZpN {g1 g2 g3 g4:GE} (m1:g1.M) (m2:g2.M) (m3:g3.M) (m4:g4.M):GE.M (ZjU g1 g2 g3 g4):=fun ω G Q Q' h q=>m1 _ _ _ _ (fun a G1 z=>m2 _ _ _ _ (fun x G2 z=>m3 _ _ _ _ (fun b G3 z=>m4 _ _ _ _ (by rintro y G4 ⟨k1,k2,e1,e2,e3,z⟩;exact ⟨k1,k2,e1,e2,e3,fun l hl=>h _ _ (z l hl)⟩) z) z) z) q
theorem ZpT {X:Cx} {ke1 v1 ke2 v2:Expr} {g1 g2 g3 g4:GE} {pos:Pos} (h1:Em X ke1 g1) (h2:Em X v1 g2) (h3:Em X ke2 g3) (h4:Em X v2 g4):Em X (.Dict [some ke1,some ke2] [v1,v2] pos) (ZjU g1 g2 g3 g4):=by
 refine ⟨Zbi (Zp3 h1.p h2.p h3.p h4.p) fun σ H Q ⟨ω,G,ts,r,q⟩=>⟨ω,G,ts,r,h1.m _ _ _ _ (fun a G1 z1 av H1 m1 ta r1=>⟨ω,G1,ts.mono m1,r1,h2.m _ _ _ _ (fun x G2 z2 xv H2 m2 tx r2=>⟨ω,G2,ts.mono (m1.trans m2),r2,h3.m _ _ _ _ (fun b G3 z3 bv H3 m3 tb r3=>⟨ω,G3,ts.mono ((m1.trans m2).trans m3),r3,h4.m _ _ _ _ (fun y G4 z4 yv H4 m4 ty r4=>?_) z3⟩) z2⟩) z1⟩) q⟩,ZpN h1.m h2.m h3.m h4.m⟩
 obtain ⟨k1,k2,rfl,rfl,hne,z⟩:=z4
 cases ta
 cases tb
 refine ⟨k1,k2,rfl,rfl,hne,fun l hl=>z l (r4.no hl) _ _ ((((m1.trans m2).trans m3).trans m4).trans (Mono.new hl _)) (.ref l) (RelH.laid r4 (Mono.new hl _) ⟨_,Zbt,.cons ((tx.mono (m3.trans m4)).mono (Mono.new hl _)) (.cons (ty.mono (Mono.new hl _)) .nil)⟩)⟩
end L3
namespace L3
open PySem PySem.Spec PyProof.Rows L2
def ZpL (g:GE):GE:=fun ω G Q=>g ω G fun x G1=>∃ i,x=.int i∧Q (.int (-i)) G1
theorem ZvB {g:GE} (m:g.M):GE.M (ZpL g):=fun ω G Q Q' h q=>m _ _ _ _ (by rintro x G1 ⟨i,e,z⟩;exact ⟨i,e,h _ _ z⟩) q
theorem Zrh {X:Cx} {a:Expr} {g:GE} {pos:Pos} (h:Em X a g):Em X (.UnaryOp .USub a pos) (ZpL g) :=
 ⟨Zbi (ZwV Zt7 h.p) fun σ H Q ⟨ω,G,ts,r,q⟩=>⟨ω,G,ts,r,h.m _ _ _ _ (fun x G1 z v H1 m t r1=>by
  obtain ⟨i,rfl,z⟩:=z
  cases t
  exact ⟨_,rfl,z _ _ m (.int _) r1⟩) q⟩,ZvB h.m⟩
end L3
set_option maxHeartbeats 1000000
namespace L3
open PySem PySem.Spec PyProof.Rows L2
section
variable {α:Type} {x y z:α} {xs:List α}
theorem Zb4:atI (x::xs) 0=some x:=Zjo (j:=0) (xs:=x::xs) rfl
theorem Zc5:atI (x::y::xs) 1=some y:=Zjo (j:=1) (xs:=x::y::xs) rfl
theorem Zei:atI (x::y::z::xs) 2=some z:=Zjo (j:=2) (xs:=x::y::z::xs) rfl
end
theorem Zae {w:W} {f:W→Prop}:opt (some w) f=f w:=rfl
theorem Zbg {G:Hw} {p:Addr} {o:HW} (h:G p=none):Sub G (put G p o):=Sub.refl.put h
theorem ZcP {G G':Hw} {p:Addr} {o:HW} (s:Sub G G') (h:G' p=none):Sub G (put G' p o):=s.trans (Zbg h)
theorem Zf3 {G:Hw} {p:Addr} {o o':HW}:put (put G p o) p o'=put G p o':=by
 funext b;unfold put;split <;> rfl
theorem ZdE {G:Hw} {p:Addr} {xs:List W} (h:G p=some (.lst xs)):Zi9 G (.ref p)=some xs:=by unfold Zi9;dsimp only;rw [h]
theorem Zgi {G:Hw} {p:Addr} {xs:List W} (h:G p=some (.lst xs)):Zh5 G (.ref p)=some xs:=by unfold Zh5;dsimp only;rw [h]
theorem ZgB {G:Hw} {p:Addr} {xs:List W} (h:G p=some (.lst xs)):rdL G (.ref p)=some xs:=by unfold rdL;dsimp only;rw [h]
theorem Zrs {G:Hw} {p:Addr} {xs:List W} {i:Int} (h:G p=some (.lst xs)):ixW (.ref p) (.int i) G=atI xs i:=by unfold ixW;dsimp only;rw [h]
theorem Zev:∀ bs:List Bool,Zlm (bs.map W.bl)=some bs
 | []=>rfl
 | b::bs=>by show (Zlm (bs.map W.bl)).map (b::·)=_;rw [Zev bs];rfl
theorem ZdV:∀ bs:List Str,Zh6 (bs.map W.str)=some (bs.map V.str)
 | []=>rfl
 | b::bs=>by show (Zpk (.str b)).bind (fun v=>(Zh6 (bs.map W.str)).map (v::·))=_;rw [ZdV bs];rfl
theorem Zfs (s:Str):∀ bs:List Str,inV (.str s) (bs.map V.str)=bs.any (·==s)
 | []=>rfl
 | b::bs=>by
  show (eqV (.str b) (.str s)||inV (.str s) (bs.map V.str))=_
  rw [Zfs s bs];rfl
theorem Zld {gd:Hw→Prop} {ge:GE} {R:List W→Hw→Prop} {f:W→W} {G:Hw} (hgd:gd G):∀ (ws:List W) (o:Option W) (ys:List W),(∀ x∈ws,∀ Q:Kw,Q (f x) G→ge [some x] G Q) →
  ys.length+ws.length≤sizeLine→R (ys++ws.map f) G→Zb3 gd (gNm 0) Zf6 ge R ws [o] G ys
 | [],o,ys,_,_,r=>⟨hgd,by simpa using r⟩
 | x::ws,o,ys,h,hl,r=>by
  refine ⟨hgd,by simp only [List.length_cons] at hl;omega,?_⟩
  show ge [some x] G fun y G3=>Zb3 gd (gNm 0) Zf6 ge R ws [some x] G3 (ys++[y])
  refine h x List.mem_cons_self _ (Zld hgd ws (some x) (ys++[f x]) (fun y hy=>h y (List.mem_cons_of_mem _ hy)) ?_ ?_)
  ·simp only [List.length_append,List.length_cons,List.length_nil] at hl ⊢;omega
  ·simpa [List.append_assoc] using r
theorem Zua {gd:Hw→Prop} {ge:GE} {R:List W→Hw→Prop} {f:W→W→W} {G:Hw} (hgd:gd G):∀ (ws:List (W×W)) (o o':Option W) (ys:List W),(∀ x∈ws,∀ Q:Kw,Q (f x.1 x.2) G→ge [some x.1,some x.2] G Q) →
  ys.length+ws.length≤sizeLine→R (ys++ws.map fun x=>f x.1 x.2) G→Zb3 gd (Zr3 0 1) Zf6 ge R (ws.map fun x=>W.tup [x.1,x.2]) [o,o'] G ys
 | [],o,o',ys,_,_,r=>⟨hgd,by simpa using r⟩
 | x::ws,o,o',ys,h,hl,r=>by
  refine ⟨hgd,by simp only [List.length_cons] at hl;omega,?_⟩
  show ge [some x.1,some x.2] G fun y G3=>Zb3 gd (Zr3 0 1) Zf6 ge R (ws.map fun x=>W.tup [x.1,x.2]) [some x.1,some x.2] G3 (ys++[y])
  refine h x List.mem_cons_self _ (Zua hgd ws (some x.1) (some x.2) (ys++[f x.1 x.2]) (fun y hy=>h y (List.mem_cons_of_mem _ hy)) ?_ ?_)
  ·simp only [List.length_append,List.length_cons,List.length_nil] at hl ⊢;omega
  ·simpa [List.append_assoc] using r
theorem Zmd:∀ (xs ys:List W),Zmz xs ys=(xs.zip ys).map fun x=>W.tup [x.1,x.2]
 | [],_=>by simp [Zmz]
 | _::_,[]=>by simp [Zmz]
 | x::xs,y::ys=>by simp [Zmz,Zmd xs ys]
def spR {α:Type} (A:α→List W→Hw→Prop) (f:α→W):Spw:=fun ws G Q _=>∃ x,A x ws G∧Q (f x) G
theorem Zdf {α:Type} {A:α→List W→Hw→Prop} {f:α→W}:Spw.M (spR A f):=(by rintro ws G Q Q' E E' h _ ⟨x,h1,q⟩;exact ⟨x,h1,h _ _ q⟩)
def spL {α:Type} (A:α→List W→Hw→Prop) (f:α→List W):Spw:=fun ws G Q _=>∃ x,A x ws G∧∀ p,G p=none→Q (.ref p) (put G p (.lst (f x)))
theorem Zqb {α:Type} {A:α→List W→Hw→Prop} {f:α→List W}:Spw.M (spL A f):=(by rintro ws G Q Q' E E' h _ ⟨x,h1,q⟩;exact ⟨x,h1,fun p hp=>h _ _ (q p hp)⟩)
theorem Zjr {α:Type} (xs:List α):ZgS xs (some 1) none=xs.drop 1:=by
 have e:HT.sIx xs.length 0 (some 1)=min 1 xs.length:=HT.sIx_nat xs.length 0 1
 unfold ZgS
 rw [e,HT.sIx_none]
 cases xs with
 | nil=>rfl
 | cons x xs =>
  have e1:min 1 (x::xs).length=1:=by simp only [List.length_cons];omega
  rw [e1]
  show (xs.take ((xs.length+1) - 1))=xs
  rw [Nat.add_sub_cancel,List.take_length]
theorem Zen {α:Type} (x:α) (xs:List α):¬ (HT.sIx (x::xs).length 0 (some 1)=0∧HT.sIx (x::xs).length (x::xs).length none=(x::xs).length):=by
 have e:HT.sIx (x::xs).length 0 (some 1)=min 1 (x::xs).length:=HT.sIx_nat (x::xs).length 0 1
 intro h
 have:=h.1
 rw [e] at this
 simp only [List.length_cons] at this
 omega
theorem ZvN {G:Hw} {p:Addr} {xs:List W} {lo hi:Option Int} {Q:Kw} (h:G p=some (.lst xs)) (q:∀ p1,G p1=none→Q (.ref p1) (put G p1 (.lst (ZgS xs lo hi)))):slW (.ref p) lo hi G Q:=by
 unfold slW
 dsimp only
 rw [h]
 exact q
theorem ZaF {G:Hw} {p q:Addr} {o:HW} (h:G p=some o) (h':G q=none):p≠q:=by intro e;rw [e,h'] at h;cases h
theorem Zbw {n:Nat} (h:n≤100000):n≤sizeLine:=Nat.le_trans h (by decide)
theorem Zl5 {n:Nat} (h:n≤100000):n < sizeLine:=Nat.lt_of_le_of_lt h (by decide)
end L3
namespace L3
open PySem PySem.Spec PyProof.Rows L2
section
variable {P:Program} {w:World} {K:PySem.W.Frag} {mg:Str→Option Value} {base:Heap}
theorem ok0 {x:Str} {st:Stmt} {f:Addr} {fd:FuncData} {N ps:List Str} {k:Nat} {sp:Spw} {g:GS} (F:Fun K x x st f fd) (S:ZaD N ps (Zac st)) (len:∀ ws G Q E,sp ws G Q E→ws.length=ps.length)
  (hg:∀ {f:Addr} {cdv:Value} {A:Around} {outer:List Env} {s:Shared} {H:Hp} {E:XK},Room k (A.deeper (envOfC x (Zac st) s.heap.objs.size f cdv))→Ssm (cxW P w K mg base N x (Zac st) f cdv A outer s H E).nox (fun B=>B=H) (Zaz st) g)
  (ok:∀ ws G (Q:Kw) (E:Addr→Hw→Prop),Kw.C Q→sp ws G Q E→g (ZaR Q) (ZbY N ws) G):FnOk P w K mg base (CXe P w) (k+1) f fd ps (ZtH K sp):=by
 obtain ⟨oc,od,kV,doc,pm,an,cdv,ct,osl,rfl,lk,hcd⟩:=F.ex
 refine ZsX lk hcd S ((by rintro vs H Q E ⟨ws,G,t,r,q⟩;rw [t.length];exact len ws G _ _ q)) fun A outer s H vs Q E hr hsp=>?_
 obtain ⟨ws,G,t,r,q⟩:=hsp
 have D:=hg (cdv:=cdv) (outer:=outer) (H:=H) (E:=E) hr
 refine ⟨_,(D.p H rfl).nox,ZbY N ws,G,ZiH t,r,.refl,?_⟩
 exact D.m _ _ (ZaR (dn K H Q)) _ (fun a b z σ H2 m ts r2=>z _ H2 m Tr.non r2) (fun a b z=>z) (fun a b z=>z.elim) (fun a b z=>z.elim) (ok ws G _ _ Zxl q)
end
def ZpE:Spw:=fun ws _ Q _=>∃ ns:List Int,ws=[.rol (ns.map W.int)]∧ns.length≤63∧∀ G',Q (.bl true) G'
theorem ZlZ {K:PySem.W.Frag} {H:Hp}:∀ ns:List Int,TrL K H (ns.map V.int) (ns.map W.int)
 | []=>.nil
 | n::ns=>.cons (.int n) (ZlZ ns)
theorem ZnM {K:PySem.W.Frag} {H:Hp} {a:Addr} {ns:List Int} (hl:ns.length≤63) (hO:Zv8 H) (hS:SqL K H a (ns.map V.int)):ZtH K ZpE [.ref a] H (fun v _=>v=.bl true) (fun _ _ _=>False):=by
 have ro:RoL K H a (ns.map V.int):=by
  rcases hS with (h | ⟨o,h⟩) | h
  ·rcases hO a with z | ⟨o,xs,z⟩
   ·rw [z] at h;cases h
   ·rw [z] at h;cases h
  ·exact .inl ⟨o,h⟩
  ·exact .inr h
 exact ⟨[.rol (ns.map W.int)],fun _=>none,.cons (.rol ro (ZlZ ns)) .nil,(fun a o e=>by cases e),ns,rfl,hl,fun G' v H' m t r=>ZmL t⟩
theorem Zre {P:Program} {w:World} {H:Hp} {s:Shared} {e:Value} {s':Shared} (h:CXe P w [] H s (fun _ _ _=>False) e s'):False:=by
 obtain ⟨_,_,_,_,_,q⟩:=h
 exact q
section
variable {K:PySem.W.Frag} {h:Heap} {mg:Str→Option Value} (X:K.In h) (G:h.Ns mainGlobals mg)
include X G
theorem ZbZ {x:Str} {st:Stmt} {ps:List Str} {f:Addr} {oc:Value} {od an:Option Addr} {osl:Array (Option Value)} {kV doc pm cdv ct:Value} (e1:PySem.W.nsIn K mainGlobals x=some (some (.ref f)))
  (l:K.lookup f=some ⟨oc,od,.func (PySem.W.fnOf x x (Zfd st) (Zaz st) (Zac st) .none kV doc pm an cdv ct),osl⟩) (c:PySem.W.codeIn K cdv x=true) (k:PySem.W.keepIn K (.ref f)=true)
  (b:∀ (kV doc pm:Value) (an:Option Addr) (cdv ct:Value) (us:List Value),us.length=ps.length→bindArgs (PySem.W.fnOf x x (Zfd st) (Zaz st) (Zac st) .none kV doc pm an cdv ct) ⟨us,[]⟩=pure (ps.zip us)):Fn K mg st x ps :=
 ⟨f,_,PySem.W.mg_of X G e1,Zrp l c k,(Zrp l c k).binds b⟩
theorem ZkP {x:Str} {i:Int} {t:Tok} (e:PySem.W.nsIn K mainGlobals x=some (some (.int i t))):Glb K mg x (.int i):=⟨.int i,.int i t,PySem.W.mg_of X G e,⟨t,rfl⟩,fun H=>.int i⟩
theorem Zr5 {x:Str} {d:Addr} {ts:List (Str×Tok)} {dd:Option Addr} {n:Nat} {sl:Array (Option Value)} (e:PySem.W.nsIn K mainGlobals x=some (some (.ref d))) (l:K.lookup d=some ⟨.type "tuple",dd,.seq ((ts.map fun p=>Value.str p.1 p.2).toArray) n,sl⟩) (hz:ts.length≤1000) :
  Glb K mg x (.tup (ts.map fun p=>.str p.1)):=by
 have vs:∀ ts:List (Str×Tok),Vals (ts.map fun p=>V.str p.1) (ts.map fun p=>Value.str p.1 p.2):=fun ts=>by
  induction ts with
  | nil=>exact .nil
  | cons p ts ih=>exact .cons ⟨p.2,rfl⟩ ih
 have tr:∀ (H:Hp) (ts:List (Str×Tok)),TrL K H (ts.map fun p=>V.str p.1) (ts.map fun p=>W.str p.1):=fun H ts=>by
  induction ts with
  | nil=>exact .nil
  | cons p ts ih=>exact .cons (.str _) ih
 refine ⟨.ref d,.ref d,PySem.W.mg_of X G e,rfl,fun H=>.tup (.inr ⟨_,_,n,l,rfl,rfl,?_,by simpa using vs ts⟩) (tr H ts)⟩
 simp only [List.size_toArray,List.length_map]
 exact Nat.le_trans hz (by decide)
end
theorem ZtQ {K:PySem.W.Frag} {h base:Heap} {mg:Str→Option Value} (X:K.In h) (G:h.Ns mainGlobals mg) (B:K.In base) {x:Str} {d:Addr} {o:Obj} {es:Array DictEntry} {ep:Nat} {D:List (Str×Int)} (e:PySem.W.nsIn K mainGlobals x=some (some (.ref d))) (l:K.lookup d=some o)
  (hd:(d==sysModules)=false) (hx:o.ExactDict) (ho:o.data=.dict es ep) (hr:KTD.Rows (KTD.Dat.At base) es.toList (D.map fun p=>(p.1,KTD.Dat.flat (.int p.2)))):Zwh mg base x D :=
 ⟨d,PySem.W.mg_of X G e,hd,o,es,ep,B _ _ l,hx,ho,hr⟩
theorem ZwP {l:PySem.W.OpenLaw} {q:Program} {loose:List Str} {XP:(Str→Option Value)→Heap→Prop} {YP:World→Heap→Prop} {d:DefRec} {K:Params→PySem.W.Frag} {k:Nat} (hr:Room k callerA) (hn:l.most=some 63) (hdf:d.params.defaults=[])
  (hY:∀ (w:World) (h:Heap),YP w h→(K w.params).In h)
  (F:∀ (w:World) (mg:Str→Option Value) (fa:Addr) (h:Heap),(K w.params).In h→h.Ns mainGlobals mg→mg d.name=some (.ref fa) →
   ∃ fd:FuncData,(∀ (s:Shared) (u:Value),BindsTo s fd ⟨[u],[]⟩ [("script",u)])∧∀ base:Heap,(K w.params).In base→base.Ns mainGlobals mg→FnOk l.prog w (K w.params) mg base (CXe l.prog w) k fa fd ["script"] (ZtH (K w.params) ZpE)) :
  PySem.W.WalkO q loose XP YP l.row.toRowW d [] (fun f vs=>PySem.call f vs) :=
 L2.ZtG (n:=63) (k:=k) (x:="script") (CX:=fun w=>CXe l.prog w) (sp:=fun w=>ZtH (K w.params) ZpE) hn (by decide) hdf hr hY F (fun w H a ns hl hO hS=>ZnM hl hO hS) fun w H s e s' z=>Zre z
theorem ln0 {us:List Value} (h:us.length=0):us=[]:=List.length_eq_zero_iff.mp h
theorem ln1 {us:List Value} {n:Nat} (h:us.length=n+1):∃ a r,us=a::r∧r.length=n:=by
 cases us with
 | nil=>cases h
 | cons a r=>exact ⟨a,r,rfl,Nat.succ.inj h⟩
end L3
namespace K2
open PySem L2 L3
mutual
inductive Kd where
 | any | num | truth
 | to (a b:Kd) | box (a:Kd) | row (fs:Fs) (o:Bool)
inductive Fs where
 | nil | cons (n:Str) (m:Bool) (k:Kd) (r:Fs)
end
def Zed (m:Bool):Str:=if m then "must" else "may"
mutual
def Kd.enc:Kd→W
 | .any=>.tup [.str "any"]
 | .num=>.tup [.str "num"]
 | .truth=>.tup [.str "truth"]
 | .to a b=>.tup [.str "to",a.enc,b.enc]
 | .box a=>.tup [.str "box",a.enc]
 | .row fs o=>.tup [.str "row",.tup fs.enc,.bl o]
def Fs.enc:Fs→List W
 | .nil=>[]
 | .cons n m k r=>.tup [.str n,.str (Zed m),k.enc]::r.enc
end
def Fs.kinds:Fs→List Kd
 | .nil=>[]
 | .cons _ _ k r=>k::r.kinds
def Fs.names:Fs→List Str
 | .nil=>[]
 | .cons n _ _ r=>n::r.names
def Kd.kids:Kd→List Kd
 | .to a b=>[a,b]
 | .box a=>[a]
 | .row fs _=>fs.kinds
 | _=>[]
mutual
def Kd.cnt:Kd→Nat
 | .to a b=>1+(a.cnt+b.cnt)
 | .box a=>1+a.cnt
 | .row fs _=>1+fs.cnt
 | _=>1
def Fs.cnt:Fs→Nat
 | .nil=>0
 | .cons _ _ k r=>k.cnt+r.cnt
end
mutual
def Kd.dp:Kd→Nat
 | .to a b=>1+max a.dp b.dp
 | .box a=>1+a.dp
 | .row fs _=>1+fs.dp
 | _=>1
def Fs.dp:Fs→Nat
 | .nil=>0
 | .cons _ _ k r=>max k.dp r.dp
end
mutual
def Kd.all:Kd→List Kd
 | .to a b=>.to a b::(a.all++b.all)
 | .box a=>.box a::a.all
 | .row fs o=>.row fs o::fs.all
 | .any=>[.any]
 | .num=>[.num]
 | .truth=>[.truth]
def Fs.all:Fs→List Kd
 | .nil=>[]
 | .cons _ _ k r=>k.all++r.all
end
def Zgj:List Kd→Nat
 | []=>0
 | k::r=>k.cnt+Zgj r
def dpL:List Kd→Nat
 | []=>0
 | k::r=>max k.dp (dpL r)
theorem ZoQ:∀ fs:Fs,fs.cnt=Zgj fs.kinds
 | .nil=>rfl
 | .cons _ _ k r=>by show k.cnt+r.cnt=k.cnt+Zgj r.kinds;rw [ZoQ r]
theorem ZvM:∀ fs:Fs,fs.dp=dpL fs.kinds
 | .nil=>rfl
 | .cons _ _ k r=>by show max k.dp r.dp=max k.dp (dpL r.kinds);rw [ZvM r]
theorem Zfx (k:Kd):k.cnt=1+Zgj k.kids:=by
 cases k with
 | to a b=>show 1+(a.cnt+b.cnt)=1+(a.cnt+(b.cnt+0));omega
 | box a=>show 1+a.cnt=1+(a.cnt+0);omega
 | row fs o=>show 1+fs.cnt=1+Zgj fs.kinds;rw [ZoQ]
 | _=>rfl
theorem ZiW (k:Kd):k.dp=1+dpL k.kids:=by
 cases k with
 | to a b=>show 1+max a.dp b.dp=1+max a.dp (max b.dp 0);omega
 | box a=>show 1+a.dp=1+max a.dp 0;omega
 | row fs o=>show 1+fs.dp=1+dpL fs.kinds;rw [ZvM]
 | _=>rfl
theorem Zg4:∀ (l m:List Kd),Zgj (l++m)=Zgj l+Zgj m
 | [],m=>by simp [Zgj]
 | k::l,m=>by show k.cnt+Zgj (l++m)=k.cnt+Zgj l+Zgj m;rw [Zg4 l m];omega
theorem Zis:∀ (l m:List Kd),dpL (l++m)=max (dpL l) (dpL m)
 | [],m=>by simp [dpL]
 | k::l,m=>by show max k.dp (dpL (l++m))=max (max k.dp (dpL l)) (dpL m);rw [Zis l m];omega
theorem ZnR (k:Kd):1≤k.cnt:=by rw [Zfx];omega
theorem Zgt (k:Kd):1≤k.dp:=by rw [ZiW];omega
theorem Ziz:∀ l:List Kd,Zgj l=l.length+Zgj (l.flatMap Kd.kids)
 | []=>rfl
 | k::l=>by
  show k.cnt+Zgj l=(l.length+1)+Zgj ((k::l).flatMap Kd.kids)
  rw [List.flatMap_cons,Zg4,Ziz l,Zfx k];omega
theorem ZjQ:∀ l:List Kd,l≠[]→dpL l=1+dpL (l.flatMap Kd.kids)
 | [],h=>absurd rfl h
 | [k],_=>by
  show max k.dp 0=1+dpL ([k].flatMap Kd.kids)
  rw [List.flatMap_cons,List.flatMap_nil,List.append_nil,ZiW];omega
 | k::k'::l,_=>by
  have ih:=ZjQ (k'::l) (by simp)
  show max k.dp (dpL (k'::l))=1+dpL ((k::k'::l).flatMap Kd.kids)
  rw [List.flatMap_cons,Zis,ih,ZiW k];omega
theorem Zjf:∀ l:List Kd,l.length≤Zgj l
 | []=>Nat.le_refl _
 | k::l=>by have:=Zjf l;have:=ZnR k;show l.length+1≤k.cnt+Zgj l;omega
theorem Zjk:∀ {l:List Kd} {k:Kd},k∈l→k.cnt≤Zgj l
 | k'::l,k,h=>by
  show k.cnt≤k'.cnt+Zgj l
  rcases List.mem_cons.mp h with rfl | h
  ·omega
  ·have:=Zjk h;omega
theorem Zfc:∀ {l:List Kd} {k:Kd},k∈l→k.dp≤dpL l
 | k'::l,k,h=>by
  show k.dp≤max k'.dp (dpL l)
  rcases List.mem_cons.mp h with rfl | h
  ·omega
  ·have:=Zfc h;omega
theorem Za8 {k c:Kd} (h:c∈k.kids):c.dp+1≤k.dp:=by rw [ZiW k];have:=Zfc h;omega
theorem Zqu {k c:Kd} (h:c∈k.kids):c.cnt+1≤k.cnt:=by rw [Zfx k];have:=Zjk h;omega
theorem Zmp (k:Kd):k.kids.length+1≤k.cnt:=by rw [Zfx k];have:=Zjf k.kids;omega
theorem Zof:∀ fs:Fs,fs.enc.length=fs.kinds.length
 | .nil=>rfl
 | .cons _ _ k r=>by show r.enc.length+1=r.kinds.length+1;rw [Zof r]
def Kd.unk:Kd→Bool
 | .any=>true
 | .row _ o=>o
 | _=>false
def Kd.fb:Kd→Bool
 | .to _ _=>true
 | .box _=>true
 | _=>false
def Kd.known (k:Kd):Bool:=!(k.all.any Kd.unk)
def Kd.data (k:Kd):Bool:=!(k.all.any Kd.fb)
def Kd.hd:Kd→Str
 | .any=>"any"
 | .num=>"num"
 | .truth=>"truth"
 | .to _ _=>"to"
 | .box _=>"box"
 | .row _ _=>"row"
def Kd.own:Kd→List Str
 | .row _ o=>if o then ["row","open"] else ["row"]
 | k=>[k.hd]
def ZfW (z:Str):Bool:=!ZaP z "a"&&!ZaP "z" z
def ZcB (n:Str):Bool:=decide (1≤n.length)&&decide (n.length≤8)&&n.cps.toList.all fun c=>ZfW ⟨#[c]⟩
def ZhU:List Str→Bool
 | a::b::r=>ZaP a b&&ZhU (b::r)
 | _=>true
mutual
def Kd.ok:Kd→Bool
 | .to a b=>a.ok&&b.ok
 | .box a=>a.ok
 | .row fs _=>ZhU fs.names&&fs.ok
 | _=>true
def Fs.ok:Fs→Bool
 | .nil=>true
 | .cons n _ k r=>ZcB n&&k.ok&&r.ok
end
theorem Zfo:∀ {fs:Fs},fs.ok=true→∀ c∈fs.kinds,c.ok=true
 | .nil,_,c,hc=>by cases hc
 | .cons n m k r,h,c,hc=>by
  have h':(ZcB n&&k.ok&&r.ok)=true:=h
  simp only [Bool.and_eq_true] at h'
  rcases List.mem_cons.mp hc with rfl | hc
  ·exact h'.1.2
  ·exact Zfo h'.2 c hc
theorem Zk1 {k:Kd} (h:k.ok=true):∀ c∈k.kids,c.ok=true:=by
 intro c hc
 cases k with
 | to a b =>
  have h':(a.ok&&b.ok)=true:=h
  simp only [Bool.and_eq_true] at h'
  have hc':c=a∨c=b:=by simpa [Kd.kids] using hc
  rcases hc' with rfl | rfl
  ·exact h'.1
  ·exact h'.2
 | box a=>have hc':c=a:=by simpa [Kd.kids] using hc
          subst hc';exact h
 | row fs o =>
  have h':(ZhU fs.names&&fs.ok)=true:=h
  simp only [Bool.and_eq_true] at h'
  exact Zfo h'.2 c hc
 | _=>cases hc
set_option Elab.async false
set_option linter.all false
set_option maxRecDepth 100000
set_option maxHeartbeats 4000000
open PySem PySem.Spec PyProof.Rows L2 L3
abbrev ZaQ:Stmt:=top 22
abbrev ZbM:Stmt:=top 23
abbrev Zc9:Stmt:=top 21
abbrev ZcF:Stmt:=top 20
abbrev ZbF:Stmt:=top 19
abbrev ZcL:Stmt:=top 18
abbrev Zbh:Stmt:=top 17
abbrev Zbf:Stmt:=top 16
abbrev Zbp:Stmt:=top 15
abbrev Zdb:Stmt:=top 14
abbrev ZbE:Stmt:=top 12
abbrev ZcI:Stmt:=top 9
abbrev ZcE:Stmt:=top 10
abbrev Zba:Stmt:=top 11
abbrev Zbr:Stmt:=top 13
abbrev Zd1:Stmt:=top 28
abbrev ZaK:Stmt:=top 31
abbrev Za7:Stmt:=top 30
abbrev ZcD:Stmt:=top 29
abbrev ZbR:Stmt:=top 35
abbrev Zcb:Stmt:=top 36
abbrev Zca:Stmt:=top 37
abbrev ZbD:Stmt:=top 40
abbrev Za5:Stmt:=top 38
abbrev ZaS:Stmt:=top 39
abbrev Za1:Stmt:=top 41
abbrev ZbP:Stmt:=top 44
abbrev ZbL:Stmt:=top 45
abbrev ZjY:Stmt:=top 46
abbrev Za6:Stmt:=top 33
abbrev ZcJ:Stmt:=top 32
abbrev Zbs:Stmt:=top 26
abbrev Zdd:Stmt:=top 27
def Zhg:List (Str×Int):=[("any",1),("num",1),("truth",1),("to",3),("box",2),("row",3)]
def Zdi:List (Str×List Str):=[("any",[]),("num",[]),("truth",[]),("to",["in","out"]),("box",["inside"])]
structure Adr where
 CastError:Addr
 NoKind:Addr
structure Tx (K:PySem.W.Frag) (mg:Str→Option Value) (base:Heap) (a:Adr):Prop where
 Zjh:mg "all"=none
 Zhk:mg "bool"=none
 Zil:mg "dict"=none
 ZkY:mg "int"=none
 ZaN:mg "isinstance"=none
 ZfM:mg "len"=none
 Zij:mg "list"=none
 Zfp:mg "range"=none
 Znb:mg "set"=none
 ZeM:mg "sorted"=none
 Zle:mg "str"=none
 Zcu:mg "tuple"=none
 ZjP:mg "zip"=none
 Zlj:mg "CastError"=some (.ref a.CastError)
 Zqn:mg "NoKind"=some (.ref a.NoKind)
 ZfZ:Glb K mg "MARKS" (.tup [(.str "must"),(.str "may")])
 Zcg:Glb K mg "MOST_DEPTH" (.int 8)
 Zcj:Glb K mg "MOST_KINDS" (.int 40)
 Zbx:Glb K mg "MOST_LETTERS" (.int 8)
 Zj8:Zwh mg base "LENGTHS" Zhg
 Zlq:ZwG K mg base "STEPS" Zdi
 ZbT:Fn K mg ZaQ "is_small_letter" ["sign"]
 Zdj:Fn K mg ZbM "names_rise" ["names"]
 ZfJ:Fn K mg Zc9 "is_name" ["thing"]
 ZeN:Fn K mg ZcF "is_field" ["thing"]
 Zds:Fn K mg ZbF "are_fields" ["thing"]
 ZeH:Fn K mg ZcL "has_form" ["thing"]
 ZcM:Fn K mg Zbh "kinds_within" ["kind"]
 ZcR:Fn K mg Zbf "layer_within" ["layer","things_within"]
 Zdu:Fn K mg Zbp "is_made_of" ["thing","is_formed","things_within","most","deepest"]
 ZfT:Fn K mg Zdb "is_kind" ["thing"]
 Zdp:Fn K mg ZbE "check_kind" ["thing"]
 ZeF:Fn K mg ZcI "entry_of" ["row","name"]
 ZeK:Fn K mg ZcE "names_of" ["row"]
 Zcy:Fn K mg Zba "names_of_both" ["one","other"]
 Zc4:Fn K mg Zbr "check_kinds" ["one","other"]
 ZgY:Fn K mg Zd1 "behind" ["step","path"]
 ZbC:Fn K mg ZaK "clash_of_entries" ["one","other"]
 Zcn:Fn K mg Za7 "clash_of_rows" ["one","other"]
 ZdH:Fn K mg ZcD "clash_of" ["one","other"]
 Zdo:Fn K mg ZbR "_law_state" ["script","k"]
 Zd6:Fn K mg Zcb "_law_take" ["state","many"]
 ZbN:Fn K mg Zca "_law_kind" ["state","deep"]
 ZcK:Fn K mg ZbD "_law_near" ["state","kind","deep"]
 Zb0:Fn K mg Za5 "_law_renamed" ["kind","names"]
 ZbS:Fn K mg ZaS "_law_some_names" ["state"]
 ZcO:Fn K mg Za1 "_law_entries" ["kind","names"]
 ZcU:Fn K mg ZbP "_law_there" ["one","other","path"]
 Zd0:Fn K mg ZbL "_law_path" ["state","found"]
 Zsm:Fn K mg ZjY "law" ["script"]
 Zcw:Fn K mg Za6 "clash_at_name" ["one","other","path"]
 ZdI:Fn K mg ZcJ "clash_at" ["one","other","path"]
 Zc7:Fn K mg Zbs "first_clash" ["one","other"]
 ZfI:Fn K mg Zdd "clashes" ["one","other","path"]
section
variable {P:Program} {w:World} {K:PySem.W.Frag} {mg:Str→Option Value} {base:Heap} {a:Adr}
abbrev ZdO:List Str:=["sign"]
theorem Zge:ZaD ZdO ["sign"] (Zac ZaQ):=⟨rfl,rfl,rfl,by decide +kernel,rfl,by decide +kernel,by decide +kernel⟩
def ZdX:GS:=(ZaE (Zcz (ZfY (fun i j=>decide (i≤j)) (fun a b=>!ZaP b a)) (ZfY (fun i j=>decide (i≤j)) (fun a b=>!ZaP b a)) (gC (.str "a")) (Zad 0) (gC (.str "z"))))
theorem Zf5 {k:Nat} (T:Tx K mg base a) {f:Addr} {cdv:Value} {A:Around} {outer:List Env} {s:Shared} {H:Hp} {E:XK} (hr:Room k (A.deeper (envOfC "is_small_letter" (Zac ZaQ) s.heap.objs.size f cdv))):Ssm (cxW P w K mg base ZdO "is_small_letter" (Zac ZaQ) f cdv A outer s H E).nox (fun B=>B=H) (Zaz ZaQ) (ZdX) :=
 have hu:=ZeQ hr
 (Zak (Zat (ZpO Zl1 Zl1 rfl Zau (Zan (i:=0) rfl rfl rfl rfl) Zau)))
abbrev ZgD:List Str:=["names"]
theorem Zkz:ZaD ZgD ["names"] (Zac ZbM):=⟨rfl,rfl,rfl,by decide +kernel,rfl,by decide +kernel,by decide +kernel⟩
def ZgI:GS:=(ZaE (gB (rF ZiK) (Zab (Zc1 (ZkK (Zab (Zad 0) (Zab (gSl (Zad 0) (ZaX (gC (.int 1))) Zav) Zal))) 2 (Zr3 0 1) Zf6 (Zaj (ZfY (fun i j=>decide (i < j)) ZaP) (Zad 0) (Zad 1))) Zal)))
theorem Zkr {k:Nat} (T:Tx K mg base a) {f:Addr} {cdv:Value} {A:Around} {outer:List Env} {s:Shared} {H:Hp} {E:XK} (hr:Room k (A.deeper (envOfC "names_rise" (Zac ZbM) s.heap.objs.size f cdv))):Ssm (cxW P w K mg base ZgD "names_rise" (Zac ZbM) f cdv A outer s H E).nox (fun B=>B=H) (Zaz ZbM) (ZgI) :=
 have hu:=ZeQ hr
 (Zak (Zat (Zgh ZlR (Zji rfl) rfl T.Zjh (by decide) rfl rfl rfl (Zaa rfl (Zfa (Nc:=["one","other"]) rfl (ZsZ rfl (by decide +kernel) (by decide +kernel)) (fun _=>rfl) (ZvC T.ZjP rfl rfl rfl (Zaa rfl (Zan (i:=0) rfl rfl rfl rfl) (Zaa rfl (ZvE (Zan (i:=0) rfl rfl rfl rfl) (Zcc Zag) Zb9) Zaf))) (Zs0 (i:=0) (j:=1) rfl (by decide) rfl rfl rfl rfl) (fun C fp s1 H1=>Zeg) (fun C fp s1 H1=>(Zdg ZlX rfl (Zan (i:=0) rfl rfl rfl rfl) (Zan (i:=1) rfl rfl rfl rfl)))) Zaf))))
abbrev ZjC:List Str:=["thing"]
theorem Znt:ZaD ZjC ["thing"] (Zac Zc9):=⟨rfl,rfl,rfl,by decide +kernel,rfl,by decide +kernel,by decide +kernel⟩
def Zj0 (ZbB:Spw):GS:=(Zax (gIf (gOr (gNt (Zf2 (Zc3 "str" (Zad 0)))) (gNt (gTB (Zcz (ZfY (fun i j=>decide (i≤j)) (fun a b=>!ZaP b a)) (ZfY (fun i j=>decide (i≤j)) (fun a b=>!ZaP b a)) (gC (.int 1)) (gB (rF ZeP) (Zab (Zad 0) Zal)) (gC (.int 8)))))) (ZaE (gC (.bl false))) Zas) (ZaE (gB (rF ZiK) (Zab (Zc1 (ZbX (Zad 0)) 1 (gNm 0) Zf6 (Zap ZbB (fun _ _ _=>False) (Zab (Zad 0) Zal))) Zal))))
theorem Zok {k:Nat} (T:Tx K mg base a) {ZbW:Nat} {ZbB:Spw} (Zgd:Df P w K mg base "is_small_letter" ZbW 1 ZbB) (Zf8:ZbW≤k) {f:Addr} {cdv:Value} {A:Around} {outer:List Env} {s:Shared} {H:Hp} {E:XK} (hr:Room k (A.deeper (envOfC "is_name" (Zac Zc9) s.heap.objs.size f cdv))):Ssm (cxW P w K mg base ZjC "is_name" (Zac Zc9) f cdv A outer s H E).nox (fun B=>B=H) (Zaz Zc9) (Zj0 ZbB) :=
 have hu:=ZeQ hr
 (Zai (ZaY (Zd5 (Zkw (ZfG (ZfE (fun _=>rfl) (Zfl (T:="str") (by decide) ZrI T.Zle T.ZaN rfl rfl (by decide) rfl rfl rfl (Zan (i:=0) rfl rfl rfl rfl)))) (Zhh (ZfG (ZqF Zl1 Zl1 rfl Zag (Zgh ZfS (Zd4) rfl T.ZfM (by decide) rfl rfl rfl (Zaa rfl (Zan (i:=0) rfl rfl rfl rfl) Zaf)) (ZiV T.Zbx rfl rfl)))))) (Zak (Zat Zeo)) Zaw) (Zak (Zat (Zgh ZlR (Zji rfl) rfl T.Zjh (by decide) rfl rfl rfl (Zaa rfl (Zfa (Nc:=["sign"]) rfl (ZsZ rfl (by decide +kernel) (by decide +kernel)) (fun _=>rfl) (Zdk (fun _ _=>rfl) (Zan (i:=0) rfl rfl rfl rfl)) (ZeE (i:=0) (by decide) rfl rfl) (fun C fp s1 H1=>Zeg) (fun C fp s1 H1=>(Zaq Zgd (hr.mono Zf8) rfl ZaH rfl rfl rfl (Zaa rfl (Zan (i:=0) rfl rfl rfl rfl) Zaf)))) Zaf)))))
abbrev ZiS:List Str:=["thing"]
theorem Zm9:ZaD ZiS ["thing"] (Zac ZcF):=⟨rfl,rfl,rfl,by decide +kernel,rfl,by decide +kernel,by decide +kernel⟩
def Zie (ZeL:Spw):GS:=(Zax (gIf (gOr (gNt (Zf2 (Zc3 "tuple" (Zad 0)))) (gTB (Zaj (Zam (eqF true)) (gB (rF ZeP) (Zab (Zad 0) Zal)) (gC (.int 3))))) (ZaE (gC (.bl false))) Zas) (ZaE (Zcl (Zap ZeL (fun _ _ _=>False) (Zab (Zaj (Zam ixW) (Zad 0) (gC (.int 0))) Zal)) (Zaj (Zam (inF false)) (Zaj (Zam ixW) (Zad 0) (gC (.int 1))) (gC (.tup [(.str "must"),(.str "may")]))))))
theorem Znc {k:Nat} (T:Tx K mg base a) {ZfV:Nat} {ZeL:Spw} (ZnE:Df P w K mg base "is_name" ZfV 1 ZeL) (Znz:ZfV≤k) {f:Addr} {cdv:Value} {A:Around} {outer:List Env} {s:Shared} {H:Hp} {E:XK} (hr:Room k (A.deeper (envOfC "is_field" (Zac ZcF) s.heap.objs.size f cdv))):Ssm (cxW P w K mg base ZiS "is_field" (Zac ZcF) f cdv A outer s H E).nox (fun B=>B=H) (Zaz ZcF) (Zie ZeL) :=
 have hu:=ZeQ hr
 (Zai (ZaY (Zd5 (Zkw (ZfG (ZfE (fun _=>rfl) (Zfl (T:="tuple") (by decide) ZcY T.Zcu T.ZaN rfl rfl (by decide) rfl rfl rfl (Zan (i:=0) rfl rfl rfl rfl)))) (Zhh (ZaB (ZcC hu) rfl (Zgh ZfS (Zd4) rfl T.ZfM (by decide) rfl rfl rfl (Zaa rfl (Zan (i:=0) rfl rfl rfl rfl) Zaf)) Zag)))) (Zak (Zat Zeo)) Zaw) (Zak (Zat (Zha (Zaq ZnE (hr.mono Znz) rfl ZaH rfl rfl rfl (Zaa rfl (Zay (fun _ _=>rfl) (Zan (i:=0) rfl rfl rfl rfl) Zag) Zaf)) (Zgq (Zdg ZjI rfl (Zay (fun _ _=>rfl) (Zan (i:=0) rfl rfl rfl rfl) Zag) (ZiV T.ZfZ rfl rfl)))))))
abbrev Zgk:List Str:=["thing"]
theorem ZjG:ZaD Zgk ["thing"] (Zac ZbF):=⟨rfl,rfl,rfl,by decide +kernel,rfl,by decide +kernel,by decide +kernel⟩
def ZgC (Zd3:Spw) (ZcX:Spw):GS:=(Zax (gIf (gNt (Zf2 (Zc3 "tuple" (Zad 0)))) (ZaE (gC (.bl false))) Zas) (ZaE (Zcl (gB (rF ZiK) (Zab (Zc1 (ZbX (Zad 0)) 1 (gNm 0) Zf6 (Zap Zd3 (fun _ _ _=>False) (Zab (Zad 0) Zal))) Zal)) (Zap ZcX (fun _ _ _=>False) (Zab (Zc1 (ZbX (Zad 0)) 1 (gNm 0) Zf6 (Zaj (Zam ixW) (Zad 0) (gC (.int 0)))) Zal)))))
theorem Zkj {k:Nat} (T:Tx K mg base a) {ZeD:Nat} {Zd3:Spw} (ZmZ:Df P w K mg base "is_field" ZeD 1 Zd3) (ZmS:ZeD≤k) {Zdn:Nat} {ZcX:Spw} (ZkB:Df P w K mg base "names_rise" Zdn 1 ZcX) (ZkG:Zdn≤k) {f:Addr} {cdv:Value} {A:Around} {outer:List Env} {s:Shared} {H:Hp} {E:XK} (hr:Room k (A.deeper (envOfC "are_fields" (Zac ZbF) s.heap.objs.size f cdv))):Ssm (cxW P w K mg base Zgk "are_fields" (Zac ZbF) f cdv A outer s H E).nox (fun B=>B=H) (Zaz ZbF) (ZgC Zd3 ZcX) :=
 have hu:=ZeQ hr
 (Zai (ZaY (ZfG (ZfE (fun _=>rfl) (Zfl (T:="tuple") (by decide) ZcY T.Zcu T.ZaN rfl rfl (by decide) rfl rfl rfl (Zan (i:=0) rfl rfl rfl rfl)))) (Zak (Zat Zeo)) Zaw) (Zak (Zat (Zha (Zgh ZlR (Zji rfl) rfl T.Zjh (by decide) rfl rfl rfl (Zaa rfl (Zfa (Nc:=["part"]) rfl (ZsZ rfl (by decide +kernel) (by decide +kernel)) (fun _=>rfl) (Zdk (fun _ _=>rfl) (Zan (i:=0) rfl rfl rfl rfl)) (ZeE (i:=0) (by decide) rfl rfl) (fun C fp s1 H1=>Zeg) (fun C fp s1 H1=>(Zaq ZmZ (hr.mono ZmS) rfl ZaH rfl rfl rfl (Zaa rfl (Zan (i:=0) rfl rfl rfl rfl) Zaf)))) Zaf)) (Zgq (Zaq ZkB (hr.mono ZkG) rfl ZaH rfl rfl rfl (Zaa rfl (Zfa (Nc:=["part"]) rfl (ZsZ rfl (by decide +kernel) (by decide +kernel)) (fun _=>rfl) (Zdk (fun _ _=>rfl) (Zan (i:=0) rfl rfl rfl rfl)) (ZeE (i:=0) (by decide) rfl rfl) (fun C fp s1 H1=>Zeg) (fun C fp s1 H1=>(Zay (fun _ _=>rfl) (Zan (i:=0) rfl rfl rfl rfl) Zag))) Zaf)))))))
end
set_option maxHeartbeats 1000000
variable {P:Program} {w:World} {K:PySem.W.Frag} {mg:Str→Option Value} {base:Heap} {a:Adr}
local macro_rules | `(tactic| walk_at "rd") => `(tactic| ((try dsimp only [Zax, gIf, ZaE, Zbd, Zck, Zas, Zad, gC, Zaj, gTB, Zf2, gNt, ZhT, gOr, Zcl, Zj1, Zh0, L3.Zbc, Zb5, L3.Zab, L3.Zal, Zap, gB, rF, Zam, Zc3, gMt, Zjz, Zcz, ZfY, Zgg, ZbU, L3.ZeX, Zeh, gSl, ZaX, Zav, Zc1, ZbX, ZkK, ZaR, ZbY, List.map_cons, List.map_nil, List.length_cons, List.length_nil, List.cons_append, List.nil_append, List.getElem?_cons_zero, List.getElem?_cons_succ, List.set_cons_zero, List.set_cons_succ, List.replicate, Zi7, tyN, Zae, Zb4, Zc5, Zei, ixW, eqF, eqW, ZeP, Zio, ZiK, List.getElem?_nil]); (try simp only [Zax, gIf, ZaE, Zbd, Zck, Zas, Zad, gC, Zaj, gTB, Zf2, gNt, ZhT, gOr, Zcl, Zj1, Zh0, L3.Zbc, Zb5, L3.Zab, L3.Zal, Zap, gB, rF, Zam, Zc3, gMt, Zjz, Zcz, ZfY, Zgg, ZbU, L3.ZeX, Zeh, gSl, ZaX, Zav, Zc1, ZbX, ZkK, ZaR, ZbY, List.map_cons, List.map_nil, List.length_cons, List.length_nil, List.cons_append, List.nil_append, List.getElem?_cons_zero, List.getElem?_cons_succ, List.set_cons_zero, List.set_cons_succ, List.replicate, Zi7, tyN, Zae, Zb4, Zc5, Zei, ixW, eqF, eqW, ZeP, Zio, ZiK, List.getElem?_nil])))
abbrev ZqG:Spw:=spR (fun (z:Str) ws _=>ws=[.str z]) fun z=>.bl (ZfW z)
theorem ZbW (T:Tx K mg base a):Df P w K mg base "is_small_letter" 1 1 ZqG:=by
 refine mk0 T.ZbT rfl Zge Zdf ((by rintro ws G Q E ⟨z,e,_⟩;rw [e];rfl)) (Zf5 T) fun ws G Q E hC q=>?_
 obtain ⟨z,rfl,q⟩:=q
 unfold ZdX
 walk_at "rd"
 dsimp only at q
 unfold ZfW at q
 refine ZsV (fun h=>?_) (fun h=>?_)
 ·rw [h] at q;simpa using q
 ·rw [Bool.eq_false_iff.mpr h] at q;simpa using q
theorem Zmu:∀ ns:List Str,ZhU ns=((ns.zip (ns.drop 1)).map fun x=>ZaP x.1 x.2).all id
 | []=>rfl
 | [_]=>rfl
 | a::b::r=>by
  show (ZaP a b&&ZhU (b::r))=_
  rw [Zmu (b::r)];rfl
abbrev ZuY:Spw:=spR (fun (ns:List Str) ws G=>∃ p,ws=[.ref p]∧G p=some (.lst (ns.map W.str))∧ns.length≤1000) fun ns=>.bl (ZhU ns)
def ltW (x y:W):W:=match x,y with | .str a,.str b=>.bl (ZaP a b) | _,_=>.non
theorem Zdn (T:Tx K mg base a):Df P w K mg base "names_rise" 1 1 ZuY:=by
 refine mk0 T.Zdj rfl Zkz Zdf ((by rintro ws G Q E ⟨ns,⟨p,e,_⟩,_⟩;rw [e];rfl)) (Zkr T) fun ws G Q E hC q=>?_
 obtain ⟨ns,⟨p,rfl,hp,hl⟩,q⟩:=q
 unfold ZgI
 walk_at "rd"
 refine ZvN hp fun p1 h1=>?_
 have hne:=ZaF hp h1
 have e1:rdL (put G p1 (.lst (ZgS (ns.map W.str) (some 1) none))) (.ref p)=some (ns.map W.str):=ZgB (by rw [Zao hne];exact hp)
 have e2:rdL (put G p1 (.lst (ZgS (ns.map W.str) (some 1) none))) (.ref p1)=some (ZgS (ns.map W.str) (some 1) none):=ZgB Zah
 simp only [e1,e2]
 rw [Zjr,← List.map_drop,Zmd,List.zip_map,List.map_map]
 have e3:((fun x:W×W=>W.tup [x.1,x.2])∘Prod.map W.str W.str)=(fun x:W×W=>W.tup [x.1,x.2])∘fun x:Str×Str=>(W.str x.1,W.str x.2):=rfl
 rw [e3,← List.map_map]
 refine Zua (f:=ltW) ⟨by rw [Zjr,← List.map_drop] at e1;exact e1,by rw [Zjr,← List.map_drop] at e2;exact e2⟩ _ none none [] (fun x hx Q' q'=>?_) ?_ ?_
 ·obtain ⟨y,hy,rfl⟩:=List.mem_map.mp hx
  exact q'
 ·rw [List.length_map,List.length_zip]
  exact Zbw (by simp only [List.length_nil];omega)
 ·intro p2 h2
  rw [List.map_map]
  have e4:((fun x:W×W=>ltW x.1 x.2)∘fun x:Str×Str=>(W.str x.1,W.str x.2))=W.bl∘fun x:Str×Str=>ZaP x.1 x.2:=rfl
  rw [e4,← List.map_map,List.nil_append]
  simp only [ZdE Zah,Option.bind_some,Zev,Option.map_some,Zae]
  rw [← Zmu]
  exact hC _ _ _ (ZcP (Zbg h1) h2) q
abbrev ZtV:Spw:=spR (fun (z:Str) ws _=>ws=[.str z]∧z.length≤100000) fun z=>.bl (ZcB z)
def Zxm (x:W):W:=match x with | .str z=>.bl (ZfW z) | _=>.non
theorem ZfV (T:Tx K mg base a):Df P w K mg base "is_name" 2 1 ZtV:=by
 refine mk0 T.ZfJ rfl Znt Zdf ((by rintro ws G Q E ⟨z,⟨e,_⟩,_⟩;rw [e];rfl)) (Zok T (ZbW T) (Nat.le_refl _)) fun ws G Q E hC q=>?_
 obtain ⟨z,⟨rfl,hz⟩,q⟩:=q
 unfold Zj0
 walk_at "rd"
 have hz':z.length≤sizeLine:=Zbw hz
 have b1:Zn8 "str" "str"=true:=by decide
 simp only [b1,hz',if_true,Zae,Bool.not_true,Bool.false_eq_true,if_false]
 unfold ZcB at q
 by_cases h1:1≤z.length
 ·by_cases h8:z.length≤8
  ·have d1:(1:Int)≤(z.length:Int):=by omega
   have d8:(z.length:Int)≤8:=by omega
   simp only [d1,d8,decide_true,if_true,Bool.not_true,Bool.false_eq_true,if_false]
   refine Zld (f:=Zxm) trivial (Zhp z) none [] (fun x hx Q' q'=>?_) ?_ ?_
   ·obtain ⟨c,hc,rfl⟩:=List.mem_map.mp hx
    exact ⟨_,rfl,q'⟩
   ·rw [Zhp,List.length_map]
    exact Zbw (by show 0+z.cps.toList.length≤100000;rw [Nat.zero_add];simpa [Str.length] using hz)
   ·intro p hp
    have e5:(Zhp z).map Zxm=(z.cps.toList.map fun c=>ZfW ⟨#[c]⟩).map W.bl:=by
     unfold Zhp;rw [List.map_map,List.map_map];rfl
    rw [List.nil_append,e5]
    simp only [ZdE Zah,Option.bind_some,Zev,Option.map_some,Zae]
    rw [List.all_map]
    simp only [h1,h8,decide_true,Bool.true_and] at q
    exact hC _ _ _ (Zbg hp) q
  ·have d1:(1:Int)≤(z.length:Int):=by omega
   have d8:¬ (z.length:Int)≤8:=by omega
   simp only [h1,h8,decide_true,decide_false,Bool.true_and,Bool.false_and] at q
   simp only [d1,d8,decide_true,decide_false,if_true,Bool.not_false,Bool.false_eq_true,if_false]
   exact q
 ·have d1:¬ (1:Int)≤(z.length:Int):=by omega
  simp only [h1,decide_false,Bool.false_and] at q
  simp only [d1,decide_false,if_true,Bool.not_false,Bool.false_eq_true,if_false]
  exact q
section
variable {P:Program} {w:World} {K:PySem.W.Frag} {mg:Str→Option Value} {base:Heap} {a:Adr}
abbrev Zig:List Str:=["thing"]
theorem ZmJ:ZaD Zig ["thing"] (Zac ZcL):=⟨rfl,rfl,rfl,by decide +kernel,rfl,by decide +kernel,by decide +kernel⟩
def Zid (Zc6:Spw):GS:=(Zax (gIf (gOr (gNt (Zf2 (Zc3 "tuple" (Zad 0)))) (gOr (gTB (Zaj (Zam (eqF false)) (gB (rF ZeP) (Zab (Zad 0) Zal)) (gC (.int 0)))) (gNt (Zf2 (Zc3 "str" (Zaj (Zam ixW) (Zad 0) (gC (.int 0)))))))) (ZaE (gC (.bl false))) Zas) (Zax (gIf (gTB (Zaj (Zam (eqF true)) (gB (rF ZeP) (Zab (Zad 0) Zal)) (Zd7 Zhg (Zaj (Zam ixW) (Zad 0) (gC (.int 0)))))) (ZaE (gC (.bl false))) Zas) (ZaE (Zj1 (Zaj (Zam (eqF true)) (Zaj (Zam ixW) (Zad 0) (gC (.int 0))) (gC (.str "row"))) (Zcl (Zap Zc6 (fun _ _ _=>False) (Zab (Zaj (Zam ixW) (Zad 0) (gC (.int 1))) Zal)) (Zc3 "bool" (Zaj (Zam ixW) (Zad 0) (gC (.int 2)))))))))
theorem ZmY {k:Nat} (T:Tx K mg base a) {Zdt:Nat} {Zc6:Spw} (Zks:Df P w K mg base "are_fields" Zdt 1 Zc6) (ZjX:Zdt≤k) {f:Addr} {cdv:Value} {A:Around} {outer:List Env} {s:Shared} {H:Hp} {E:XK} (hr:Room k (A.deeper (envOfC "has_form" (Zac ZcL) s.heap.objs.size f cdv))):Ssm (cxW P w K mg base Zig "has_form" (Zac ZcL) f cdv A outer s H E).nox (fun B=>B=H) (Zaz ZcL) (Zid Zc6) :=
 have hu:=ZeQ hr
 (Zai (ZaY (Zd5 (Zkw (ZfG (ZfE (fun _=>rfl) (Zfl (T:="tuple") (by decide) ZcY T.Zcu T.ZaN rfl rfl (by decide) rfl rfl rfl (Zan (i:=0) rfl rfl rfl rfl)))) (Zkw (ZaB (Zbn hu) rfl (Zgh ZfS (Zd4) rfl T.ZfM (by decide) rfl rfl rfl (Zaa rfl (Zan (i:=0) rfl rfl rfl rfl) Zaf)) Zag) (Zhh (ZfG (ZfE (fun _=>rfl) (Zfl (T:="str") (by decide) ZrI T.Zle T.ZaN rfl rfl (by decide) rfl rfl rfl (Zay (fun _ _=>rfl) (Zan (i:=0) rfl rfl rfl rfl) Zag)))))))) (Zak (Zat Zeo)) Zaw) (Zai (ZaY (ZaB (ZcC hu) rfl (Zgh ZfS (Zd4) rfl T.ZfM (by decide) rfl rfl rfl (Zaa rfl (Zan (i:=0) rfl rfl rfl rfl) Zaf)) (Zox T.Zj8 rfl rfl rfl rfl rfl rfl rfl (Zay (fun _ _=>rfl) (Zan (i:=0) rfl rfl rfl rfl) Zag))) (Zak (Zat Zeo)) Zaw) (Zak (Zat (Zwi (Zdg (ZcC hu) rfl (Zay (fun _ _=>rfl) (Zan (i:=0) rfl rfl rfl rfl) Zag) Zau) (Zgq (Zha (Zaq Zks (hr.mono ZjX) rfl ZaH rfl rfl rfl (Zaa rfl (Zay (fun _ _=>rfl) (Zan (i:=0) rfl rfl rfl rfl) Zag) Zaf)) (Zgq (Zfl (T:="bool") (by decide) Zod T.Zhk T.ZaN rfl rfl (by decide) rfl rfl rfl (Zay (fun _ _=>rfl) (Zan (i:=0) rfl rfl rfl rfl) Zag))))))))))
abbrev Ze4:List Str:=["kind"]
theorem Zh4:ZaD Ze4 ["kind"] (Zac Zbh):=⟨rfl,rfl,rfl,by decide +kernel,rfl,by decide +kernel,by decide +kernel⟩
def ZeW:GS:=(Zax (gIf (gTB (Zaj (Zam (eqF false)) (Zaj (Zam ixW) (Zad 0) (gC (.int 0))) (gC (.str "row")))) (ZaE (Zc1 (ZbX (Zaj (Zam ixW) (Zad 0) (gC (.int 1)))) 1 (gNm 0) Zf6 (Zaj (Zam ixW) (Zad 0) (gC (.int 2))))) Zas) (ZaE (gB (ZmM) (Zab (gSl (Zad 0) (ZaX (gC (.int 1))) Zav) Zal))))
theorem ZhZ {k:Nat} (T:Tx K mg base a) {f:Addr} {cdv:Value} {A:Around} {outer:List Env} {s:Shared} {H:Hp} {E:XK} (hr:Room k (A.deeper (envOfC "kinds_within" (Zac Zbh) s.heap.objs.size f cdv))):Ssm (cxW P w K mg base Ze4 "kinds_within" (Zac Zbh) f cdv A outer s H E).nox (fun B=>B=H) (Zaz Zbh) (ZeW) :=
 have hu:=ZeQ hr
 (Zai (ZaY (ZaB (Zbn hu) rfl (Zay (fun _ _=>rfl) (Zan (i:=0) rfl rfl rfl rfl) Zag) Zau) (Zak (Zat (Zfa (Nc:=["field"]) rfl (ZsZ rfl (by decide +kernel) (by decide +kernel)) (fun _=>rfl) (Zdk (fun _ _=>rfl) (Zay (fun _ _=>rfl) (Zan (i:=0) rfl rfl rfl rfl) Zag)) (ZeE (i:=0) (by decide) rfl rfl) (fun C fp s1 H1=>Zeg) (fun C fp s1 H1=>(Zay (fun _ _=>rfl) (Zan (i:=0) rfl rfl rfl rfl) Zag))))) Zaw) (Zak (Zat (Zh8 Zts (Zqy) rfl T.Zij (by decide) rfl rfl rfl (Zaa rfl (ZvE (Zan (i:=0) rfl rfl rfl rfl) (Zcc Zag) Zb9) Zaf)))))
abbrev Ze0:List Str:=["layer","things_within","found","thing"]
theorem ZdD:ZaD Ze0 ["layer","things_within"] (Zac Zbf):=⟨rfl,rfl,rfl,by decide +kernel,rfl,by decide +kernel,by decide +kernel⟩
def Ze9 (mg:Str→Option Value) (ZaU:Spw):GS:=(Zax (Zbd 2 (Zb5 Zal)) (Zax (Ze1 (ZbX (Zad 0)) (gNm 3) (Zck (gMt ZdB ZsD (Zad 2) (Zab (ZgF 1 (fAt mg "kinds_within") ZaU (fun _ _ _=>False) (Zab (Zad 3) Zal)) Zal)))) (ZaE (Zad 2))))
theorem Zh9 {k:Nat} (T:Tx K mg base a) {Za2:Nat} {ZaU:Spw} (ZdG:Df P w K mg base "kinds_within" Za2 1 ZaU) (ZeZ:Za2≤k) {f:Addr} {cdv:Value} {A:Around} {outer:List Env} {s:Shared} {H:Hp} {E:XK} (hr:Room k (A.deeper (envOfC "layer_within" (Zac Zbf) s.heap.objs.size f cdv))):Ssm (cxW P w K mg base Ze0 "layer_within" (Zac Zbf) f cdv A outer s H E).nox (fun B=>B=H) (Zaz Zbf) (Ze9 mg ZaU) :=
 have hu:=ZeQ hr
 (Zai (Zej (i:=2) ZdD.nd rfl rfl rfl (Zbm Zaf)) (Zai (ZfP PassesOwn.never rfl (fun _=>rfl) (Zdk (fun _ _=>rfl) (Zan (i:=0) rfl rfl rfl rfl)) (Zg0 (i:=3) ZdD.nd rfl (.inl rfl) (.inr rfl)) (Zak (ZeC rfl (ZfF Zm4 rfl rfl rfl rfl rfl (Zan (i:=2) rfl rfl rfl rfl) (Zaa rfl (Zlz (i:=1) ZdG (hr.mono ZeZ) rfl rfl ZaH rfl rfl rfl rfl (Zaa rfl (Zan (i:=3) rfl rfl rfl rfl) Zaf)) Zaf))))) (Zak (Zat (Zan (i:=2) rfl rfl rfl rfl)))))
abbrev ZgH:List Str:=["thing","is_formed","things_within","most","deepest","layer","count","depth"]
theorem ZbJ:ZaD ZgH ["thing","is_formed","things_within","most","deepest"] (Zac Zbp):=⟨rfl,rfl,rfl,by decide +kernel,rfl,by decide +kernel,by decide +kernel⟩
def Zgo (mg:Str→Option Value) (ZbQ:Spw) (Zcr:Spw):GS:=(Zax (Zbd 5 (Zb5 (Zab (Zad 0) Zal))) (Zax (Zbd 6 (gC (.int 0))) (Zax (Zbd 7 (gC (.int 0))) (Zax (Zmy (gTB (Zaj (Zgg fun i j=>decide (j < i)) (gB (rF ZeP) (Zab (Zad 5) Zal)) (gC (.int 0)))) (Zax (Zjz 6 Zeh (gB (rF ZeP) (Zab (Zad 5) Zal))) (Zax (Zjz 7 Zeh (gC (.int 1))) (Zax (gIf (gOr (gTB (Zaj (Zgg fun i j=>decide (j < i)) (Zad 6) (Zad 3))) (gTB (Zaj (Zgg fun i j=>decide (j < i)) (Zad 7) (Zad 4)))) (ZaE (gC (.bl false))) Zas) (Zax (gIf (gNt (Zf2 (gB (rF ZiK) (Zab (Zcs (ZbX (Zad 5)) 1 [1] (gNm 0) Zf6 (ZgF 1 (fAt mg "has_form") ZbQ (fun _ _ _=>False) (Zab (Zad 0) Zal))) Zal)))) (ZaE (gC (.bl false))) Zas) (Zbd 5 (Zap Zcr (fun _ _ _=>False) (Zab (Zad 5) (Zab (Zad 2) Zal))))))))) (ZaE (gC (.bl true)))))))
theorem ZjH {k:Nat} (T:Tx K mg base a) {Zch:Nat} {ZbQ:Spw} (Zgc:Df P w K mg base "has_form" Zch 1 ZbQ) (Zim:Zch≤k) {ZcQ:Nat} {Zcr:Spw} (Zh3:Df P w K mg base "layer_within" ZcQ 2 Zcr) (Zh2:ZcQ≤k) {f:Addr} {cdv:Value} {A:Around} {outer:List Env} {s:Shared} {H:Hp} {E:XK} (hr:Room k (A.deeper (envOfC "is_made_of" (Zac Zbp) s.heap.objs.size f cdv))):Ssm (cxW P w K mg base ZgH "is_made_of" (Zac Zbp) f cdv A outer s H E).nox (fun B=>B=H) (Zaz Zbp) (Zgo mg ZbQ Zcr) :=
 have hu:=ZeQ hr
 (Zai (Zej (i:=5) ZbJ.nd rfl rfl rfl (Zbm (Zaa rfl (Zan (i:=0) rfl rfl rfl rfl) Zaf))) (Zai (Zej (i:=6) ZbJ.nd rfl rfl rfl Zag) (Zai (Zej (i:=7) ZbJ.nd rfl rfl rfl Zag) (Zai (ZpJ PassesOwn.never (ZaB Zii rfl (Zgh ZfS (Zd4) rfl T.ZfM (by decide) rfl rfl rfl (Zaa rfl (Zan (i:=5) rfl rfl rfl rfl) Zaf)) Zag) (Zai (Zxv (n:=6) ZbJ.nd rfl rfl (Zgh ZfS (Zd4) rfl T.ZfM (by decide) rfl rfl rfl (Zaa rfl (Zan (i:=5) rfl rfl rfl rfl) Zaf))) (Zai (Zxv (n:=7) ZbJ.nd rfl rfl Zag) (Zai (ZaY (Zd5 (Zkw (ZaB Zii rfl (Zan (i:=6) rfl rfl rfl rfl) (Zan (i:=3) rfl rfl rfl rfl)) (Zhh (ZaB Zii rfl (Zan (i:=7) rfl rfl rfl rfl) (Zan (i:=4) rfl rfl rfl rfl))))) (Zak (Zat Zeo)) Zaw) (Zai (ZaY (ZfG (ZfE (fun _=>rfl) (Zgh ZlR (Zji rfl) rfl T.Zjh (by decide) rfl rfl rfl (Zaa rfl (ZfH rfl (ZvZ (own:=["part"]) (fr:=["is_formed"]) (js:=[1]) (scX:=Zac Zbp) (n:=s.heap.objs.size+1) rfl (by decide +kernel) (by decide +kernel) (by decide +kernel) (by decide +kernel) rfl rfl rfl (by decide +kernel) rfl) (fun _=>rfl) (Zdk (fun _ _=>rfl) (Zan (i:=5) rfl rfl rfl rfl)) (Zfv (i:=0) (by decide) rfl rfl) (fun C fp s1 H1=>Zeg) (fun C fp s1 H1=>(Zlz (i:=1) Zgc (hr.mono Zim) rfl rfl ZaH rfl rfl rfl rfl (Zaa rfl (Zan (i:=0) rfl rfl rfl rfl) Zaf)))) Zaf)))) (Zak (Zat Zeo)) Zaw) (Zak (Zej (i:=5) ZbJ.nd rfl rfl rfl (Zaq Zh3 (hr.mono Zh2) rfl ZaH rfl rfl rfl (Zaa rfl (Zan (i:=5) rfl rfl rfl rfl) (Zaa rfl (Zan (i:=2) rfl rfl rfl rfl) Zaf)))))))))) (Zak (Zat Zeo))))))
abbrev ZkA:List Str:=["thing"]
theorem ZnA:ZaD ZkA ["thing"] (Zac Zdb):=⟨rfl,rfl,rfl,by decide +kernel,rfl,by decide +kernel,by decide +kernel⟩
def ZjR (mg:Str→Option Value) (ZbQ:Spw) (ZaU:Spw) (ZcZ:Spw):GS:=(ZaE (Zap ZcZ (fun _ _ _=>False) (Zab (Zad 0) (Zab (gC (.ref (fAt mg "has_form"))) (Zab (gC (.ref (fAt mg "kinds_within"))) (Zab (gC (.int 40)) (Zab (gC (.int 8)) Zal)))))))
theorem ZnB {k:Nat} (T:Tx K mg base a) {Zch:Nat} {ZbQ:Spw} (Zgc:Df P w K mg base "has_form" Zch 1 ZbQ) (Zim:Zch≤k) {Za2:Nat} {ZaU:Spw} (ZdG:Df P w K mg base "kinds_within" Za2 1 ZaU) (ZeZ:Za2≤k) {Zdx:Nat} {ZcZ:Spw} (Zko:Df P w K mg base "is_made_of" Zdx 5 ZcZ) (Zj6:Zdx≤k) {f:Addr} {cdv:Value} {A:Around} {outer:List Env} {s:Shared} {H:Hp} {E:XK} (hr:Room k (A.deeper (envOfC "is_kind" (Zac Zdb) s.heap.objs.size f cdv))):Ssm (cxW P w K mg base ZkA "is_kind" (Zac Zdb) f cdv A outer s H E).nox (fun B=>B=H) (Zaz Zdb) (ZjR mg ZbQ ZaU ZcZ) :=
 have hu:=ZeQ hr
 (Zak (Zat (Zaq Zko (hr.mono Zj6) rfl ZaH rfl rfl rfl (Zaa rfl (Zan (i:=0) rfl rfl rfl rfl) (Zaa rfl (ZtZ Zgc rfl rfl) (Zaa rfl (ZtZ ZdG rfl rfl) (Zaa rfl (ZiV T.Zcj rfl rfl) (Zaa rfl (ZiV T.Zcg rfl rfl) Zaf))))))))
abbrev Zgz:List Str:=["thing"]
theorem Zkv:ZaD Zgz ["thing"] (Zac ZbE):=⟨rfl,rfl,rfl,by decide +kernel,rfl,by decide +kernel,by decide +kernel⟩
def ZgE (ZeO:Spw):GS:=(gIf (gNt (Zf2 (Zap ZeO (fun _ _ _=>False) (Zab (Zad 0) Zal)))) ZrL Zas)
theorem ZjF {k:Nat} (T:Tx K mg base a) {ZfX:Nat} {ZeO:Spw} (Zoj:Df P w K mg base "is_kind" ZfX 1 ZeO) (Znj:ZfX≤k) {f:Addr} {cdv:Value} {A:Around} {outer:List Env} {s:Shared} {H:Hp} {E:XK} (hr:Room k (A.deeper (envOfC "check_kind" (Zac ZbE) s.heap.objs.size f cdv))):Ssm (cxW P w K mg base Zgz "check_kind" (Zac ZbE) f cdv A outer s H E).nox (fun B=>B=H) (Zaz ZbE) (ZgE ZeO) :=
 have hu:=ZeQ hr
 (Zak (ZaY (ZfG (ZfE (fun _=>rfl) (Zaq Zoj (hr.mono Znj) rfl ZaH rfl rfl rfl (Zaa rfl (Zan (i:=0) rfl rfl rfl rfl) Zaf)))) (Zak ZpB) Zaw))
end
local macro_rules | `(tactic| walk_at "rd") => `(tactic| ((try dsimp only [Zax, gIf, ZaE, Zbd, Zck, Zas, Zad, gC, Zaj, gTB, Zf2, gNt, ZhT, gOr, Zcl, Zj1, Zh0, L3.Zbc, Zb5, L3.Zab, L3.Zal, Zap, gB, rF, Zam, Zc3, gMt, Zjz, Zpv, Zcz, ZfY, Zgg, ZbU, L3.ZeX, Zeh, gSl, ZaX, Zav, Zc1, ZbX, ZkK, Zdq, Ze1, Zd7, ZcV, ZaR, ZbY, List.map_cons, List.map_nil, List.length_cons, List.length_nil, List.cons_append, List.nil_append, List.getElem?_cons_zero, List.getElem?_cons_succ, List.set_cons_zero, List.set_cons_succ, List.replicate, Zi7, tyN, Zae, Zb4, Zc5, Zei, ixW, eqF, eqW, ZeP, Zio, ZiK, Zgx, ZmB, List.getElem?_nil]); (try simp only [Zax, gIf, ZaE, Zbd, Zck, Zas, Zad, gC, Zaj, gTB, Zf2, gNt, ZhT, gOr, Zcl, Zj1, Zh0, L3.Zbc, Zb5, L3.Zab, L3.Zal, Zap, gB, rF, Zam, Zc3, gMt, Zjz, Zpv, Zcz, ZfY, Zgg, ZbU, L3.ZeX, Zeh, gSl, ZaX, Zav, Zc1, ZbX, ZkK, Zdq, Ze1, Zd7, ZcV, ZaR, ZbY, List.map_cons, List.map_nil, List.length_cons, List.length_nil, List.cons_append, List.nil_append, List.getElem?_cons_zero, List.getElem?_cons_succ, List.set_cons_zero, List.set_cons_succ, List.replicate, Zi7, tyN, Zae, Zb4, Zc5, Zei, ixW, eqF, eqW, ZeP, Zio, ZiK, Zgx, ZmB, List.getElem?_nil])))
abbrev Zr2:Spw:=spR (fun (x:Str×Bool×W) ws _=>ws=[.tup [.str x.1,.str (Zed x.2.1),x.2.2]]∧ZcB x.1=true) fun _=>.bl true
theorem Zm1 {n:Str} (h:ZcB n=true):n.length≤8:=by
 unfold ZcB at h
 simp only [Bool.and_eq_true,decide_eq_true_eq] at h
 exact h.1.2
theorem ZsY (b:Bool) (G:Hw):inF false (.str (Zed b)) (.tup [.str "must",.str "may"]) G=some (.bl true):=by cases b <;> kernel_rfl
theorem ZeD (T:Tx K mg base a):Df P w K mg base "is_field" 3 1 Zr2:=by
 refine mk0 T.ZeN rfl Zm9 Zdf ((by rintro ws G Q E ⟨x,⟨e,_⟩,_⟩;rw [e];rfl)) (Znc T (ZfV T) (Nat.le_refl _)) fun ws G Q E hC q=>?_
 obtain ⟨⟨n,b,k⟩,⟨rfl,hn⟩,q⟩:=q
 have hl:n.length≤8:=Zm1 hn
 dsimp only at q hn
 unfold Zie
 walk_at "rd"
 have b1:Zn8 "tuple" "tuple"=true:=by decide
 simp only [b1,Bool.not_true,Bool.false_eq_true,if_false]
 refine ⟨n,⟨rfl,by omega⟩,?_⟩
 dsimp only
 rw [hn]
 simp only [if_true,ZsY,Zae]
 exact q
theorem Zsp (k:Kd):∃ xs,k.enc=.tup (.str k.hd::xs):=by cases k <;> exact ⟨_,rfl⟩
abbrev Zrg:Spw:=spR (fun (fs:Fs) ws _=>ws=[.tup fs.enc]∧fs.ok=true∧ZhU fs.names=true∧fs.cnt≤1000) fun _=>.bl true
def Zmn (x:W):W:=match x with | .tup (n::_)=>n | _=>.non
theorem ZnF:∀ {fs:Fs} {x:W},fs.ok=true→x∈fs.enc→∃ n b k,x=.tup [.str n,.str (Zed b),k]∧ZcB n=true
 | .nil,x,_,h=>by cases h
 | .cons n m k r,x,ho,h=>by
  have h':(ZcB n&&k.ok&&r.ok)=true:=ho
  simp only [Bool.and_eq_true] at h'
  rcases List.mem_cons.mp h with rfl | h
  ·exact ⟨n,m,k.enc,rfl,h'.1.1⟩
  ·exact ZnF h'.2 h
theorem Zhz:∀ fs:Fs,fs.enc.map Zmn=fs.names.map W.str
 | .nil=>rfl
 | .cons n m k r=>by show W.str n::r.enc.map Zmn=W.str n::r.names.map W.str;rw [Zhz r]
theorem ZcT:∀ fs:Fs,fs.names.length=fs.enc.length
 | .nil=>rfl
 | .cons n m k r=>by show r.names.length+1=r.enc.length+1;rw [ZcT r]
theorem ZiF (fs:Fs):fs.enc.length≤fs.cnt:=by rw [Zof,ZoQ];exact Zjf _
theorem Zdt (T:Tx K mg base a):Df P w K mg base "are_fields" 4 1 Zrg:=by
 refine mk0 T.Zds rfl ZjG Zdf ((by rintro ws G Q E ⟨x,⟨e,_⟩,_⟩;rw [e];rfl)) (Zkj T (ZeD T) (Nat.le_refl _) (Zdn T) (by omega)) fun ws G Q E hC q=>?_
 obtain ⟨fs,⟨rfl,ho,hr,hc⟩,q⟩:=q
 have hl:=ZiF fs
 unfold ZgC
 walk_at "rd"
 have b1:Zn8 "tuple" "tuple"=true:=by decide
 simp only [b1,Bool.not_true,Bool.false_eq_true,if_false]
 refine Zld (f:=fun _=>.bl true) trivial fs.enc none [] (fun x hx Q' q'=>?_) (by simp only [List.length_nil];exact Zbw (by omega)) ?_
 ·obtain ⟨n,b,k,rfl,hn⟩:=ZnF ho hx
  exact ⟨⟨n,b,k⟩,⟨rfl,hn⟩,q'⟩
 ·intro p hp
  rw [List.nil_append,show (fun _:W=>W.bl true)=W.bl∘(fun _=>true) from rfl,← List.map_map]
  simp only [ZdE Zah,Option.bind_some,Zev,Option.map_some,Zae]
  have hall:(fs.enc.map fun _=>true).all id=true:=by simp
  rw [hall]
  simp only [if_true]
  refine Zld (f:=Zmn) trivial fs.enc none [] (fun x hx Q' q'=>?_) (by simp only [List.length_nil];exact Zbw (by omega)) ?_
  ·obtain ⟨n,b,k,rfl,hn⟩:=ZnF ho hx
   show Zaj (Zam ixW) (Zad 0) (gC (.int 0)) [some (W.tup [.str n,.str (Zed b),k])] _ Q'
   walk_at "rd"
   exact q'
  ·intro p2 hp2
   rw [List.nil_append,Zhz]
   refine ⟨fs.names,⟨p2,rfl,Zah,by rw [ZcT];omega⟩,?_⟩
   dsimp only
   rw [hr]
   exact hC _ _ _ (ZcP (Zbg hp) hp2) q
abbrev ZuA:Spw:=spR (fun (k:Kd) ws _=>ws=[k.enc]∧k.ok=true∧k.cnt≤1000) fun _=>.bl true
theorem Zch (T:Tx K mg base a):Df P w K mg base "has_form" 5 1 ZuA:=by
 refine mk0 T.ZeH rfl ZmJ Zdf ((by rintro ws G Q E ⟨x,⟨e,_⟩,_⟩;rw [e];rfl)) (ZmY T (Zdt T) (Nat.le_refl _)) fun ws G Q E hC q=>?_
 obtain ⟨k,⟨rfl,ho,hc⟩,q⟩:=q
 have b1:Zn8 "tuple" "tuple"=true:=by decide
 have b2:Zn8 "bool" "bool"=true:=by decide
 have b3:Zn8 "str" "str"=true:=by decide
 unfold Zid
 cases k with
 | any =>
  simp only [Kd.enc];walk_at "rd"
  simp only [b1,b3,Bool.not_true,Bool.false_eq_true,if_false]
  exact q
 | num =>
  simp only [Kd.enc];walk_at "rd"
  simp only [b1,b3,Bool.not_true,Bool.false_eq_true,if_false]
  exact q
 | truth =>
  simp only [Kd.enc];walk_at "rd"
  simp only [b1,b3,Bool.not_true,Bool.false_eq_true,if_false]
  exact q
 | to x y =>
  simp only [Kd.enc];walk_at "rd"
  simp only [b1,b3,Bool.not_true,Bool.false_eq_true,if_false]
  exact q
 | box x =>
  simp only [Kd.enc];walk_at "rd"
  simp only [b1,b3,Bool.not_true,Bool.false_eq_true,if_false]
  exact q
 | row fs o =>
  have h':(ZhU fs.names&&fs.ok)=true:=ho
  simp only [Bool.and_eq_true] at h'
  have hc':1+fs.cnt≤1000:=hc
  simp only [Kd.enc];walk_at "rd"
  simp only [b1,b3,Bool.not_true,Bool.false_eq_true,if_false]
  refine ⟨fs,⟨rfl,h'.2,h'.1,by omega⟩,?_⟩
  simp only [if_true,b2]
  exact q
def Zll (x:W):W:=match x with | .tup [_,_,k]=>k | _=>.non
theorem ZlS:∀ fs:Fs,fs.enc.map Zll=fs.kinds.map Kd.enc
 | .nil=>rfl
 | .cons n m k r=>by show k.enc::r.enc.map Zll=k.enc::r.kinds.map Kd.enc;rw [ZlS r]
theorem Zi0:∀ {fs:Fs} {x:W},x∈fs.enc→∃ n b k,x=.tup [.str n,.str (Zed b),k]
 | .nil,x,h=>by cases h
 | .cons n m k r,x,h=>by
  rcases List.mem_cons.mp h with rfl | h
  ·exact ⟨n,m,k.enc,rfl⟩
  ·exact Zi0 h
abbrev Zmf:Spw:=spL (fun (k:Kd) ws _=>ws=[k.enc]∧k.cnt≤20000) fun k=>k.kids.map Kd.enc
theorem Za2 (T:Tx K mg base a):Df P w K mg base "kinds_within" 1 1 Zmf:=by
 refine mk0 T.ZcM rfl Zh4 Zqb ((by rintro ws G Q E ⟨x,⟨e,_⟩,_⟩;rw [e];rfl)) (ZhZ T) fun ws G Q E hC q=>?_
 obtain ⟨k,⟨rfl,hc⟩,q⟩:=q
 unfold ZeW
 cases k with
 | row fs o =>
  have hc':1+fs.cnt≤20000:=hc
  have hl:=ZiF fs
  simp only [Kd.enc];walk_at "rd"
  refine Zld (f:=Zll) trivial fs.enc none [] (fun x hx Q' q'=>?_) (by simp only [List.length_nil];exact Zbw (by omega)) ?_
  ·obtain ⟨n,b,k,rfl⟩:=Zi0 hx
   show Zaj (Zam ixW) (Zad 0) (gC (.int 2)) [some (W.tup [.str n,.str (Zed b),k])] _ Q'
   walk_at "rd"
   exact q'
  ·rw [List.nil_append,ZlS]
   exact q
 | any=>simp only [Kd.enc];walk_at "rd";exact ⟨Zen _ _,q⟩
 | num=>simp only [Kd.enc];walk_at "rd";exact ⟨Zen _ _,q⟩
 | truth=>simp only [Kd.enc];walk_at "rd";exact ⟨Zen _ _,q⟩
 | to x y=>simp only [Kd.enc];walk_at "rd";exact ⟨Zen _ _,q⟩
 | box x=>simp only [Kd.enc];walk_at "rd";exact ⟨Zen _ _,q⟩
theorem ZuK {G:Hw} {p r:Addr} {xs zs:List W} {Q:Kw} (hp:G p=some (.lst xs)) (hr:G r=some (.lst zs)) (hl:xs.length+zs.length≤sizeLine) (q:Q .non (put G p (.lst (xs++zs)))):ZsD (.ref p) [.ref r] G Q:=by
 unfold ZsD
 refine ZkS hp ?_ q
 rw [ZdE hr,Option.bind_some,if_pos hl]
theorem ZfR {G:Hw} {p:Addr} {xs:List W} (h:G p=some (.lst xs)):ZdB (.ref p) G:=⟨xs,ZdE h⟩
set_option Elab.async false
set_option linter.all false
set_option maxRecDepth 100000
local macro_rules | `(tactic| walk_at "rd") => `(tactic| ((try dsimp only [Zax, gIf, ZaE, Zbd, Zck, Zas, Zad, gC, Zaj, gTB, Zf2, gNt, ZhT, gOr, Zcl, Zj1, Zh0, L3.Zbc, Zb5, L3.Zab, L3.Zal, Zap, gB, rF, Zam, Zc3, gMt, Zjz, Zpv, Zcz, ZfY, Zgg, ZbU, L3.ZeX, Zeh, gSl, ZaX, Zav, Zc1, ZbX, ZkK, Zdq, Ze1, Zd7, ZcV, ZgF, Zcs, Zh1, ZaR, ZbY, List.map_cons, List.map_nil, List.length_cons, List.length_nil, List.cons_append, List.nil_append, List.getElem?_cons_zero, List.getElem?_cons_succ, List.set_cons_zero, List.set_cons_succ, List.replicate, Zi7, tyN, Zae, Zb4, Zc5, Zei, ixW, eqF, eqW, ZeP, Zio, ZiK, Zgx, ZmB, List.getElem?_nil]); (try simp only [Zax, gIf, ZaE, Zbd, Zck, Zas, Zad, gC, Zaj, gTB, Zf2, gNt, ZhT, gOr, Zcl, Zj1, Zh0, L3.Zbc, Zb5, L3.Zab, L3.Zal, Zap, gB, rF, Zam, Zc3, gMt, Zjz, Zpv, Zcz, ZfY, Zgg, ZbU, L3.ZeX, Zeh, gSl, ZaX, Zav, Zc1, ZbX, ZkK, Zdq, Ze1, Zd7, ZcV, ZgF, Zcs, Zh1, ZaR, ZbY, List.map_cons, List.map_nil, List.length_cons, List.length_nil, List.cons_append, List.nil_append, List.getElem?_cons_zero, List.getElem?_cons_succ, List.set_cons_zero, List.set_cons_succ, List.replicate, Zi7, tyN, Zae, Zb4, Zc5, Zei, ixW, eqF, eqW, ZeP, Zio, ZiK, Zgx, ZmB, List.getElem?_nil])))
abbrev ZsC (mg:Str→Option Value):Spw:=spL (fun (l:List Kd) ws G=>∃ p,ws=[.ref p,.ref (fAt mg "kinds_within")]∧G p=some (.lst (l.map Kd.enc))∧Zgj l≤10000) fun l=>(l.flatMap Kd.kids).map Kd.enc
theorem ZlB {D:Ew} {p q0 fw:Addr} {items:List W}:∀ (l:List Kd) (o:Option W) (k0:W) (G:Hw) (acc:List W),acc.length+Zgj l≤20000→p≠q0→G p=some (.lst acc)→G q0=some (.lst items) →
  (∀ ω G',(∃ o',ω=[some k0,some (.ref fw),some (.ref p),o'])→G' p=some (.lst (acc++(l.flatMap Kd.kids).map Kd.enc))→(∀ b,b≠p→∀ u,G b=some u→G' b=some u)→D.nx ω G') →
  ZdU (holds q0 items) (gNm 3) (Zck (gMt ZdB ZsD (Zad 2) (L3.Zab (ZgF 1 fw Zmf (fun _ _ _=>False) (L3.Zab (Zad 3) L3.Zal)) L3.Zal))) D (l.map Kd.enc) [some k0,some (.ref fw),some (.ref p),o] G
 | [],o,k0,G,acc,_,hne,hp,hq,fin=>⟨hq,fin _ G ⟨o,rfl⟩ (by simpa using hp) fun _ _ _ h=>h⟩
 | c::l,o,k0,G,acc,hl,hne,hp,hq,fin=>by
  have hll:acc.length+(c.cnt+Zgj l)≤20000:=hl
  have hk:=Zmp c
  refine ⟨hq,?_⟩
  show Zck _ _ [some k0,some (.ref fw),some (.ref p),some c.enc] G
  walk_at "rd"
  refine ⟨ZfR hp,trivial,c,⟨rfl,by omega⟩,fun r hr=>?_⟩
  have hpr:=ZaF hp hr
  have hqr:=ZaF hq hr
  refine ZuK (by rw [Zao hpr];exact hp) Zah (by rw [List.length_map];exact Zbw (by omega)) ?_
  refine ZlB l (some c.enc) k0 _ (acc++c.kids.map Kd.enc) (by rw [List.length_append,List.length_map];omega) hne Zah ?_ ?_
  ·rw [Zao (Ne.symm hne),Zao hqr];exact hq
  ·intro ω G' hω h1 h2
   refine fin ω G' hω (by rw [h1,List.flatMap_cons,List.map_append,List.append_assoc]) fun b hb u hu=>h2 b hb u ?_
   rw [Zao hb,Zao (ZaF hu hr)];exact hu
theorem ZcQ (T:Tx K mg base a):Df P w K mg base "layer_within" 2 2 (ZsC mg):=by
 refine mk0 T.ZcR rfl ZdD Zqb ((by rintro ws G Q E ⟨x,⟨p,e,_⟩,_⟩;rw [e];rfl)) (Zh9 T (Za2 T) (by omega)) fun ws G Q E hC q=>?_
 obtain ⟨l,⟨q0,rfl,hq,hl⟩,q⟩:=q
 unfold Ze9
 walk_at "rd"
 refine ⟨by decide,fun p hp=>?_⟩
 have hne:p≠q0:=Ne.symm (ZaF hq hp)
 have hq':put G p (.lst []) q0=some (.lst (l.map Kd.enc)):=by rw [Zao (Ne.symm hne)];exact hq
 simp only [hq']
 refine ZlB l none (.ref q0) _ [] (by simp only [List.length_nil];omega) hne Zah hq' ?_
 intro ω G' hω h1 h2
 obtain ⟨o',rfl⟩:=hω
 simp only [List.getElem?_cons_zero,List.getElem?_cons_succ]
 rw [List.nil_append] at h1
 have hs:Sub (put G p (.lst ((l.flatMap Kd.kids).map Kd.enc))) G':=fun b u hu=>by
  by_cases hb:b=p
  ·subst hb
   rw [Zah] at hu;cases hu
   exact h1
  ·rw [Zao hb] at hu
   exact h2 b hb u (by rw [Zao hb];exact hu)
 exact hC _ _ _ hs (q p hp)
theorem ZpU {α:Type} {enc f:α→W} {gd:Hw→Prop} {ge:GE} {R:List W→Hw→Prop} {G:Hw} {cst:Sw} (hgd:gd G):∀ (l:List α) (o:Option W) (ys:List W),(∀ x∈l,∀ Q:Kw,Q (f x) G→ge (some (enc x)::cst) G Q) →
  ys.length+l.length≤sizeLine→R (ys++l.map f) G→Zb3 gd (gNm 0) Zf6 ge R (l.map enc) (o::cst) G ys
 | [],o,ys,_,_,r=>⟨hgd,by simpa using r⟩
 | x::l,o,ys,h,hl,r=>by
  refine ⟨hgd,by simp only [List.length_cons] at hl;omega,?_⟩
  show ge (some (enc x)::cst) G fun y G3=>Zb3 gd (gNm 0) Zf6 ge R (l.map enc) (some (enc x)::cst) G3 (ys++[y])
  refine h x List.mem_cons_self _ (ZpU hgd l (some (enc x)) (ys++[f x]) (fun y hy=>h y (List.mem_cons_of_mem _ hy)) ?_ ?_)
  ·simp only [List.length_append,List.length_cons,List.length_nil] at hl ⊢;omega
  ·simpa [List.append_assoc] using r
def ZkM (k:Kd):Bool:=decide (k.cnt≤40∧k.dp≤8)
abbrev Zui (mg:Str→Option Value):Spw:=spR (fun (k:Kd) ws _=>ws=[k.enc,.ref (fAt mg "has_form"),.ref (fAt mg "kinds_within"),.int 40,.int 8]∧k.ok=true∧k.cnt≤1000) fun k=>.bl (ZkM k)
theorem Zdx (T:Tx K mg base a):Df P w K mg base "is_made_of" 6 5 (Zui mg):=by
 refine mk0 T.Zdu rfl ZbJ Zdf ((by rintro ws G Q E ⟨x,⟨e,_⟩,_⟩;rw [e];rfl)) (ZjH T (Zch T) (Nat.le_refl _) (ZcQ T) (by omega)) fun ws G Q E hC q=>?_
 obtain ⟨k,⟨rfl,ho,hc⟩,q⟩:=q
 unfold Zgo
 walk_at "rd"
 refine ⟨by decide,fun p hp=>?_⟩
 refine ⟨fun m ω G'=>∃ (l:List Kd) (p:Addr) (c d:Nat),ω=[some k.enc,some (.ref (fAt mg "has_form")),some (.ref (fAt mg "kinds_within")),some (.int 40),some (.int 8),some (.ref p),some (.int c),some (.int d)]∧G' p=some (.lst (l.map Kd.enc))∧Sub G G'∧c+Zgj l=k.cnt∧d+dpL l=k.dp∧(∀ x∈l,x.ok=true)∧c≤40∧d≤8∧m=9 - d,⟨9,[k],p,0,0,rfl,Zah,Zbg hp,?_,?_,?_,by omega,by omega,rfl⟩,?_⟩
 ·show 0+(k.cnt+0)=k.cnt;omega
 ·show 0+max k.dp 0=k.dp;omega
 ·intro x hx;rw [List.mem_singleton.mp hx];exact ho
 rintro m ω G1 ⟨l,p,c,d,rfl,hl,hs,e1,e2,hok,h40,h8,rfl⟩
 have hlen:(l.map Kd.enc).length=l.length:=List.length_map _
 walk_at "rd"
 simp only [hl,Zae,hlen]
 cases l with
 | nil =>
  have d0:¬ ((0:Int) < ((([]:List Kd).length:Nat):Int)):=by simp
  simp only [d0,decide_false,Bool.false_eq_true,if_false]
  have hg:ZkM k=true:=by
   unfold ZkM
   have z1:c+0=k.cnt:=e1
   have z2:d+0=k.dp:=e2
   simp only [decide_eq_true_eq]
   omega
  dsimp only at q
  rw [hg] at q
  exact hC _ _ _ hs q
 | cons x l =>
  have hx1:=Ziz (x::l)
  have hx2:=ZjQ (x::l) (by simp)
  have d0:(0:Int) < (((x::l).length:Nat):Int):=by simp only [List.length_cons];omega
  simp only [d0,decide_true,if_true,hl,Zae,hlen]
  have b40:decide ((40:Int) < (c:Int)+(((x::l).length:Nat):Int))=decide (40 < c+(x::l).length):=by
   rw [decide_eq_decide];omega
  have b8:decide ((8:Int) < (d:Int)+1)=decide (8 < d+1):=by
   rw [decide_eq_decide];omega
  rw [b40,b8]
  by_cases g40:40 < c+(x::l).length
  ·have hg:ZkM k=false:=by
    unfold ZkM
    simp only [decide_eq_false_iff_not]
    omega
   dsimp only at q
   rw [hg] at q
   simp only [g40,decide_true,if_true]
   exact hC _ _ _ hs q
  ·by_cases g8:8 < d+1
   ·have hg:ZkM k=false:=by
     unfold ZkM
     simp only [decide_eq_false_iff_not]
     omega
    dsimp only at q
    rw [hg] at q
    simp only [g40,g8,decide_true,decide_false,if_true,Bool.false_eq_true,if_false]
    exact hC _ _ _ hs q
   ·simp only [g40,g8,decide_false,Bool.false_eq_true,if_false]
    refine ZpU (f:=fun _=>.bl true) (cst:=[some (.ref (fAt mg "has_form"))]) hl (x::l) none [] (fun z hz Q' q'=>?_) (by exact Zbw (by simp only [List.length_nil];omega)) ?_
    ·have hz2:=Zjk hz
     exact ⟨rfl,z,⟨rfl,hok z hz,by omega⟩,q'⟩
    ·intro p1 hp1
     rw [List.nil_append,show (fun _:Kd=>W.bl true)=W.bl∘(fun _=>true) from rfl,← List.map_map]
     simp only [ZdE Zah,Option.bind_some,Zev,Option.map_some,Zae]
     have hall:((x::l).map fun _=>true).all id=true:=by simp
     rw [hall]
     simp only [Bool.not_true,Bool.false_eq_true,if_false]
     refine ⟨x::l,⟨p,rfl,by rw [Zao (ZaF hl hp1)];exact hl,by omega⟩,fun p2 hp2=>?_⟩
     refine ⟨9 - (d+1),by omega,(x::l).flatMap Kd.kids,p2,c+(x::l).length,d+1,?_,Zah,?_,by omega,by omega,?_,by omega,by omega,rfl⟩
     ·simp only [Int.natCast_add,Int.natCast_one]
     ·exact ZcP (ZcP hs hp1) hp2
     ·intro y hy
      obtain ⟨z,hz,hy⟩:=List.mem_flatMap.mp hy
      exact Zk1 (hok z hz) y hy
abbrev ZvP:Spw:=spR (fun (k:Kd) ws _=>ws=[k.enc]∧k.ok=true∧k.cnt≤1000) fun k=>.bl (ZkM k)
theorem ZfX (T:Tx K mg base a):Df P w K mg base "is_kind" 7 1 ZvP:=by
 refine mk0 T.ZfT rfl ZnA Zdf ((by rintro ws G Q E ⟨x,⟨e,_⟩,_⟩;rw [e];rfl)) (ZnB T (Zch T) (by omega) (Za2 T) (by omega) (Zdx T) (Nat.le_refl _)) fun ws G Q E hC q=>?_
 obtain ⟨k,⟨rfl,ho,hc⟩,q⟩:=q
 unfold ZjR
 walk_at "rd"
 exact ⟨k,⟨rfl,ho,hc⟩,q⟩
abbrev ZwJ:Spw:=spR (fun (k:Kd) ws _=>ws=[k.enc]∧k.ok=true∧k.cnt≤1000∧ZkM k=true) fun _=>.non
theorem Zdz (T:Tx K mg base a):Df P w K mg base "check_kind" 8 1 ZwJ:=by
 refine mk0 T.Zdp rfl Zkv Zdf ((by rintro ws G Q E ⟨x,⟨e,_⟩,_⟩;rw [e];rfl)) (ZjF T (ZfX T) (Nat.le_refl _)) fun ws G Q E hC q=>?_
 obtain ⟨k,⟨rfl,ho,hc,hg⟩,q⟩:=q
 unfold ZgE
 walk_at "rd"
 refine ⟨k,⟨rfl,ho,hc⟩,?_⟩
 simp only [hg,Bool.not_true,Bool.false_eq_true,if_false]
 exact q
set_option maxHeartbeats 4000000
section
variable {P:Program} {w:World} {K:PySem.W.Frag} {mg:Str→Option Value} {base:Heap} {a:Adr}
abbrev Zgr:List Str:=["script","k","cell"]
theorem Zep:ZaD Zgr ["script","k"] (Zac ZbR):=⟨rfl,rfl,rfl,by decide +kernel,rfl,by decide +kernel,by decide +kernel⟩
def Zgv:GS:=(Zax (Zbd 2 (gC (.int 0))) (Zax (gIf (gTB (Zaj (ZfY (fun i j=>decide (i < j)) ZaP) (Zad 1) (gB (rF ZeP) (Zab (Zad 0) Zal)))) (Zbd 2 (Zaj (Zam ixW) (Zad 0) (Zad 1))) Zas) (Zax (gIf (gTB (Zaj (Zgg fun i j=>decide (j≤i)) (Zad 2) (Zaj (ZbU Zs5 fun i j=>i ^ j.toNat) (gC (.int 10)) (gC (.int 18))))) (ZaE (Zb5 (Zab (Zaj (ZbU (fun _ _=>True) fun i j=>i - j) (Zad 2) (Zaj (ZbU Zs5 fun i j=>i ^ j.toNat) (gC (.int 10)) (gC (.int 18)))) (Zab (gC (.int 1)) Zal)))) Zas) (ZaE (Zb5 (Zab (Zaj (ZbU (fun _ j=>0 < j) fun i j=>i % j) (Zaj (ZeX) (Zad 2) (Zaj (ZbU CMul fun i j=>i*j) (gC (.int 7919)) (Zad 1))) (gC (.int 2147483647))) (Zab (gC (.int 0)) Zal)))))))
theorem ZjB {k:Nat} (T:Tx K mg base a) {f:Addr} {cdv:Value} {A:Around} {outer:List Env} {s:Shared} {H:Hp} {E:XK} (hr:Room k (A.deeper (envOfC "_law_state" (Zac ZbR) s.heap.objs.size f cdv))):Ssm (cxW P w K mg base Zgr "_law_state" (Zac ZbR) f cdv A outer s H E).nox (fun B=>B=H) (Zaz ZbR) (Zgv) :=
 have hu:=ZeQ hr
 (Zai (Zej (i:=2) Zep.nd rfl rfl rfl Zag) (Zai (ZaY (ZaB ZlX rfl (Zan (i:=1) rfl rfl rfl rfl) (Zgh ZfS (Zd4) rfl T.ZfM (by decide) rfl rfl rfl (Zaa rfl (Zan (i:=0) rfl rfl rfl rfl) Zaf))) (Zak (Zej (i:=2) Zep.nd rfl rfl rfl (Zay (fun _ _=>rfl) (Zan (i:=0) rfl rfl rfl rfl) (Zan (i:=1) rfl rfl rfl rfl)))) Zaw) (Zai (ZaY (ZaB ZtY rfl (Zan (i:=2) rfl rfl rfl rfl) (ZrM Zag Zag)) (Zak (Zat (Zbm (Zaa rfl (Zgw (Zan (i:=2) rfl rfl rfl rfl) (ZrM Zag Zag)) (Zaa rfl Zag Zaf))))) Zaw) (Zak (Zat (Zbm (Zaa rfl (ZiO (Zkf (Zan (i:=2) rfl rfl rfl rfl) (Zhf Zag (Zan (i:=1) rfl rfl rfl rfl))) Zag) (Zaa rfl Zag Zaf))))))))
abbrev Zhr:List Str:=["state","many","mixed","found"]
theorem Zd8:ZaD Zhr ["state","many"] (Zac Zcb):=⟨rfl,rfl,rfl,by decide +kernel,rfl,by decide +kernel,by decide +kernel⟩
def Zhc:GS:=(Zax (gIf (ZhT (gTB (Zaj (Zam (eqF false)) (Zaj (Zam ixW) (Zad 0) (gC (.int 1))) (gC (.int 1)))) (gTB (Zaj (Zgg fun i j=>decide (j < i)) (Zaj (Zam ixW) (Zad 0) (gC (.int 0))) (gC (.int 0))))) (Zax (Zbd 3 (Zaj (ZbU (fun _ j=>0 < j) fun i j=>i % j) (Zaj (Zam ixW) (Zad 0) (gC (.int 0))) (Zad 1))) (Zax (ZcV (Zaj (ZbU ZtI fun i j=>i / j) (Zaj (Zam ixW) (Zad 0) (gC (.int 0))) (Zad 1)) (Zad 0) (gC (.int 0))) (ZaE (Zad 3)))) Zas) (Zax (ZcV (gC (.int 0)) (Zad 0) (gC (.int 1))) (Zax (ZcV (Zaj (ZbU (fun _ j=>0 < j) fun i j=>i % j) (Zaj (ZeX) (Zaj (ZbU CMul fun i j=>i*j) (Zaj (Zam ixW) (Zad 0) (gC (.int 0))) (gC (.int 48271))) (gC (.int 69621))) (gC (.int 2147483647))) (Zad 0) (gC (.int 0))) (Zax (Zbd 2 (Zaj (ZbU (fun _ j=>0 < j) fun i j=>i % j) (Zaj (ZeX) (Zaj (ZbU CMul fun i j=>i*j) (Zaj (Zam ixW) (Zad 0) (gC (.int 0))) (Zaj (Zam ixW) (Zad 0) (gC (.int 0)))) (Zaj (ZbU CMul fun i j=>i*j) (gC (.int 16807)) (Zaj (Zam ixW) (Zad 0) (gC (.int 0))))) (gC (.int 2147483629)))) (Zax (Zbd 2 (Zaj (ZbU (fun _ j=>0 < j) fun i j=>i % j) (Zaj (ZeX) (Zaj (ZbU CMul fun i j=>i*j) (Zad 2) (Zad 2)) (Zaj (ZbU CMul fun i j=>i*j) (gC (.int 39373)) (Zad 2))) (gC (.int 2147483587)))) (ZaE (Zaj (ZbU (fun _ j=>0 < j) fun i j=>i % j) (Zaj (ZbU ZtI fun i j=>i / j) (Zad 2) (gC (.int 8))) (Zad 1))))))))
theorem Zk5 {k:Nat} (T:Tx K mg base a) {f:Addr} {cdv:Value} {A:Around} {outer:List Env} {s:Shared} {H:Hp} {E:XK} (hr:Room k (A.deeper (envOfC "_law_take" (Zac Zcb) s.heap.objs.size f cdv))):Ssm (cxW P w K mg base Zhr "_law_take" (Zac Zcb) f cdv A outer s H E).nox (fun B=>B=H) (Zaz Zcb) (Zhc) :=
 have hu:=ZeQ hr
 (Zai (ZaY (Zd5 (ZrG (ZaB (Zbn hu) rfl (Zay (fun _ _=>rfl) (Zan (i:=0) rfl rfl rfl rfl) Zag) Zag) (Zou (ZaB Zii rfl (Zay (fun _ _=>rfl) (Zan (i:=0) rfl rfl rfl rfl) Zag) Zag)))) (Zai (Zej (i:=3) Zd8.nd rfl rfl rfl (ZiO (Zay (fun _ _=>rfl) (Zan (i:=0) rfl rfl rfl rfl) Zag) (Zan (i:=1) rfl rfl rfl rfl))) (Zai (Zja (fun _=>rfl) rfl rfl rfl (Zlg (Zay (fun _ _=>rfl) (Zan (i:=0) rfl rfl rfl rfl) Zag) (Zan (i:=1) rfl rfl rfl rfl)) (Zan (i:=0) rfl rfl rfl rfl) Zag) (Zak (Zat (Zan (i:=3) rfl rfl rfl rfl))))) Zaw) (Zai (Zja (fun _=>rfl) rfl rfl rfl Zag (Zan (i:=0) rfl rfl rfl rfl) Zag) (Zai (Zja (fun _=>rfl) rfl rfl rfl (ZiO (Zkf (Zhf (Zay (fun _ _=>rfl) (Zan (i:=0) rfl rfl rfl rfl) Zag) Zag) Zag) Zag) (Zan (i:=0) rfl rfl rfl rfl) Zag) (Zai (Zej (i:=2) Zd8.nd rfl rfl rfl (ZiO (Zkf (Zhf (Zay (fun _ _=>rfl) (Zan (i:=0) rfl rfl rfl rfl) Zag) (Zay (fun _ _=>rfl) (Zan (i:=0) rfl rfl rfl rfl) Zag)) (Zhf Zag (Zay (fun _ _=>rfl) (Zan (i:=0) rfl rfl rfl rfl) Zag))) Zag)) (Zai (Zej (i:=2) Zd8.nd rfl rfl rfl (ZiO (Zkf (Zhf (Zan (i:=2) rfl rfl rfl rfl) (Zan (i:=2) rfl rfl rfl rfl)) (Zhf Zag (Zan (i:=2) rfl rfl rfl rfl))) Zag)) (Zak (Zat (ZiO (Zlg (Zan (i:=2) rfl rfl rfl rfl) Zag) (Zan (i:=1) rfl rfl rfl rfl)))))))))
abbrev Zfn:List Str:=["state","deep","way","fields","name","pick"]
theorem Zce:ZaD Zfn ["state","deep"] (Zac Zca):=⟨rfl,rfl,rfl,by decide +kernel,rfl,by decide +kernel,by decide +kernel⟩
def Zdc (Zar:Spw) (ZaA:Spw):GS:=(Zax (Zbd 2 (Zap Zar (fun _ _ _=>False) (Zab (Zad 0) (Zab (Zaj (ZeX) (gC (.int 6)) (Zaj (ZbU CMul fun i j=>i*j) (gC (.int 4)) (gB (rF ZmB) (Zab (Zaj (Zgg fun i j=>decide (j < i)) (Zad 1) (gC (.int 0))) Zal)))) Zal)))) (Zax (gIf (gTB (Zaj (ZfY (fun i j=>decide (i < j)) ZaP) (Zad 2) (gC (.int 6)))) (ZaE (Zaj (Zam ixW) (Zb5 (Zab (Zbc (Zab (gC (.str "any")) Zal)) (Zab (Zbc (Zab (gC (.str "num")) Zal)) (Zab (Zbc (Zab (gC (.str "truth")) Zal)) Zal)))) (Zaj (ZbU ZtI fun i j=>i / j) (Zad 2) (gC (.int 2))))) Zas) (Zax (gIf (gTB (Zaj (Zam (eqF false)) (Zad 2) (gC (.int 6)))) (ZaE (Zbc (Zab (gC (.str "to")) (Zab (Zap ZaA (fun _ _ _=>False) (Zab (Zad 0) (Zab (Zaj (ZbU (fun _ _=>True) fun i j=>i - j) (Zad 1) (gC (.int 1))) Zal))) (Zab (Zap ZaA (fun _ _ _=>False) (Zab (Zad 0) (Zab (Zaj (ZbU (fun _ _=>True) fun i j=>i - j) (Zad 1) (gC (.int 1))) Zal))) Zal))))) Zas) (Zax (gIf (gTB (Zaj (Zam (eqF false)) (Zad 2) (gC (.int 7)))) (ZaE (Zbc (Zab (gC (.str "box")) (Zab (Zap ZaA (fun _ _ _=>False) (Zab (Zad 0) (Zab (Zaj (ZbU (fun _ _=>True) fun i j=>i - j) (Zad 1) (gC (.int 1))) Zal))) Zal)))) Zas) (Zax (Zbd 3 (Zb5 Zal)) (Zax (Ze1 (ZbX (Zb5 (Zab (gC (.str "a")) (Zab (gC (.str "b")) (Zab (gC (.str "cc")) Zal))))) (gNm 4) (Zax (Zbd 5 (Zap Zar (fun _ _ _=>False) (Zab (Zad 0) (Zab (gC (.int 4)) Zal)))) (gIf (gTB (Zaj (Zgg fun i j=>decide (j < i)) (Zad 5) (gC (.int 1)))) (Zck (gMt ZdB Zni (Zad 3) (Zab (Zbc (Zab (Zad 4) (Zab (Zaj (Zam ixW) (Zb5 (Zab (gC (.str "must")) (Zab (gC (.str "may")) Zal))) (Zaj (ZbU (fun _ _=>True) fun i j=>i - j) (Zad 5) (gC (.int 2)))) (Zab (Zap ZaA (fun _ _ _=>False) (Zab (Zad 0) (Zab (Zaj (ZbU (fun _ _=>True) fun i j=>i - j) (Zad 1) (gC (.int 1))) Zal))) Zal)))) Zal))) Zas))) (ZaE (Zbc (Zab (gC (.str "row")) (Zab (gB (rF Zgx) (Zab (Zad 3) Zal)) (Zab (Zaj (Zam (eqF false)) (Zap Zar (fun _ _ _=>False) (Zab (Zad 0) (Zab (gC (.int 3)) Zal))) (gC (.int 0))) Zal)))))))))))
theorem Zfh {k:Nat} (T:Tx K mg base a) {ZaC:Nat} {Zar:Spw} (ZaJ:Df P w K mg base "_law_take" ZaC 2 Zar) (ZaI:ZaC≤k) {ZaV:Nat} {ZaA:Spw} (ZbG:Df P w K mg base "_law_kind" ZaV 2 ZaA) (ZbI:ZaV≤k) {f:Addr} {cdv:Value} {A:Around} {outer:List Env} {s:Shared} {H:Hp} {E:XK} (hr:Room k (A.deeper (envOfC "_law_kind" (Zac Zca) s.heap.objs.size f cdv))):Ssm (cxW P w K mg base Zfn "_law_kind" (Zac Zca) f cdv A outer s H E).nox (fun B=>B=H) (Zaz Zca) (Zdc Zar ZaA) :=
 have hu:=ZeQ hr
 (Zai (Zej (i:=2) Zce.nd rfl rfl rfl (Zaq ZaJ (hr.mono ZaI) rfl ZaH rfl rfl rfl (Zaa rfl (Zan (i:=0) rfl rfl rfl rfl) (Zaa rfl (Zkf Zag (Zhf Zag (Zh8 ZrQ (ZoZ) rfl T.ZkY (by decide) rfl rfl rfl (Zaa rfl (Zdg Zii rfl (Zan (i:=1) rfl rfl rfl rfl) Zag) Zaf)))) Zaf)))) (Zai (ZaY (ZaB ZlX rfl (Zan (i:=2) rfl rfl rfl rfl) Zag) (Zak (Zat (Zay (fun _ _=>rfl) (Zbm (Zaa rfl (ZaO (Zaa rfl Zau Zaf)) (Zaa rfl (ZaO (Zaa rfl Zau Zaf)) (Zaa rfl (ZaO (Zaa rfl Zau Zaf)) Zaf)))) (Zlg (Zan (i:=2) rfl rfl rfl rfl) Zag)))) Zaw) (Zai (ZaY (ZaB (Zbn hu) rfl (Zan (i:=2) rfl rfl rfl rfl) Zag) (Zak (Zat (ZaO (Zaa rfl Zau (Zaa rfl (Zaq ZbG (hr.mono ZbI) rfl ZaH rfl rfl rfl (Zaa rfl (Zan (i:=0) rfl rfl rfl rfl) (Zaa rfl (Zgw (Zan (i:=1) rfl rfl rfl rfl) Zag) Zaf))) (Zaa rfl (Zaq ZbG (hr.mono ZbI) rfl ZaH rfl rfl rfl (Zaa rfl (Zan (i:=0) rfl rfl rfl rfl) (Zaa rfl (Zgw (Zan (i:=1) rfl rfl rfl rfl) Zag) Zaf))) Zaf)))))) Zaw) (Zai (ZaY (ZaB (Zbn hu) rfl (Zan (i:=2) rfl rfl rfl rfl) Zag) (Zak (Zat (ZaO (Zaa rfl Zau (Zaa rfl (Zaq ZbG (hr.mono ZbI) rfl ZaH rfl rfl rfl (Zaa rfl (Zan (i:=0) rfl rfl rfl rfl) (Zaa rfl (Zgw (Zan (i:=1) rfl rfl rfl rfl) Zag) Zaf))) Zaf))))) Zaw) (Zai (Zej (i:=3) Zce.nd rfl rfl rfl (Zbm Zaf)) (Zai (ZfP PassesOwn.never rfl (fun _=>rfl) (Zdk (fun _ _=>rfl) (Zbm (Zaa rfl Zau (Zaa rfl Zau (Zaa rfl Zau Zaf))))) (Zg0 (i:=4) Zce.nd rfl (.inl rfl) (.inr rfl)) (Zai (Zej (i:=5) Zce.nd rfl rfl rfl (Zaq ZaJ (hr.mono ZaI) rfl ZaH rfl rfl rfl (Zaa rfl (Zan (i:=0) rfl rfl rfl rfl) (Zaa rfl Zag Zaf)))) (Zak (ZaY (ZaB Zii rfl (Zan (i:=5) rfl rfl rfl rfl) Zag) (Zak (ZeC rfl (ZfF Zf7 rfl rfl rfl rfl rfl (Zan (i:=3) rfl rfl rfl rfl) (Zaa rfl (ZaO (Zaa rfl (Zan (i:=4) rfl rfl rfl rfl) (Zaa rfl (Zay (fun _ _=>rfl) (Zbm (Zaa rfl Zau (Zaa rfl Zau Zaf))) (Zgw (Zan (i:=5) rfl rfl rfl rfl) Zag)) (Zaa rfl (Zaq ZbG (hr.mono ZbI) rfl ZaH rfl rfl rfl (Zaa rfl (Zan (i:=0) rfl rfl rfl rfl) (Zaa rfl (Zgw (Zan (i:=1) rfl rfl rfl rfl) Zag) Zaf))) Zaf)))) Zaf)))) Zaw)))) (Zak (Zat (ZaO (Zaa rfl Zau (Zaa rfl (Zh8 ZcY (ZdR) rfl T.Zcu (by decide) rfl rfl rfl (Zaa rfl (Zan (i:=3) rfl rfl rfl rfl) Zaf)) (Zaa rfl (Zdg (Zbn hu) rfl (Zaq ZaJ (hr.mono ZaI) rfl ZaH rfl rfl rfl (Zaa rfl (Zan (i:=0) rfl rfl rfl rfl) (Zaa rfl Zag Zaf))) Zag) Zaf))))))))))))
end
set_option maxHeartbeats 1000000
local macro_rules | `(tactic| walk_at "rd") => `(tactic| ((try dsimp only [Zax, gIf, ZaE, Zbd, Zck, Zas, Zad, gC, Zaj, gTB, Zf2, gNt, ZhT, gOr, Zcl, Zj1, Zh0, L3.Zbc, Zb5, L3.Zab, L3.Zal, Zap, gB, rF, Zam, Zc3, gMt, Zjz, Zpv, Zcz, ZfY, Zgg, ZbU, L3.ZeX, Zeh, gSl, ZaX, Zav, Zc1, ZbX, ZkK, Zdq, Ze1, Zd7, ZcV, ZaR, ZbY, List.map_cons, List.map_nil, List.length_cons, List.length_nil, List.cons_append, List.nil_append, List.getElem?_cons_zero, List.getElem?_cons_succ, List.set_cons_zero, List.set_cons_succ, List.replicate, Zi7, tyN, Zae, Zb4, Zc5, Zei, ixW, eqF, eqW, ZeP, Zio, ZiK, Zgx, ZmB, List.getElem?_nil]); (try simp only [Zax, gIf, ZaE, Zbd, Zck, Zas, Zad, gC, Zaj, gTB, Zf2, gNt, ZhT, gOr, Zcl, Zj1, Zh0, L3.Zbc, Zb5, L3.Zab, L3.Zal, Zap, gB, rF, Zam, Zc3, gMt, Zjz, Zpv, Zcz, ZfY, Zgg, ZbU, L3.ZeX, Zeh, gSl, ZaX, Zav, Zc1, ZbX, ZkK, Zdq, Ze1, Zd7, ZcV, ZaR, ZbY, List.map_cons, List.map_nil, List.length_cons, List.length_nil, List.cons_append, List.nil_append, List.getElem?_cons_zero, List.getElem?_cons_succ, List.set_cons_zero, List.set_cons_succ, List.replicate, Zi7, tyN, Zae, Zb4, Zc5, Zei, ixW, eqF, eqW, ZeP, Zio, ZiK, Zgx, ZmB, List.getElem?_nil])))
theorem ZpI {ns:List Int} {k:Int} (h0:0≤k) (h:k < (ns.length:Int)):∃ v:Int,atI (ns.map W.int) k=some (.int v):=by
 have hk:k.toNat < ns.length:=by omega
 have ek:k=((k.toNat:Nat):Int):=by omega
 refine ⟨ns[k.toNat],?_⟩
 have q:atI (ns.map W.int) ((k.toNat:Nat):Int)=some (.int ns[k.toNat]):=Zjo (by rw [List.getElem?_map,List.getElem?_eq_getElem hk] <;> rfl)
 rw [← ek] at q
 exact q
def Zob:Spw:=fun ws G Q _=>∃ (ns:List Int) (k:Int),ws=[.rol (ns.map W.int),.int k]∧0≤k∧k≤1000∧∀ p (x y:Int),G p=none→Q (.ref p) (put G p (.lst [.int x,.int y]))
theorem ZoM:Spw.M Zob:=(by rintro ws G Q Q' E E' h _ ⟨ns,k,h1,h2,h3,q⟩;exact ⟨ns,k,h1,h2,h3,fun p x y hp=>h _ _ (q p x y hp)⟩)
theorem ZrE:Zs5 10 18:=⟨by decide,by decide,by decide⟩
theorem Zdm (T:Tx K mg base a):Df P w K mg base "_law_state" 1 2 Zob:=by
 refine mk0 T.Zdo rfl Zep ZoM ((by rintro ws G Q E ⟨ns,k,e,_⟩;rw [e];rfl)) (ZjB T) fun ws G Q E hC q=>?_
 obtain ⟨ns,k,rfl,h0,h1,q⟩:=q
 unfold Zgv
 have fin:∀ x:Int,(Zax (gIf (gTB (Zaj (Zgg fun i j=>decide (j≤i)) (Zad 2) (Zaj (ZbU Zs5 fun i j=>i ^ j.toNat) (gC (.int 10)) (gC (.int 18))))) (ZaE (Zb5 (L3.Zab (Zaj (ZbU (fun _ _=>True) fun i j=>i - j) (Zad 2) (Zaj (ZbU Zs5 fun i j=>i ^ j.toNat) (gC (.int 10)) (gC (.int 18)))) (L3.Zab (gC (.int 1)) L3.Zal)))) Zas) (ZaE (Zb5 (L3.Zab (Zaj (ZbU (fun _ j=>0 < j) fun i j=>i % j) (Zaj (L3.ZeX) (Zad 2) (Zaj (ZbU CMul fun i j=>i*j) (gC (.int 7919)) (Zad 1))) (gC (.int 2147483647))) (L3.Zab (gC (.int 0)) L3.Zal))))) (ZaR Q) [some (.rol (ns.map W.int)),some (.int k),some (.int x)] G:=fun x=>by
  walk_at "rd"
  refine ⟨ZrE,?_⟩
  refine ZsV (fun h=>?_) (fun h=>?_)
  ·exact ⟨ZrE,trivial,by decide,fun p hp=>q p _ _ hp⟩
  ·exact ⟨.inl ⟨by decide,by decide⟩,by decide,by decide,fun p hp=>q p _ _ hp⟩
 show Zax (Zbd 2 (gC (.int 0))) (Zax _ _) (ZaR Q) [some (.rol (ns.map W.int)),some (.int k),none] G
 by_cases hk:k < ((ns.map W.int).length:Int)
 ·obtain ⟨v,e⟩:=ZpI h0 (by simpa using hk)
  have z:=fin v
  simp only [Zax,Zbd,gC,gIf,gTB,Zaj,ZfY,gB,rF,ZeP,Zio,L3.Zab,L3.Zal,Zad,List.getElem?_cons_zero,List.getElem?_cons_succ,List.set_cons_zero,List.set_cons_succ,Zae,hk,decide_true,if_true,Zam,ixW,e] at z ⊢
  exact z
 ·have z:=fin 0
  simp only [Zax,Zbd,gC,gIf,gTB,Zaj,ZfY,gB,rF,ZeP,Zio,L3.Zab,L3.Zal,Zad,List.getElem?_cons_zero,List.getElem?_cons_succ,List.set_cons_zero,List.set_cons_succ,Zae,hk,decide_false,Bool.false_eq_true,if_false,Zas] at z ⊢
  exact z
def ZcA:Spw:=fun ws G Q _=>∃ (s:Addr) (m x y:Int),ws=[.ref s,.int m]∧0 < m∧m < 1073741824∧G s=some (.lst [.int x,.int y])∧∀ r x' y':Int,0≤r→r < m→Q (.int r) (put G s (.lst [.int x',.int y']))
theorem Zqo:Spw.M ZcA:=(by rintro ws G Q Q' E E' h _ ⟨s,m,x,y,h1,h2,h3,h4,q⟩;exact ⟨s,m,x,y,h1,h2,h3,h4,fun r x' y' a b=>h _ _ (q r x' y' a b)⟩)
theorem ZwL (n:Nat):ixN (n+1) 0=some 0:=by unfold ixN;rw [if_pos (Int.le_refl 0),if_pos (by omega)];rfl
theorem ZwU (n:Nat):ixN (n+2) 1=some 1:=by unfold ixN;rw [if_pos (by decide),if_pos (by omega)];rfl
theorem ZoD {G:Hw} {s:Addr} {x y v:W} {Q:Hw→Prop} (h:G s=some (.lst [x,y])) (q:Q (put G s (.lst [v,y]))):Zia (.ref s) (.int 0) v G Q:=Zjt h (ZwL 1) q
theorem Zr9 {G:Hw} {s:Addr} {x y v:W} {Q:Hw→Prop} (h:G s=some (.lst [x,y])) (q:Q (put G s (.lst [x,v]))):Zia (.ref s) (.int 1) v G Q:=Zjt h (ZwU 0) q
theorem ix0 {G:Hw} {s:Addr} {x y:W} (h:G s=some (.lst [x,y])):ixW (.ref s) (.int 0) G=some x:=by rw [Zrs h];exact Zb4
theorem ix1 {G:Hw} {s:Addr} {x y:W} (h:G s=some (.lst [x,y])):ixW (.ref s) (.int 1) G=some y:=by rw [Zrs h];exact Zc5
theorem ZnH {x m:Int} (h0:0≤x) (h1:x < m) (hm:m≤2147483647):-(2 ^ 64) < x∧x < 2 ^ 64:=by
 have:(2:Int) ^ 64=18446744073709551616:=by decide
 rw [this];omega
theorem ZaC (T:Tx K mg base a):Df P w K mg base "_law_take" 1 2 ZcA:=by
 refine mk0 T.Zd6 rfl Zd8 Zqo ((by rintro ws G Q E ⟨s,m,x,y,e,_⟩;rw [e];rfl)) (Zk5 T) fun ws G Q E hC q=>?_
 obtain ⟨s,m,x,y,rfl,hm0,hm1,hs,q⟩:=q
 unfold Zhc
 have tail:(Zax (ZcV (gC (.int 0)) (Zad 0) (gC (.int 1))) (Zax (ZcV (Zaj (ZbU (fun _ j=>0 < j) fun i j=>i % j) (Zaj (L3.ZeX) (Zaj (ZbU CMul fun i j=>i*j) (Zaj (Zam ixW) (Zad 0) (gC (.int 0))) (gC (.int 48271))) (gC (.int 69621))) (gC (.int 2147483647))) (Zad 0) (gC (.int 0))) (Zax (Zbd 2 (Zaj (ZbU (fun _ j=>0 < j) fun i j=>i % j) (Zaj (L3.ZeX) (Zaj (ZbU CMul fun i j=>i*j) (Zaj (Zam ixW) (Zad 0) (gC (.int 0))) (Zaj (Zam ixW) (Zad 0) (gC (.int 0)))) (Zaj (ZbU CMul fun i j=>i*j) (gC (.int 16807)) (Zaj (Zam ixW) (Zad 0) (gC (.int 0))))) (gC (.int 2147483629)))) (Zax (Zbd 2 (Zaj (ZbU (fun _ j=>0 < j) fun i j=>i % j) (Zaj (L3.ZeX) (Zaj (ZbU CMul fun i j=>i*j) (Zad 2) (Zad 2)) (Zaj (ZbU CMul fun i j=>i*j) (gC (.int 39373)) (Zad 2))) (gC (.int 2147483587)))) (ZaE (Zaj (ZbU (fun _ j=>0 < j) fun i j=>i % j) (Zaj (ZbU ZtI fun i j=>i / j) (Zad 2) (gC (.int 8))) (Zad 1))))))) (ZaR Q) [some (.ref s),some (.int m),none,none] G:=by
  simp only [Zax,ZcV,gC,Zad,List.getElem?_cons_zero,List.getElem?_cons_succ]
  refine Zr9 hs ?_
  have h1:put G s (.lst [.int x,.int 0]) s=some (.lst [.int x,.int 0]):=Zah
  simp only [Zaj,ZbU,L3.ZeX,Zam,gC,Zad,List.getElem?_cons_zero,List.getElem?_cons_succ,ix0 h1,Zae]
  refine ⟨.inr ⟨by decide,by decide⟩,by decide,?_⟩
  refine ZoD h1 ?_
  rw [Zf3]
  generalize hx2:(x*48271+69621) % 2147483647=x2
  have b0:0≤x2:=by rw [← hx2];exact Int.emod_nonneg _ (by decide)
  have b1:x2 < 2147483647:=by rw [← hx2];exact Int.emod_lt_of_pos _ (by decide)
  have h2:put G s (.lst [.int x2,.int 0]) s=some (.lst [.int x2,.int 0]):=Zah
  simp only [Zbd,Zaj,ZbU,L3.ZeX,Zam,gC,Zad,List.getElem?_cons_zero,List.getElem?_cons_succ,List.set_cons_zero,List.set_cons_succ,ix0 h2,Zae,ZaE,ZaR]
  refine ⟨.inl (ZnH b0 b1 (by decide)),.inl ⟨by decide,by decide⟩,by decide,?_⟩
  generalize hx3:(x2*x2+16807*x2) % 2147483629=x3
  have c0:0≤x3:=by rw [← hx3];exact Int.emod_nonneg _ (by decide)
  have c1:x3 < 2147483629:=by rw [← hx3];exact Int.emod_lt_of_pos _ (by decide)
  refine ⟨.inl (ZnH c0 c1 (by decide)),.inl ⟨by decide,by decide⟩,(show (0:Int) < 2147483587 by decide),?_⟩
  refine ⟨⟨by decide,by decide⟩,hm0,?_⟩
  exact q _ _ _ (Int.emod_nonneg _ (by omega)) (Int.emod_lt_of_pos _ hm0)
 show Zax (gIf _ _ Zas) _ (ZaR Q) [some (.ref s),some (.int m),none,none] G
 simp only [Zax,gIf,ZhT,gTB,Zaj,Zam,Zgg,Zad,gC,List.getElem?_cons_zero,List.getElem?_cons_succ,ix1 hs,ix0 hs,Zae,eqF,eqW,Option.map_some] at tail ⊢
 refine ZsV (fun h=>?_) (fun h=>?_)
 ·refine ZsV (fun h2=>?_) (fun h2=>?_)
  ·simp only [Zbd,ZcV,Zaj,ZbU,Zam,Zad,gC,ZaE,ZaR,List.getElem?_cons_zero,List.getElem?_cons_succ,List.set_cons_zero,List.set_cons_succ,ix0 hs,Zae]
   refine ⟨hm0,?_⟩
   simp only [Zax,ZcV,Zaj,ZbU,Zam,Zad,gC,ZaE,List.getElem?_cons_zero,List.getElem?_cons_succ,List.set_cons_zero,List.set_cons_succ,ix0 hs,Zae]
   refine ⟨⟨hm0,hm1⟩,?_⟩
   refine ZoD hs ?_
   exact q _ _ _ (Int.emod_nonneg _ (by omega)) (Int.emod_lt_of_pos _ hm0)
  ·exact tail
 ·simp only [Bool.false_eq_true,if_false]
  exact tail
theorem ZkT {x:Str} {st:Stmt} {ps:List Str} {k:Nat} {sp:Spw} (Fx:Fn K mg st x ps) (m:sp.M) (no:∀ ws G Q E,¬ sp ws G Q E):Df P w K mg base x k ps.length sp:=by
 obtain ⟨f,fd,h1,F,h3⟩:=Fx
 exact ⟨⟨f,fd,_,h1,F.kp,h3,rfl,⟨(by rintro vs H Q E ⟨ws,G,t,r,q⟩;exact absurd q (no _ _ _ _)),(by rintro A outer s H args us vs Q E _ _ _ _ ⟨ws,G,t,r,q⟩;exact absurd q (no _ _ _ _))⟩⟩,m⟩
theorem Zn9 {G:Hw} {p:Addr} {xs:List W} {y:W} {Q:Kw} (hp:G p=some (.lst xs)) (hl:xs.length < sizeLine) (q:Q .non (put G p (.lst (xs++[y])))):Zni (.ref p) [y] G Q:=by
 unfold Zni
 refine ZkS hp ?_ q
 rw [if_pos hl]
def Nn:Nat→Nat
 | 0=>1
 | n+1=>1+3*Nn n
def abc:List Str:=["a","b","cc"]
mutual
def Kd.abc:Kd→Bool
 | .to x y=>x.abc&&y.abc
 | .box x=>x.abc
 | .row fs _=>fs.abc
 | _=>true
def Fs.abc:Fs→Bool
 | .nil=>true
 | .cons n _ k r=>K2.abc.contains n&&k.abc&&r.abc
end
def gen (n:Nat) (k:Kd):Prop:=k.ok=true∧k.dp≤n+1∧k.cnt≤Nn n∧k.abc=true
theorem Zvt:∀ n,1≤Nn n
 | 0=>Nat.le_refl _
 | n+1=>by show 1≤1+3*Nn n;omega
def Zfr (x:Str×Bool×Kd):W:=.tup [.str x.1,.str (Zed x.2.1),x.2.2.enc]
def ofL:List (Str×Bool×Kd)→Fs
 | []=>.nil
 | x::l=>.cons x.1 x.2.1 x.2.2 (ofL l)
theorem Zk9:∀ l,(ofL l).enc=l.map Zfr
 | []=>rfl
 | x::l=>by show Zfr x::(ofL l).enc=Zfr x::l.map Zfr;rw [Zk9 l]
theorem ZhK:∀ l,(ofL l).names=l.map (·.1)
 | []=>rfl
 | x::l=>by show x.1::(ofL l).names=x.1::l.map (·.1);rw [ZhK l]
theorem ZnG {n:Nat}:∀ l:List (Str×Bool×Kd),(∀ y∈l,gen n y.2.2)→(ofL l).dp≤n+1
 | [],_=>Nat.zero_le _
 | x::l,h=>by
  have h1:=(h x List.mem_cons_self).2.1
  have h2:=ZnG l fun y hy=>h y (List.mem_cons_of_mem _ hy)
  show max x.2.2.dp (ofL l).dp≤n+1;omega
theorem Zpn {n:Nat}:∀ l:List (Str×Bool×Kd),(∀ y∈l,gen n y.2.2)→(ofL l).cnt≤l.length*Nn n
 | [],_=>Nat.zero_le _
 | x::l,h=>by
  have h1:=(h x List.mem_cons_self).2.2.1
  have h2:=Zpn l fun y hy=>h y (List.mem_cons_of_mem _ hy)
  show x.2.2.cnt+(ofL l).cnt≤(l.length+1)*Nn n
  rw [Nat.add_mul];omega
theorem Zpb {n:Nat}:∀ l:List (Str×Bool×Kd),(∀ y∈l,gen n y.2.2)→(∀ y∈l,ZcB y.1=true)→(ofL l).ok=true
 | [],_,_=>rfl
 | x::l,h,h'=>by
  show (ZcB x.1&&x.2.2.ok&&(ofL l).ok)=true
  rw [h' x List.mem_cons_self,(h x List.mem_cons_self).1,Zpb l (fun y hy=>h y (List.mem_cons_of_mem _ hy)) (fun y hy=>h' y (List.mem_cons_of_mem _ hy))];rfl
theorem Zlo:∀ {ns:List Str},ns.Pairwise (fun x y=>ZaP x y=true)→ZhU ns=true
 | [],_=>rfl
 | [_],_=>rfl
 | x::y::r,h=>by
  show (ZaP x y&&ZhU (y::r))=true
  cases h with
  | cons h1 h2=>rw [h1 y List.mem_cons_self,Zlo h2];rfl
theorem Zvq:abc.Pairwise (fun x y=>ZaP x y=true):=by decide +kernel
theorem ZrD:∀ n∈abc,ZcB n=true:=by decide +kernel
theorem ZkO {n:Nat}:∀ l:List (Str×Bool×Kd),(∀ y∈l,gen n y.2.2)→(∀ y∈l,y.1∈abc)→(ofL l).abc=true
 | [],_,_=>rfl
 | x::l,h,h'=>by
  show (abc.contains x.1&&x.2.2.abc&&(ofL l).abc)=true
  rw [List.contains_iff_mem.mpr (h' x List.mem_cons_self),(h x List.mem_cons_self).2.2.2,ZkO l (fun y hy=>h y (List.mem_cons_of_mem _ hy)) (fun y hy=>h' y (List.mem_cons_of_mem _ hy))];rfl
theorem Zs4 {n:Nat} {l:List (Str×Bool×Kd)} {o:Bool} (h:(l.map (·.1)).Sublist abc) (hg:∀ y∈l,gen n y.2.2):gen (n+1) (.row (ofL l) o):=by
 have hl:l.length≤3:=by have:=h.length_le;rw [List.length_map] at this;exact this
 refine ⟨?_,?_,?_,ZkO l hg fun y hy=>h.subset (List.mem_map_of_mem hy)⟩
 ·show (ZhU (ofL l).names&&(ofL l).ok)=true
  rw [ZhK,Zlo (Zvq.sublist h),Zpb l hg fun y hy=>ZrD _ (h.subset (List.mem_map_of_mem hy))];rfl
 ·have:=ZnG l hg;show 1+(ofL l).dp≤n+1+1;omega
 ·have h1:=Zpn l hg
  have h2:l.length*Nn n≤3*Nn n:=Nat.mul_le_mul_right _ hl
  show 1+(ofL l).cnt≤1+3*Nn n;omega
theorem Zrx {n:Nat} {x y:Kd} (hx:gen n x) (hy:gen n y):gen (n+1) (.to x y):=by
 refine ⟨?_,?_,?_,by show (x.abc&&y.abc)=true;rw [hx.2.2.2,hy.2.2.2];rfl⟩
 ·show (x.ok&&y.ok)=true;rw [hx.1,hy.1];rfl
 ·have:=hx.2.1;have:=hy.2.1;show 1+max x.dp y.dp≤n+1+1;omega
 ·have:=hx.2.2.1;have:=hy.2.2.1;show 1+(x.cnt+y.cnt)≤1+3*Nn n;omega
theorem Zpp {n:Nat} {x:Kd} (hx:gen n x):gen (n+1) (.box x):=by
 refine ⟨hx.1,?_,?_,hx.2.2.2⟩
 ·have:=hx.2.1;show 1+x.dp≤n+1+1;omega
 ·have:=hx.2.2.1;show 1+x.cnt≤1+3*Nn n;omega
theorem ZgN {n:Nat} {k:Kd} (h:k=.any∨k=.num∨k=.truth):gen n k:=by
 have:=Zvt n
 rcases h with rfl | rfl | rfl <;> exact ⟨rfl,Nat.succ_le_succ (Nat.zero_le _),this,rfl⟩
def Zm2 (n:Nat):Spw:=fun ws G Q _=>∃ (s:Addr) (x y:Int),ws=[.ref s,.int n]∧G s=some (.lst [.int x,.int y])∧∀ k x' y',gen n k→Q k.enc (put G s (.lst [.int x',.int y']))
theorem Zoi {n:Nat}:Spw.M (Zm2 n):=(by rintro ws G Q Q' E E' h _ ⟨s,x,y,h1,h2,q⟩;exact ⟨s,x,y,h1,h2,fun k x' y' g=>h _ _ (q k x' y' g)⟩)
theorem Zjq {n:Nat} {D:Ew} {s p q0:Addr} {d:Int} {way:W} {items:List W} (hd:d - 1=(n:Int)):∀ (xs:List Str) (o4 o5:Option W) (G:Hw) (l:List (Str×Bool×Kd)) (x y:Int),G s=some (.lst [.int x,.int y])→G p=some (.lst (l.map Zfr))→G q0=some (.lst items)→p≠s→q0≠s→q0≠p→l.length+xs.length≤100 →
  (∀ ω G' l2 x' y',(∃ u v,ω=[some (.ref s),some (.int d),some way,some (.ref p),u,v])→G' s=some (.lst [.int x',.int y'])→G' p=some (.lst ((l++l2).map Zfr))→(∀ b,b≠s→b≠p→∀ u,G b=some u→G' b=some u)→(l2.map (·.1)).Sublist xs→(∀ z∈l2,gen n z.2.2)→D.nx ω G') →
  ZdU (holds q0 items) (gNm 4) (Zax (Zbd 5 (Zap ZcA (fun _ _ _=>False) (L3.Zab (Zad 0) (L3.Zab (gC (.int 4)) L3.Zal)))) (gIf (gTB (Zaj (Zgg fun i j=>decide (j < i)) (Zad 5) (gC (.int 1)))) (Zck (gMt ZdB Zni (Zad 3) (L3.Zab (L3.Zbc (L3.Zab (Zad 4) (L3.Zab (Zaj (Zam ixW) (Zb5 (L3.Zab (gC (.str "must")) (L3.Zab (gC (.str "may")) L3.Zal))) (Zaj (ZbU (fun _ _=>True) fun i j=>i - j) (Zad 5) (gC (.int 2)))) (L3.Zab (Zap (Zm2 n) (fun _ _ _=>False) (L3.Zab (Zad 0) (L3.Zab (Zaj (ZbU (fun _ _=>True) fun i j=>i - j) (Zad 1) (gC (.int 1))) L3.Zal))) L3.Zal)))) L3.Zal))) Zas)) D (xs.map W.str) [some (.ref s),some (.int d),some way,some (.ref p),o4,o5] G
 | [],o4,o5,G,l,x,y,hs,hp,hq,_,_,_,_,fin=>⟨hq,fin _ G [] x y ⟨o4,o5,rfl⟩ hs (by rw [List.append_nil];exact hp) (fun b _ _ u h=>h) (.refl _) (by intro z hz;cases hz)⟩
 | nm::xs,o4,o5,G,l,x,y,hs,hp,hq,nps,nqs,nqp,hl,fin=>by
  refine ⟨hq,?_⟩
  show Zax _ _ _ [some (.ref s),some (.int d),some way,some (.ref p),some (.str nm),o5] G
  walk_at "rd"
  refine ⟨s,4,x,y,rfl,by decide,by decide,hs,fun r x1 y1 r0 r1=>?_⟩
  have g1s:put G s (.lst [.int x1,.int y1]) s=some (.lst [.int x1,.int y1]):=Zah
  have g1p:put G s (.lst [.int x1,.int y1]) p=some (.lst (l.map Zfr)):=by rw [Zao nps];exact hp
  have g1q:put G s (.lst [.int x1,.int y1]) q0=some (.lst items):=by rw [Zao nqs];exact hq
  have hlx:l.length+(xs.length+1)≤100:=hl
  refine ZsV (fun h=>?_) (fun h=>?_)
  ·have h1:1 < r:=of_decide_eq_true h
   refine ⟨ZfR g1p,by decide,fun p2 hp2=>?_⟩
   have n2:s≠p2:=ZaF g1s hp2
   have n3:p≠p2:=ZaF g1p hp2
   have n4:q0≠p2:=ZaF g1q hp2
   have mk:∃ b:Bool,atI [W.str "must",W.str "may"] (r - 2)=some (.str (Zed b)):=by
    have:r - 2=0∨r - 2=1:=by omega
    rcases this with e | e
    ·exact ⟨true,by rw [e];exact Zb4⟩
    ·exact ⟨false,by rw [e];exact Zc5⟩
   obtain ⟨b,eb⟩:=mk
   refine ⟨trivial,?_⟩
   simp only [Zah,eb,Zae]
   refine ⟨trivial,s,x1,y1,by rw [hd],by rw [Zao n2];exact g1s,fun k x2 y2 hk=>?_⟩
   refine ⟨(show 3≤sizeLine by decide),?_⟩
   have g3p:put (put (put G s (.lst [.int x1,.int y1])) p2 (.lst [.str "must",.str "may"])) s (.lst [.int x2,.int y2]) p=some (.lst (l.map Zfr)):=by rw [Zao nps,Zao n3];exact g1p
   refine Zn9 g3p (by rw [List.length_map];exact Zl5 (by omega)) ?_
   have ee:l.map Zfr++[W.tup [.str nm,.str (Zed b),k.enc]]=(l++[(nm,b,k)]).map Zfr:=by rw [List.map_append];rfl
   rw [ee]
   refine Zjq hd xs _ _ _ (l++[(nm,b,k)]) x2 y2 (by rw [Zao (Ne.symm nps)];exact Zah) Zah ?_ nps nqs nqp (by rw [List.length_append];simp only [List.length_cons,List.length_nil];omega) ?_
   ·rw [Zao nqp,Zao nqs,Zao n4];exact g1q
   ·intro ω G' l2 x' y' hω f1 f2 f3 f4 f5
    refine fin ω G' ((nm,b,k)::l2) x' y' hω f1 (by rw [f2,List.append_assoc];rfl) (fun c c1 c2 u hu=>f3 c c1 c2 u ?_) (f4.cons_cons nm) ?_
    ·have hc:put G s (.lst [.int x1,.int y1]) c=some u:=by rw [Zao c1];exact hu
     rw [Zao c2,Zao c1,Zao (ZaF hc hp2)];exact hc
    ·intro z hz
     rcases List.mem_cons.mp hz with rfl | hz
     ·exact hk
     ·exact f5 z hz
  ·refine Zjq hd xs _ _ _ l x1 y1 g1s g1p g1q nps nqs nqp (by omega) ?_
   intro ω G' l2 x' y' hω f1 f2 f3 f4 f5
   exact fin ω G' l2 x' y' hω f1 f2 (fun c c1 c2 u hu=>f3 c c1 c2 u (by rw [Zao c1];exact hu)) (f4.cons nm) f5
set_option Elab.async false
set_option linter.all false
set_option maxRecDepth 100000
def Zwc:Spw:=fun _ _ _ _=>False
theorem Zn3:Spw.M Zwc:=fun _ _ _ _ _ _ _ _ q=>q
theorem Zk2 {r:Int} (h0:0≤r) (h6:r < 6):∃ k:Kd,(k=.any∨k=.num∨k=.truth)∧atI [W.tup [.str "any"],W.tup [.str "num"],W.tup [.str "truth"]] (r / 2)=some k.enc:=by
 have:r / 2=0∨r / 2=1∨r / 2=2:=by omega
 rcases this with e | e | e
 ·exact ⟨.any,.inl rfl,by rw [e];exact Zb4⟩
 ·exact ⟨.num,.inr (.inl rfl),by rw [e];exact Zc5⟩
 ·exact ⟨.truth,.inr (.inr rfl),by rw [e];exact Zei⟩
theorem Zj3 (T:Tx K mg base a):Df P w K mg base "_law_kind" 2 2 (Zm2 0):=by
 refine mk0 T.ZbN rfl Zce Zoi ((by rintro ws G Q E ⟨s,x,y,e,_⟩;rw [e];rfl)) (Zfh T (ZaC T) (Nat.le_refl _) (ZkT (sp:=Zwc) (k:=0) T.ZbN Zn3 fun _ _ _ _ h=>h) (by omega)) fun ws G Q E hC q=>?_
 obtain ⟨s,x,y,rfl,hs,q⟩:=q
 unfold Zdc
 walk_at "rd"
 refine ⟨.inl ⟨by decide,by decide⟩,s,_,x,y,rfl,by decide,by decide,hs,fun r x1 y1 r0 r1=>?_⟩
 have r6:r < 6:=r1
 simp only [r6,decide_true,if_true]
 obtain ⟨k,hk,ek⟩:=Zk2 r0 r6
 refine ⟨by decide,by decide,by decide,by decide,fun p hp=>⟨⟨by decide,by decide⟩,?_⟩⟩
 simp only [Zah,ek,Zae]
 exact hC _ _ _ (Zbg hp) (q k x1 y1 (ZgN hk))
theorem Zsj {n:Nat}:∀ ws G (Q:Kw) (E:Addr→Hw→Prop),Kw.C Q→Zm2 (n+1) ws G Q E→Zdc ZcA (Zm2 n) (ZaR Q) (ZbY Zfn ws) G:=by
  intro ws G Q E hC q
  obtain ⟨s,x,y,rfl,hs,q⟩:=q
  unfold Zdc
  walk_at "rd"
  have hd:((n+1:Nat):Int) - 1=(n:Int):=by omega
  have d0:(0:Int) < ((n+1:Nat):Int):=by omega
  simp only [d0,decide_true,if_true]
  refine ⟨.inl ⟨by decide,by decide⟩,s,_,x,y,rfl,by decide,by decide,hs,fun r x1 y1 r0 r1=>?_⟩
  have g1s:put G s (.lst [.int x1,.int y1]) s=some (.lst [.int x1,.int y1]):=Zah
  by_cases r6:r < 6
  ·simp only [r6,decide_true,if_true]
   obtain ⟨k,hk,ek⟩:=Zk2 r0 r6
   refine ⟨by decide,by decide,by decide,by decide,fun p hp=>⟨⟨by decide,by decide⟩,?_⟩⟩
   simp only [Zah,ek,Zae]
   exact hC _ _ _ (Zbg hp) (q k x1 y1 (ZgN hk))
  ·simp only [r6,decide_false,Bool.false_eq_true,if_false,Option.map_some,Zae]
   by_cases e6:r=6
   ·subst e6
    refine ⟨trivial,s,x1,y1,by rw [hd],g1s,fun k1 x2 y2 hk1=>?_⟩
    refine ⟨trivial,s,x2,y2,by rw [hd],Zah,fun k2 x3 y3 hk2=>⟨by decide,?_⟩⟩
    rw [Zf3,Zf3]
    exact q (.to k1 k2) x3 y3 (Zrx hk1 hk2)
   ·have b6:(r==6)=false:=by simpa using e6
    simp only [b6,bne_self_eq_false,Bool.false_eq_true,if_false]
    by_cases e7:r=7
    ·subst e7
     refine ⟨trivial,s,x1,y1,by rw [hd],g1s,fun k1 x2 y2 hk1=>⟨by decide,?_⟩⟩
     rw [Zf3]
     exact q (.box k1) x2 y2 (Zpp hk1)
    ·have b7:(r==7)=false:=by simpa using e7
     simp only [b7,bne_self_eq_false,Bool.false_eq_true,if_false]
     refine ⟨by decide,fun p hp=>?_⟩
     have nps:p≠s:=Ne.symm (ZaF g1s hp)
     refine ⟨by decide,fun q0 hq0=>?_⟩
     have g2s:put (put G s (.lst [.int x1,.int y1])) p (.lst []) s=some (.lst [.int x1,.int y1]):=by rw [Zao (Ne.symm nps)];exact g1s
     have nqs:q0≠s:=Ne.symm (ZaF g2s hq0)
     have nqp:q0≠p:=Ne.symm (ZaF Zah hq0)
     simp only [Zah]
     refine Zjq (n:=n) hd abc none none _ [] x1 y1 (by rw [Zao (Ne.symm nqs)];exact g2s) (by rw [Zao (Ne.symm nqp)];exact Zah) Zah nps nqs nqp (by decide) ?_
     intro ω G' l2 x' y' hω f1 f2 f3 f4 f5
     obtain ⟨u,v,rfl⟩:=hω
     rw [List.nil_append] at f2
     have hseq:Zh5 G' (.ref p)=some (l2.map Zfr):=Zgi f2
     walk_at "rd"
     simp only [hseq,Option.map_some,Zae]
     refine ⟨s,3,x',y',rfl,by decide,by decide,f1,fun r2 x2 y2 _ _=>?_⟩
     simp only [Option.map_some,Zae]
     refine ⟨by decide,?_⟩
     rw [← Zk9]
     refine hC _ _ _ (fun b u hu=>?_) (q (.row (ofL l2) ((r2==0) != false)) x2 y2 (Zs4 f4 f5))
     by_cases hb:b=s
     ·subst hb
      rw [Zah] at hu ⊢;exact hu
     ·rw [Zao hb] at hu ⊢
      have hbp:b≠p:=by
       intro z;subst z
       rw [Zao hb] at hp;rw [hp] at hu;cases hu
      have hbq:b≠q0:=by
       intro z;subst z
       rw [Zao hbp,Zao hb] at hq0;rw [hq0] at hu;cases hu
      exact f3 b hb hbp u (by rw [Zao hbq,Zao hbp,Zao hb];exact hu)
theorem ZaV (T:Tx K mg base a):∀ n:Nat,Df P w K mg base "_law_kind" (n+2) 2 (Zm2 n)
 | 0=>Zj3 T
 | n+1=>mk0 T.ZbN rfl Zce Zoi ((by rintro ws G Q E ⟨s,x,y,e,_⟩;rw [e];rfl)) (Zfh T (ZaC T) (by omega) (ZaV T n) (Nat.le_refl _)) Zsj
def Fs.find:Fs→Str→Option (Bool×Kd)
 | .nil,_=>none
 | .cons n m k r,x=>if n=x then some (m,k) else r.find x
inductive En where
 | free | nope | told (m:Bool) (k:Kd)
def En.enc:En→W
 | .free=>.tup [.str "free"]
 | .nope=>.tup [.str "none"]
 | .told m k=>.tup [.str (Zed m),k.enc]
def ent (fs:Fs) (o:Bool) (x:Str):En:=match fs.find x with | some (m,k)=>.told m k | none=>if o then .free else .nope
theorem Zmv:∀ {fs:Fs} {x:Str} {m:Bool} {k:Kd},fs.find x=some (m,k)→k∈fs.kinds∧x∈fs.names
 | .nil,x,m,k,h=>by cases h
 | .cons n m' k' r,x,m,k,h=>by
  unfold Fs.find at h
  split at h
  ·rename_i e
   cases h
   subst e
   exact ⟨List.mem_cons_self,List.mem_cons_self⟩
  ·obtain ⟨h1,h2⟩:=Zmv h
   exact ⟨List.mem_cons_of_mem _ h1,List.mem_cons_of_mem _ h2⟩
theorem find_some:∀ {fs:Fs} {x:Str},x∈fs.names→∃ m k,fs.find x=some (m,k)
 | .nil,x,h=>by cases h
 | .cons n m' k' r,x,h=>by
  unfold Fs.find
  split
  ·exact ⟨m',k',rfl⟩
  ·rename_i e
   rcases List.mem_cons.mp h with z | z
   ·exact absurd z.symm e
   ·exact find_some z
theorem Zg5 (a:Str):ZaP a a=false:=by
 unfold ZaP
 exact decide_eq_false (List.lt_irrefl _)
theorem Zr0 {a b c:Str} (h1:ZaP a b=true) (h2:ZaP b c=true):ZaP a c=true:=by
 unfold ZaP at h1 h2 ⊢
 exact decide_eq_true (List.lt_trans (of_decide_eq_true h1) (of_decide_eq_true h2))
theorem Zl6:∀ {ns:List Str},ZhU ns=true→ns.Pairwise (fun x y=>ZaP x y=true)
 | [],_=>.nil
 | [_],_=>.cons (fun _ h=>by cases h) .nil
 | x::y::r,h=>by
  have h':(ZaP x y&&ZhU (y::r))=true:=h
  simp only [Bool.and_eq_true] at h'
  have ih:=Zl6 h'.2
  refine .cons (fun z hz=>?_) ih
  rcases List.mem_cons.mp hz with rfl | hz
  ·exact h'.1
  ·exact Zr0 h'.1 ((List.pairwise_cons.mp ih).1 z hz)
theorem ZlO:∀ {xs ys:List Str},xs.Pairwise (fun x y=>ZaP x y=true)→ys.Pairwise (fun x y=>ZaP x y=true)→(∀ x,x∈xs↔x∈ys)→xs=ys
 | [],[],_,_,_=>rfl
 | [],y::ys,_,_,h=>by cases (h y).mpr List.mem_cons_self
 | x::xs,[],_,_,h=>by cases (h x).mp List.mem_cons_self
 | x::xs,y::ys,hx,hy,h=>by
  obtain ⟨a1,a2⟩:=List.pairwise_cons.mp hx
  obtain ⟨b1,b2⟩:=List.pairwise_cons.mp hy
  have e:x=y:=by
   rcases List.mem_cons.mp ((h x).mp List.mem_cons_self) with e | e
   ·exact e
   ·rcases List.mem_cons.mp ((h y).mpr List.mem_cons_self) with e' | e'
    ·exact e'.symm
    ·have:=Zr0 (a1 y e') (b1 x e)
     rw [Zg5] at this
     cases this
  subst e
  congr 1
  refine ZlO a2 b2 fun z=>⟨fun hz=>?_,fun hz=>?_⟩
  ·rcases List.mem_cons.mp ((h z).mp (List.mem_cons_of_mem _ hz)) with e | e
   ·subst e;have:=a1 _ hz;rw [Zg5] at this;cases this
   ·exact e
  ·rcases List.mem_cons.mp ((h z).mpr (List.mem_cons_of_mem _ hz)) with e | e
   ·subst e;have:=b1 _ hz;rw [Zg5] at this;cases this
   ·exact e
theorem Zj2 {fs:Fs} {o:Bool} (h:(Kd.row fs o).ok=true):fs.names.Pairwise (fun x y=>ZaP x y=true)∧∀ c∈fs.kinds,c.ok=true:=by
 have h':(ZhU fs.names&&fs.ok)=true:=h
 simp only [Bool.and_eq_true] at h'
 exact ⟨Zl6 h'.1,Zfo h'.2⟩
set_option Elab.async false
set_option linter.all false
set_option maxRecDepth 100000
set_option maxHeartbeats 4000000
section
variable {P:Program} {w:World} {K:PySem.W.Frag} {mg:Str→Option Value} {base:Heap} {a:Adr}
abbrev Zic:List Str:=["row","name","field"]
theorem Zix:ZaD Zic ["row","name"] (Zac ZcI):=⟨rfl,rfl,rfl,by decide +kernel,rfl,by decide +kernel,by decide +kernel⟩
def ZiG:GS:=(Zax (Ze1 (ZbX (Zaj (Zam ixW) (Zad 0) (gC (.int 1)))) (gNm 2) (gIf (gTB (Zaj (Zam (eqF false)) (Zaj (Zam ixW) (Zad 2) (gC (.int 0))) (Zad 1))) (ZaE (Zbc (Zab (Zaj (Zam ixW) (Zad 2) (gC (.int 1))) (Zab (Zaj (Zam ixW) (Zad 2) (gC (.int 2))) Zal)))) Zas)) (ZaE (Zh0 (Zf2 (Zaj (Zam ixW) (Zad 0) (gC (.int 2)))) (Zbc (Zab (gC (.str "free")) Zal)) (Zbc (Zab (gC (.str "none")) Zal)))))
theorem Zm3 {k:Nat} (T:Tx K mg base a) {f:Addr} {cdv:Value} {A:Around} {outer:List Env} {s:Shared} {H:Hp} {E:XK} (hr:Room k (A.deeper (envOfC "entry_of" (Zac ZcI) s.heap.objs.size f cdv))):Ssm (cxW P w K mg base Zic "entry_of" (Zac ZcI) f cdv A outer s H E).nox (fun B=>B=H) (Zaz ZcI) (ZiG) :=
 have hu:=ZeQ hr
 (Zai (ZfP PassesOwn.never rfl (fun _=>rfl) (Zdk (fun _ _=>rfl) (Zay (fun _ _=>rfl) (Zan (i:=0) rfl rfl rfl rfl) Zag)) (Zg0 (i:=2) Zix.nd rfl (.inl rfl) (.inr rfl)) (Zak (ZaY (ZaB (Zbn hu) rfl (Zay (fun _ _=>rfl) (Zan (i:=2) rfl rfl rfl rfl) Zag) (Zan (i:=1) rfl rfl rfl rfl)) (Zak (Zat (ZaO (Zaa rfl (Zay (fun _ _=>rfl) (Zan (i:=2) rfl rfl rfl rfl) Zag) (Zaa rfl (Zay (fun _ _=>rfl) (Zan (i:=2) rfl rfl rfl rfl) Zag) Zaf))))) Zaw))) (Zak (Zat (ZoE (ZfE (fun _=>rfl) (Zay (fun _ _=>rfl) (Zan (i:=0) rfl rfl rfl rfl) Zag)) (ZaO (Zaa rfl Zau Zaf)) (ZaO (Zaa rfl Zau Zaf))))))
abbrev ZiR:List Str:=["row"]
theorem ZmR:ZaD ZiR ["row"] (Zac ZcE):=⟨rfl,rfl,rfl,by decide +kernel,rfl,by decide +kernel,by decide +kernel⟩
def ZiL:GS:=(ZaE (Zc1 (ZbX (Zaj (Zam ixW) (Zad 0) (gC (.int 1)))) 1 (gNm 0) Zf6 (Zaj (Zam ixW) (Zad 0) (gC (.int 0)))))
theorem Zm0 {k:Nat} (T:Tx K mg base a) {f:Addr} {cdv:Value} {A:Around} {outer:List Env} {s:Shared} {H:Hp} {E:XK} (hr:Room k (A.deeper (envOfC "names_of" (Zac ZcE) s.heap.objs.size f cdv))):Ssm (cxW P w K mg base ZiR "names_of" (Zac ZcE) f cdv A outer s H E).nox (fun B=>B=H) (Zaz ZcE) (ZiL) :=
 have hu:=ZeQ hr
 (Zak (Zat (Zfa (Nc:=["field"]) rfl (ZsZ rfl (by decide +kernel) (by decide +kernel)) (fun _=>rfl) (Zdk (fun _ _=>rfl) (Zay (fun _ _=>rfl) (Zan (i:=0) rfl rfl rfl rfl) Zag)) (ZeE (i:=0) (by decide) rfl rfl) (fun C fp s1 H1=>Zeg) (fun C fp s1 H1=>(Zay (fun _ _=>rfl) (Zan (i:=0) rfl rfl rfl rfl) Zag)))))
abbrev Zek:List Str:=["one","other"]
theorem Zhu:ZaD Zek ["one","other"] (Zac Zba):=⟨rfl,rfl,rfl,by decide +kernel,rfl,by decide +kernel,by decide +kernel⟩
def Zel (Zde:Spw):GS:=(ZaE (Zhn (Zap Zde (fun _ _ _=>False) (Zab (Zad 0) Zal)) (Zap Zde (fun _ _ _=>False) (Zab (Zad 1) Zal))))
theorem Zht {k:Nat} (T:Tx K mg base a) {ZeG:Nat} {Zde:Spw} (Ziw:Df P w K mg base "names_of" ZeG 1 Zde) (Zir:ZeG≤k) {f:Addr} {cdv:Value} {A:Around} {outer:List Env} {s:Shared} {H:Hp} {E:XK} (hr:Room k (A.deeper (envOfC "names_of_both" (Zac Zba) s.heap.objs.size f cdv))):Ssm (cxW P w K mg base Zek "names_of_both" (Zac Zba) f cdv A outer s H E).nox (fun B=>B=H) (Zaz Zba) (Zel Zde) :=
 have hu:=ZeQ hr
 (Zak (Zat (Zqi rfl T.ZeM T.Znb rfl rfl rfl rfl rfl (Zaq Ziw (hr.mono Zir) rfl ZaH rfl rfl rfl (Zaa rfl (Zan (i:=0) rfl rfl rfl rfl) Zaf)) (Zaq Ziw (hr.mono Zir) rfl ZaH rfl rfl rfl (Zaa rfl (Zan (i:=1) rfl rfl rfl rfl) Zaf)))))
abbrev Zfz:List Str:=["one","other"]
theorem Zjy:ZaD Zfz ["one","other"] (Zac Zbr):=⟨rfl,rfl,rfl,by decide +kernel,rfl,by decide +kernel,by decide +kernel⟩
def ZfK (Zcm:Spw):GS:=(Zax (Zck (Zap Zcm (fun _ _ _=>False) (Zab (Zad 0) Zal))) (Zck (Zap Zcm (fun _ _ _=>False) (Zab (Zad 1) Zal))))
theorem ZiT {k:Nat} (T:Tx K mg base a) {Zdz:Nat} {Zcm:Spw} (ZgG:Df P w K mg base "check_kind" Zdz 1 Zcm) (Zgs:Zdz≤k) {f:Addr} {cdv:Value} {A:Around} {outer:List Env} {s:Shared} {H:Hp} {E:XK} (hr:Room k (A.deeper (envOfC "check_kinds" (Zac Zbr) s.heap.objs.size f cdv))):Ssm (cxW P w K mg base Zfz "check_kinds" (Zac Zbr) f cdv A outer s H E).nox (fun B=>B=H) (Zaz Zbr) (ZfK Zcm) :=
 have hu:=ZeQ hr
 (Zai (ZeC rfl (Zaq ZgG (hr.mono Zgs) rfl ZaH rfl rfl rfl (Zaa rfl (Zan (i:=0) rfl rfl rfl rfl) Zaf))) (Zak (ZeC rfl (Zaq ZgG (hr.mono Zgs) rfl ZaH rfl rfl rfl (Zaa rfl (Zan (i:=1) rfl rfl rfl rfl) Zaf)))))
end
set_option maxHeartbeats 1000000
local macro_rules | `(tactic| walk_at "rd") => `(tactic| ((try dsimp only [Zee, Zcs, Ze2, Zhn, Zcq, Zh1, Zax, gIf, ZaE, Zbd, Zck, Zas, Zad, gC, Zaj, gTB, Zf2, gNt, ZhT, gOr, Zcl, Zj1, Zh0, L3.Zbc, Zb5, L3.Zab, L3.Zal, Zap, gB, rF, Zam, Zc3, gMt, Zjz, Zcz, ZfY, Zgg, ZbU, L3.ZeX, Zeh, gSl, ZaX, Zav, Zc1, ZbX, ZkK, Ze1, ZaR, ZbY, List.map_cons, List.map_nil, List.length_cons, List.length_nil, List.cons_append, List.nil_append, List.getElem?_cons_zero, List.getElem?_cons_succ, List.set_cons_zero, List.set_cons_succ, List.replicate, Zi7, tyN, Zae, Zb4, Zc5, Zei, ixW, eqF, eqW, ZeP, Zio, ZiK, List.getElem?_nil]); (try simp only [Zee, Zcs, Ze2, Zhn, Zcq, Zh1, Zax, gIf, ZaE, Zbd, Zck, Zas, Zad, gC, Zaj, gTB, Zf2, gNt, ZhT, gOr, Zcl, Zj1, Zh0, L3.Zbc, Zb5, L3.Zab, L3.Zal, Zap, gB, rF, Zam, Zc3, gMt, Zjz, Zcz, ZfY, Zgg, ZbU, L3.ZeX, Zeh, gSl, ZaX, Zav, Zc1, ZbX, ZkK, Ze1, ZaR, ZbY, List.map_cons, List.map_nil, List.length_cons, List.length_nil, List.cons_append, List.nil_append, List.getElem?_cons_zero, List.getElem?_cons_succ, List.set_cons_zero, List.set_cons_succ, List.replicate, Zi7, tyN, Zae, Zb4, Zc5, Zei, ixW, eqF, eqW, ZeP, Zio, ZiK, List.getElem?_nil])))
theorem Zbq (k:Kd) (G:Hw):ixW k.enc (.int 0) G=some (.str k.hd):=by
 obtain ⟨xs,e⟩:=Zsp k
 rw [e];exact Zb4
abbrev ZkV:Spw:=spR (fun (x:Fs×Bool×Str) ws _=>ws=[(Kd.row x.1 x.2.1).enc,.str x.2.2]) fun x=>(ent x.1 x.2.1 x.2.2).enc
theorem Zih {D:Ew} {G:Hw} {x:Str} {row:W}:∀ (fs:Fs) (o':Option W),(∀ m k,fs.find x=some (m,k)→D.rt (.tup [.str (Zed m),k.enc]) G)→(fs.find x=none→∀ o'',D.nx [some row,some (.str x),o''] G) →
  ZdU yes (gNm 2) (gIf (gTB (Zaj (Zam (eqF false)) (Zaj (Zam ixW) (Zad 2) (gC (.int 0))) (Zad 1))) (ZaE (L3.Zbc (L3.Zab (Zaj (Zam ixW) (Zad 2) (gC (.int 1))) (L3.Zab (Zaj (Zam ixW) (Zad 2) (gC (.int 2))) L3.Zal)))) Zas) D fs.enc [some row,some (.str x),o'] G
 | .nil,o',_,h=>⟨trivial,h rfl o'⟩
 | .cons n m k r,o',h1,h2=>by
  refine ⟨trivial,?_⟩
  show gIf _ _ Zas _ [some row,some (.str x),some (.tup [.str n,.str (Zed m),k.enc])] G
  walk_at "rd"
  simp only [Option.map_some,Zae]
  by_cases hx:n=x
  ·subst hx
   simp only [beq_self_eq_true,bne_iff_ne,ne_eq,Bool.true_eq_false,not_false_eq_true,if_true]
   exact ⟨by decide,h1 _ _ (by unfold Fs.find;rw [if_pos rfl])⟩
  ·have e:(n==x)=false:=by simpa using hx
   simp only [e,bne_self_eq_false,Bool.false_eq_true,if_false]
   refine Zih r _ (fun m' k' hv=>h1 m' k' ?_) (fun hn=>h2 ?_)
   ·unfold Fs.find;rw [if_neg hx];exact hv
   ·unfold Fs.find;rw [if_neg hx];exact hn
theorem Zci (T:Tx K mg base a):Df P w K mg base "entry_of" 1 2 ZkV:=by
 refine mk0 T.ZeF rfl Zix Zdf ((by rintro ws G Q E ⟨x,e,_⟩;rw [e];rfl)) (Zm3 T) fun ws G Q E hC q=>?_
 obtain ⟨⟨fs,o,x⟩,rfl,q⟩:=q
 dsimp only at q
 unfold ZiG
 simp only [Kd.enc]
 walk_at "rd"
 refine Zih fs none (fun m k hv=>?_) (fun hn o''=>?_)
 ·unfold ent at q;rw [hv] at q;exact q
 ·unfold ent at q;rw [hn] at q
  simp only [List.getElem?_cons_zero,List.getElem?_cons_succ,Zei,Zae]
  cases o with
  | true=>exact ⟨by decide,q⟩
  | false=>exact ⟨by decide,q⟩
abbrev Zta:Spw:=spL (fun (x:Fs×Bool) ws _=>ws=[(Kd.row x.1 x.2).enc]∧x.1.names.length≤100) fun x=>x.1.names.map W.str
theorem ZeG (T:Tx K mg base a):Df P w K mg base "names_of" 1 1 Zta:=by
 refine mk0 T.ZeK rfl ZmR Zqb ((by rintro ws G Q E ⟨x,⟨e,_⟩,_⟩;rw [e];rfl)) (Zm0 T) fun ws G Q E hC q=>?_
 obtain ⟨⟨fs,o⟩,⟨rfl,hl⟩,q⟩:=q
 have hl':fs.enc.length≤100:=by rw [← ZcT];exact hl
 unfold ZiL
 simp only [Kd.enc]
 walk_at "rd"
 refine Zld (f:=Zmn) trivial fs.enc none [] (fun x hx Q' q'=>?_) (by simp only [List.length_nil];exact Zbw (by omega)) ?_
 ·obtain ⟨n,b,k,rfl⟩:=Zi0 hx
  show Zaj (Zam ixW) (Zad 0) (gC (.int 0)) [some (W.tup [.str n,.str (Zed b),k])] _ Q'
  walk_at "rd"
  exact q'
 ·rw [List.nil_append,Zhz]
  exact q
def Zri:Spw:=fun ws G Q _=>∃ (fs gs:Fs) (o p:Bool),ws=[(Kd.row fs o).enc,(Kd.row gs p).enc]∧fs.names.length < 16∧gs.names.length < 16∧∀ (zs:List Str) (r:Addr),zs.Nodup→sortedS zs=true→(∀ x,x∈zs↔x∈fs.names∨x∈gs.names)→G r=none→Q (.ref r) (put G r (.lst (zs.map W.str)))
theorem Zpy:Spw.M Zri:=(by rintro ws G Q Q' E E' h _ ⟨fs,gs,o,p,h1,h2,h3,q⟩;exact ⟨fs,gs,o,p,h1,h2,h3,fun zs r a b c d=>h _ _ (q zs r a b c d)⟩)
theorem Zcv (T:Tx K mg base a):Df P w K mg base "names_of_both" 2 2 Zri:=by
 refine mk0 T.Zcy rfl Zhu Zpy ((by rintro ws G Q E ⟨_,_,_,_,e,_⟩;rw [e];rfl)) (Zht T (ZeG T) (Nat.le_refl _)) fun ws G Q E hC q=>?_
 obtain ⟨fs,gs,o,p,rfl,h1,h2,q⟩:=q
 unfold Zel
 walk_at "rd"
 refine ⟨(fs,o),⟨rfl,by dsimp only;omega⟩,fun p1 hp1=>?_⟩
 refine ⟨fs.names,ZdE Zah,h1,(gs,p),⟨rfl,by dsimp only;omega⟩,fun p2 hp2=>?_⟩
 refine ⟨gs.names,ZdE Zah,h2,fun zs r z1 z2 z3 z4=>?_⟩
 have hr2:r≠p2:=fun e=>by subst e;rw [Zah] at z4;cases z4
 rw [Zao hr2] at z4
 have hr1:r≠p1:=fun e=>by subst e;rw [Zah] at z4;cases z4
 rw [Zao hr1] at z4
 exact hC _ _ _ ((ZcP (Zbg hp1) hp2).put2) (q zs r z1 z2 z3 z4)
theorem Zbe (T:Tx K mg base a):Df P w K mg base "check_kinds" 9 2 (spR (fun (x:Kd×Kd) ws _=>ws=[x.1.enc,x.2.enc]∧(x.1.ok=true∧ZkM x.1=true)∧(x.2.ok=true∧ZkM x.2=true)) fun _=>.non):=by
 refine mk0 T.Zc4 rfl Zjy Zdf ((by rintro ws G Q E ⟨x,⟨e,_⟩,_⟩;rw [e];rfl)) (ZiT T (Zdz T) (Nat.le_refl _)) fun ws G Q E hC q=>?_
 obtain ⟨⟨k,l⟩,⟨rfl,h1,h2⟩,q⟩:=q
 dsimp only at h1 h2
 have g1:k.cnt≤40∧k.dp≤8:=of_decide_eq_true (by have:=h1.2;unfold ZkM at this;exact this)
 have g2:l.cnt≤40∧l.dp≤8:=of_decide_eq_true (by have:=h2.2;unfold ZkM at this;exact this)
 unfold ZfK
 walk_at "rd"
 exact ⟨k,⟨rfl,h1.1,by omega,h1.2⟩,l,⟨rfl,h2.1,by omega,h2.2⟩,q⟩
def wf (k:Kd):Prop:=k.ok=true∧k.abc=true
theorem Ziy:∀ {fs:Fs},fs.abc=true→(∀ c∈fs.kinds,c.abc=true)∧∀ x∈fs.names,x∈abc
 | .nil,_=>⟨fun c h=>(by cases h),fun c h=>(by cases h)⟩
 | .cons n m k r,h=>by
  have h':(abc.contains n&&k.abc&&r.abc)=true:=h
  simp only [Bool.and_eq_true] at h'
  obtain ⟨i1,i2⟩:=Ziy h'.2
  refine ⟨fun c hc=>?_,fun x hx=>?_⟩
  ·rcases List.mem_cons.mp hc with rfl | hc
   ·exact h'.1.2
   ·exact i1 c hc
  ·rcases List.mem_cons.mp hx with rfl | hx
   ·exact List.contains_iff_mem.mp h'.1.1
   ·exact i2 x hx
theorem Zo4 {k:Kd} (h:k.abc=true):∀ c∈k.kids,c.abc=true:=by
 cases k with
 | to x y =>
  have h':(x.abc&&y.abc)=true:=h
  simp only [Bool.and_eq_true] at h'
  intro c hc
  simp only [Kd.kids,List.mem_cons,List.not_mem_nil,or_false] at hc
  rcases hc with rfl | rfl
  ·exact h'.1
  ·exact h'.2
 | box x =>
  intro c hc
  simp only [Kd.kids,List.mem_cons,List.not_mem_nil,or_false] at hc
  subst hc;exact h
 | row fs o=>exact (Ziy h).1
 | any=>intro c hc;simp [Kd.kids] at hc
 | num=>intro c hc;simp [Kd.kids] at hc
 | truth=>intro c hc;simp [Kd.kids] at hc
theorem ZdZ {k c:Kd} (h:wf k) (hc:c∈k.kids):wf c:=⟨Zk1 h.1 c hc,Zo4 h.2 c hc⟩
theorem ZpZ {fs:Fs} {o:Bool} (h:wf (.row fs o)):fs.names.length < 16:=by
 have hn:fs.names.Nodup:=(Zj2 h.1).1.imp fun z e=>by subst e;rw [Zg5] at z;cases z
 have:=Zc8 hn (Ziy h.2).2
 have e:abc.length=3:=rfl
 omega
theorem ZsQ {m m':Bool} (h:m≠m'):(Zed m==Zed m')=false:=by
 cases m <;> cases m' <;> first | exact absurd rfl h | decide
theorem Zg1 {fs:Fs} {o:Bool} {x:Str} {m:Bool} {k:Kd} (e:ent fs o x=.told m k):k∈fs.kinds:=by
 unfold ent at e
 cases q:fs.find x with
 | none=>rw [q] at e;cases o <;> cases e
 | some p=>rw [q] at e;cases e;exact (Zmv q).1
section
variable {P:Program} {w:World} {K:PySem.W.Frag} {mg:Str→Option Value} {base:Heap} {a:Adr}
abbrev Zfj:List Str:=["state","kind","deep","way","fields","name","mark","inner","pick"]
theorem Zcd:ZaD Zfj ["state","kind","deep"] (Zac ZbD):=⟨rfl,rfl,rfl,by decide +kernel,rfl,by decide +kernel,by decide +kernel⟩
def Zfq (Zar:Spw) (ZaA:Spw) (Za3:Spw):GS:=(Zax (Zbd 3 (Zap Zar (fun _ _ _=>False) (Zab (Zad 0) (Zab (gC (.int 8)) Zal)))) (Zax (gIf (gTB (Zaj (Zam (eqF false)) (Zad 3) (gC (.int 0)))) (ZaE (Zbc (Zab (gC (.str "any")) Zal))) Zas) (Zax (gIf (gTB (Zaj (Zam (eqF false)) (Zad 3) (gC (.int 1)))) (ZaE (Zap ZaA (fun _ _ _=>False) (Zab (Zad 0) (Zab (Zad 2) Zal)))) Zas) (Zax (gIf (gTB (Zaj (Zam (inF false)) (Zaj (Zam ixW) (Zad 1) (gC (.int 0))) (Zb5 (Zab (gC (.str "to")) (Zab (gC (.str "box")) Zal))))) (ZaE (Zaj (ZdF) (Zbc (Zab (Zaj (Zam ixW) (Zad 1) (gC (.int 0))) Zal)) (gB (rF Zgx) (Zab (Zcs (ZbX (Zee (Zad 1) (ZaX (gC (.int 1))) Zav)) 1 [0,2] (gNm 0) Zf6 (Zap Za3 (fun _ _ _=>False) (Zab (Zad 1) (Zab (Zad 0) (Zab (Zaj (ZbU (fun _ _=>True) fun i j=>i - j) (Zad 2) (gC (.int 1))) Zal))))) Zal)))) Zas) (Zax (gIf (gTB (Zaj (Zam (eqF true)) (Zaj (Zam ixW) (Zad 1) (gC (.int 0))) (gC (.str "row")))) (ZaE (Zad 1)) Zas) (Zax (Zbd 4 (Zb5 Zal)) (Zax (Ze1 (Ze2 (Zaj (Zam ixW) (Zad 1) (gC (.int 1)))) (Zib 5 6 7) (Zax (Zbd 8 (Zap Zar (fun _ _ _=>False) (Zab (Zad 0) (Zab (gC (.int 8)) Zal)))) (Zax (gIf (gTB (Zaj (Zam (eqF false)) (Zad 8) (gC (.int 0)))) (Zbd 6 (Zaj (Zam ixW) (Zb5 (Zab (gC (.str "must")) (Zab (gC (.str "may")) Zal))) (Zap Zar (fun _ _ _=>False) (Zab (Zad 0) (Zab (gC (.int 2)) Zal))))) Zas) (gIf (gTB (Zaj (Zam (eqF true)) (Zad 8) (gC (.int 1)))) (Zck (gMt ZdB Zni (Zad 4) (Zab (Zbc (Zab (Zad 5) (Zab (Zad 6) (Zab (Zap Za3 (fun _ _ _=>False) (Zab (Zad 0) (Zab (Zad 7) (Zab (Zaj (ZbU (fun _ _=>True) fun i j=>i - j) (Zad 2) (gC (.int 1))) Zal)))) Zal)))) Zal))) Zas)))) (ZaE (Zbc (Zab (gC (.str "row")) (Zab (gB (rF Zgx) (Zab (Zad 4) Zal)) (Zab (Zaj (Zam (eqF true)) (Zaj (Zam ixW) (Zad 1) (gC (.int 2))) (Zaj (Zam (eqF false)) (Zap Zar (fun _ _ _=>False) (Zab (Zad 0) (Zab (gC (.int 5)) Zal))) (gC (.int 0)))) Zal))))))))))))
theorem Zhw {k:Nat} (T:Tx K mg base a) {ZaC:Nat} {Zar:Spw} (ZaJ:Df P w K mg base "_law_take" ZaC 2 Zar) (ZaI:ZaC≤k) {ZaV:Nat} {ZaA:Spw} (ZbG:Df P w K mg base "_law_kind" ZaV 2 ZaA) (ZbI:ZaV≤k) {ZbH:Nat} {Za3:Spw} (Zd9:Df P w K mg base "_law_near" ZbH 3 Za3) (Zd2:ZbH≤k) {f:Addr} {cdv:Value} {A:Around} {outer:List Env} {s:Shared} {H:Hp} {E:XK} (hr:Room k (A.deeper (envOfC "_law_near" (Zac ZbD) s.heap.objs.size f cdv))):Ssm (cxW P w K mg base Zfj "_law_near" (Zac ZbD) f cdv A outer s H E).nox (fun B=>B=H) (Zaz ZbD) (Zfq Zar ZaA Za3) :=
 have hu:=ZeQ hr
 (Zai (Zej (i:=3) Zcd.nd rfl rfl rfl (Zaq ZaJ (hr.mono ZaI) rfl ZaH rfl rfl rfl (Zaa rfl (Zan (i:=0) rfl rfl rfl rfl) (Zaa rfl Zag Zaf)))) (Zai (ZaY (ZaB (Zbn hu) rfl (Zan (i:=3) rfl rfl rfl rfl) Zag) (Zak (Zat (ZaO (Zaa rfl Zau Zaf)))) Zaw) (Zai (ZaY (ZaB (Zbn hu) rfl (Zan (i:=3) rfl rfl rfl rfl) Zag) (Zak (Zat (Zaq ZbG (hr.mono ZbI) rfl ZaH rfl rfl rfl (Zaa rfl (Zan (i:=0) rfl rfl rfl rfl) (Zaa rfl (Zan (i:=2) rfl rfl rfl rfl) Zaf))))) Zaw) (Zai (ZaY (ZaB ZjI rfl (Zay (fun _ _=>rfl) (Zan (i:=1) rfl rfl rfl rfl) Zag) (Zbm (Zaa rfl Zau (Zaa rfl Zau Zaf)))) (Zak (Zat (Zff (ZaO (Zaa rfl (Zay (fun _ _=>rfl) (Zan (i:=1) rfl rfl rfl rfl) Zag) Zaf)) (Zh8 ZcY (ZdR) rfl T.Zcu (by decide) rfl rfl rfl (Zaa rfl (ZfH rfl (ZvZ (own:=["inner"]) (fr:=["state","deep"]) (js:=[0,2]) (scX:=Zac ZbD) (n:=s.heap.objs.size+1) rfl (by decide +kernel) (by decide +kernel) (by decide +kernel) (by decide +kernel) rfl rfl rfl (by decide +kernel) rfl) (fun _=>rfl) (Zdk (fun _ _=>rfl) (ZdT (Zan (i:=1) rfl rfl rfl rfl) (Zcc Zag) Zb9)) (Zfv (i:=0) (by decide) rfl rfl) (fun C fp s1 H1=>Zeg) (fun C fp s1 H1=>(Zaq Zd9 (hr.mono Zd2) rfl ZaH rfl rfl rfl (Zaa rfl (Zan (i:=1) rfl rfl rfl rfl) (Zaa rfl (Zan (i:=0) rfl rfl rfl rfl) (Zaa rfl (Zgw (Zan (i:=2) rfl rfl rfl rfl) Zag) Zaf)))))) Zaf))))) Zaw) (Zai (ZaY (ZaB (ZcC hu) rfl (Zay (fun _ _=>rfl) (Zan (i:=1) rfl rfl rfl rfl) Zag) Zau) (Zak (Zat (Zan (i:=1) rfl rfl rfl rfl))) Zaw) (Zai (Zej (i:=4) Zcd.nd rfl rfl rfl (Zbm Zaf)) (Zai (ZfP PassesOwn.never rfl (fun _=>rfl) (Zrj (Zay (fun _ _=>rfl) (Zan (i:=1) rfl rfl rfl rfl) Zag)) (ZgT (i:=5) (j:=6) (k:=7) rfl Zcd.nd rfl (.inl rfl) (.inr rfl) rfl (.inl rfl) (.inr rfl) rfl (.inl rfl) (.inr rfl)) (Zai (Zej (i:=8) Zcd.nd rfl rfl rfl (Zaq ZaJ (hr.mono ZaI) rfl ZaH rfl rfl rfl (Zaa rfl (Zan (i:=0) rfl rfl rfl rfl) (Zaa rfl Zag Zaf)))) (Zai (ZaY (ZaB (Zbn hu) rfl (Zan (i:=8) rfl rfl rfl rfl) Zag) (Zak (Zej (i:=6) Zcd.nd rfl rfl rfl (Zay (fun _ _=>rfl) (Zbm (Zaa rfl Zau (Zaa rfl Zau Zaf))) (Zaq ZaJ (hr.mono ZaI) rfl ZaH rfl rfl rfl (Zaa rfl (Zan (i:=0) rfl rfl rfl rfl) (Zaa rfl Zag Zaf)))))) Zaw) (Zak (ZaY (ZaB (ZcC hu) rfl (Zan (i:=8) rfl rfl rfl rfl) Zag) (Zak (ZeC rfl (ZfF Zf7 rfl rfl rfl rfl rfl (Zan (i:=4) rfl rfl rfl rfl) (Zaa rfl (ZaO (Zaa rfl (Zan (i:=5) rfl rfl rfl rfl) (Zaa rfl (Zan (i:=6) rfl rfl rfl rfl) (Zaa rfl (Zaq Zd9 (hr.mono Zd2) rfl ZaH rfl rfl rfl (Zaa rfl (Zan (i:=0) rfl rfl rfl rfl) (Zaa rfl (Zan (i:=7) rfl rfl rfl rfl) (Zaa rfl (Zgw (Zan (i:=2) rfl rfl rfl rfl) Zag) Zaf)))) Zaf)))) Zaf)))) Zaw))))) (Zak (Zat (ZaO (Zaa rfl Zau (Zaa rfl (Zh8 ZcY (ZdR) rfl T.Zcu (by decide) rfl rfl rfl (Zaa rfl (Zan (i:=4) rfl rfl rfl rfl) Zaf)) (Zaa rfl (Zdg (ZcC hu) rfl (Zay (fun _ _=>rfl) (Zan (i:=1) rfl rfl rfl rfl) Zag) (Zdg (Zbn hu) rfl (Zaq ZaJ (hr.mono ZaI) rfl ZaH rfl rfl rfl (Zaa rfl (Zan (i:=0) rfl rfl rfl rfl) (Zaa rfl Zag Zaf))) Zag)) Zaf)))))))))))))
abbrev ZeU:List Str:=["kind","names","fields","name","mark","inner"]
theorem ZdC:ZaD ZeU ["kind","names"] (Zac Za5):=⟨rfl,rfl,rfl,by decide +kernel,rfl,by decide +kernel,by decide +kernel⟩
def ZeS (ZaG:Spw):GS:=(Zax (gIf (gTB (Zaj (Zam (eqF true)) (Zaj (Zam ixW) (Zad 0) (gC (.int 0))) (gC (.str "row")))) (ZaE (Zaj (ZdF) (Zee (Zad 0) Zav (ZaX (gC (.int 1)))) (gB (rF Zgx) (Zab (Zcs (ZbX (Zee (Zad 0) (ZaX (gC (.int 1))) Zav)) 1 [1] (gNm 0) Zf6 (Zap ZaG (fun _ _ _=>False) (Zab (Zad 0) (Zab (Zad 1) Zal)))) Zal)))) Zas) (Zax (Zbd 2 (Zb5 Zal)) (Zax (Ze1 (Ze2 (Zaj (Zam ixW) (Zad 0) (gC (.int 1)))) (Zib 3 4 5) (Zck (gMt ZdB Zni (Zad 2) (Zab (Zbc (Zab (Zaj (Zam ixW) (Zad 1) (gMt ZdB Zfy (Zb5 (Zab (gC (.str "a")) (Zab (gC (.str "b")) (Zab (gC (.str "cc")) Zal)))) (Zab (Zad 3) Zal))) (Zab (Zad 4) (Zab (Zap ZaG (fun _ _ _=>False) (Zab (Zad 5) (Zab (Zad 1) Zal))) Zal)))) Zal)))) (ZaE (Zbc (Zab (gC (.str "row")) (Zab (gB (rF Zgx) (Zab (Zad 2) Zal)) (Zab (Zaj (Zam ixW) (Zad 0) (gC (.int 2))) Zal))))))))
theorem ZhY {k:Nat} (T:Tx K mg base a) {Za0:Nat} {ZaG:Spw} (Zb1:Df P w K mg base "_law_renamed" Za0 2 ZaG) (Zb2:Za0≤k) {f:Addr} {cdv:Value} {A:Around} {outer:List Env} {s:Shared} {H:Hp} {E:XK} (hr:Room k (A.deeper (envOfC "_law_renamed" (Zac Za5) s.heap.objs.size f cdv))):Ssm (cxW P w K mg base ZeU "_law_renamed" (Zac Za5) f cdv A outer s H E).nox (fun B=>B=H) (Zaz Za5) (ZeS ZaG) :=
 have hu:=ZeQ hr
 (Zai (ZaY (ZaB (ZcC hu) rfl (Zay (fun _ _=>rfl) (Zan (i:=0) rfl rfl rfl rfl) Zag) Zau) (Zak (Zat (Zff (ZdT (Zan (i:=0) rfl rfl rfl rfl) Zb9 (Zcc Zag)) (Zh8 ZcY (ZdR) rfl T.Zcu (by decide) rfl rfl rfl (Zaa rfl (ZfH rfl (ZvZ (own:=["inner"]) (fr:=["names"]) (js:=[1]) (scX:=Zac Za5) (n:=s.heap.objs.size+1) rfl (by decide +kernel) (by decide +kernel) (by decide +kernel) (by decide +kernel) rfl rfl rfl (by decide +kernel) rfl) (fun _=>rfl) (Zdk (fun _ _=>rfl) (ZdT (Zan (i:=0) rfl rfl rfl rfl) (Zcc Zag) Zb9)) (Zfv (i:=0) (by decide) rfl rfl) (fun C fp s1 H1=>Zeg) (fun C fp s1 H1=>(Zaq Zb1 (hr.mono Zb2) rfl ZaH rfl rfl rfl (Zaa rfl (Zan (i:=0) rfl rfl rfl rfl) (Zaa rfl (Zan (i:=1) rfl rfl rfl rfl) Zaf))))) Zaf))))) Zaw) (Zai (Zej (i:=2) ZdC.nd rfl rfl rfl (Zbm Zaf)) (Zai (ZfP PassesOwn.never rfl (fun _=>rfl) (Zrj (Zay (fun _ _=>rfl) (Zan (i:=0) rfl rfl rfl rfl) Zag)) (ZgT (i:=3) (j:=4) (k:=5) rfl ZdC.nd rfl (.inl rfl) (.inr rfl) rfl (.inl rfl) (.inr rfl) rfl (.inl rfl) (.inr rfl)) (Zak (ZeC rfl (ZfF Zf7 rfl rfl rfl rfl rfl (Zan (i:=2) rfl rfl rfl rfl) (Zaa rfl (ZaO (Zaa rfl (Zay (fun _ _=>rfl) (Zan (i:=1) rfl rfl rfl rfl) (ZfF Zhm rfl rfl rfl rfl rfl (Zbm (Zaa rfl Zau (Zaa rfl Zau (Zaa rfl Zau Zaf)))) (Zaa rfl (Zan (i:=3) rfl rfl rfl rfl) Zaf))) (Zaa rfl (Zan (i:=4) rfl rfl rfl rfl) (Zaa rfl (Zaq Zb1 (hr.mono Zb2) rfl ZaH rfl rfl rfl (Zaa rfl (Zan (i:=5) rfl rfl rfl rfl) (Zaa rfl (Zan (i:=1) rfl rfl rfl rfl) Zaf))) Zaf)))) Zaf))))) (Zak (Zat (ZaO (Zaa rfl Zau (Zaa rfl (Zh8 ZcY (ZdR) rfl T.Zcu (by decide) rfl rfl rfl (Zaa rfl (Zan (i:=2) rfl rfl rfl rfl) Zaf)) (Zaa rfl (Zay (fun _ _=>rfl) (Zan (i:=0) rfl rfl rfl rfl) Zag) Zaf)))))))))
abbrev ZdN:List Str:=["state","some"]
theorem ZdK:ZaD ZdN ["state"] (Zac ZaS):=⟨rfl,rfl,rfl,by decide +kernel,rfl,by decide +kernel,by decide +kernel⟩
def ZdP (Zar:Spw):GS:=(Zax (Zbd 1 (Zb5 (Zab (Zb5 (Zab (gC (.str "a")) (Zab (gC (.str "b")) (Zab (gC (.str "cc")) Zal)))) (Zab (Zb5 (Zab (gC (.str "any")) (Zab (gC (.str "num")) (Zab (gC (.str "truth")) Zal)))) (Zab (Zb5 (Zab (gC (.str "in")) (Zab (gC (.str "inside")) (Zab (gC (.str "out")) Zal)))) (Zab (Zb5 (Zab (gC (.str "may")) (Zab (gC (.str "row")) (Zab (gC (.str "zzzzzzzz")) Zal)))) Zal)))))) (ZaE (Zaj (Zam ixW) (Zad 1) (Zap Zar (fun _ _ _=>False) (Zab (Zad 0) (Zab (gC (.int 4)) Zal))))))
theorem Zga {k:Nat} (T:Tx K mg base a) {ZaC:Nat} {Zar:Spw} (ZaJ:Df P w K mg base "_law_take" ZaC 2 Zar) (ZaI:ZaC≤k) {f:Addr} {cdv:Value} {A:Around} {outer:List Env} {s:Shared} {H:Hp} {E:XK} (hr:Room k (A.deeper (envOfC "_law_some_names" (Zac ZaS) s.heap.objs.size f cdv))):Ssm (cxW P w K mg base ZdN "_law_some_names" (Zac ZaS) f cdv A outer s H E).nox (fun B=>B=H) (Zaz ZaS) (ZdP Zar) :=
 have hu:=ZeQ hr
 (Zai (Zej (i:=1) ZdK.nd rfl rfl rfl (Zbm (Zaa rfl (Zbm (Zaa rfl Zau (Zaa rfl Zau (Zaa rfl Zau Zaf)))) (Zaa rfl (Zbm (Zaa rfl Zau (Zaa rfl Zau (Zaa rfl Zau Zaf)))) (Zaa rfl (Zbm (Zaa rfl Zau (Zaa rfl Zau (Zaa rfl Zau Zaf)))) (Zaa rfl (Zbm (Zaa rfl Zau (Zaa rfl Zau (Zaa rfl Zau Zaf)))) Zaf)))))) (Zak (Zat (Zay (fun _ _=>rfl) (Zan (i:=1) rfl rfl rfl rfl) (Zaq ZaJ (hr.mono ZaI) rfl ZaH rfl rfl rfl (Zaa rfl (Zan (i:=0) rfl rfl rfl rfl) (Zaa rfl Zag Zaf)))))))
end
def Fs.toL:Fs→List (Str×Bool×Kd)
 | .nil=>[]
 | .cons n m k r=>(n,m,k)::r.toL
theorem Zhq:∀ fs:Fs,fs.enc=fs.toL.map Zfr
 | .nil=>rfl
 | .cons n m k r=>by show _::r.enc=_::r.toL.map Zfr;rw [Zhq r];rfl
theorem Zem:∀ fs:Fs,fs.names=fs.toL.map (·.1)
 | .nil=>rfl
 | .cons n m k r=>by show _::r.names=_::r.toL.map _;rw [Zem r]
theorem ZjL:∀ {fs:Fs} {u:Str×Bool×Kd},u∈fs.toL→u.2.2∈fs.kinds
 | .nil,u,h=>by cases h
 | .cons n m k r,u,h=>by
  rcases List.mem_cons.mp h with rfl | h
  ·exact List.mem_cons_self
  ·exact List.mem_cons_of_mem _ (ZjL h)
theorem ZkE:∀ (n:Nat) {k:Kd},wf k→k.dp≤n+1→k.cnt≤Nn n
 | 0,k,h,hd=>by
  cases k with
  | any=>exact Nat.le_refl _
  | num=>exact Nat.le_refl _
  | truth=>exact Nat.le_refl _
  | to x y=>have h1:=Za8 (k:=.to x y) (c:=x) (by simp [Kd.kids]);have:=Zgt x;omega
  | box x=>have h1:=Za8 (k:=.box x) (c:=x) (by simp [Kd.kids]);have:=Zgt x;omega
  | row fs o =>
   cases fs with
   | nil=>exact Nat.le_refl _
   | cons n m k r=>have h1:=Za8 (k:=.row (.cons n m k r) o) (c:=k) (by simp [Kd.kids,Fs.kinds]);have:=Zgt k;omega
 | n+1,k,h,hd=>by
  have hk:∀ c∈k.kids,c.cnt≤Nn n:=fun c hc=>ZkE n (ZdZ h hc) (by have:=Za8 hc;omega)
  have hl:k.kids.length≤3:=by
   cases k with
   | row fs o =>
    have hn:fs.names.Nodup:=(Zj2 h.1).1.imp fun z e=>by subst e;rw [Zg5] at z;cases z
    have h1:=Zc8 hn (Ziy h.2).2
    have e:abc.length=3:=rfl
    have e2:fs.names.length=fs.kinds.length:=by rw [ZcT,Zof]
    show fs.kinds.length≤3
    omega
   | _=>simp [Kd.kids]
  have hs:∀ (l:List Kd),(∀ c∈l,c.cnt≤Nn n)→Zgj l≤l.length*Nn n:=by
   intro l
   induction l with
   | nil=>intro _;exact Nat.zero_le _
   | cons c l ih =>
    intro hc
    have h1:=hc c List.mem_cons_self
    have h2:=ih fun x hx=>hc x (List.mem_cons_of_mem _ hx)
    show c.cnt+Zgj l≤(l.length+1)*Nn n
    rw [Nat.add_mul];omega
  rw [Zfx]
  have h1:=hs k.kids hk
  have h2:k.kids.length*Nn n≤3*Nn n:=Nat.mul_le_mul_right _ hl
  show 1+Zgj k.kids≤1+3*Nn n
  omega
theorem ZhF {n:Nat} {k:Kd} (h:wf k) (hd:k.dp≤n+1):gen n k:=⟨h.1,hd,ZkE n h hd,h.2⟩
theorem Zgm {n:Nat} {k:Kd} (h:gen n k):wf k∧k.dp≤n+1:=⟨⟨h.1,h.2.2.2⟩,h.2.1⟩
theorem Zt5 {n:Nat} {l:List (Str×Bool×Kd)} {o:Bool} (hp:(l.map (·.1)).Pairwise (fun x y=>ZaP x y=true)) (ha:∀ y∈l,y.1∈abc) (hg:∀ y∈l,gen n y.2.2):gen (n+1) (.row (ofL l) o):=by
 have ho:(Kd.row (ofL l) o).ok=true:=by
  show (ZhU (ofL l).names&&(ofL l).ok)=true
  rw [ZhK,Zlo hp,Zpb l hg fun y hy=>ZrD _ (ha y hy)];rfl
 have hb:(Kd.row (ofL l) o).abc=true:=ZkO l hg ha
 have hd:(Kd.row (ofL l) o).dp≤n+2:=by
  have:=ZnG l hg
  show 1+(ofL l).dp≤n+2
  omega
 exact ZhF ⟨ho,hb⟩ hd
theorem Ztx {G:Hw} {p:Addr} {h:Str} {bs:List Str}:inF false (.str h) (.ref p) (put G p (.lst (bs.map W.str)))=some (.bl (bs.any (·==h))):=by
 unfold inF
 rw [Zgi Zah]
 show (Zh6 (bs.map W.str)).map _=_
 rw [ZdV]
 show some (W.bl (inV (.str h) (bs.map V.str)))=_
 rw [Zfs]
theorem Zww {G:Hw} {p:Addr} {h:Str}:inF false (.str h) (.ref p) (put G p (.lst [.str "to",.str "box"]))=some (.bl ((["to","box"]:List Str).any (·==h))):=Ztx (bs:=["to","box"])
theorem Zwp (k:Kd):(["to","box"]:List Str).any (·==k.hd)=k.fb:=by cases k <;> (simp only [Kd.hd,Kd.fb];decide)
abbrev Zqk (js:List Nat) (ge:GE):GE:=Zaj ZdF (L3.Zbc (L3.Zab (Zaj (Zam ixW) (Zad 1) (gC (.int 0))) L3.Zal)) (gB (rF Zgx) (L3.Zab (Zcs (ZbX (Zee (Zad 1) (ZaX (gC (.int 1))) Zav)) 1 js (gNm 0) Zf6 ge) L3.Zal))
theorem ZsK {js:List Nat} {ge:GE} {ω tl:Sw} {G:Hw} {Q:Kw} {a1 a2:Kd} {s:Addr} {x y:Int} {Rk:Kd→Kd→Prop} (h1:ω[1]?=some (some (Kd.to a1 a2).enc)) (hc:Zh1 1 js ω=none::tl) (hs:G s=some (.lst [.int x,.int y]))
  (step:∀ k,k=a1∨k=a2→∀ (G:Hw) (x y:Int) (Q:Kw),G s=some (.lst [.int x,.int y])→(∀ k' x' y',Rk k k'→Q k'.enc (put G s (.lst [.int x',.int y'])))→ge (some k.enc::tl) G Q)
  (fin:∀ k1 k2 x' y' p,Rk a1 k1→Rk a2 k2→put G s (.lst [.int x',.int y']) p=none→Q (Kd.to k1 k2).enc (put (put G s (.lst [.int x',.int y'])) p (.lst [k1.enc,k2.enc]))):Zqk js ge ω G Q:=by
 have e:(Kd.to a1 a2).enc=.tup [.str "to",a1.enc,a2.enc]:=rfl
 rw [e] at h1
 unfold Zqk
 simp only [Zaj,L3.Zbc,L3.Zab,L3.Zal,Zad,h1,gC,Zam,ixW,Zb4,Zae,gB,Zcs,ZbX,Zee,ZaX,Zav,slA,hc]
 refine ⟨by decide,?_⟩
 show Zb3 yes (gNm 0) Zf6 ge _ [a1.enc,a2.enc] (none::tl) G []
 refine ⟨trivial,by decide,?_⟩
 show ge (some a1.enc::tl) G _
 refine step a1 (.inl rfl) G x y _ hs fun k1 x1 y1 r1=>⟨trivial,(show 1 < sizeLine by decide),?_⟩
 show ge (some a2.enc::tl) _ _
 refine step a2 (.inr rfl) _ x1 y1 _ Zah fun k2 x2 y2 r2=>⟨trivial,fun p hp=>?_⟩
 rw [Zf3] at hp ⊢
 simp only [rF,Zgx,Zgi Zah,Option.map_some,Zae]
 rw [Zcq]
 exact ⟨(show 1+2≤sizeLine by decide),fin k1 k2 x2 y2 p r1 r2 hp⟩
theorem ZqX {js:List Nat} {ge:GE} {ω tl:Sw} {G:Hw} {Q:Kw} {a1:Kd} {s:Addr} {x y:Int} {Rk:Kd→Kd→Prop} (h1:ω[1]?=some (some (Kd.box a1).enc)) (hc:Zh1 1 js ω=none::tl) (hs:G s=some (.lst [.int x,.int y]))
  (step:∀ k,k=a1→∀ (G:Hw) (x y:Int) (Q:Kw),G s=some (.lst [.int x,.int y])→(∀ k' x' y',Rk k k'→Q k'.enc (put G s (.lst [.int x',.int y'])))→ge (some k.enc::tl) G Q)
  (fin:∀ k1 x' y' p,Rk a1 k1→put G s (.lst [.int x',.int y']) p=none→Q (Kd.box k1).enc (put (put G s (.lst [.int x',.int y'])) p (.lst [k1.enc]))):Zqk js ge ω G Q:=by
 have e:(Kd.box a1).enc=.tup [.str "box",a1.enc]:=rfl
 rw [e] at h1
 unfold Zqk
 simp only [Zaj,L3.Zbc,L3.Zab,L3.Zal,Zad,h1,gC,Zam,ixW,Zb4,Zae,gB,Zcs,ZbX,Zee,ZaX,Zav,slA,hc]
 refine ⟨by decide,?_⟩
 show Zb3 yes (gNm 0) Zf6 ge _ [a1.enc] (none::tl) G []
 refine ⟨trivial,by decide,?_⟩
 show ge (some a1.enc::tl) G _
 refine step a1 rfl G x y _ hs fun k1 x1 y1 r1=>⟨trivial,fun p hp=>?_⟩
 simp only [rF,Zgx,Zgi Zah,Option.map_some,Zae]
 rw [Zcq]
 exact ⟨(show 1+1≤sizeLine by decide),fin k1 x1 y1 p r1 hp⟩
theorem ZjS {G G3:Hw} {s:Addr} {o:HW} (h1:G3 s=some o) (h2:∀ b,b≠s→∀ u,G b=some u→G3 b=some u):Sub (put G s o) G3:=fun b u hu=>by
 by_cases hb:b=s
 ·subst hb;rw [Zah] at hu;cases hu;exact h1
 ·rw [Zao hb] at hu;exact h2 b hb u hu
theorem Ztw {k:Kd} {e:GE} {Zcf:GS} {D:Ew} {ω:Sw} {G:Hw} (h1:ω[1]?=some (some k.enc)) (h:∀ p0,G p0=none→if k.fb=true then e ω (put G p0 (.lst [.str "to",.str "box"])) D.rt else Zcf D ω (put G p0 (.lst [.str "to",.str "box"]))) :
  Zax (gIf (gTB (Zaj (Zam (inF false)) (Zaj (Zam ixW) (Zad 1) (gC (.int 0))) (Zb5 (L3.Zab (gC (.str "to")) (L3.Zab (gC (.str "box")) L3.Zal))))) (ZaE e) Zas) Zcf D ω G:=by
 simp only [Zax,gIf,gTB,Zaj,Zam,Zad,h1,gC,Zb5,L3.Zab,L3.Zal,ZaE,Zas]
 rw [Zbq]
 simp only [Zae]
 refine ⟨by decide,fun p0 hp0=>?_⟩
 rw [Zww,Zwp]
 simp only [Zae]
 exact h p0 hp0
theorem Zmo {k:Kd} {e:GE} {Zcf:GS} {D:Ew} {ω:Sw} {G:Hw} (h1:ω[1]?=some (some k.enc)) (h:if k.hd="row" then Zcf D ω G else e ω G D.rt) :
  Zax (gIf (gTB (Zaj (Zam (eqF true)) (Zaj (Zam ixW) (Zad 1) (gC (.int 0))) (gC (.str "row")))) (ZaE e) Zas) Zcf D ω G:=by
 simp only [Zax,gIf,gTB,Zaj,Zam,Zad,h1,gC,ZaE,Zas]
 rw [Zbq]
 simp only [Zae,eqF,eqW,Option.map_some]
 by_cases z:k.hd="row"
 ·rw [if_pos z] at h
  simp only [z,beq_self_eq_true,bne_self_eq_false,Bool.false_eq_true,if_false]
  exact h
 ·rw [if_neg z] at h
  have:(k.hd=="row")=false:=by simpa using z
  simp only [this,show (false != true)=true from rfl,if_true]
  exact h
theorem ZrZ {x:Str} {j m:Nat} {sp sp':Spw} (D:Df P w K mg base x j m sp) (h:∀ ws G Q E,sp' ws G Q E→sp ws G Q E) (mo:Spw.M sp'):Df P w K mg base x j m sp':=by
 obtain ⟨⟨f,fd,_,h1,kp,h3,e,A⟩,_⟩:=D
 refine ⟨⟨f,fd,_,h1,kp,h3,e,⟨?_,?_⟩⟩,mo⟩
 ·rintro vs H Q E ⟨ws,G,t,r,q⟩
  exact A.len vs H Q E ⟨ws,G,t,r,h _ _ _ _ q⟩
 ·rintro A' outer s H args us vs Q E hr he hb hv ⟨ws,G,t,r,q⟩
  exact A.run A' outer s H args us vs Q E hr he hb hv ⟨ws,G,t,r,h _ _ _ _ q⟩
def Zv3 (n:Nat):Spw:=fun ws G Q _=>∃ (s:Addr) (x y:Int),ws=[.ref s,.int ((n:Int) - 1)]∧G s=some (.lst [.int x,.int y])∧∀ k x' y',gen n k→Q k.enc (put G s (.lst [.int x',.int y']))
theorem Zrr {n:Nat}:Spw.M (Zv3 n):=(by rintro ws G Q Q' E E' h _ ⟨s,x,y,h1,h2,q⟩;exact ⟨s,x,y,h1,h2,fun k x' y' g=>h _ _ (q k x' y' g)⟩)
theorem Zvg {n:Nat} {k:Kd} (h:gen n k):gen (n+1) k:=ZhF (Zgm h).1 (by have:=(Zgm h).2;omega)
local macro_rules | `(tactic| walk_at "kd") => `(tactic| simp only [Zax, gIf, ZaE, Zbd, Zck, Zas, Zad, gC, Zaj, gTB, Zf2, gNt, ZhT, gOr, Zcl, Zj1, Zh0, L3.Zbc, Zb5, L3.Zab, L3.Zal, Zap, gB, rF, Zam, Zc3, gMt, Zjz, Zpv, Zcz, ZfY, Zgg, ZbU, L3.ZeX, Zeh, gSl, ZaX, Zav, Zc1, ZbX, ZkK, Zdq, Ze1, Zd7, ZcV, ZaR, ZbY, List.map_cons, List.map_nil, List.length_cons, List.length_nil, List.cons_append, List.nil_append, List.getElem?_cons_zero, List.getElem?_cons_succ, List.set_cons_zero, List.set_cons_succ, List.replicate, Zi7, tyN, Zae, Zb4, Zc5, Zei, ixW, eqF, eqW, ZeP, Zio, ZiK, Zgx, ZmB, List.getElem?_nil])
theorem Zgu (T:Tx K mg base a):∀ n:Nat,Df P w K mg base "_law_kind" (n+2) 2 (Zv3 n)
 | 0=>by
  refine mk0 T.ZbN rfl Zce Zrr ((by rintro ws G Q E ⟨s,x,y,e,_⟩;rw [e];rfl)) (Zfh T (ZaC T) (Nat.le_refl _) (ZkT (sp:=Zwc) (k:=0) T.ZbN Zn3 fun _ _ _ _ h=>h) (by omega)) fun ws G Q E hC q=>?_
  obtain ⟨s,x,y,rfl,hs,q⟩:=q
  unfold Zdc
  walk_at "kd"
  refine ⟨.inl ⟨by decide,by decide⟩,s,_,x,y,rfl,by decide,by decide,hs,fun r x1 y1 r0 r1=>?_⟩
  have r6:r < 6:=r1
  simp only [r6,decide_true,if_true]
  obtain ⟨k,hk,ek⟩:=Zk2 r0 r6
  refine ⟨by decide,by decide,by decide,by decide,fun p hp=>⟨⟨by decide,by decide⟩,?_⟩⟩
  simp only [Zah,ek,Zae]
  exact hC _ _ _ (Zbg hp) (q k x1 y1 (ZgN hk))
 | n+1=>by
  have z:=ZrZ (ZaV T n) (P:=P) (w:=w) (base:=base) (sp':=Zv3 (n+1)) (by
   rintro ws G Q E ⟨s,x,y,e,hs,q⟩
   exact ⟨s,x,y,by rw [e];exact congrArg (fun i=>[W.ref s,W.int i]) (by omega),hs,fun k x' y' g=>q k x' y' (Zvg g)⟩) Zrr
  obtain ⟨f,fd,ps,h1,h2,h3,h4,F⟩:=z.ex
  exact ⟨⟨f,fd,ps,h1,h2,h3,h4,F.mono (by omega)⟩,z.mono⟩
def Zgn (n:Nat):Spw:=fun ws G Q _=>∃ (s:Addr) (x y:Int) (k:Kd),ws=[.ref s,k.enc,.int ((n:Int) - 1)]∧G s=some (.lst [.int x,.int y])∧gen n k∧∀ k' x' y',gen n k'→Q k'.enc (put G s (.lst [.int x',.int y']))
theorem ZlQ {n:Nat}:Spw.M (Zgn n):=(by rintro ws G Q Q' E E' h _ ⟨s,x,y,k,h1,h2,h3,q⟩;exact ⟨s,x,y,k,h1,h2,h3,fun k x' y' g=>h _ _ (q k x' y' g)⟩)
def ZsP (sp:Spw):GS:=gIf (gTB (Zaj (Zam (eqF true)) (Zad 8) (gC (.int 1)))) (Zck (gMt ZdB Zni (Zad 4) (L3.Zab (L3.Zbc (L3.Zab (Zad 5) (L3.Zab (Zad 6) (L3.Zab (Zap sp (fun _ _ _=>False) (L3.Zab (Zad 0) (L3.Zab (Zad 7) (L3.Zab (Zaj (ZbU (fun _ _=>True) fun i j=>i - j) (Zad 2) (gC (.int 1))) L3.Zal)))) L3.Zal)))) L3.Zal))) Zas
def ZlL (sp:Spw):GS:=Zax (Zbd 8 (Zap ZcA (fun _ _ _=>False) (L3.Zab (Zad 0) (L3.Zab (gC (.int 8)) L3.Zal)))) (Zax (gIf (gTB (Zaj (Zam (eqF false)) (Zad 8) (gC (.int 0)))) (Zbd 6 (Zaj (Zam ixW) (Zb5 (L3.Zab (gC (.str "must")) (L3.Zab (gC (.str "may")) L3.Zal))) (Zap ZcA (fun _ _ _=>False) (L3.Zab (Zad 0) (L3.Zab (gC (.int 2)) L3.Zal))))) Zas) (ZsP sp))
theorem Zg9 {n:Nat} {D:Ew} {s p:Addr} {k0 way:W} {d:Int} (hd:d - 1=(n:Int) - 1):∀ (l dn:List (Str×Bool×Kd)) (o5 o6 o7 o8:Option W) (G:Hw) (x y:Int),(∀ u∈l,gen n u.2.2)→dn.length+l.length≤100→p≠s→G s=some (.lst [.int x,.int y])→G p=some (.lst (dn.map Zfr)) →
  (∀ ω G' l2 x' y',(∃ u v t z,ω=[some (.ref s),some k0,some (.int d),some way,some (.ref p),u,v,t,z])→G' s=some (.lst [.int x',.int y'])→G' p=some (.lst ((dn++l2).map Zfr))→(∀ b,b≠s→b≠p→∀ u,G b=some u→G' b=some u)→(l2.map (·.1)).Sublist (l.map (·.1))→(∀ u∈l2,gen n u.2.2)→D.nx ω G') →
  ZdU yes (Zib 5 6 7) (ZlL (Zgn n)) D (l.map Zfr) [some (.ref s),some k0,some (.int d),some way,some (.ref p),o5,o6,o7,o8] G
 | [],dn,o5,o6,o7,o8,G,x,y,_,_,_,hs,hp,fin=>⟨trivial,fin _ G [] x y ⟨o5,o6,o7,o8,rfl⟩ hs (by rw [List.append_nil];exact hp) (fun b _ _ u h=>h) (.refl _) (fun u h=>(by cases h))⟩
 | u::l,dn,o5,o6,o7,o8,G,x,y,hg,hl,nps,hs,hp,fin=>by
  rw [List.length_cons] at hl
  have app:∀ (mk:Bool) (r:Int) (G:Hw) (x y:Int),G s=some (.lst [.int x,.int y])→G p=some (.lst (dn.map Zfr)) →
    (∀ ω G' l2 x' y',(∃ u v t z,ω=[some (.ref s),some k0,some (.int d),some way,some (.ref p),u,v,t,z])→G' s=some (.lst [.int x',.int y'])→G' p=some (.lst ((dn++l2).map Zfr))→(∀ b,b≠s→b≠p→∀ u,G b=some u→G' b=some u)→(l2.map (·.1)).Sublist ((u::l).map (·.1))→(∀ u∈l2,gen n u.2.2)→D.nx ω G') →
    ZsP (Zgn n) { nx:=ZdU yes (Zib 5 6 7) (ZlL (Zgn n)) D (l.map Zfr),rt:=D.rt,bk:=D.nx,ct:=ZdU yes (Zib 5 6 7) (ZlL (Zgn n)) D (l.map Zfr) } [some (.ref s),some k0,some (.int d),some way,some (.ref p),some (.str u.1),some (.str (Zed mk)),some u.2.2.enc,some (.int r)] G:=by
   intro mk r G x y hs hp fin
   unfold ZsP
   simp only [gIf,gTB,Zaj,Zam,Zad,gC,List.getElem?_cons_zero,List.getElem?_cons_succ,eqF,eqW,Option.map_some,Zae,Zck,gMt,L3.Zab,L3.Zal,L3.Zbc,Zap,Zas,ZbU]
   refine ZsV (fun h=>?_) (fun h=>?_)
   ·refine ⟨ZfR hp,trivial,s,x,y,u.2.2,by rw [hd],hs,hg u List.mem_cons_self,fun k' x1 y1 g1=>⟨(show 3≤sizeLine by decide),?_⟩⟩
    refine Zn9 (by rw [Zao nps];exact hp) (by rw [List.length_map];exact Zl5 (by omega)) ?_
    have ee:dn.map Zfr++[W.tup [.str u.1,.str (Zed mk),k'.enc]]=(dn++[(u.1,mk,k')]).map Zfr:=by rw [List.map_append];rfl
    rw [ee]
    refine Zg9 hd l (dn++[(u.1,mk,k')]) _ _ _ _ _ x1 y1 (fun v hv=>hg v (List.mem_cons_of_mem _ hv)) (by rw [List.length_append];simp only [List.length_cons,List.length_nil];omega) nps (by rw [Zao (Ne.symm nps)];exact Zah) Zah fun ω G' l2 x' y' hω f1 f2 f3 L L2=>?_
    refine fin ω G' ((u.1,mk,k')::l2) x' y' hω f1 (by rw [f2,List.append_assoc];rfl) (fun b b1 b2 v hv=>f3 b b1 b2 v (by rw [Zao b2,Zao b1];exact hv)) (L.cons_cons _) fun v hv=>?_
    rcases List.mem_cons.mp hv with rfl | hv
    ·exact g1
    ·exact L2 v hv
   ·refine Zg9 hd l dn _ _ _ _ G x y (fun v hv=>hg v (List.mem_cons_of_mem _ hv)) (by omega) nps hs hp fun ω G' l2 x' y' hω f1 f2 f3 L L2=>?_
    exact fin ω G' l2 x' y' hω f1 f2 f3 (L.cons _) L2
  refine ⟨trivial,?_⟩
  have eu:Zfr u=.tup [.str u.1,.str (Zed u.2.1),u.2.2.enc]:=rfl
  rw [eu]
  simp only [Zib,List.set_cons_zero,List.set_cons_succ]
  show Zax _ _ _ _ _
  simp only [Zax,Zbd,Zap,Zad,gC,L3.Zab,L3.Zal,List.getElem?_cons_zero,List.getElem?_cons_succ,List.set_cons_zero,List.set_cons_succ,gIf,gTB,Zaj,Zam,eqF,eqW,Option.map_some,Zae,Zas,Zb5]
  refine ⟨s,8,x,y,rfl,by decide,by decide,hs,fun r x1 y1 r0 r1=>?_⟩
  have g1s:put G s (.lst [.int x1,.int y1]) s=some (.lst [.int x1,.int y1]):=Zah
  have g1p:put G s (.lst [.int x1,.int y1]) p=some (.lst (dn.map Zfr)):=by rw [Zao nps];exact hp
  refine ZsV (fun h=>?_) (fun h=>?_)
  ·refine ⟨by decide,fun p2 hp2=>?_⟩
   have n2:s≠p2:=ZaF g1s hp2
   have n3:p≠p2:=ZaF g1p hp2
   refine ⟨s,2,x1,y1,rfl,by decide,by decide,by rw [Zao n2];exact g1s,fun r2 x2 y2 r20 r21=>?_⟩
   have mk:∃ b:Bool,atI [W.str "must",W.str "may"] r2=some (.str (Zed b)):=by
    have:r2=0∨r2=1:=by omega
    rcases this with e | e
    ·exact ⟨true,by rw [e];exact Zb4⟩
    ·exact ⟨false,by rw [e];exact Zc5⟩
   obtain ⟨b,eb⟩:=mk
   have gp2:put (put (put G s (.lst [.int x1,.int y1])) p2 (.lst [.str "must",.str "may"])) s (.lst [.int x2,.int y2]) p2=some (.lst [.str "must",.str "may"]):=by rw [Zao (Ne.symm n2)];exact Zah
   simp only [ixW,gp2,eb,Zae]
   refine app b r _ x2 y2 Zah (by rw [Zao nps,Zao n3];exact g1p) fun ω G' l2 x' y' hω f1 f2 f3 L L2=>?_
   refine fin ω G' l2 x' y' hω f1 f2 (fun c c1 c2 v hv=>f3 c c1 c2 v ?_) L L2
   have hc:put G s (.lst [.int x1,.int y1]) c=some v:=by rw [Zao c1];exact hv
   rw [Zao c1,Zao (ZaF hc hp2)];exact hc
  ·refine app u.2.1 r _ x1 y1 g1s g1p fun ω G' l2 x' y' hω f1 f2 f3 L L2=>?_
   exact fin ω G' l2 x' y' hω f1 f2 (fun c c1 c2 v hv=>f3 c c1 c2 v (by rw [Zao c1];exact hv)) L L2
set_option Elab.async false
set_option linter.all false
set_option maxRecDepth 100000
set_option maxHeartbeats 1000000
abbrev Zoc (sp:Spw):GS:=(Zax (Zbd 4 (Zb5 L3.Zal)) (Zax (Ze1 (Ze2 (Zaj (Zam ixW) (Zad 1) (gC (.int 1)))) (Zib 5 6 7) (ZlL sp)) (ZaE (L3.Zbc (L3.Zab (gC (.str "row")) (L3.Zab (gB (rF Zgx) (L3.Zab (Zad 4) L3.Zal)) (L3.Zab (Zaj (Zam (eqF true)) (Zaj (Zam ixW) (Zad 1) (gC (.int 2))) (Zaj (Zam (eqF false)) (Zap ZcA (fun _ _ _=>False) (L3.Zab (Zad 0) (L3.Zab (gC (.int 5)) L3.Zal))) (gC (.int 0)))) L3.Zal)))))))
theorem ZnY {n:Nat} {sp:Spw} {G:Hw} {Q:Kw} {s:Addr} {x y:Int} {fs:Fs} {o:Bool} {way:W} (hC:Kw.C Q) (hs:G s=some (.lst [.int x,.int y])) (hg:gen n (.row fs o)) (hsp:fs.kinds≠[]→∃ n',n=n'+1∧sp=Zgn n') (q:∀ k' x' y',gen n k'→Q k'.enc (put G s (.lst [.int x',.int y']))) :
  Zoc sp (ZaR Q) [some (.ref s),some (Kd.row fs o).enc,some (.int ((n:Int) - 1)),some way,none,none,none,none,none] G:=by
 have wk:=Zgm hg
 have ee:(Kd.row fs o).enc=.tup [.str "row",.tup fs.enc,.bl o]:=rfl
 rw [ee]
 unfold Zoc
 simp only [Zax,Zbd,Zb5,L3.Zal,List.set_cons_zero,List.set_cons_succ,Ze1,Ze2,Zaj,Zad,gC,Zam,ixW,List.getElem?_cons_zero,List.getElem?_cons_succ,Zc5,Zae,ZaE,L3.Zbc,L3.Zab,gB,rF,ZaR]
 refine ⟨by decide,fun p hp=>?_⟩
 have nps:p≠s:=Ne.symm (ZaF hs hp)
 have key:∀ ω G' l2 (x' y':Int),(∃ u v t z,ω=[some (.ref s),some (W.tup [.str "row",.tup fs.enc,.bl o]),some (.int ((n:Int) - 1)),some way,some (.ref p),u,v,t,z])→G' s=some (.lst [.int x',.int y'])→G' p=some (.lst (([]++l2).map Zfr))→(∀ b,b≠s→b≠p→∀ u,put G p (.lst []) b=some u→G' b=some u)→(∀ o',gen n (.row (ofL l2) o'))→ZaE (L3.Zbc (L3.Zab (gC (.str "row")) (L3.Zab (gB (rF Zgx) (L3.Zab (Zad 4) L3.Zal)) (L3.Zab (Zaj (Zam (eqF true)) (Zaj (Zam ixW) (Zad 1) (gC (.int 2))) (Zaj (Zam (eqF false)) (Zap ZcA (fun _ _ _=>False) (L3.Zab (Zad 0) (L3.Zab (gC (.int 5)) L3.Zal))) (gC (.int 0)))) L3.Zal)))) (ZaR Q) ω G':=by
  rintro ω G' l2 x' y' ⟨u,v,t,z,rfl⟩ f1 f2 f3 g
  rw [List.nil_append] at f2
  simp only [ZaE,L3.Zbc,L3.Zab,L3.Zal,gC,gB,rF,Zam,Zaj,Zap,Zad,ixW,Zei,List.getElem?_cons_zero,List.getElem?_cons_succ,Zgx,Zgi f2,Option.map_some,Zae,ZaR]
  refine ⟨s,5,x',y',rfl,by decide,by decide,f1,fun r x2 y2 _ _=>?_⟩
  simp only [eqF,eqW,Option.map_some,Zae]
  refine ⟨(show 3≤sizeLine by decide),?_⟩
  rw [← Zk9]
  exact hC _ _ _ (ZjS Zah fun b hb u hu=>by rw [Zao hb];exact f3 b hb (ZaF hu hp) u (by rw [Zao (ZaF hu hp)];exact hu)) (q (.row (ofL l2) _) x2 y2 (g _))
 cases fs with
 | nil =>
  exact ⟨trivial,key _ _ [] x y ⟨none,none,none,none,rfl⟩ (by rw [Zao (Ne.symm nps)];exact hs) Zah (fun b _ _ u h=>h) fun o'=>ZhF ⟨rfl,rfl⟩ (by have:=wk.2;exact this)⟩
 | cons nm mk k0 r =>
  obtain ⟨n',rfl,rfl⟩:=hsp (by show k0::r.kinds≠[];exact List.cons_ne_nil _ _)
  rw [Zhq]
  have pw:=(Zj2 wk.1.1).1
  refine Zg9 (n:=n') (by omega) (Fs.cons nm mk k0 r).toL [] none none none none _ x y (fun u hu=>?_) ?_ nps (by rw [Zao (Ne.symm nps)];exact hs) Zah fun ω G' l2 x' y' hω f1 f2 f3 L L2=>?_
  ·have hk:u.2.2∈(Kd.row (.cons nm mk k0 r) o).kids:=ZjL hu
   exact ZhF (ZdZ wk.1 hk) (by have:=Za8 hk;omega)
  ·have:=ZpZ wk.1
   rw [Zem,List.length_map] at this
   show 0+_≤100;omega
  ·rw [← Zhq] at hω
   rw [Zem] at pw
   refine key ω G' l2 x' y' hω f1 f2 f3 fun o'=>Zt5 (pw.sublist L) (fun y hy=>?_) L2
   refine (Ziy wk.1.2).2 _ ?_
   rw [Zem]
   exact L.subset (List.mem_map.mpr ⟨y,hy,rfl⟩)
theorem Zmb {i:Nat} {v c:Int} {e:GE} {Zcf:GS} {D:Ew} {ω:Sw} {G:Hw} (h1:ω[i]?=some (some (.int v))) (h:if v=c then e ω G D.rt else Zcf D ω G) :
  Zax (gIf (gTB (Zaj (Zam (eqF false)) (Zad i) (gC (.int c)))) (ZaE e) Zas) Zcf D ω G:=by
 simp only [Zax,gIf,gTB,Zaj,Zam,Zad,h1,gC,ZaE,Zas,Zae,eqF,eqW,Option.map_some]
 by_cases z:v=c
 ·rw [if_pos z] at h
  subst z
  simp only [beq_self_eq_true,show (true != false)=true from rfl,if_true]
  exact h
 ·rw [if_neg z] at h
  have:(v==c)=false:=by simpa using z
  simp only [this,bne_self_eq_false,Bool.false_eq_true,if_false]
  exact h
theorem ZjZ {n:Nat} {sp:Spw} {G:Hw} {Q:Kw} {s:Addr} {x y:Int} {k:Kd} (hC:Kw.C Q) (hs:G s=some (.lst [.int x,.int y])) (hg:gen n k) (hsp:k.kids≠[]→∃ n',n=n'+1∧sp=Zgn n') (q:∀ k' x' y',gen n k'→Q k'.enc (put G s (.lst [.int x',.int y']))) :
  Zfq ZcA (Zv3 n) sp (ZaR Q) (ZbY Zfj [.ref s,k.enc,.int ((n:Int) - 1)]) G:=by
 have wk:=Zgm hg
 unfold Zfq
 show Zax (Zbd 3 _) _ (ZaR Q) [some (.ref s),some k.enc,some (.int ((n:Int) - 1)),none,none,none,none,none,none] G
 simp only [Zax,Zbd,Zap,Zad,gC,L3.Zab,L3.Zal,List.getElem?_cons_zero,List.getElem?_cons_succ,List.set_cons_zero,List.set_cons_succ]
 refine ⟨s,8,x,y,rfl,by decide,by decide,hs,fun r x1 y1 r0 r1=>?_⟩
 have g1s:put G s (.lst [.int x1,.int y1]) s=some (.lst [.int x1,.int y1]):=Zah
 refine Zmb (v:=r) rfl ?_
 by_cases e0:r=0
 ·rw [if_pos e0]
  exact ⟨by decide,q .any x1 y1 (ZgN (.inl rfl))⟩
 rw [if_neg e0]
 refine Zmb (v:=r) rfl ?_
 by_cases e1:r=1
 ·rw [if_pos e1]
  refine ⟨s,x1,y1,rfl,g1s,fun k' x2 y2 g=>?_⟩
  rw [Zf3]
  exact q k' x2 y2 g
 rw [if_neg e1]
 refine Ztw (k:=k) rfl fun p0 hp0=>?_
 have n0:s≠p0:=ZaF g1s hp0
 have g2s:put (put G s (.lst [.int x1,.int y1])) p0 (.lst [.str "to",.str "box"]) s=some (.lst [.int x1,.int y1]):=by rw [Zao n0];exact g1s
 have kp:∀ b,b≠s→∀ u,G b=some u→put (put G s (.lst [.int x1,.int y1])) p0 (.lst [.str "to",.str "box"]) b=some u:=fun b hb u hu=>by
  have:put G s (.lst [.int x1,.int y1]) b=some u:=by rw [Zao hb];exact hu
  rw [Zao (ZaF this hp0)];exact this
 have leaf:k.fb=false→k.hd≠"row"→Zax (gIf (gTB (Zaj (Zam (eqF true)) (Zaj (Zam ixW) (Zad 1) (gC (.int 0))) (gC (.str "row")))) (ZaE (Zad 1)) Zas) (Zoc sp) (ZaR Q) [some (.ref s),some k.enc,some (.int ((n:Int) - 1)),some (.int r),none,none,none,none,none] (put (put G s (.lst [.int x1,.int y1])) p0 (.lst [.str "to",.str "box"])):=fun _ h=>by
  refine Zmo (k:=k) rfl ?_
  rw [if_neg h]
  exact hC _ _ _ (ZjS g2s kp) (q k x1 y1 hg)
 cases k with
 | any=>rw [if_neg (by decide)];exact leaf rfl (by decide)
 | num=>rw [if_neg (by decide)];exact leaf rfl (by decide)
 | truth=>rw [if_neg (by decide)];exact leaf rfl (by decide)
 | to a1 a2 =>
  obtain ⟨n',rfl,rfl⟩:=hsp (by simp [Kd.kids])
  have h1:gen n' a1:=ZhF (ZdZ wk.1 (by simp [Kd.kids])) (by have:=Za8 (k:=.to a1 a2) (c:=a1) (by simp [Kd.kids]);omega)
  have h2:gen n' a2:=ZhF (ZdZ wk.1 (by simp [Kd.kids])) (by have:=Za8 (k:=.to a1 a2) (c:=a2) (by simp [Kd.kids]);omega)
  rw [if_pos (show (Kd.to a1 a2).fb=true from rfl)]
  refine ZsK (js:=[0,2]) (tl:=[some (.ref s),some (.int (((n'+1:Nat):Int) - 1))]) (Rk:=fun _ k'=>gen n' k') rfl rfl g2s ?_ ?_
  ·rintro k hk G1 x2 y2 Q1 hs1 q1
   refine ⟨trivial,s,x2,y2,k,?_,hs1,hk.elim (fun e=>e▸h1) (fun e=>e▸h2),fun k' x' y' g=>q1 k' x' y' g⟩
   exact congrArg (fun i=>[W.ref s,k.enc,W.int i]) (show ((n'+1:Nat):Int) - 1 - 1=(n':Int) - 1 by omega)
  ·rintro k1 k2 x' y' p g1 g2 hp
   refine hC _ _ _ (ZjS ?_ ?_) (q (.to k1 k2) x' y' (Zrx g1 g2))
   ·rw [Zao (ZaF Zah hp)];exact Zah
   ·intro b hb u hu
    have h':put (put (put G s (.lst [.int x1,.int y1])) p0 (.lst [.str "to",.str "box"])) s (.lst [.int x',.int y']) b=some u:=by rw [Zao hb];exact kp b hb u hu
    rw [Zao (ZaF h' hp)];exact h'
 | box a1 =>
  obtain ⟨n',rfl,rfl⟩:=hsp (by simp [Kd.kids])
  have h1:gen n' a1:=ZhF (ZdZ wk.1 (by simp [Kd.kids])) (by have:=Za8 (k:=.box a1) (c:=a1) (by simp [Kd.kids]);omega)
  rw [if_pos (show (Kd.box a1).fb=true from rfl)]
  refine ZqX (js:=[0,2]) (tl:=[some (.ref s),some (.int (((n'+1:Nat):Int) - 1))]) (Rk:=fun _ k'=>gen n' k') rfl rfl g2s ?_ ?_
  ·rintro k rfl G1 x2 y2 Q1 hs1 q1
   refine ⟨trivial,s,x2,y2,k,?_,hs1,h1,fun k' x' y' g=>q1 k' x' y' g⟩
   exact congrArg (fun i=>[W.ref s,k.enc,W.int i]) (show ((n'+1:Nat):Int) - 1 - 1=(n':Int) - 1 by omega)
  ·rintro k1 x' y' p g1 hp
   refine hC _ _ _ (ZjS ?_ ?_) (q (.box k1) x' y' (Zpp g1))
   ·rw [Zao (ZaF Zah hp)];exact Zah
   ·intro b hb u hu
    have h':put (put (put G s (.lst [.int x1,.int y1])) p0 (.lst [.str "to",.str "box"])) s (.lst [.int x',.int y']) b=some u:=by rw [Zao hb];exact kp b hb u hu
    rw [Zao (ZaF h' hp)];exact h'
 | row fs o =>
  rw [if_neg (show ¬ (Kd.row fs o).fb=true from fun z=>by cases z)]
  refine Zmo (k:=.row fs o) rfl ?_
  rw [if_pos (show (Kd.row fs o).hd="row" from rfl)]
  exact ZnY hC g2s hg hsp fun k' x' y' g=>hC _ _ _ (ZjS Zah fun b hb u hu=>by rw [Zao hb];exact kp b hb u hu) (q k' x' y' g)
theorem ZbH (T:Tx K mg base a):∀ n:Nat,Df P w K mg base "_law_near" (n+3) 3 (Zgn n)
 | 0=>by
  refine mk0 T.ZcK rfl Zcd ZlQ (by rintro ws G Q E ⟨s,x,y,k,e,_⟩;rw [e];rfl) (Zhw T (ZaC T) (by omega) (Zgu T 0) (Nat.le_refl _) (ZkT (sp:=Zwc) (k:=0) T.ZcK Zn3 fun _ _ _ _ h=>h) (by omega)) ?_
  rintro ws G Q E hC ⟨s,x,y,k,rfl,hs,hg,q⟩
  refine ZjZ hC hs hg (fun h=>?_) q
  obtain ⟨c,hc⟩:=List.exists_mem_of_ne_nil _ h
  have h1:=Za8 hc
  have h2:=Zgt c
  have h3:=(Zgm hg).2
  omega
 | n+1=>by
  refine mk0 T.ZcK rfl Zcd ZlQ (by rintro ws G Q E ⟨s,x,y,k,e,_⟩;rw [e];rfl) (Zhw T (ZaC T) (by omega) (Zgu T (n+1)) (Nat.le_refl _) (ZbH T n) (Nat.le_refl _)) ?_
  rintro ws G Q E hC ⟨s,x,y,k,rfl,hs,hg,q⟩
  exact ZjZ hC hs hg (fun _=>⟨n,rfl,rfl⟩) q
set_option maxHeartbeats 4000000
section
variable {P:Program} {w:World} {K:PySem.W.Frag} {mg:Str→Option Value} {base:Heap} {a:Adr}
abbrev ZeV:List Str:=["kind","names","told","rest"]
theorem ZdA:ZaD ZeV ["kind","names"] (Zac Za1):=⟨rfl,rfl,rfl,by decide +kernel,rfl,by decide +kernel,by decide +kernel⟩
def Ze7:GS:=(Zax (Zbd 2 (gB (Zp9) (Zab (Zc1 (ZbX (Zaj (Zam ixW) (Zad 0) (gC (.int 1)))) 1 (gNm 0) Zf6 (Zbc (Zab (Zaj (Zam ixW) (Zad 0) (gC (.int 0))) (Zab (Zee (Zad 0) (ZaX (gC (.int 1))) Zav) Zal)))) Zal))) (Zax (Zbd 3 (Zaj (Zam ixW) (Zb5 (Zab (Zbc (Zab (gC (.str "none")) Zal)) (Zab (Zbc (Zab (gC (.str "free")) Zal)) Zal))) (gB (rF ZmB) (Zab (Zaj (Zam ixW) (Zad 0) (gC (.int 2))) Zal)))) (ZaE (Zcs (ZbX (Zad 1)) 1 [2,3] (gNm 0) Zf6 (gMt Zpt ZuE (Zad 1) (Zab (Zad 0) (Zab (Zad 2) Zal)))))))
theorem ZhW {k:Nat} (T:Tx K mg base a) {f:Addr} {cdv:Value} {A:Around} {outer:List Env} {s:Shared} {H:Hp} {E:XK} (hr:Room k (A.deeper (envOfC "_law_entries" (Zac Za1) s.heap.objs.size f cdv))):Ssm (cxW P w K mg base ZeV "_law_entries" (Zac Za1) f cdv A outer s H E).nox (fun B=>B=H) (Zaz Za1) (Ze7) :=
 have hu:=ZeQ hr
 (Zai (Zsq (i:=2) ZdA.nd rfl rfl rfl rfl (Zh8 ZsM (ZqM rfl) rfl T.Zil (by decide) rfl rfl rfl (Zaa rfl (Zfa (Nc:=["field"]) rfl (ZsZ rfl (by decide +kernel) (by decide +kernel)) (fun _=>rfl) (Zdk (fun _ _=>rfl) (Zay (fun _ _=>rfl) (Zan (i:=0) rfl rfl rfl rfl) Zag)) (ZeE (i:=0) (by decide) rfl rfl) (fun C fp s1 H1=>Zeg) (fun C fp s1 H1=>(ZaO (Zaa rfl (Zay (fun _ _=>rfl) (Zan (i:=0) rfl rfl rfl rfl) Zag) (Zaa rfl (ZdT (Zan (i:=0) rfl rfl rfl rfl) (Zcc Zag) Zb9) Zaf))))) Zaf))) (Zai (Zsq (i:=3) ZdA.nd rfl rfl rfl rfl (Zay (fun _ _=>rfl) (Zbm (Zaa rfl (ZaO (Zaa rfl Zau Zaf)) (Zaa rfl (ZaO (Zaa rfl Zau Zaf)) Zaf))) (Zh8 ZrQ (ZoZ) rfl T.ZkY (by decide) rfl rfl rfl (Zaa rfl (Zay (fun _ _=>rfl) (Zan (i:=0) rfl rfl rfl rfl) Zag) Zaf)))) (Zak (Zat (ZfH rfl (ZvZ (own:=["name"]) (fr:=["told","rest"]) (js:=[2,3]) (scX:=Zac Za1) (n:=s.heap.objs.size+1) rfl (by decide +kernel) (by decide +kernel) (by decide +kernel) (by decide +kernel) rfl rfl rfl (by decide +kernel) rfl) (fun _=>rfl) (Zdk (fun _ _=>rfl) (Zan (i:=1) rfl rfl rfl rfl)) (Zfv (i:=0) (by decide) rfl rfl) (fun C fp s1 H1=>Zeg) (fun C fp s1 H1=>(ZfF ZoT rfl rfl rfl rfl rfl (Zan (i:=1) rfl rfl rfl rfl) (Zaa rfl (Zan (i:=0) rfl rfl rfl rfl) (Zaa rfl (Zan (i:=2) rfl rfl rfl rfl) Zaf)))))))))
abbrev Zgl:List Str:=["one","other","path","step","a","b","steps"]
theorem ZbO:ZaD Zgl ["one","other","path"] (Zac ZbP):=⟨rfl,rfl,rfl,by decide +kernel,rfl,by decide +kernel,by decide +kernel⟩
def ZgA (ZbK:Spw) (ZaZ:Spw):GS:=(Zax (gIf (gTB (Zaj (Zam (eqF false)) (Zad 2) (Zbc Zal))) (ZaE (Zcl (Zaj (Zam ZvL) (Zbc (Zab (gC (.str "any")) Zal)) (Zb5 (Zab (Zad 0) (Zab (Zad 1) Zal)))) (Zaj (Zam (eqF true)) (Zaj (Zam ixW) (Zad 0) (gC (.int 0))) (Zaj (Zam ixW) (Zad 1) (gC (.int 0)))))) Zas) (Zax (gIf (gOr (gTB (Zaj (Zam (eqF false)) (Zad 0) (Zbc (Zab (gC (.str "any")) Zal)))) (gTB (Zaj (Zam (eqF true)) (Zaj (Zam ixW) (Zad 0) (gC (.int 0))) (Zaj (Zam ixW) (Zad 1) (gC (.int 0)))))) (ZaE (gC (.bl false))) Zas) (Zax (Zbd 3 (Zaj (Zam ixW) (Zad 2) (gC (.int 0)))) (Zax (gIf (gTB (Zaj (Zam (eqF false)) (Zaj (Zam ixW) (Zad 0) (gC (.int 0))) (gC (.str "row")))) (Zax (Zbd 4 (Zaj (Zam ixW) (Zap ZbK (fun _ _ _=>False) (Zab (Zad 0) (Zab (Zb5 (Zab (Zad 3) Zal)) Zal))) (gC (.int 0)))) (Zbd 5 (Zaj (Zam ixW) (Zap ZbK (fun _ _ _=>False) (Zab (Zad 1) (Zab (Zb5 (Zab (Zad 3) Zal)) Zal))) (gC (.int 0))))) (Zax (Zbd 6 (gMt Zpt ZuE (ZjU (gC (.str "to")) (Zb5 (Zab (gC (.str "in")) (Zab (gC (.str "out")) Zal))) (gC (.str "box")) (Zb5 (Zab (gC (.str "inside")) Zal))) (Zab (Zaj (Zam ixW) (Zad 0) (gC (.int 0))) (Zab (Zb5 Zal) Zal)))) (Zax (gIf (gTB (Zaj (Zam (inF true)) (Zad 3) (Zad 6))) (ZaE (gC (.bl false))) Zas) (Zax (Zbd 4 (Zbc (Zab (gC (.str "must")) (Zab (Zaj (Zam ixW) (Zad 0) (Zaj (ZdF) (gC (.int 1)) (gMt ZdB Zfy (Zad 6) (Zab (Zad 3) Zal)))) Zal)))) (Zbd 5 (Zbc (Zab (gC (.str "must")) (Zab (Zaj (Zam ixW) (Zad 1) (Zaj (ZdF) (gC (.int 1)) (gMt ZdB Zfy (Zad 6) (Zab (Zad 3) Zal)))) Zal)))))))) (Zax (gIf (gTB (Zaj (Zam inT) (Zbc (Zab (gC (.str "free")) Zal)) (Zb5 (Zab (Zad 4) (Zab (Zad 5) Zal))))) (ZaE (gC (.bl false))) Zas) (Zax (gIf (gTB (Zaj (Zam (eqF true)) (Zaj (Zam ixW) (Zad 4) (gC (.int 0))) (Zaj (Zam ixW) (Zad 5) (gC (.int 0))))) (ZaE (Zaj (Zam (eqF false)) (gB (rF ZeP) (Zab (Zad 2) Zal)) (gC (.int 1)))) Zas) (ZaE (Zcl (Zaj (Zam (eqF false)) (gB (rF ZeP) (Zab (Zad 4) Zal)) (gC (.int 2))) (Zap ZaZ (fun _ _ _=>False) (Zab (Zaj (Zam ixW) (Zad 4) (gC (.int 1))) (Zab (Zaj (Zam ixW) (Zad 5) (gC (.int 1))) (Zab (Zee (Zad 2) (ZaX (gC (.int 1))) Zav) Zal))))))))))))
theorem Zkd {k:Nat} (T:Tx K mg base a) {ZcS:Nat} {ZbK:Spw} (ZeR:Df P w K mg base "_law_entries" ZcS 2 ZbK) (Ze8:ZcS≤k) {Zbo:Nat} {ZaZ:Spw} (Zet:Df P w K mg base "_law_there" Zbo 3 ZaZ) (ZeA:Zbo≤k) {f:Addr} {cdv:Value} {A:Around} {outer:List Env} {s:Shared} {H:Hp} {E:XK} (hr:Room k (A.deeper (envOfC "_law_there" (Zac ZbP) s.heap.objs.size f cdv))):Ssm (cxW P w K mg base Zgl "_law_there" (Zac ZbP) f cdv A outer s H E).nox (fun B=>B=H) (Zaz ZbP) (ZgA ZbK ZaZ) :=
 have hu:=ZeQ hr
 (Zai (ZaY (ZaB (Zbn hu) rfl (Zan (i:=2) rfl rfl rfl rfl) (ZaO Zaf)) (Zak (Zat (Zha (Zdg (Zp7 hu) rfl (ZaO (Zaa rfl Zau Zaf)) (Zbm (Zaa rfl (Zan (i:=0) rfl rfl rfl rfl) (Zaa rfl (Zan (i:=1) rfl rfl rfl rfl) Zaf)))) (Zgq (Zdg (ZcC hu) rfl (Zay (fun _ _=>rfl) (Zan (i:=0) rfl rfl rfl rfl) Zag) (Zay (fun _ _=>rfl) (Zan (i:=1) rfl rfl rfl rfl) Zag)))))) Zaw) (Zai (ZaY (Zd5 (Zkw (ZaB (Zbn hu) rfl (Zan (i:=0) rfl rfl rfl rfl) (ZaO (Zaa rfl Zau Zaf))) (Zhh (ZaB (ZcC hu) rfl (Zay (fun _ _=>rfl) (Zan (i:=0) rfl rfl rfl rfl) Zag) (Zay (fun _ _=>rfl) (Zan (i:=1) rfl rfl rfl rfl) Zag))))) (Zak (Zat Zeo)) Zaw) (Zai (Zej (i:=3) ZbO.nd rfl rfl rfl (Zay (fun _ _=>rfl) (Zan (i:=2) rfl rfl rfl rfl) Zag)) (Zai (ZaY (ZaB (Zbn hu) rfl (Zay (fun _ _=>rfl) (Zan (i:=0) rfl rfl rfl rfl) Zag) Zau) (Zai (Zej (i:=4) ZbO.nd rfl rfl rfl (Zay (fun _ _=>rfl) (Zaq ZeR (hr.mono Ze8) rfl ZaH rfl rfl rfl (Zaa rfl (Zan (i:=0) rfl rfl rfl rfl) (Zaa rfl (Zbm (Zaa rfl (Zan (i:=3) rfl rfl rfl rfl) Zaf)) Zaf))) Zag)) (Zak (Zej (i:=5) ZbO.nd rfl rfl rfl (Zay (fun _ _=>rfl) (Zaq ZeR (hr.mono Ze8) rfl ZaH rfl rfl rfl (Zaa rfl (Zan (i:=1) rfl rfl rfl rfl) (Zaa rfl (Zbm (Zaa rfl (Zan (i:=3) rfl rfl rfl rfl) Zaf)) Zaf))) Zag)))) (Zai (Zej (i:=6) ZbO.nd rfl rfl rfl (ZfF ZoT rfl rfl rfl rfl rfl (ZpT Zau (Zbm (Zaa rfl Zau (Zaa rfl Zau Zaf))) Zau (Zbm (Zaa rfl Zau Zaf))) (Zaa rfl (Zay (fun _ _=>rfl) (Zan (i:=0) rfl rfl rfl rfl) Zag) (Zaa rfl (Zbm Zaf) Zaf)))) (Zai (ZaY (ZaB Zon rfl (Zan (i:=3) rfl rfl rfl rfl) (Zan (i:=6) rfl rfl rfl rfl)) (Zak (Zat Zeo)) Zaw) (Zai (Zej (i:=4) ZbO.nd rfl rfl rfl (ZaO (Zaa rfl Zau (Zaa rfl (Zay (fun _ _=>rfl) (Zan (i:=0) rfl rfl rfl rfl) (Zff Zag (ZfF Zhm rfl rfl rfl rfl rfl (Zan (i:=6) rfl rfl rfl rfl) (Zaa rfl (Zan (i:=3) rfl rfl rfl rfl) Zaf)))) Zaf)))) (Zak (Zej (i:=5) ZbO.nd rfl rfl rfl (ZaO (Zaa rfl Zau (Zaa rfl (Zay (fun _ _=>rfl) (Zan (i:=1) rfl rfl rfl rfl) (Zff Zag (ZfF Zhm rfl rfl rfl rfl rfl (Zan (i:=6) rfl rfl rfl rfl) (Zaa rfl (Zan (i:=3) rfl rfl rfl rfl) Zaf)))) Zaf))))))))) (Zai (ZaY (ZaB (Zsn hu) rfl (ZaO (Zaa rfl Zau Zaf)) (Zbm (Zaa rfl (Zan (i:=4) rfl rfl rfl rfl) (Zaa rfl (Zan (i:=5) rfl rfl rfl rfl) Zaf)))) (Zak (Zat Zeo)) Zaw) (Zai (ZaY (ZaB (ZcC hu) rfl (Zay (fun _ _=>rfl) (Zan (i:=4) rfl rfl rfl rfl) Zag) (Zay (fun _ _=>rfl) (Zan (i:=5) rfl rfl rfl rfl) Zag)) (Zak (Zat (Zdg (Zbn hu) rfl (Zgh ZfS (Zd4) rfl T.ZfM (by decide) rfl rfl rfl (Zaa rfl (Zan (i:=2) rfl rfl rfl rfl) Zaf)) Zag))) Zaw) (Zak (Zat (Zha (Zdg (Zbn hu) rfl (Zgh ZfS (Zd4) rfl T.ZfM (by decide) rfl rfl rfl (Zaa rfl (Zan (i:=4) rfl rfl rfl rfl) Zaf)) Zag) (Zgq (Zaq Zet (hr.mono ZeA) rfl ZaH rfl rfl rfl (Zaa rfl (Zay (fun _ _=>rfl) (Zan (i:=4) rfl rfl rfl rfl) Zag) (Zaa rfl (Zay (fun _ _=>rfl) (Zan (i:=5) rfl rfl rfl rfl) Zag) (Zaa rfl (ZdT (Zan (i:=2) rfl rfl rfl rfl) (Zcc Zag) Zb9) Zaf))))))))))))))
abbrev Zho:List Str:=["state","found","some","way"]
theorem Zfi:ZaD Zho ["state","found"] (Zac ZbL):=⟨rfl,rfl,rfl,by decide +kernel,rfl,by decide +kernel,by decide +kernel⟩
def Zhv (Zar:Spw):GS:=(Zax (Zbd 2 (Zb5 (Zab (gC (.str "in")) (Zab (gC (.str "out")) (Zab (gC (.str "inside")) (Zab (gC (.str "a")) (Zab (gC (.str "b")) (Zab (gC (.str "cc")) (Zab (gC (.str "rest")) (Zab (gC (.str "")) Zal)))))))))) (Zax (Zbd 3 (Zap Zar (fun _ _ _=>False) (Zab (Zad 0) (Zab (gC (.int 6)) Zal)))) (Zax (gIf (gOr (gTB (Zaj (Zam (isF false)) (Zad 1) (gC .non))) (gTB (Zaj (ZfY (fun i j=>decide (i < j)) ZaP) (Zad 3) (gC (.int 2))))) (ZaE (gB (rF Zgx) (Zab (Zcs (Zdq (Zab (Zap Zar (fun _ _ _=>False) (Zab (Zad 0) (Zab (gC (.int 5)) Zal))) Zal)) 1 [0,2] (gNm 0) Zf6 (Zaj (Zam ixW) (Zad 2) (Zap Zar (fun _ _ _=>False) (Zab (Zad 1) (Zab (gC (.int 8)) Zal))))) Zal))) Zas) (Zax (gIf (gTB (Zaj (Zam (eqF false)) (Zad 3) (gC (.int 2)))) (ZaE (Zee (Zad 1) Zav (ZaX (ZpL (gC (.int 1)))))) Zas) (Zax (gIf (gTB (Zaj (Zam (eqF false)) (Zad 3) (gC (.int 3)))) (ZaE (Zaj (ZdF) (Zad 1) (Zbc (Zab (Zaj (Zam ixW) (Zad 2) (Zap Zar (fun _ _ _=>False) (Zab (Zad 0) (Zab (gC (.int 8)) Zal)))) Zal)))) Zas) (Zax (gIf (ZhT (gTB (Zaj (Zam (eqF false)) (Zad 3) (gC (.int 4)))) (gTB (Zaj (Zam (eqF true)) (Zad 1) (Zbc Zal)))) (ZaE (Zaj (ZdF) (Zee (Zad 1) Zav (ZaX (ZpL (gC (.int 1))))) (Zbc (Zab (Zaj (Zam ixW) (Zad 2) (Zap Zar (fun _ _ _=>False) (Zab (Zad 0) (Zab (gC (.int 8)) Zal)))) Zal)))) Zas) (ZaE (Zad 1))))))))
theorem Zla {k:Nat} (T:Tx K mg base a) {ZaC:Nat} {Zar:Spw} (ZaJ:Df P w K mg base "_law_take" ZaC 2 Zar) (ZaI:ZaC≤k) {f:Addr} {cdv:Value} {A:Around} {outer:List Env} {s:Shared} {H:Hp} {E:XK} (hr:Room k (A.deeper (envOfC "_law_path" (Zac ZbL) s.heap.objs.size f cdv))):Ssm (cxW P w K mg base Zho "_law_path" (Zac ZbL) f cdv A outer s H E).nox (fun B=>B=H) (Zaz ZbL) (Zhv Zar) :=
 have hu:=ZeQ hr
 (Zai (Zsq (i:=2) Zfi.nd rfl rfl rfl rfl (Zbm (Zaa rfl Zau (Zaa rfl Zau (Zaa rfl Zau (Zaa rfl Zau (Zaa rfl Zau (Zaa rfl Zau (Zaa rfl Zau (Zaa rfl Zau Zaf)))))))))) (Zai (Zej (i:=3) Zfi.nd rfl rfl rfl (Zaq ZaJ (hr.mono ZaI) rfl ZaH rfl rfl rfl (Zaa rfl (Zan (i:=0) rfl rfl rfl rfl) (Zaa rfl Zag Zaf)))) (Zai (ZaY (Zd5 (Zkw (ZaB ZrF rfl (Zan (i:=1) rfl rfl rfl rfl) ZeY) (Zhh (ZaB ZlX rfl (Zan (i:=3) rfl rfl rfl rfl) Zag)))) (Zak (Zat (Zh8 ZcY (ZdR) rfl T.Zcu (by decide) rfl rfl rfl (Zaa rfl (ZfH rfl (ZvZ (own:=["k"]) (fr:=["state","some"]) (js:=[0,2]) (scX:=Zac ZbL) (n:=s.heap.objs.size+1) rfl (by decide +kernel) (by decide +kernel) (by decide +kernel) (by decide +kernel) rfl rfl rfl (by decide +kernel) rfl) (fun _=>rfl) (ZlN T.Zfp rfl rfl (Zaa rfl (Zaq ZaJ (hr.mono ZaI) rfl ZaH rfl rfl rfl (Zaa rfl (Zan (i:=0) rfl rfl rfl rfl) (Zaa rfl Zag Zaf))) Zaf)) (Zfv (i:=0) (by decide) rfl rfl) (fun C fp s1 H1=>Zeg) (fun C fp s1 H1=>(Zay (fun _ _=>rfl) (Zan (i:=2) rfl rfl rfl rfl) (Zaq ZaJ (hr.mono ZaI) rfl ZaH rfl rfl rfl (Zaa rfl (Zan (i:=1) rfl rfl rfl rfl) (Zaa rfl Zag Zaf)))))) Zaf)))) Zaw) (Zai (ZaY (ZaB (Zbn hu) rfl (Zan (i:=3) rfl rfl rfl rfl) Zag) (Zak (Zat (ZdT (Zan (i:=1) rfl rfl rfl rfl) Zb9 (Zcc (Zrh Zag))))) Zaw) (Zai (ZaY (ZaB (Zbn hu) rfl (Zan (i:=3) rfl rfl rfl rfl) Zag) (Zak (Zat (Zff (Zan (i:=1) rfl rfl rfl rfl) (ZaO (Zaa rfl (Zay (fun _ _=>rfl) (Zan (i:=2) rfl rfl rfl rfl) (Zaq ZaJ (hr.mono ZaI) rfl ZaH rfl rfl rfl (Zaa rfl (Zan (i:=0) rfl rfl rfl rfl) (Zaa rfl Zag Zaf)))) Zaf))))) Zaw) (Zai (ZaY (Zd5 (ZrG (ZaB (Zbn hu) rfl (Zan (i:=3) rfl rfl rfl rfl) Zag) (Zou (ZaB (ZcC hu) rfl (Zan (i:=1) rfl rfl rfl rfl) (ZaO Zaf))))) (Zak (Zat (Zff (ZdT (Zan (i:=1) rfl rfl rfl rfl) Zb9 (Zcc (Zrh Zag))) (ZaO (Zaa rfl (Zay (fun _ _=>rfl) (Zan (i:=2) rfl rfl rfl rfl) (Zaq ZaJ (hr.mono ZaI) rfl ZaH rfl rfl rfl (Zaa rfl (Zan (i:=0) rfl rfl rfl rfl) (Zaa rfl Zag Zaf)))) Zaf))))) Zaw) (Zak (Zat (Zan (i:=1) rfl rfl rfl rfl)))))))))
abbrev ZtT:List Str:=["script","state","one","other","names","k","path","found"]
theorem ZhX:ZaD ZtT ["script"] (Zac ZjY):=⟨rfl,rfl,rfl,by decide +kernel,rfl,by decide +kernel,by decide +kernel⟩
def Zul (Zc0:Spw) (ZaA:Spw) (Za3:Spw) (Zbz:Spw) (ZaG:Spw) (ZcN:Spw) (Zdy:Spw) (ZdW:Spw) (ZaZ:Spw):GS:=(Zax (Zbd 1 (Zap Zc0 (fun _ _ _=>False) (Zab (Zad 0) (Zab (gC (.int 0)) Zal)))) (Zax (Zbd 2 (Zap ZaA (fun _ _ _=>False) (Zab (Zad 1) (Zab (gC (.int 3)) Zal)))) (Zax (Zbd 3 (Zap Za3 (fun _ _ _=>False) (Zab (Zad 1) (Zab (Zad 2) (Zab (gC (.int 2)) Zal))))) (Zax (Zbd 4 (Zap Zbz (fun _ _ _=>False) (Zab (Zad 1) Zal))) (Zax (Zbd 2 (Zap ZaG (fun _ _ _=>False) (Zab (Zad 2) (Zab (Zad 4) Zal)))) (Zax (Zbd 3 (Zap ZaG (fun _ _ _=>False) (Zab (Zad 3) (Zab (Zad 4) Zal)))) (Zax (Ze1 (Zdq (Zab (gC (.int 3)) Zal)) (gNm 5) (Zax (Zbd 6 (Zap Zdy (fun _ _ _=>False) (Zab (Zad 1) (Zab (Zap ZcN (fun _ _ _=>False) (Zab (Zad 2) (Zab (Zad 3) Zal))) Zal)))) (Zax (Zbd 7 (Zap ZdW (fun _ _ _=>False) (Zab (Zad 2) (Zab (Zad 3) (Zab (Zad 6) Zal))))) (Zax (gIf (gOr (gNt (Zf2 (Zc3 "bool" (Zad 7)))) (gTB (Zaj (Zam (eqF true)) (Zad 7) (Zap ZaZ (fun _ _ _=>False) (Zab (Zad 2) (Zab (Zad 3) (Zab (Zad 6) Zal))))))) (ZaE (gC (.bl false))) Zas) (gIf (gTB (Zaj (Zam (eqF true)) (Zap ZdW (fun _ _ _=>False) (Zab (Zad 3) (Zab (Zad 2) (Zab (Zad 6) Zal)))) (Zad 7))) (ZaE (gC (.bl false))) Zas))))) (ZaE (gC (.bl true))))))))))
theorem ZwR {k:Nat} (T:Tx K mg base a) {Zdm:Nat} {Zc0:Spw} (Zkk:Df P w K mg base "_law_state" Zdm 2 Zc0) (Zka:Zdm≤k) {ZaV:Nat} {ZaA:Spw} (ZbG:Df P w K mg base "_law_kind" ZaV 2 ZaA) (ZbI:ZaV≤k) {ZbH:Nat} {Za3:Spw} (Zd9:Df P w K mg base "_law_near" ZbH 3 Za3) (Zd2:ZbH≤k) {ZbV:Nat} {Zbz:Spw} (Zgb:Df P w K mg base "_law_some_names" ZbV 1 Zbz) (Zf9:ZbV≤k) {Za0:Nat} {ZaG:Spw} (Zb1:Df P w K mg base "_law_renamed" Za0 2 ZaG) (Zb2:Za0≤k) {Zc2:Nat} {ZcN:Spw} (Zjs:Df P w K mg base "first_clash" Zc2 2 ZcN) (Zi5:Zc2≤k) {Zeb:Nat} {Zdy:Spw} (ZkR:Df P w K mg base "_law_path" Zeb 2 Zdy) (Zlt:Zeb≤k) {ZfN:Nat} {ZdW:Spw} (Zj4:Df P w K mg base "clashes" ZfN 3 ZdW) (ZkI:ZfN≤k) {Zbo:Nat} {ZaZ:Spw} (Zet:Df P w K mg base "_law_there" Zbo 3 ZaZ) (ZeA:Zbo≤k) {f:Addr} {cdv:Value} {A:Around} {outer:List Env} {s:Shared} {H:Hp} {E:XK} (hr:Room k (A.deeper (envOfC "law" (Zac ZjY) s.heap.objs.size f cdv))):Ssm (cxW P w K mg base ZtT "law" (Zac ZjY) f cdv A outer s H E).nox (fun B=>B=H) (Zaz ZjY) (Zul Zc0 ZaA Za3 Zbz ZaG ZcN Zdy ZdW ZaZ) :=
 have hu:=ZeQ hr
 (Zai (Zej (i:=1) ZhX.nd rfl rfl rfl (Zaq Zkk (hr.mono Zka) rfl ZaH rfl rfl rfl (Zaa rfl (Zan (i:=0) rfl rfl rfl rfl) (Zaa rfl Zag Zaf)))) (Zai (Zej (i:=2) ZhX.nd rfl rfl rfl (Zaq ZbG (hr.mono ZbI) rfl ZaH rfl rfl rfl (Zaa rfl (Zan (i:=1) rfl rfl rfl rfl) (Zaa rfl Zag Zaf)))) (Zai (Zej (i:=3) ZhX.nd rfl rfl rfl (Zaq Zd9 (hr.mono Zd2) rfl ZaH rfl rfl rfl (Zaa rfl (Zan (i:=1) rfl rfl rfl rfl) (Zaa rfl (Zan (i:=2) rfl rfl rfl rfl) (Zaa rfl Zag Zaf))))) (Zai (Zej (i:=4) ZhX.nd rfl rfl rfl (Zaq Zgb (hr.mono Zf9) rfl ZaH rfl rfl rfl (Zaa rfl (Zan (i:=1) rfl rfl rfl rfl) Zaf))) (Zai (Zej (i:=2) ZhX.nd rfl rfl rfl (Zaq Zb1 (hr.mono Zb2) rfl ZaH rfl rfl rfl (Zaa rfl (Zan (i:=2) rfl rfl rfl rfl) (Zaa rfl (Zan (i:=4) rfl rfl rfl rfl) Zaf)))) (Zai (Zej (i:=3) ZhX.nd rfl rfl rfl (Zaq Zb1 (hr.mono Zb2) rfl ZaH rfl rfl rfl (Zaa rfl (Zan (i:=3) rfl rfl rfl rfl) (Zaa rfl (Zan (i:=4) rfl rfl rfl rfl) Zaf)))) (Zai (ZfP PassesOwn.never rfl (fun _=>rfl) (ZlN T.Zfp rfl rfl (Zaa rfl Zag Zaf)) (Zg0 (i:=5) ZhX.nd rfl (.inl rfl) (.inr rfl)) (Zai (Zej (i:=6) ZhX.nd rfl rfl rfl (Zaq ZkR (hr.mono Zlt) rfl ZaH rfl rfl rfl (Zaa rfl (Zan (i:=1) rfl rfl rfl rfl) (Zaa rfl (Zaq Zjs (hr.mono Zi5) rfl ZaH rfl rfl rfl (Zaa rfl (Zan (i:=2) rfl rfl rfl rfl) (Zaa rfl (Zan (i:=3) rfl rfl rfl rfl) Zaf))) Zaf)))) (Zai (Zej (i:=7) ZhX.nd rfl rfl rfl (Zaq Zj4 (hr.mono ZkI) rfl ZaH rfl rfl rfl (Zaa rfl (Zan (i:=2) rfl rfl rfl rfl) (Zaa rfl (Zan (i:=3) rfl rfl rfl rfl) (Zaa rfl (Zan (i:=6) rfl rfl rfl rfl) Zaf))))) (Zai (ZaY (Zd5 (Zkw (ZfG (ZfE (fun _=>rfl) (Zfl (T:="bool") (by decide) Zod T.Zhk T.ZaN rfl rfl (by decide) rfl rfl rfl (Zan (i:=7) rfl rfl rfl rfl)))) (Zhh (ZaB (ZcC hu) rfl (Zan (i:=7) rfl rfl rfl rfl) (Zaq Zet (hr.mono ZeA) rfl ZaH rfl rfl rfl (Zaa rfl (Zan (i:=2) rfl rfl rfl rfl) (Zaa rfl (Zan (i:=3) rfl rfl rfl rfl) (Zaa rfl (Zan (i:=6) rfl rfl rfl rfl) Zaf)))))))) (Zak (Zat Zeo)) Zaw) (Zak (ZaY (ZaB (ZcC hu) rfl (Zaq Zj4 (hr.mono ZkI) rfl ZaH rfl rfl rfl (Zaa rfl (Zan (i:=3) rfl rfl rfl rfl) (Zaa rfl (Zan (i:=2) rfl rfl rfl rfl) (Zaa rfl (Zan (i:=6) rfl rfl rfl rfl) Zaf)))) (Zan (i:=7) rfl rfl rfl rfl)) (Zak (Zat Zeo)) Zaw)))))) (Zak (Zat Zeo)))))))))
end
mutual
def plW:W→Bool
 | .str _=>true
 | .bl _=>true
 | .tup xs=>plL xs
 | _=>false
def plL:List W→Bool
 | []=>true
 | x::xs=>plW x&&plL xs
end
theorem Zmm {x:W} {xs:List W} (h:plL (x::xs)=true):plW x=true∧plL xs=true:=Bool.and_eq_true_iff.mp h
theorem Zrb {x y:W} {xs ys:List W} {a b:Bool} (h1:eqD x y=some a) (h2:Zg6 xs ys=some b):Zg6 (x::xs) (y::ys)=some (a&&b):=by
 show (match eqD x y,Zg6 xs ys with | some a,some b=>some (a&&b) | _,_=>none)=_
 rw [h1,h2]
mutual
theorem plD:∀ (x y:W),plW x=true→plW y=true→∃ b,eqD x y=some b∧(b=true↔x=y)
 | .str s,.str t,_,_=>⟨s==t,rfl,by simp⟩
 | .str s,.bl t,_,_=>⟨false,rfl,by simp⟩
 | .str s,.tup t,_,_=>⟨false,rfl,by simp⟩
 | .bl s,.str t,_,_=>⟨false,rfl,by simp⟩
 | .bl s,.bl t,_,_=>⟨s==t,rfl,by simp⟩
 | .bl s,.tup t,_,_=>⟨false,rfl,by simp⟩
 | .tup s,.str t,_,_=>⟨false,rfl,by simp⟩
 | .tup s,.bl t,_,_=>⟨false,rfl,by simp⟩
 | .tup s,.tup t,h,h'=>by
  obtain ⟨b,e,i⟩:=Zxw s t h h'
  exact ⟨b,e,by rw [i];simp⟩
 | .str _,.non,_,h=>by cases h
 | .str _,.int _,_,h=>by cases h
 | .str _,.rol _,_,h=>by cases h
 | .str _,.ref _,_,h=>by cases h
 | .bl _,.non,_,h=>by cases h
 | .bl _,.int _,_,h=>by cases h
 | .bl _,.rol _,_,h=>by cases h
 | .bl _,.ref _,_,h=>by cases h
 | .tup _,.non,_,h=>by cases h
 | .tup _,.int _,_,h=>by cases h
 | .tup _,.rol _,_,h=>by cases h
 | .tup _,.ref _,_,h=>by cases h
 | .non,_,h,_=>by cases h
 | .int _,_,h,_=>by cases h
 | .rol _,_,h,_=>by cases h
 | .ref _,_,h,_=>by cases h
theorem Zxw:∀ (xs ys:List W),plL xs=true→plL ys=true→∃ b,Zg6 xs ys=some b∧(b=true↔xs=ys)
 | [],[],_,_=>⟨true,rfl,by simp⟩
 | [],_::_,_,_=>⟨false,rfl,by simp⟩
 | _::_,[],_,_=>⟨false,rfl,by simp⟩
 | x::xs,y::ys,h,h'=>by
  obtain ⟨h1,h2⟩:=Zmm h
  obtain ⟨h3,h4⟩:=Zmm h'
  obtain ⟨b,e,i⟩:=plD x y h1 h3
  obtain ⟨c,e',i'⟩:=Zxw xs ys h2 h4
  exact ⟨b&&c,Zrb e e',by rw [Bool.and_eq_true,i,i',List.cons.injEq]⟩
end
mutual
theorem Zip:∀ k:Kd,plW k.enc=true
 | .any=>rfl
 | .num=>rfl
 | .truth=>rfl
 | .to x y=>by
  have h1:=Zip x
  have h2:=Zip y
  show (true&&(plW x.enc&&(plW y.enc&&true)))=true
  rw [h1,h2];rfl
 | .box x=>by
  have h1:=Zip x
  show (true&&(plW x.enc&&true))=true
  rw [h1];rfl
 | .row fs o=>by
  have h1:=Zoz fs
  show (true&&(plL fs.enc&&(true&&true)))=true
  rw [h1];rfl
theorem Zoz:∀ fs:Fs,plL fs.enc=true
 | .nil=>rfl
 | .cons n m k r=>by
  have h1:=Zip k
  have h2:=Zoz r
  show ((true&&(true&&(plW k.enc&&true)))&&plL r.enc)=true
  rw [h1,h2];rfl
end
theorem ZlM {m m':Bool} (h:Zed m=Zed m'):m=m':=by
 by_cases e:m=m'
 ·exact e
 ·have:=ZsQ e;rw [h] at this;simp at this
theorem Zik {k l:Kd} (h:k.enc=l.enc):k.hd=l.hd:=by
 have h1:=Zbq k (fun _=>none)
 rw [h,Zbq] at h1
 exact (W.str.inj (Option.some.inj h1)).symm
mutual
theorem ZgZ:∀ {k l:Kd},k.enc=l.enc→k=l
 | .any,l,h=>by
  cases l with
  | any=>rfl
  | _=>have:=Zik h;simp only [Kd.hd] at this;exact absurd this (by decide)
 | .num,l,h=>by
  cases l with
  | num=>rfl
  | _=>have:=Zik h;simp only [Kd.hd] at this;exact absurd this (by decide)
 | .truth,l,h=>by
  cases l with
  | truth=>rfl
  | _=>have:=Zik h;simp only [Kd.hd] at this;exact absurd this (by decide)
 | .to x y,l,h=>by
  cases l with
  | to x' y' =>
   have h':W.tup [.str "to",x.enc,y.enc]=W.tup [.str "to",x'.enc,y'.enc]:=h
   injection h' with h'
   injection h' with _ h'
   injection h' with h1 h'
   injection h' with h2 _
   rw [ZgZ h1,ZgZ h2]
  | _=>have:=Zik h;simp only [Kd.hd] at this;exact absurd this (by decide)
 | .box x,l,h=>by
  cases l with
  | box x' =>
   have h':W.tup [.str "box",x.enc]=W.tup [.str "box",x'.enc]:=h
   injection h' with h'
   injection h' with _ h'
   injection h' with h1 h'
   rw [ZgZ h1]
  | _=>have:=Zik h;simp only [Kd.hd] at this;exact absurd this (by decide)
 | .row fs o,l,h=>by
  cases l with
  | row gs p =>
   have h':W.tup [.str "row",.tup fs.enc,.bl o]=W.tup [.str "row",.tup gs.enc,.bl p]:=h
   injection h' with h'
   injection h' with _ h'
   injection h' with h1 h'
   injection h' with h2 _
   injection h1 with h1
   injection h2 with h2
   rw [Zly h1,h2]
  | _=>have:=Zik h;simp only [Kd.hd] at this;exact absurd this (by decide)
theorem Zly:∀ {fs gs:Fs},fs.enc=gs.enc→fs=gs
 | .nil,gs,h=>by
  cases gs with
  | nil=>rfl
  | cons n m k r=>exact absurd (show ([]:List W)=_::_ from h) (by simp)
 | .cons n m k r,gs,h=>by
  cases gs with
  | nil=>exact absurd (show _::_=([]:List W) from h) (by simp)
  | cons n' m' k' r' =>
   have h':W.tup [.str n,.str (Zed m),k.enc]::r.enc=W.tup [.str n',.str (Zed m'),k'.enc]::r'.enc:=h
   injection h' with h1 h2
   injection h1 with h1
   injection h1 with a1 h1
   injection h1 with a2 h1
   injection h1 with a3 _
   injection a1 with a1
   injection a2 with a2
   rw [a1,ZlM a2,ZgZ a3,Zly h2]
end
mutual
theorem ZiE:∀ k:Kd,dpW k.enc≤3*k.dp
 | .any=>by show 1≤3*1;omega
 | .num=>by show 1≤3*1;omega
 | .truth=>by show 1≤3*1;omega
 | .to x y=>by have:=ZiE x;have:=ZiE y;show max 0 (max (dpW x.enc) (max (dpW y.enc) 0))+1≤3*(1+max x.dp y.dp);omega
 | .box x=>by have:=ZiE x;show max 0 (max (dpW x.enc) 0)+1≤3*(1+x.dp);omega
 | .row fs o=>by have:=Zpl fs;show max 0 (max (L3.dpL fs.enc+1) (max 0 0))+1≤3*(1+fs.dp);omega
theorem Zpl:∀ fs:Fs,L3.dpL fs.enc≤3*fs.dp+1
 | .nil=>Nat.zero_le _
 | .cons n m k r=>by
  have:=ZiE k
  have:=Zpl r
  show max (max 0 (max 0 (max (dpW k.enc) 0))+1) (L3.dpL r.enc)≤3*max k.dp r.dp+1;omega
end
def Zo5 (x:W):W:=match x with | .tup [n,m,k]=>.tup [n,.tup [m,k]] | _=>.non
def told (fs:Fs):List (Str×W):=fs.toL.map fun u=>(u.1,.tup [.str (Zed u.2.1),u.2.2.enc])
theorem ZjO:∀ fs:Fs,fs.enc.map Zo5=(told fs).map fun y=>W.tup [.str y.1,y.2]
 | .nil=>rfl
 | .cons n m k r=>by
  show W.tup [.str n,.tup [.str (Zed m),k.enc]]::r.enc.map Zo5=W.tup [.str n,.tup [.str (Zed m),k.enc]]::(told r).map _
  rw [ZjO r]
theorem ZmA (fs:Fs):(told fs).map (·.1)=fs.names:=by
 unfold told
 rw [List.map_map,Zem];rfl
theorem Zlx {o:Bool} {x:Str}:∀ fs:Fs,Zpu ((told fs).map fun y=>((Sum.inr y.1:Key),y.2)) x (if o then En.free else En.nope).enc=(ent fs o x).enc
 | .nil=>rfl
 | .cons n m k r=>by
  have ih:=Zlx (o:=o) (x:=x) r
  have e:(told (.cons n m k r)).map (fun y=>((Sum.inr y.1:Key),y.2))=((Sum.inr n:Key),W.tup [.str (Zed m),k.enc])::(told r).map fun y=>((Sum.inr y.1:Key),y.2):=rfl
  rw [e,ZfL]
  by_cases h:n=x
  ·subst h
   have e2:(Fs.cons n m k r).find n=some (m,k):=by unfold Fs.find;rw [if_pos rfl]
   rw [if_pos rfl];unfold ent;rw [e2];rfl
  ·have e2:(Fs.cons n m k r).find x=r.find x:=by show (if n=x then some (m,k) else r.find x)=_;rw [if_neg h]
   rw [if_neg (fun z=>h (Sum.inr.inj z)),ih];unfold ent;rw [e2]
abbrev Zph:Spw:=spL (fun (x:Fs×Bool×Addr×List Str) ws G=>ws=[(Kd.row x.1 x.2.1).enc,.ref x.2.2.1]∧G x.2.2.1=some (.lst (x.2.2.2.map W.str))∧x.1.names.Nodup∧x.1.names.length < 16∧x.2.2.2.length≤100) fun x=>x.2.2.2.map fun z=>(ent x.1 x.2.1 z).enc
theorem ZcS (T:Tx K mg base a):Df P w K mg base "_law_entries" 1 2 Zph:=by
 refine mk0 T.ZcO rfl ZdA Zqb (fun ws G Q E ⟨x,⟨e,_⟩,_⟩=>by rw [e];rfl) (ZhW T) fun ws G Q E hC q=>?_
 obtain ⟨⟨fs,o,p,zs⟩,⟨rfl,hp,hn,hl,hz⟩,q⟩:=q
 dsimp only at hp hn hl hz q
 have l1:fs.enc.length < 16:=by rw [← ZcT];exact hl
 unfold Ze7
 simp only [Kd.enc]
 walk_at "rd"
 refine Zld (f:=Zo5) trivial fs.enc none [] (fun x hx Q' q'=>?_) (by simp only [List.length_nil];exact Zbw (by omega)) ?_
 ·obtain ⟨n,b,k,rfl⟩:=Zi0 hx
  show L3.Zbc _ [some (W.tup [.str n,.str (Zed b),k])] _ Q'
  walk_at "rd"
  exact ⟨(show 2≤sizeLine by decide),q'⟩
 ·intro p1 hp1
  rw [List.nil_append,ZjO]
  refine ⟨p1,told fs,rfl,Zah,by rw [ZmA];exact hn,fun d hd=>?_⟩
  refine ⟨by decide,by decide,by decide,fun p3 hp3=>?_⟩
  have np1:p≠p1:=ZaF hp hp1
  have g1:put G p1 (.lst ((told fs).map fun y=>W.tup [.str y.1,y.2])) p=some (.lst (zs.map W.str)):=by rw [Zao np1];exact hp
  have npd:p≠d:=ZaF g1 hd
  have g2:put (put G p1 (.lst ((told fs).map fun y=>W.tup [.str y.1,y.2]))) d (.dct ((told fs).map fun y=>((Sum.inr y.1:Key),y.2))) p=some (.lst (zs.map W.str)):=by rw [Zao npd];exact g1
  have np3:p≠p3:=ZaF g2 hp3
  have nd3:d≠p3:=ZaF Zah hp3
  have g3:put (put (put G p1 (.lst ((told fs).map fun y=>W.tup [.str y.1,y.2]))) d (.dct ((told fs).map fun y=>((Sum.inr y.1:Key),y.2)))) p3 (.lst [.tup [.str "none"],.tup [.str "free"]]) p=some (.lst (zs.map W.str)):=by rw [Zao np3];exact g2
  have g3d:put (put (put G p1 (.lst ((told fs).map fun y=>W.tup [.str y.1,y.2]))) d (.dct ((told fs).map fun y=>((Sum.inr y.1:Key),y.2)))) p3 (.lst [.tup [.str "none"],.tup [.str "free"]]) d=some (.dct ((told fs).map fun y=>((Sum.inr y.1:Key),y.2))):=by rw [Zao nd3];exact Zah
  have hsub:Sub G (put (put (put G p1 (.lst ((told fs).map fun y=>W.tup [.str y.1,y.2]))) d (.dct ((told fs).map fun y=>((Sum.inr y.1:Key),y.2)))) p3 (.lst [.tup [.str "none"],.tup [.str "free"]])):=ZcP (ZcP (Zbg hp1) hd) hp3
  have ei:ZmB [.bl o]=fun _=>some (.int (if o then 1 else 0)):=rfl
  have ea:atI [W.tup [.str "none"],.tup [.str "free"]] (if o then 1 else 0)=some (if o then En.free else En.nope).enc:=by
   cases o
   ·exact Zb4
   ·exact Zc5
  simp only [ei,Zae,Zah,ea,g3]
  refine ZpU (enc:=W.str) (f:=fun x=>(ent fs o x).enc) (cst:=[some (.ref d),some (if o then En.free else En.nope).enc]) g3 zs none [] (fun x hx Q' q'=>?_) (by simp only [List.length_nil];exact Zbw (by omega)) fun r hr=>?_
  ·show gMt Zpt ZuE (Zad 1) _ [some (.str x),some (.ref d),some (if o then En.free else En.nope).enc] _ Q'
   walk_at "rd"
   refine ⟨⟨d,_,rfl,g3d⟩,d,_,x,_,rfl,rfl,g3d,?_⟩
   rw [Zlx];exact q'
  ·rw [List.nil_append]
   have hG:G r=none:=by
    cases e:G r with
    | none=>rfl
    | some u=>have:=hsub r u e;rw [hr] at this;cases this
   exact hC _ _ _ hsub.put2 (q r hG)
set_option Elab.async false
set_option linter.all false
set_option maxRecDepth 100000
set_option maxHeartbeats 1000000
mutual
def Kd.thr:Kd→Bool
 | .to a b=>a.thr&&b.thr
 | .box a=>a.thr
 | .row fs _=>decide (fs.names.length≤3)&&fs.thr
 | _=>true
def Fs.thr:Fs→Bool
 | .nil=>true
 | .cons _ _ k r=>k.thr&&r.thr
end
def wg (k:Kd):Prop:=k.ok=true∧k.thr=true
theorem Zrv:∀ {fs:Fs},fs.thr=true→∀ c∈fs.kinds,c.thr=true
 | .nil,_,c,hc=>by cases hc
 | .cons n m k r,h,c,hc=>by
  have h':(k.thr&&r.thr)=true:=h
  simp only [Bool.and_eq_true] at h'
  rcases List.mem_cons.mp hc with rfl | hc
  ·exact h'.1
  ·exact Zrv h'.2 c hc
theorem Zbl {k c:Kd} (h:wg k) (hc:c∈k.kids):wg c:=by
 refine ⟨Zk1 h.1 c hc,?_⟩
 have ht:=h.2
 cases k with
 | to x y =>
  have h':(x.thr&&y.thr)=true:=ht
  simp only [Bool.and_eq_true] at h'
  simp only [Kd.kids,List.mem_cons,List.not_mem_nil,or_false] at hc
  rcases hc with rfl | rfl
  ·exact h'.1
  ·exact h'.2
 | box x =>
  simp only [Kd.kids,List.mem_cons,List.not_mem_nil,or_false] at hc
  subst hc;exact ht
 | row fs o =>
  have h':(decide (fs.names.length≤3)&&fs.thr)=true:=ht
  simp only [Bool.and_eq_true] at h'
  exact Zrv h'.2 c hc
 | any=>simp [Kd.kids] at hc
 | num=>simp [Kd.kids] at hc
 | truth=>simp [Kd.kids] at hc
theorem ZgP {fs:Fs} {o:Bool} (h:wg (.row fs o)):fs.names.length < 16:=by
 have h':(decide (fs.names.length≤3)&&fs.thr)=true:=h.2
 simp only [Bool.and_eq_true,decide_eq_true_eq] at h'
 omega
theorem ZuU {x y:Str} (h:ZaP x y=false) (hne:x≠y):ZaP y x=true:=by
 unfold ZaP at h ⊢
 refine decide_eq_true ?_
 have h1:y.cps.toList≤x.cps.toList:=of_decide_eq_false h
 rcases List.le_iff_lt_or_eq.mp h1 with z | z
 ·exact z
 ·exact absurd (by cases x;cases y;congr 1;exact (Array.toList_inj.mp z).symm) hne
theorem Zut:∀ (p:Str) (r:List Str),risingS p r=true→(p::r).Nodup→(p::r).Pairwise (fun x y=>ZaP x y=true)
 | p,[],_,_=>.cons (fun _ h=>by cases h) .nil
 | p,x::r,h,hn=>by
  have h':(!ltCps x.cps.toList p.cps.toList&&risingS x r)=true:=h
  simp only [Bool.and_eq_true,Bool.not_eq_true'] at h'
  obtain ⟨n1,n2⟩:=List.nodup_cons.mp hn
  have ih:=Zut x r h'.2 n2
  have hpx:ZaP p x=true:=ZuU (by rw [← h'.1,ltCps_eq];rfl) fun e=>n1 (by rw [e];exact List.mem_cons_self)
  refine .cons (fun z hz=>?_) ih
  rcases List.mem_cons.mp hz with rfl | hz
  ·exact hpx
  ·exact Zr0 hpx ((List.pairwise_cons.mp ih).1 z hz)
open Classical in
noncomputable def Zwt (fs gs:Fs):List Str:=if h:∃ zs:List Str,zs.Pairwise (fun x y=>ZaP x y=true)∧∀ x,x∈zs↔x∈fs.names∨x∈gs.names then choose h else []
theorem Zss {fs gs:Fs} {zs:List Str} (z1:zs.Nodup) (z2:sortedS zs=true) (z3:∀ x,x∈zs↔x∈fs.names∨x∈gs.names):zs=Zwt fs gs:=by
 have hp:zs.Pairwise (fun x y=>ZaP x y=true):=by
  cases zs with
  | nil=>exact .nil
  | cons x r=>exact Zut x r z2 z1
 have h:∃ zs:List Str,zs.Pairwise (fun x y=>ZaP x y=true)∧∀ x,x∈zs↔x∈fs.names∨x∈gs.names:=⟨zs,hp,z3⟩
 unfold Zwt
 rw [dif_pos h]
 have:=Classical.choose_spec h
 exact ZlO hp this.1 fun x=>by rw [z3,this.2]
def ZnK:List (Str×Option (List Str))→Option (List Str)
 | []=>none
 | (x,some p)::_=>some (x::p)
 | (_,none)::r=>ZnK r
def clE (f:Kd→Kd→Option (List Str)):En→En→Option (List Str)
 | .free,_=>none
 | _,.free=>none
 | .nope,.nope=>none
 | .told m k,.told m' k'=>if m=m' then f k k' else some []
 | _,_=>some []
noncomputable def cl:Nat→Kd→Kd→Option (List Str)
 | 0,_,_=>none
 | _+1,.any,_=>none
 | _+1,_,.any=>none
 | _+1,.num,.num=>none
 | _+1,.truth,.truth=>none
 | n+1,.to a b,.to c d=>ZnK [("in",cl n a c),("out",cl n b d)]
 | n+1,.box a,.box b=>ZnK [("inside",cl n a b)]
 | n+1,.row fs o,.row gs p=>ZnK ((Zwt fs gs).map fun x=>(x,clE (cl n) (ent fs o x) (ent gs p x)))
 | _+1,_,_=>some []
def pW:Option (List Str)→W
 | none=>.non
 | some l=>.tup (l.map W.str)
theorem ZgV {n:Nat}:∀ {us:List (Str×Option (List Str))} {p:List Str},(∀ u∈us,∀ q,u.2=some q→q.length≤n)→ZnK us=some p→p.length≤n+1
 | (x,some q)::_,p,h,e=>by
  cases e
  have:=h _ List.mem_cons_self q rfl
  simp only [List.length_cons];omega
 | (_,none)::r,p,h,e=>ZgV (us:=r) (fun u hu=>h u (List.mem_cons_of_mem _ hu)) e
theorem Znk {n:Nat} {f:Kd→Kd→Option (List Str)} (h:∀ k l p,f k l=some p→p.length≤n) {e e':En} {p:List Str} (hp:clE f e e'=some p):p.length≤n:=by
 cases e <;> cases e' <;> first | (cases hp;done) | (cases hp;exact Nat.zero_le _) | skip
 rename_i m k m' k'
 have hp':(if m=m' then f k k' else some [])=some p:=hp
 by_cases z:m=m'
 ·rw [if_pos z] at hp';exact h _ _ _ hp'
 ·rw [if_neg z] at hp';cases hp';exact Nat.zero_le _
theorem ZhP:∀ (n:Nat) (k l:Kd) (p:List Str),cl n k l=some p→p.length≤n
 | 0,_,_,p,h=>by cases h
 | n+1,k,l,p,h=>by
  cases k <;> cases l <;> first | (cases h;done) | (cases h;exact Nat.zero_le _) | skip
  ·refine ZgV (fun u hu q hq=>?_) h
   simp only [List.mem_cons,List.not_mem_nil,or_false] at hu
   rcases hu with rfl | rfl
   ·exact ZhP n _ _ _ hq
   ·exact ZhP n _ _ _ hq
  ·refine ZgV (fun u hu q hq=>?_) h
   simp only [List.mem_cons,List.not_mem_nil,or_false] at hu
   subst hu
   exact ZhP n _ _ _ hq
  ·refine ZgV (fun u hu q hq=>?_) h
   obtain ⟨x,_,rfl⟩:=List.mem_map.mp hu
   exact Znk (ZhP n) hq
def caE (f:Kd→Kd→List Str→Bool):En→En→List Str→Bool
 | .free,_,_=>false
 | _,.free,_=>false
 | .nope,.nope,_=>false
 | .told m k,.told m' k',p=>if m=m' then f k k' p else p.isEmpty
 | _,_,p=>p.isEmpty
def ca:Nat→Kd→Kd→List Str→Bool
 | 0,_,_,_=>false
 | n+1,k,l,p=>if k.hd=l.hd then (match p with
   | []=>false
   | x::p=>match k,l with
    | .to a b,.to c d=>if "in"=x then ca n a c p else if "out"=x then ca n b d p else false
    | .box a,.box b=>if "inside"=x then ca n a b p else false
    | .row fs o,.row gs q=>caE (ca n) (ent fs o x) (ent gs q x) p
    | _,_=>false) else p.isEmpty&&!(k.hd=="any")&&!(l.hd=="any")
theorem ZwX {n:Nat} {k l:Kd} (h:k.hd≠l.hd) (h1:k.hd≠"any") (h2:l.hd≠"any"):ca (n+1) k l []=true:=by
 unfold ca
 rw [if_neg h]
 simp [h1,h2]
set_option maxHeartbeats 4000000
section
variable {P:Program} {w:World} {K:PySem.W.Frag} {mg:Str→Option Value} {base:Heap} {a:Adr}
abbrev Zmt:List Str:=["step","path"]
theorem ZqK:ZaD Zmt ["step","path"] (Zac Zd1):=⟨rfl,rfl,rfl,by decide +kernel,rfl,by decide +kernel,by decide +kernel⟩
def ZlC:GS:=(ZaE (Zh0 (gTB (Zaj (Zam (isF false)) (Zad 1) (gC .non))) (gC .non) (Zaj (ZdF) (Zbc (Zab (Zad 0) Zal)) (Zad 1))))
theorem Zpz {k:Nat} (T:Tx K mg base a) {f:Addr} {cdv:Value} {A:Around} {outer:List Env} {s:Shared} {H:Hp} {E:XK} (hr:Room k (A.deeper (envOfC "behind" (Zac Zd1) s.heap.objs.size f cdv))):Ssm (cxW P w K mg base Zmt "behind" (Zac Zd1) f cdv A outer s H E).nox (fun B=>B=H) (Zaz Zd1) (ZlC) :=
 have hu:=ZeQ hr
 (Zak (Zat (ZoE (ZaB ZrF rfl (Zan (i:=1) rfl rfl rfl rfl) ZeY) ZeY (Zff (ZaO (Zaa rfl (Zan (i:=0) rfl rfl rfl rfl) Zaf)) (Zan (i:=1) rfl rfl rfl rfl)))))
abbrev Zdr:List Str:=["one","other"]
theorem ZfB:ZaD Zdr ["one","other"] (Zac ZaK):=⟨rfl,rfl,rfl,by decide +kernel,rfl,by decide +kernel,by decide +kernel⟩
def Zdv (ZaL:Spw):GS:=(Zax (gIf (gTB (Zaj (Zam (inF false)) (gC (.str "free")) (Zbc (Zab (Zaj (Zam ixW) (Zad 0) (gC (.int 0))) (Zab (Zaj (Zam ixW) (Zad 1) (gC (.int 0))) Zal))))) (ZaE (gC .non)) Zas) (Zax (gIf (gTB (Zaj (Zam (eqF true)) (Zaj (Zam ixW) (Zad 0) (gC (.int 0))) (Zaj (Zam ixW) (Zad 1) (gC (.int 0))))) (ZaE (Zbc Zal)) Zas) (ZaE (Zh0 (gTB (Zaj (Zam (eqF false)) (Zaj (Zam ixW) (Zad 0) (gC (.int 0))) (gC (.str "none")))) (gC .non) (Zap ZaL (fun _ _ _=>False) (Zab (Zaj (Zam ixW) (Zad 0) (gC (.int 1))) (Zab (Zaj (Zam ixW) (Zad 1) (gC (.int 1))) Zal)))))))
theorem Zft {k:Nat} (T:Tx K mg base a) {Zbj:Nat} {ZaL:Spw} (ZdM:Df P w K mg base "clash_of" Zbj 2 ZaL) (ZdQ:Zbj≤k) {f:Addr} {cdv:Value} {A:Around} {outer:List Env} {s:Shared} {H:Hp} {E:XK} (hr:Room k (A.deeper (envOfC "clash_of_entries" (Zac ZaK) s.heap.objs.size f cdv))):Ssm (cxW P w K mg base Zdr "clash_of_entries" (Zac ZaK) f cdv A outer s H E).nox (fun B=>B=H) (Zaz ZaK) (Zdv ZaL) :=
 have hu:=ZeQ hr
 (Zai (ZaY (ZaB ZjI rfl Zau (ZaO (Zaa rfl (Zay (fun _ _=>rfl) (Zan (i:=0) rfl rfl rfl rfl) Zag) (Zaa rfl (Zay (fun _ _=>rfl) (Zan (i:=1) rfl rfl rfl rfl) Zag) Zaf)))) (Zak (Zat ZeY)) Zaw) (Zai (ZaY (ZaB (ZcC hu) rfl (Zay (fun _ _=>rfl) (Zan (i:=0) rfl rfl rfl rfl) Zag) (Zay (fun _ _=>rfl) (Zan (i:=1) rfl rfl rfl rfl) Zag)) (Zak (Zat (ZaO Zaf))) Zaw) (Zak (Zat (ZoE (ZaB (Zbn hu) rfl (Zay (fun _ _=>rfl) (Zan (i:=0) rfl rfl rfl rfl) Zag) Zau) ZeY (Zaq ZdM (hr.mono ZdQ) rfl ZaH rfl rfl rfl (Zaa rfl (Zay (fun _ _=>rfl) (Zan (i:=0) rfl rfl rfl rfl) Zag) (Zaa rfl (Zay (fun _ _=>rfl) (Zan (i:=1) rfl rfl rfl rfl) Zag) Zaf))))))))
abbrev Zer:List Str:=["one","other","name","found"]
theorem Zdh:ZaD Zer ["one","other"] (Zac Za7):=⟨rfl,rfl,rfl,by decide +kernel,rfl,by decide +kernel,by decide +kernel⟩
def Zey (Zb7:Spw) (Za9:Spw) (Zbu:Spw) (Zcp:Spw):GS:=(Zax (Ze1 (ZbX (Zap Zb7 (fun _ _ _=>False) (Zab (Zad 0) (Zab (Zad 1) Zal)))) (gNm 2) (Zax (Zbd 3 (Zap Zbu (fun _ _ _=>False) (Zab (Zap Za9 (fun _ _ _=>False) (Zab (Zad 0) (Zab (Zad 2) Zal))) (Zab (Zap Za9 (fun _ _ _=>False) (Zab (Zad 1) (Zab (Zad 2) Zal))) Zal)))) (gIf (gTB (Zaj (Zam (isF true)) (Zad 3) (gC .non))) (ZaE (Zap Zcp (fun _ _ _=>False) (Zab (Zad 2) (Zab (Zad 3) Zal)))) Zas))) (ZaE (gC .non)))
theorem ZhL {k:Nat} (T:Tx K mg base a) {Zcv:Nat} {Zb7:Spw} (ZhS:Df P w K mg base "names_of_both" Zcv 2 Zb7) (ZhJ:Zcv≤k) {Zci:Nat} {Za9:Spw} (ZdY:Df P w K mg base "entry_of" Zci 2 Za9) (ZdL:Zci≤k) {ZbA:Nat} {Zbu:Spw} (Zfu:Df P w K mg base "clash_of_entries" ZbA 2 Zbu) (ZfU:ZbA≤k) {Zdw:Nat} {Zcp:Spw} (Zjj:Df P w K mg base "behind" Zdw 2 Zcp) (Zjv:Zdw≤k) {f:Addr} {cdv:Value} {A:Around} {outer:List Env} {s:Shared} {H:Hp} {E:XK} (hr:Room k (A.deeper (envOfC "clash_of_rows" (Zac Za7) s.heap.objs.size f cdv))):Ssm (cxW P w K mg base Zer "clash_of_rows" (Zac Za7) f cdv A outer s H E).nox (fun B=>B=H) (Zaz Za7) (Zey Zb7 Za9 Zbu Zcp) :=
 have hu:=ZeQ hr
 (Zai (ZfP PassesOwn.never rfl (fun _=>rfl) (Zdk (fun _ _=>rfl) (Zaq ZhS (hr.mono ZhJ) rfl ZaH rfl rfl rfl (Zaa rfl (Zan (i:=0) rfl rfl rfl rfl) (Zaa rfl (Zan (i:=1) rfl rfl rfl rfl) Zaf)))) (Zg0 (i:=2) Zdh.nd rfl (.inl rfl) (.inr rfl)) (Zai (Zej (i:=3) Zdh.nd rfl rfl rfl (Zaq Zfu (hr.mono ZfU) rfl ZaH rfl rfl rfl (Zaa rfl (Zaq ZdY (hr.mono ZdL) rfl ZaH rfl rfl rfl (Zaa rfl (Zan (i:=0) rfl rfl rfl rfl) (Zaa rfl (Zan (i:=2) rfl rfl rfl rfl) Zaf))) (Zaa rfl (Zaq ZdY (hr.mono ZdL) rfl ZaH rfl rfl rfl (Zaa rfl (Zan (i:=1) rfl rfl rfl rfl) (Zaa rfl (Zan (i:=2) rfl rfl rfl rfl) Zaf))) Zaf)))) (Zak (ZaY (ZaB ZnU rfl (Zan (i:=3) rfl rfl rfl rfl) ZeY) (Zak (Zat (Zaq Zjj (hr.mono Zjv) rfl ZaH rfl rfl rfl (Zaa rfl (Zan (i:=2) rfl rfl rfl rfl) (Zaa rfl (Zan (i:=3) rfl rfl rfl rfl) Zaf))))) Zaw)))) (Zak (Zat ZeY)))
abbrev ZiM:List Str:=["one","other","step","left","right","found"]
theorem Zf0:ZaD ZiM ["one","other"] (Zac ZcD):=⟨rfl,rfl,rfl,by decide +kernel,rfl,by decide +kernel,by decide +kernel⟩
def Ziv (Zb8:Spw) (ZaL:Spw) (Zcp:Spw):GS:=(Zax (gIf (gTB (Zaj (Zam (inF false)) (gC (.str "any")) (Zbc (Zab (Zaj (Zam ixW) (Zad 0) (gC (.int 0))) (Zab (Zaj (Zam ixW) (Zad 1) (gC (.int 0))) Zal))))) (ZaE (gC .non)) Zas) (Zax (gIf (gTB (Zaj (Zam (eqF true)) (Zaj (Zam ixW) (Zad 0) (gC (.int 0))) (Zaj (Zam ixW) (Zad 1) (gC (.int 0))))) (ZaE (Zbc Zal)) Zas) (Zax (gIf (gTB (Zaj (Zam (eqF false)) (Zaj (Zam ixW) (Zad 0) (gC (.int 0))) (gC (.str "row")))) (ZaE (Zap Zb8 (fun _ _ _=>False) (Zab (Zad 0) (Zab (Zad 1) Zal)))) Zas) (Zax (Ze1 (Zgy (Zab (Zk7 Zdi (Zaj (Zam ixW) (Zad 0) (gC (.int 0)))) (Zab (Zee (Zad 0) (ZaX (gC (.int 1))) Zav) (Zab (Zee (Zad 1) (ZaX (gC (.int 1))) Zav) Zal)))) (Zib 2 3 4) (Zax (Zbd 5 (Zap ZaL (fun _ _ _=>False) (Zab (Zad 3) (Zab (Zad 4) Zal)))) (gIf (gTB (Zaj (Zam (isF true)) (Zad 5) (gC .non))) (ZaE (Zap Zcp (fun _ _ _=>False) (Zab (Zad 2) (Zab (Zad 5) Zal)))) Zas))) (ZaE (gC .non))))))
theorem ZmC {k:Nat} (T:Tx K mg base a) {Zct:Nat} {Zb8:Spw} (Zhd:Df P w K mg base "clash_of_rows" Zct 2 Zb8) (Zhe:Zct≤k) {Zbj:Nat} {ZaL:Spw} (ZdM:Df P w K mg base "clash_of" Zbj 2 ZaL) (ZdQ:Zbj≤k) {Zdw:Nat} {Zcp:Spw} (Zjj:Df P w K mg base "behind" Zdw 2 Zcp) (Zjv:Zdw≤k) {f:Addr} {cdv:Value} {A:Around} {outer:List Env} {s:Shared} {H:Hp} {E:XK} (hr:Room k (A.deeper (envOfC "clash_of" (Zac ZcD) s.heap.objs.size f cdv))):Ssm (cxW P w K mg base ZiM "clash_of" (Zac ZcD) f cdv A outer s H E).nox (fun B=>B=H) (Zaz ZcD) (Ziv Zb8 ZaL Zcp) :=
 have hu:=ZeQ hr
 (Zai (ZaY (ZaB ZjI rfl Zau (ZaO (Zaa rfl (Zay (fun _ _=>rfl) (Zan (i:=0) rfl rfl rfl rfl) Zag) (Zaa rfl (Zay (fun _ _=>rfl) (Zan (i:=1) rfl rfl rfl rfl) Zag) Zaf)))) (Zak (Zat ZeY)) Zaw) (Zai (ZaY (ZaB (ZcC hu) rfl (Zay (fun _ _=>rfl) (Zan (i:=0) rfl rfl rfl rfl) Zag) (Zay (fun _ _=>rfl) (Zan (i:=1) rfl rfl rfl rfl) Zag)) (Zak (Zat (ZaO Zaf))) Zaw) (Zai (ZaY (ZaB (Zbn hu) rfl (Zay (fun _ _=>rfl) (Zan (i:=0) rfl rfl rfl rfl) Zag) Zau) (Zak (Zat (Zaq Zhd (hr.mono Zhe) rfl ZaH rfl rfl rfl (Zaa rfl (Zan (i:=0) rfl rfl rfl rfl) (Zaa rfl (Zan (i:=1) rfl rfl rfl rfl) Zaf))))) Zaw) (Zai (ZfP PassesOwn.never rfl (fun _=>rfl) (Zmw T.ZjP rfl rfl rfl (Zaa rfl (ZnQ T.Zlq rfl rfl (fun _ _=>rfl) (Zay (fun _ _=>rfl) (Zan (i:=0) rfl rfl rfl rfl) Zag)) (Zaa rfl (ZdT (Zan (i:=0) rfl rfl rfl rfl) (Zcc Zag) Zb9) (Zaa rfl (ZdT (Zan (i:=1) rfl rfl rfl rfl) (Zcc Zag) Zb9) Zaf)))) (ZgT (i:=2) (j:=3) (k:=4) rfl Zf0.nd rfl (.inl rfl) (.inr rfl) rfl (.inl rfl) (.inr rfl) rfl (.inl rfl) (.inr rfl)) (Zai (Zej (i:=5) Zf0.nd rfl rfl rfl (Zaq ZdM (hr.mono ZdQ) rfl ZaH rfl rfl rfl (Zaa rfl (Zan (i:=3) rfl rfl rfl rfl) (Zaa rfl (Zan (i:=4) rfl rfl rfl rfl) Zaf)))) (Zak (ZaY (ZaB ZnU rfl (Zan (i:=5) rfl rfl rfl rfl) ZeY) (Zak (Zat (Zaq Zjj (hr.mono Zjv) rfl ZaH rfl rfl rfl (Zaa rfl (Zan (i:=2) rfl rfl rfl rfl) (Zaa rfl (Zan (i:=5) rfl rfl rfl rfl) Zaf))))) Zaw)))) (Zak (Zat ZeY))))))
end
local macro_rules | `(tactic| walk_at "rd") => `(tactic| ((try dsimp only [Zee, Zcs, Ze2, Zhn, Zcq, Zh1, Zax, gIf, ZaE, Zbd, Zck, Zas, Zad, gC, Zaj, gTB, Zf2, gNt, ZhT, gOr, Zcl, Zj1, Zh0, L3.Zbc, Zb5, L3.Zab, L3.Zal, Zap, gB, rF, Zam, Zc3, gMt, Zjz, Zcz, ZfY, Zgg, ZbU, L3.ZeX, Zeh, gSl, ZaX, Zav, Zc1, ZbX, ZkK, Ze1, ZaR, ZbY, List.map_cons, List.map_nil, List.length_cons, List.length_nil, List.cons_append, List.nil_append, List.getElem?_cons_zero, List.getElem?_cons_succ, List.set_cons_zero, List.set_cons_succ, List.replicate, Zi7, tyN, Zae, Zb4, Zc5, Zei, ixW, eqF, eqW, ZeP, Zio, ZiK, List.getElem?_nil]); (try simp only [Zee, Zcs, Ze2, Zhn, Zcq, Zh1, Zax, gIf, ZaE, Zbd, Zck, Zas, Zad, gC, Zaj, gTB, Zf2, gNt, ZhT, gOr, Zcl, Zj1, Zh0, L3.Zbc, Zb5, L3.Zab, L3.Zal, Zap, gB, rF, Zam, Zc3, gMt, Zjz, Zcz, ZfY, Zgg, ZbU, L3.ZeX, Zeh, gSl, ZaX, Zav, Zc1, ZbX, ZkK, Ze1, ZaR, ZbY, List.map_cons, List.map_nil, List.length_cons, List.length_nil, List.cons_append, List.nil_append, List.getElem?_cons_zero, List.getElem?_cons_succ, List.set_cons_zero, List.set_cons_succ, List.replicate, Zi7, tyN, Zae, Zb4, Zc5, Zei, ixW, eqF, eqW, ZeP, Zio, ZiK, List.getElem?_nil])))
def En.hd:En→Str
 | .free=>"free"
 | .nope=>"none"
 | .told m _=>Zed m
theorem Ze6 (e:En) (G:Hw):ixW e.enc (.int 0) G=some (.str e.hd):=by cases e <;> exact Zb4
theorem ZgX {x y:W} {s t:Str} {e:GE} {Zcf:GS} {D:Ew} {ω:Sw} {G:Hw} (h0:ω[0]?=some (some x)) (h1:ω[1]?=some (some y)) (e0:ixW x (.int 0) G=some (.str s)) (e1:ixW y (.int 0) G=some (.str t)) (h:if s=t then Zcf D ω G else e ω G D.rt) :
  Zax (gIf (gTB (Zaj (Zam (eqF true)) (Zaj (Zam ixW) (Zad 0) (gC (.int 0))) (Zaj (Zam ixW) (Zad 1) (gC (.int 0))))) (ZaE e) Zas) Zcf D ω G:=by
 simp only [Zax,gIf,gTB,Zaj,Zam,Zad,h0,h1,gC,ZaE,Zas]
 rw [e0,Zae,e1,Zae]
 simp only [eqF,eqW,Option.map_some,Zae]
 by_cases z:s=t
 ·rw [if_pos z] at h
  have:(s==t)=true:=by simp [z]
  simp only [this,bne_self_eq_false,Bool.false_eq_true,if_false]
  exact h
 ·rw [if_neg z] at h
  have:(s==t)=false:=by simp [z]
  simp only [this,show (false != true)=true from rfl,if_true]
  exact h
theorem ZcW (m:Bool):Zed m≠"free"∧Zed m≠"none"∧(("free":Str)≠"none"):=by cases m <;> decide +kernel
theorem Zj5 {k:Kd} {e:GE} {Zcf:GS} {D:Ew} {ω:Sw} {G:Hw} (h1:ω[0]?=some (some k.enc)) (h:if k.hd="row" then e ω G D.rt else Zcf D ω G) :
  Zax (gIf (gTB (Zaj (Zam (eqF false)) (Zaj (Zam ixW) (Zad 0) (gC (.int 0))) (gC (.str "row")))) (ZaE e) Zas) Zcf D ω G:=by
 simp only [Zax,gIf,gTB,Zaj,Zam,Zad,h1,gC,ZaE,Zas]
 rw [Zbq]
 simp only [Zae,eqF,eqW,Option.map_some]
 by_cases z:k.hd="row"
 ·rw [if_pos z] at h
  simp only [z,beq_self_eq_true,show (true != false)=true from rfl,if_true]
  exact h
 ·rw [if_neg z] at h
  have:(k.hd=="row")=false:=by simpa using z
  simp only [this,bne_self_eq_false,Bool.false_eq_true,if_false]
  exact h
theorem Zin {k:Kd} (h:k.hd="row"):∃ fs o,k=.row fs o:=by
 cases k <;> first | exact ⟨_,_,rfl⟩ | exact absurd h (by simp only [Kd.hd];decide)
theorem ZiX {x y:W} {s a b:Str} {e:GE} {Zcf:GS} {D:Ew} {ω:Sw} {G:Hw} (h0:ω[0]?=some (some x)) (h1:ω[1]?=some (some y)) (e0:ixW x (.int 0) G=some (.str a)) (e1:ixW y (.int 0) G=some (.str b)) (h:if a=s∨b=s then e ω G D.rt else Zcf D ω G) :
  Zax (gIf (gTB (Zaj (Zam (inF false)) (gC (.str s)) (L3.Zbc (L3.Zab (Zaj (Zam ixW) (Zad 0) (gC (.int 0))) (L3.Zab (Zaj (Zam ixW) (Zad 1) (gC (.int 0))) L3.Zal))))) (ZaE e) Zas) Zcf D ω G:=by
 simp only [Zax,gIf,gTB,Zaj,Zam,Zad,h0,h1,gC,ZaE,Zas,L3.Zbc,L3.Zab,L3.Zal]
 rw [e0,Zae,e1,Zae]
 refine ⟨(show 2≤sizeLine by decide),?_⟩
 have ei:inF false (.str s) (.tup [.str a,.str b]) G=some (.bl ([a,b].any (·==s))):=by
  unfold inF
  show (Zh6 ([a,b].map W.str)).map (fun us=>W.bl (if false=true then !inV (.str s) us else inV (.str s) us))=_
  rw [ZdV]
  show some (W.bl (inV (.str s) ([a,b].map V.str)))=_
  rw [Zfs]
 rw [ei,Zae]
 by_cases z:a=s∨b=s
 ·rw [if_pos z] at h
  have:[a,b].any (·==s)=true:=by simpa using z
  rw [this];exact h
 ·rw [if_neg z] at h
  have:[a,b].any (·==s)=false:=by
   rw [List.any_eq_false]
   intro c hc
   simp only [List.mem_cons,List.not_mem_nil,or_false] at hc
   rcases hc with rfl | rfl
   ·simpa using fun q=>z (.inl q)
   ·simpa using fun q=>z (.inr q)
  rw [this];exact h
abbrev ZgM:Spw:=spR (fun (x:Str×List W) ws _=>ws=[.str x.1,.tup x.2]∧x.2.length≤100) fun x=>.tup (.str x.1::x.2)
theorem Zdw (T:Tx K mg base a):Df P w K mg base "behind" 1 2 ZgM:=by
 refine mk0 T.ZgY rfl ZqK Zdf (fun ws G Q E ⟨x,⟨e,_⟩,_⟩=>by rw [e];rfl) (Zpz T) fun ws G Q E hC q=>?_
 obtain ⟨⟨s,xs⟩,⟨rfl,hl⟩,q⟩:=q
 dsimp only at hl q
 unfold ZlC
 show ZaE _ (ZaR Q) [some (.str s),some (.tup xs)] G
 simp only [ZaE,Zh0,gTB,Zaj,Zam,Zad,gC,List.getElem?_cons_zero,List.getElem?_cons_succ,isF,Zpo,Zae,show (false != false)=false from rfl,Bool.false_eq_true,if_false,L3.Zbc,L3.Zab,L3.Zal,ZaR]
 refine ⟨(show 1≤sizeLine by decide),?_⟩
 rw [Zcq]
 exact ⟨by simp only [List.length_cons,List.length_nil];exact Zbw (by omega),q⟩
abbrev ZhE (n:Nat):Spw:=spR (fun (x:Kd×Kd) ws _=>ws=[x.1.enc,x.2.enc]∧wg x.1∧wg x.2∧x.1.dp≤n) fun x=>pW (cl n x.1 x.2)
abbrev Zv6 (n:Nat):Spw:=spR (fun (x:En×En) ws _=>ws=[x.1.enc,x.2.enc]∧∀ m k m' k',x.1=.told m k→x.2=.told m' k'→wg k∧wg k'∧k.dp≤n) fun x=>pW (clE (cl n) x.1 x.2)
theorem ZpY {f:Kd→Kd→Option (List Str)} {e e':En} (hf:e.hd="free"∨e'.hd="free"):clE f e e'=none:=by
 cases e with
 | free=>rfl
 | nope =>
  cases e' with
  | free=>rfl
  | nope=>rfl
  | told m k=>exact absurd (hf.resolve_left (by decide)) (ZcW m).1
 | told m k =>
  cases e' with
  | free=>rfl
  | nope=>exact absurd (hf.resolve_right (by decide)) (ZcW m).1
  | told m' k'=>exact absurd hf (fun z=>z.elim (ZcW m).1 (ZcW m').1)
theorem ZtP {f:Kd→Kd→Option (List Str)} {e e':En} (hf:¬ (e.hd="free"∨e'.hd="free")) (z:¬ e.hd=e'.hd):clE f e e'=some []:=by
 cases e with
 | free=>exact absurd (.inl rfl) hf
 | nope =>
  cases e' with
  | free=>exact absurd (.inr rfl) hf
  | nope=>exact absurd rfl z
  | told m k=>rfl
 | told m k =>
  cases e' with
  | free=>exact absurd (.inr rfl) hf
  | nope=>rfl
  | told m' k' =>
   have:m≠m':=fun q=>z (by rw [q];rfl)
   show (if m=m' then f k k' else some [])=some []
   rw [if_neg this]
theorem Zlk {e e':En} (hf:¬ (e.hd="free"∨e'.hd="free")) (z:e.hd=e'.hd):(e=.nope∧e'=.nope)∨∃ m k k',e=.told m k∧e'=.told m k':=by
 cases e with
 | free=>exact absurd (.inl rfl) hf
 | nope =>
  cases e' with
  | free=>exact absurd (.inr rfl) hf
  | nope=>exact .inl ⟨rfl,rfl⟩
  | told m k=>exact absurd z.symm (ZcW m).2.1
 | told m k =>
  obtain ⟨n1,n2,_⟩:=ZcW m
  cases e' with
  | free=>exact absurd z n1
  | nope=>exact absurd z n2
  | told m' k'=>obtain rfl:=ZlM z;exact .inr ⟨m,k,k',rfl,rfl⟩
theorem ZpM {f:Kd→Kd→Option (List Str)} {m:Bool} {k k':Kd}:clE f (.told m k) (.told m k')=f k k':=by show (if m=m then f k k' else some [])=_;rw [if_pos rfl]
theorem ZbA (T:Tx K mg base a) {j n:Nat} (D:Df P w K mg base "clash_of" j 2 (ZhE n)):Df P w K mg base "clash_of_entries" (j+1) 2 (Zv6 n):=by
 refine mk0 T.ZbC rfl ZfB Zdf (fun ws G Q E ⟨x,⟨e,_⟩,_⟩=>by rw [e];rfl) (Zft T D (Nat.le_refl _)) fun ws G Q E hC q=>?_
 obtain ⟨⟨e,e'⟩,⟨rfl,h⟩,q⟩:=q
 dsimp only at h q
 unfold Zdv
 show Zax (gIf _ _ Zas) _ (ZaR Q) [some e.enc,some e'.enc] G
 refine ZiX rfl rfl (Ze6 e G) (Ze6 e' G) ?_
 by_cases hf:e.hd="free"∨e'.hd="free"
 ·rw [if_pos hf]
  rw [ZpY hf] at q
  exact q
 ·rw [if_neg hf]
  refine ZgX rfl rfl (Ze6 e G) (Ze6 e' G) ?_
  by_cases z:e.hd=e'.hd
  ·rw [if_pos z]
   rcases Zlk hf z with ⟨rfl,rfl⟩ | ⟨m,k,k',rfl,rfl⟩
   ·exact q
   ·obtain ⟨w1,w2,hd⟩:=h m k m k' rfl rfl
    have hm:(Zed m=="none")=false:=by simpa using (ZcW m).2.1
    rw [ZpM] at q
    simp only [ZaE,Zh0,gTB,Zaj,Zam,Zad,gC,En.enc,List.getElem?_cons_zero,List.getElem?_cons_succ,ixW,Zb4,Zc5,Zae,eqF,eqW,hm,Option.map_some,bne_self_eq_false,Bool.false_eq_true,if_false,Zap,L3.Zab,L3.Zal,ZaR]
    exact ⟨(k,k'),⟨rfl,w1,w2,hd⟩,q⟩
  ·rw [if_neg z]
   rw [ZtP hf z] at q
   exact ⟨by decide,q⟩
theorem Zi6 {α:Type} (f g h:α→W):∀ xs:List α,Zjw (xs.map f) (xs.map g) (xs.map h)=xs.map fun x=>W.tup [f x,g x,h x]
 | []=>rfl
 | x::xs=>by show _::Zjw (xs.map f) (xs.map g) (xs.map h)=_;rw [Zi6 f g h xs];rfl
theorem Zit {i j:Nat} {ge:GE} {D:Ew} {ω:Sw} {G:Hw} {c:Option (List Str)} {s:Str} (hj:ω[j]?=some (some (.str s))) (hij:j≠i) (hi:i < ω.length) (hn:∀ p,c=some p→p.length≤100) (hg:∀ Q:Kw,Q (pW c) G→ge ω G Q) (h1:c=none→D.nx (ω.set i (some .non)) G) (h2:∀ p,c=some p→D.rt (pW (some (s::p))) G) :
  Zax (Zbd i ge) (gIf (gTB (Zaj (Zam (isF true)) (Zad i) (gC .non))) (ZaE (Zap ZgM (fun _ _ _=>False) (L3.Zab (Zad j) (L3.Zab (Zad i) L3.Zal)))) Zas) D ω G:=by
 refine hg _ ?_
 have gi:∀ r:W,(ω.set i (some r))[i]?=some (some r):=fun r=>by rw [List.getElem?_set_self hi]
 have gj:∀ r:W,(ω.set i (some r))[j]?=some (some (.str s)):=fun r=>by rw [List.getElem?_set_ne (Ne.symm hij)];exact hj
 simp only [gIf,gTB,Zaj,Zam,Zad,gi,gj,gC,isF,Zae,ZaE,Zap,L3.Zab,L3.Zal,Zas]
 cases c with
 | none=>exact h1 rfl
 | some p =>
  have hl:=hn p rfl
  simp only [pW,Zpo,show (false != true)=true from rfl,if_true]
  exact ⟨(s,p.map W.str),⟨rfl,by rw [List.length_map];exact hl⟩,h2 p rfl⟩
abbrev gCR (sp:Spw):GS:=Zax (Zbd 3 (Zap sp (fun _ _ _=>False) (L3.Zab (Zap ZkV (fun _ _ _=>False) (L3.Zab (Zad 0) (L3.Zab (Zad 2) L3.Zal))) (L3.Zab (Zap ZkV (fun _ _ _=>False) (L3.Zab (Zad 1) (L3.Zab (Zad 2) L3.Zal))) L3.Zal)))) (gIf (gTB (Zaj (Zam (isF true)) (Zad 3) (gC .non))) (ZaE (Zap ZgM (fun _ _ _=>False) (L3.Zab (Zad 2) (L3.Zab (Zad 3) L3.Zal)))) Zas)
theorem Zn0 {n:Nat} {D:Ew} {gd:Hw→Prop} {G:Hw} {fs gs:Fs} {o p:Bool} (hgd:gd G) (hn:n≤100) (hs:∀ x m k m' k',ent fs o x=.told m k→ent gs p x=.told m' k'→wg k∧wg k'∧k.dp≤n):∀ (xs:List Str) (o2 o3:Option W),
  (∀ q,ZnK (xs.map fun x=>(x,clE (cl n) (ent fs o x) (ent gs p x)))=some q→D.rt (pW (some q)) G)→(ZnK (xs.map fun x=>(x,clE (cl n) (ent fs o x) (ent gs p x)))=none→∀ o2 o3,D.nx [some (Kd.row fs o).enc,some (Kd.row gs p).enc,o2,o3] G) →
  ZdU gd (gNm 2) (gCR (Zv6 n)) D (xs.map W.str) [some (Kd.row fs o).enc,some (Kd.row gs p).enc,o2,o3] G
 | [],o2,o3,_,h=>⟨hgd,h rfl o2 o3⟩
 | x::xs,o2,o3,hb,h=>by
  refine ⟨hgd,?_⟩
  show gCR (Zv6 n) _ [some (Kd.row fs o).enc,some (Kd.row gs p).enc,some (.str x),o3] G
  refine Zit (i:=3) (j:=2) (c:=clE (cl n) (ent fs o x) (ent gs p x)) (s:=x) rfl (by decide) (by simp) (fun q e=>Nat.le_trans (Znk (ZhP n) e) hn) (fun Q hQ=>?_) (fun e=>?_) (fun q e=>?_)
  ·simp only [Zap,L3.Zab,L3.Zal,Zad,List.getElem?_cons_zero,List.getElem?_cons_succ]
   exact ⟨(fs,o,x),rfl,(gs,p,x),rfl,(ent fs o x,ent gs p x),⟨rfl,hs x⟩,hQ⟩
  ·refine Zn0 hgd hn hs xs _ _ (fun q z=>hb q ?_) (fun z=>h ?_)
   ·rw [List.map_cons,e];exact z
   ·rw [List.map_cons,e];exact z
  ·exact hb _ (by rw [List.map_cons,e];rfl)
abbrev ZxU (n:Nat):Spw:=spR (fun (x:Fs×Bool×Fs×Bool) ws _=>ws=[(Kd.row x.1 x.2.1).enc,(Kd.row x.2.2.1 x.2.2.2).enc]∧wg (.row x.1 x.2.1)∧wg (.row x.2.2.1 x.2.2.2)∧(Kd.row x.1 x.2.1).dp≤n+1) fun x=>pW (cl (n+1) (.row x.1 x.2.1) (.row x.2.2.1 x.2.2.2))
theorem Zct (T:Tx K mg base a) {j n:Nat} (hj:2≤j) (hn:n≤90) (D:Df P w K mg base "clash_of_entries" j 2 (Zv6 n)):Df P w K mg base "clash_of_rows" (j+1) 2 (ZxU n):=by
 refine mk0 T.Zcn rfl Zdh Zdf (fun ws G Q E ⟨x,⟨e,_⟩,_⟩=>by rw [e];rfl) (ZhL T (Zcv T) hj (Zci T) (by omega) D (Nat.le_refl _) (Zdw T) (by omega)) fun ws G Q E hC q=>?_
 obtain ⟨⟨fs,o,gs,p⟩,⟨rfl,w1,w2,hd⟩,q⟩:=q
 dsimp only at w1 w2 hd q
 unfold Zey
 show Zax (Ze1 _ _ _) _ (ZaR Q) [some (Kd.row fs o).enc,some (Kd.row gs p).enc,none,none] G
 simp only [Zax,Ze1,ZbX,Zap,Zad,L3.Zab,L3.Zal,List.getElem?_cons_zero,List.getElem?_cons_succ]
 refine ⟨fs,gs,o,p,rfl,ZgP w1,ZgP w2,fun zs r z1 z2 z3 z4=>?_⟩
 have hz:=Zss z1 z2 z3
 simp only [Zah]
 have hs:∀ x m k m' k',ent fs o x=.told m k→ent gs p x=.told m' k'→wg k∧wg k'∧k.dp≤n:=fun x m k m' k' u1 u2=>by
  have h1:=Zg1 u1
  have h2:=Zg1 u2
  have hk:=Za8 (k:=.row fs o) (c:=k) h1
  exact ⟨Zbl w1 h1,Zbl w2 h2,by omega⟩
 have q':Q (pW (ZnK (zs.map fun x=>(x,clE (cl n) (ent fs o x) (ent gs p x))))) G:=by rw [hz];exact q
 refine Zn0 (gd:=fun G'=>G' r=some (.lst (zs.map W.str))) Zah (by omega) hs zs none none (fun u z=>?_) (fun z o2 o3=>?_)
 ·rw [z] at q'
  exact hC _ _ _ (Zbg z4) q'
 ·rw [z] at q'
  exact hC _ _ _ (Zbg z4) q'
abbrev gCK (sp:Spw):GS:=Zax (Zbd 5 (Zap sp (fun _ _ _=>False) (L3.Zab (Zad 3) (L3.Zab (Zad 4) L3.Zal)))) (gIf (gTB (Zaj (Zam (isF true)) (Zad 5) (gC .non))) (ZaE (Zap ZgM (fun _ _ _=>False) (L3.Zab (Zad 2) (L3.Zab (Zad 5) L3.Zal)))) Zas)
theorem Zns {n:Nat} {D:Ew} {G:Hw} {w0 w1:Option W} (hn:n≤100):∀ (xs:List (Str×Kd×Kd)) (o2 o3 o4 o5:Option W),(∀ u∈xs,wg u.2.1∧wg u.2.2∧u.2.1.dp≤n) →
  (∀ q,ZnK (xs.map fun u=>(u.1,cl n u.2.1 u.2.2))=some q→D.rt (pW (some q)) G)→(ZnK (xs.map fun u=>(u.1,cl n u.2.1 u.2.2))=none→∀ o2 o3 o4 o5,D.nx [w0,w1,o2,o3,o4,o5] G) →
  ZdU yes (Zib 2 3 4) (gCK (ZhE n)) D (xs.map fun u=>W.tup [.str u.1,u.2.1.enc,u.2.2.enc]) [w0,w1,o2,o3,o4,o5] G
 | [],o2,o3,o4,o5,_,_,h=>⟨trivial,h rfl o2 o3 o4 o5⟩
 | u::xs,o2,o3,o4,o5,hs,hb,h=>by
  refine ⟨trivial,?_⟩
  show gCK (ZhE n) _ [w0,w1,some (.str u.1),some u.2.1.enc,some u.2.2.enc,o5] G
  obtain ⟨h1,h2,h3⟩:=hs u List.mem_cons_self
  refine Zit (i:=5) (j:=2) (c:=cl n u.2.1 u.2.2) (s:=u.1) rfl (by decide) (by simp) (fun q e=>Nat.le_trans (ZhP n _ _ _ e) hn) (fun Q hQ=>?_) (fun e=>?_) (fun q e=>?_)
  ·simp only [Zap,L3.Zab,L3.Zal,Zad,List.getElem?_cons_zero,List.getElem?_cons_succ]
   exact ⟨(u.2.1,u.2.2),⟨rfl,h1,h2,h3⟩,hQ⟩
  ·refine Zns hn xs _ _ _ _ (fun v hv=>hs v (List.mem_cons_of_mem _ hv)) (fun q z=>hb q ?_) (fun z=>h ?_)
   ·rw [List.map_cons,e];exact z
   ·rw [List.map_cons,e];exact z
  ·exact hb _ (by rw [List.map_cons,e];rfl)
abbrev gCT (sp:Spw):GS:=Zax (Ze1 (Zgy (L3.Zab (Zk7 Zdi (Zaj (Zam ixW) (Zad 0) (gC (.int 0)))) (L3.Zab (Zee (Zad 0) (ZaX (gC (.int 1))) Zav) (L3.Zab (Zee (Zad 1) (ZaX (gC (.int 1))) Zav) L3.Zal)))) (Zib 2 3 4) (gCK sp)) (ZaE (gC .non))
theorem Zq5 {n:Nat} {k l:Kd} {s t:Str} {G:Hw} {Q:Kw} (us:List (Str×Kd×Kd)) (hn:n≤100) (e0:k.enc=.tup (.str s::us.map fun u=>u.2.1.enc)) (e1:l.enc=.tup (.str t::us.map fun u=>u.2.2.enc)) (hT:KTD.datumAt s Zdi=some (us.map (·.1))) (hs:∀ u∈us,wg u.2.1∧wg u.2.2∧u.2.1.dp≤n)
  (he:ZnK (us.map fun u=>(u.1,cl n u.2.1 u.2.2))=cl (n+1) k l) (q:Q (pW (cl (n+1) k l)) G):gCT (ZhE n) (ZaR Q) [some k.enc,some l.enc,none,none,none,none] G:=by
 unfold gCT
 rw [e0,e1]
 simp only [Zax,Ze1,Zgy,Zk7,L3.Zab,L3.Zal,Zaj,Zad,gC,Zam,ixW,List.getElem?_cons_zero,List.getElem?_cons_succ,Zb4,Zae,Zee,ZaX,Zav,slA,Zjr,List.drop_succ_cons,List.drop_zero]
 refine ⟨_,hT,_,_,_,rfl,by simp,by simp,?_⟩
 rw [List.map_map]
 have ez:=Zi6 (fun u:Str×Kd×Kd=>W.str u.1) (fun u=>u.2.1.enc) (fun u=>u.2.2.enc) us
 rw [show ((W.str∘fun x:Str×Kd×Kd=>x.1))=fun u:Str×Kd×Kd=>W.str u.1 from rfl,ez]
 rw [← he] at q
 refine Zns hn us none none none none hs (fun u z=>?_) (fun z o2 o3 o4 o5=>?_)
 ·rw [z] at q
  exact q
 ·rw [z] at q
  exact q
theorem Zo8 {k:Kd} (h:k.hd="any"):k=.any:=by
 cases k <;> first | rfl | exact absurd h (by simp only [Kd.hd];decide)
theorem ZuH {n:Nat} {k l:Kd} (h:k.hd="any"∨l.hd="any"):cl (n+1) k l=none:=by
 rcases h with h | h
 ·rw [Zo8 h];rfl
 ·rw [Zo8 h];cases k <;> rfl
theorem Zw7 {n:Nat} {k l:Kd} (h:k.hd≠l.hd) (hk:k≠.any) (hl:l≠.any):cl (n+1) k l=some []:=by
 cases k <;> cases l <;> first | rfl | exact absurd rfl h | exact absurd rfl hk | exact absurd rfl hl
theorem Zbj (T:Tx K mg base a):∀ n:Nat,n≤80→Df P w K mg base "clash_of" (3*n+2) 2 (ZhE n)
 | 0,_=>ZkT T.ZdH Zdf fun ws G Q E ⟨x,⟨_,_,_,h⟩,_⟩=>by have:=Zgt x.1;omega
 | n+1,hn=>by
  have D:=Zbj T n (by omega)
  have DE:=ZbA T D
  have DR:=Zct T (by omega) (by omega) DE
  refine mk0 (k:=3*n+4) T.ZdH rfl Zf0 Zdf (fun ws G Q E ⟨x,⟨e,_⟩,_⟩=>by rw [e];rfl) (ZmC T DR (Nat.le_refl _) D (by omega) (Zdw T) (by omega)) fun ws G Q E hC q=>?_
  obtain ⟨⟨k,l⟩,⟨rfl,w1,w2,hd⟩,q⟩:=q
  dsimp only at w1 w2 hd q
  unfold Ziv
  show Zax (gIf _ _ Zas) _ (ZaR Q) [some k.enc,some l.enc,none,none,none,none] G
  refine ZiX rfl rfl (Zbq k G) (Zbq l G) ?_
  by_cases ha:k.hd="any"∨l.hd="any"
  ·rw [if_pos ha]
   rw [ZuH ha] at q
   exact q
  ·rw [if_neg ha]
   refine ZgX rfl rfl (Zbq k G) (Zbq l G) ?_
   by_cases hh:k.hd=l.hd
   ·rw [if_pos hh]
    refine Zj5 (k:=k) rfl ?_
    by_cases hr:k.hd="row"
    ·rw [if_pos hr]
     obtain ⟨fs,o,rfl⟩:=Zin hr
     obtain ⟨gs,p,rfl⟩:=Zin (hh▸hr)
     exact ⟨(fs,o,gs,p),⟨rfl,w1,w2,hd⟩,q⟩
    ·rw [if_neg hr]
     cases k <;> cases l <;> first | exact absurd hh (by simp only [Kd.hd];decide) | exact absurd rfl hr | exact absurd (.inl rfl) ha | skip
     ·exact Zq5 (s:="num") (t:="num") [] (by omega) rfl rfl rfl (fun u hu=>by cases hu) rfl q
     ·exact Zq5 (s:="truth") (t:="truth") [] (by omega) rfl rfl rfl (fun u hu=>by cases hu) rfl q
     ·rename_i a1 a2 b1 b2
      have d1:=Za8 (k:=.to a1 a2) (c:=a1) (by simp [Kd.kids])
      have d2:=Za8 (k:=.to a1 a2) (c:=a2) (by simp [Kd.kids])
      refine Zq5 (s:="to") (t:="to") [("in",a1,b1),("out",a2,b2)] (by omega) rfl rfl rfl (fun u hu=>?_) rfl q
      simp only [List.mem_cons,List.not_mem_nil,or_false] at hu
      rcases hu with rfl | rfl
      ·exact ⟨Zbl w1 (by simp [Kd.kids]),Zbl w2 (by simp [Kd.kids]),by dsimp only;omega⟩
      ·exact ⟨Zbl w1 (by simp [Kd.kids]),Zbl w2 (by simp [Kd.kids]),by dsimp only;omega⟩
     ·rename_i a1 b1
      have d1:=Za8 (k:=.box a1) (c:=a1) (by simp [Kd.kids])
      refine Zq5 (s:="box") (t:="box") [("inside",a1,b1)] (by omega) rfl rfl rfl (fun u hu=>?_) rfl q
      simp only [List.mem_cons,List.not_mem_nil,or_false] at hu
      subst hu
      exact ⟨Zbl w1 (by simp [Kd.kids]),Zbl w2 (by simp [Kd.kids]),by dsimp only;omega⟩
   ·rw [if_neg hh]
    rw [Zw7 hh (fun z=>ha (.inl (by rw [z];rfl))) (fun z=>ha (.inr (by rw [z];rfl)))] at q
    exact ⟨by decide,q⟩
set_option Elab.async false
set_option linter.all false
set_option maxRecDepth 100000
section
variable {P:Program} {w:World} {K:PySem.W.Frag} {mg:Str→Option Value} {base:Heap} {a:Adr}
abbrev Zez:List Str:=["one","other","path"]
theorem ZhC:ZaD Zez ["one","other","path"] (Zac Za6):=⟨rfl,rfl,rfl,by decide +kernel,rfl,by decide +kernel,by decide +kernel⟩
def ZeB (ZaM:Spw):GS:=(Zax (gIf (gTB (Zaj (Zam (inF false)) (gC (.str "free")) (Zbc (Zab (Zaj (Zam ixW) (Zad 0) (gC (.int 0))) (Zab (Zaj (Zam ixW) (Zad 1) (gC (.int 0))) Zal))))) (ZaE (gC (.bl false))) Zas) (Zax (gIf (gTB (Zaj (Zam (eqF true)) (Zaj (Zam ixW) (Zad 0) (gC (.int 0))) (Zaj (Zam ixW) (Zad 1) (gC (.int 0))))) (ZaE (Zaj (Zam (eqF false)) (Zad 2) (Zbc Zal))) Zas) (ZaE (Zcl (Zaj (Zam (eqF true)) (Zaj (Zam ixW) (Zad 0) (gC (.int 0))) (gC (.str "none"))) (Zap ZaM (fun _ _ _=>False) (Zab (Zaj (Zam ixW) (Zad 0) (gC (.int 1))) (Zab (Zaj (Zam ixW) (Zad 1) (gC (.int 1))) (Zab (Zad 2) Zal))))))))
theorem ZhB {k:Nat} (T:Tx K mg base a) {Zbk:Nat} {ZaM:Spw} (ZdS:Df P w K mg base "clash_at" Zbk 3 ZaM) (ZdJ:Zbk≤k) {f:Addr} {cdv:Value} {A:Around} {outer:List Env} {s:Shared} {H:Hp} {E:XK} (hr:Room k (A.deeper (envOfC "clash_at_name" (Zac Za6) s.heap.objs.size f cdv))):Ssm (cxW P w K mg base Zez "clash_at_name" (Zac Za6) f cdv A outer s H E).nox (fun B=>B=H) (Zaz Za6) (ZeB ZaM) :=
 have hu:=ZeQ hr
 (Zai (ZaY (ZaB ZjI rfl Zau (ZaO (Zaa rfl (Zay (fun _ _=>rfl) (Zan (i:=0) rfl rfl rfl rfl) Zag) (Zaa rfl (Zay (fun _ _=>rfl) (Zan (i:=1) rfl rfl rfl rfl) Zag) Zaf)))) (Zak (Zat Zeo)) Zaw) (Zai (ZaY (ZaB (ZcC hu) rfl (Zay (fun _ _=>rfl) (Zan (i:=0) rfl rfl rfl rfl) Zag) (Zay (fun _ _=>rfl) (Zan (i:=1) rfl rfl rfl rfl) Zag)) (Zak (Zat (Zdg (Zbn hu) rfl (Zan (i:=2) rfl rfl rfl rfl) (ZaO Zaf)))) Zaw) (Zak (Zat (Zha (Zdg (ZcC hu) rfl (Zay (fun _ _=>rfl) (Zan (i:=0) rfl rfl rfl rfl) Zag) Zau) (Zgq (Zaq ZdS (hr.mono ZdJ) rfl ZaH rfl rfl rfl (Zaa rfl (Zay (fun _ _=>rfl) (Zan (i:=0) rfl rfl rfl rfl) Zag) (Zaa rfl (Zay (fun _ _=>rfl) (Zan (i:=1) rfl rfl rfl rfl) Zag) (Zaa rfl (Zan (i:=2) rfl rfl rfl rfl) Zaf))))))))))
abbrev ZiD:List Str:=["one","other","path","step","left","right"]
theorem Ziq:ZaD ZiD ["one","other","path"] (Zac ZcJ):=⟨rfl,rfl,rfl,by decide +kernel,rfl,by decide +kernel,by decide +kernel⟩
def ZiN (Za9:Spw) (Zb6:Spw) (ZaM:Spw):GS:=(Zax (gIf (gTB (Zaj (Zam (eqF true)) (Zaj (Zam ixW) (Zad 0) (gC (.int 0))) (Zaj (Zam ixW) (Zad 1) (gC (.int 0))))) (ZaE (Zcl (Zaj (Zam (eqF false)) (Zad 2) (Zbc Zal)) (Zaj (Zam (inF true)) (gC (.str "any")) (Zbc (Zab (Zaj (Zam ixW) (Zad 0) (gC (.int 0))) (Zab (Zaj (Zam ixW) (Zad 1) (gC (.int 0))) Zal)))))) Zas) (Zax (gIf (gTB (Zaj (Zam (eqF false)) (Zad 2) (Zbc Zal))) (ZaE (gC (.bl false))) Zas) (Zax (gIf (gTB (Zaj (Zam (eqF false)) (Zaj (Zam ixW) (Zad 0) (gC (.int 0))) (gC (.str "row")))) (ZaE (Zap Zb6 (fun _ _ _=>False) (Zab (Zap Za9 (fun _ _ _=>False) (Zab (Zad 0) (Zab (Zaj (Zam ixW) (Zad 2) (gC (.int 0))) Zal))) (Zab (Zap Za9 (fun _ _ _=>False) (Zab (Zad 1) (Zab (Zaj (Zam ixW) (Zad 2) (gC (.int 0))) Zal))) (Zab (Zee (Zad 2) (ZaX (gC (.int 1))) Zav) Zal))))) Zas) (Zax (Ze1 (Zgy (Zab (Zk7 Zdi (Zaj (Zam ixW) (Zad 0) (gC (.int 0)))) (Zab (Zee (Zad 0) (ZaX (gC (.int 1))) Zav) (Zab (Zee (Zad 1) (ZaX (gC (.int 1))) Zav) Zal)))) (Zib 3 4 5) (gIf (gTB (Zaj (Zam (eqF false)) (Zad 3) (Zaj (Zam ixW) (Zad 2) (gC (.int 0))))) (ZaE (Zap ZaM (fun _ _ _=>False) (Zab (Zad 4) (Zab (Zad 5) (Zab (Zee (Zad 2) (ZaX (gC (.int 1))) Zav) Zal))))) Zas)) (ZaE (gC (.bl false)))))))
theorem ZmQ {k:Nat} (T:Tx K mg base a) {Zci:Nat} {Za9:Spw} (ZdY:Df P w K mg base "entry_of" Zci 2 Za9) (ZdL:Zci≤k) {Zco:Nat} {Zb6:Spw} (ZhM:Df P w K mg base "clash_at_name" Zco 3 Zb6) (Zhb:Zco≤k) {Zbk:Nat} {ZaM:Spw} (ZdS:Df P w K mg base "clash_at" Zbk 3 ZaM) (ZdJ:Zbk≤k) {f:Addr} {cdv:Value} {A:Around} {outer:List Env} {s:Shared} {H:Hp} {E:XK} (hr:Room k (A.deeper (envOfC "clash_at" (Zac ZcJ) s.heap.objs.size f cdv))):Ssm (cxW P w K mg base ZiD "clash_at" (Zac ZcJ) f cdv A outer s H E).nox (fun B=>B=H) (Zaz ZcJ) (ZiN Za9 Zb6 ZaM) :=
 have hu:=ZeQ hr
 (Zai (ZaY (ZaB (ZcC hu) rfl (Zay (fun _ _=>rfl) (Zan (i:=0) rfl rfl rfl rfl) Zag) (Zay (fun _ _=>rfl) (Zan (i:=1) rfl rfl rfl rfl) Zag)) (Zak (Zat (Zha (Zdg (Zbn hu) rfl (Zan (i:=2) rfl rfl rfl rfl) (ZaO Zaf)) (Zgq (Zdg Zon rfl Zau (ZaO (Zaa rfl (Zay (fun _ _=>rfl) (Zan (i:=0) rfl rfl rfl rfl) Zag) (Zaa rfl (Zay (fun _ _=>rfl) (Zan (i:=1) rfl rfl rfl rfl) Zag) Zaf)))))))) Zaw) (Zai (ZaY (ZaB (Zbn hu) rfl (Zan (i:=2) rfl rfl rfl rfl) (ZaO Zaf)) (Zak (Zat Zeo)) Zaw) (Zai (ZaY (ZaB (Zbn hu) rfl (Zay (fun _ _=>rfl) (Zan (i:=0) rfl rfl rfl rfl) Zag) Zau) (Zak (Zat (Zaq ZhM (hr.mono Zhb) rfl ZaH rfl rfl rfl (Zaa rfl (Zaq ZdY (hr.mono ZdL) rfl ZaH rfl rfl rfl (Zaa rfl (Zan (i:=0) rfl rfl rfl rfl) (Zaa rfl (Zay (fun _ _=>rfl) (Zan (i:=2) rfl rfl rfl rfl) Zag) Zaf))) (Zaa rfl (Zaq ZdY (hr.mono ZdL) rfl ZaH rfl rfl rfl (Zaa rfl (Zan (i:=1) rfl rfl rfl rfl) (Zaa rfl (Zay (fun _ _=>rfl) (Zan (i:=2) rfl rfl rfl rfl) Zag) Zaf))) (Zaa rfl (ZdT (Zan (i:=2) rfl rfl rfl rfl) (Zcc Zag) Zb9) Zaf)))))) Zaw) (Zai (ZfP PassesOwn.never rfl (fun _=>rfl) (Zmw T.ZjP rfl rfl rfl (Zaa rfl (ZnQ T.Zlq rfl rfl (fun _ _=>rfl) (Zay (fun _ _=>rfl) (Zan (i:=0) rfl rfl rfl rfl) Zag)) (Zaa rfl (ZdT (Zan (i:=0) rfl rfl rfl rfl) (Zcc Zag) Zb9) (Zaa rfl (ZdT (Zan (i:=1) rfl rfl rfl rfl) (Zcc Zag) Zb9) Zaf)))) (ZgT (i:=3) (j:=4) (k:=5) rfl Ziq.nd rfl (.inl rfl) (.inr rfl) rfl (.inl rfl) (.inr rfl) rfl (.inl rfl) (.inr rfl)) (Zak (ZaY (ZaB (Zbn hu) rfl (Zan (i:=3) rfl rfl rfl rfl) (Zay (fun _ _=>rfl) (Zan (i:=2) rfl rfl rfl rfl) Zag)) (Zak (Zat (Zaq ZdS (hr.mono ZdJ) rfl ZaH rfl rfl rfl (Zaa rfl (Zan (i:=4) rfl rfl rfl rfl) (Zaa rfl (Zan (i:=5) rfl rfl rfl rfl) (Zaa rfl (ZdT (Zan (i:=2) rfl rfl rfl rfl) (Zcc Zag) Zb9) Zaf)))))) Zaw))) (Zak (Zat Zeo))))))
abbrev ZfC:List Str:=["one","other"]
theorem ZiU:ZaD ZfC ["one","other"] (Zac Zbs):=⟨rfl,rfl,rfl,by decide +kernel,rfl,by decide +kernel,by decide +kernel⟩
def ZfO (ZaT:Spw) (ZaL:Spw):GS:=(Zax (Zck (Zap ZaT (fun _ _ _=>False) (Zab (Zad 0) (Zab (Zad 1) Zal)))) (ZaE (Zap ZaL (fun _ _ _=>False) (Zab (Zad 0) (Zab (Zad 1) Zal)))))
theorem Zi4 {k:Nat} (T:Tx K mg base a) {Zbe:Nat} {ZaT:Spw} (Zea:Df P w K mg base "check_kinds" Zbe 2 ZaT) (Zec:Zbe≤k) {Zbj:Nat} {ZaL:Spw} (ZdM:Df P w K mg base "clash_of" Zbj 2 ZaL) (ZdQ:Zbj≤k) {f:Addr} {cdv:Value} {A:Around} {outer:List Env} {s:Shared} {H:Hp} {E:XK} (hr:Room k (A.deeper (envOfC "first_clash" (Zac Zbs) s.heap.objs.size f cdv))):Ssm (cxW P w K mg base ZfC "first_clash" (Zac Zbs) f cdv A outer s H E).nox (fun B=>B=H) (Zaz Zbs) (ZfO ZaT ZaL) :=
 have hu:=ZeQ hr
 (Zai (ZeC rfl (Zaq Zea (hr.mono Zec) rfl ZaH rfl rfl rfl (Zaa rfl (Zan (i:=0) rfl rfl rfl rfl) (Zaa rfl (Zan (i:=1) rfl rfl rfl rfl) Zaf)))) (Zak (Zat (Zaq ZdM (hr.mono ZdQ) rfl ZaH rfl rfl rfl (Zaa rfl (Zan (i:=0) rfl rfl rfl rfl) (Zaa rfl (Zan (i:=1) rfl rfl rfl rfl) Zaf))))))
abbrev Zkm:List Str:=["one","other","path"]
theorem Zn1:ZaD Zkm ["one","other","path"] (Zac Zdd):=⟨rfl,rfl,rfl,by decide +kernel,rfl,by decide +kernel,by decide +kernel⟩
def Zkq (ZaT:Spw) (ZaM:Spw):GS:=(Zax (Zck (Zap ZaT (fun _ _ _=>False) (Zab (Zad 0) (Zab (Zad 1) Zal)))) (ZaE (Zap ZaM (fun _ _ _=>False) (Zab (Zad 0) (Zab (Zad 1) (Zab (Zad 2) Zal))))))
theorem ZnS {k:Nat} (T:Tx K mg base a) {Zbe:Nat} {ZaT:Spw} (Zea:Df P w K mg base "check_kinds" Zbe 2 ZaT) (Zec:Zbe≤k) {Zbk:Nat} {ZaM:Spw} (ZdS:Df P w K mg base "clash_at" Zbk 3 ZaM) (ZdJ:Zbk≤k) {f:Addr} {cdv:Value} {A:Around} {outer:List Env} {s:Shared} {H:Hp} {E:XK} (hr:Room k (A.deeper (envOfC "clashes" (Zac Zdd) s.heap.objs.size f cdv))):Ssm (cxW P w K mg base Zkm "clashes" (Zac Zdd) f cdv A outer s H E).nox (fun B=>B=H) (Zaz Zdd) (Zkq ZaT ZaM) :=
 have hu:=ZeQ hr
 (Zai (ZeC rfl (Zaq Zea (hr.mono Zec) rfl ZaH rfl rfl rfl (Zaa rfl (Zan (i:=0) rfl rfl rfl rfl) (Zaa rfl (Zan (i:=1) rfl rfl rfl rfl) Zaf)))) (Zak (Zat (Zaq ZdS (hr.mono ZdJ) rfl ZaH rfl rfl rfl (Zaa rfl (Zan (i:=0) rfl rfl rfl rfl) (Zaa rfl (Zan (i:=1) rfl rfl rfl rfl) (Zaa rfl (Zan (i:=2) rfl rfl rfl rfl) Zaf)))))))
end
set_option maxHeartbeats 1000000
theorem Zl9:∀ p:List Str,L3.dpL (p.map W.str)=0
 | []=>rfl
 | x::p=>by show max 0 (L3.dpL (p.map W.str))=0;rw [Zl9 p];rfl
theorem Zkc (p:List Str) (G:Hw):eqF false (pW (some p)) (.tup []) G=some (.bl p.isEmpty):=by
 show (eqW (.tup (p.map W.str)) (.tup []) G).map _=_
 have:eqW (.tup (p.map W.str)) (.tup []) G=some p.isEmpty:=by
  show (if L3.dpL (p.map W.str) < 90 then Zg6 (p.map W.str) [] else none)=_
  rw [Zl9,if_pos (by decide)]
  cases p <;> rfl
 rw [this]
 cases p.isEmpty <;> rfl
abbrev Zu1 (n:Nat):Spw:=spR (fun (x:Kd×Kd×List Str) ws _=>ws=[x.1.enc,x.2.1.enc,pW (some x.2.2)]∧wg x.1∧wg x.2.1∧x.1.dp≤n) fun x=>.bl (ca n x.1 x.2.1 x.2.2)
abbrev ZxI (n:Nat):Spw:=spR (fun (x:En×En×List Str) ws _=>ws=[x.1.enc,x.2.1.enc,pW (some x.2.2)]∧∀ m k m' k',x.1=.told m k→x.2.1=.told m' k'→wg k∧wg k'∧k.dp≤n) fun x=>.bl (caE (ca n) x.1 x.2.1 x.2.2)
theorem ZlV {f:Kd→Kd→List Str→Bool} {e e':En} {p:List Str} (hf:e.hd="free"∨e'.hd="free"):caE f e e' p=false:=by
 cases e with
 | free=>rfl
 | nope =>
  cases e' with
  | free=>rfl
  | nope=>rfl
  | told m k=>exact absurd (hf.resolve_left (by decide)) (ZcW m).1
 | told m k =>
  cases e' with
  | free=>rfl
  | nope=>exact absurd (hf.resolve_right (by decide)) (ZcW m).1
  | told m' k'=>exact absurd hf (fun z=>z.elim (ZcW m).1 (ZcW m').1)
theorem ZrK {f:Kd→Kd→List Str→Bool} {e e':En} {p:List Str} (hf:¬ (e.hd="free"∨e'.hd="free")) (z:¬ e.hd=e'.hd):caE f e e' p=p.isEmpty:=by
 cases e with
 | free=>exact absurd (.inl rfl) hf
 | nope =>
  cases e' with
  | free=>exact absurd (.inr rfl) hf
  | nope=>exact absurd rfl z
  | told m k=>rfl
 | told m k =>
  cases e' with
  | free=>exact absurd (.inr rfl) hf
  | nope=>rfl
  | told m' k' =>
   have:m≠m':=fun q=>z (by rw [q];rfl)
   show (if m=m' then f k k' p else p.isEmpty)=_
   rw [if_neg this]
theorem Zje {f:Kd→Kd→List Str→Bool} {m:Bool} {k k':Kd} {p:List Str}:caE f (.told m k) (.told m k') p=f k k' p:=by show (if m=m then f k k' p else p.isEmpty)=_;rw [if_pos rfl]
theorem Zco (T:Tx K mg base a) {j n:Nat} (D:Df P w K mg base "clash_at" j 3 (Zu1 n)):Df P w K mg base "clash_at_name" (j+1) 3 (ZxI n):=by
 refine mk0 T.Zcw rfl ZhC Zdf (fun ws G Q E ⟨x,⟨e,_⟩,_⟩=>by rw [e];rfl) (ZhB T D (Nat.le_refl _)) fun ws G Q E hC q=>?_
 obtain ⟨⟨e,e',p⟩,⟨rfl,h⟩,q⟩:=q
 dsimp only at h q
 unfold ZeB
 show Zax (gIf _ _ Zas) _ (ZaR Q) [some e.enc,some e'.enc,some (pW (some p))] G
 refine ZiX rfl rfl (Ze6 e G) (Ze6 e' G) ?_
 by_cases hf:e.hd="free"∨e'.hd="free"
 ·rw [if_pos hf]
  rw [ZlV hf] at q
  exact q
 ·rw [if_neg hf]
  refine ZgX rfl rfl (Ze6 e G) (Ze6 e' G) ?_
  by_cases z:e.hd=e'.hd
  ·rw [if_pos z]
   rcases Zlk hf z with ⟨rfl,rfl⟩ | ⟨m,k,k',rfl,rfl⟩
   ·simp only [ZaE,Zcl,Zaj,Zam,Zad,gC,En.enc,List.getElem?_cons_zero,List.getElem?_cons_succ,ixW,Zb4,Zae,eqF,eqW,beq_self_eq_true,Option.map_some,bne_self_eq_false,Bool.false_eq_true,if_false,ZaR]
    exact q
   ·obtain ⟨w1,w2,hd⟩:=h m k m k' rfl rfl
    have hm:(Zed m=="none")=false:=by simpa using (ZcW m).2.1
    rw [Zje] at q
    simp only [ZaE,Zcl,Zaj,Zam,Zad,gC,En.enc,List.getElem?_cons_zero,List.getElem?_cons_succ,ixW,Zb4,Zc5,Zae,eqF,eqW,hm,Option.map_some,show (false != true)=true from rfl,if_true,Zap,L3.Zab,L3.Zal,ZaR]
    exact ⟨(k,k',p),⟨rfl,w1,w2,hd⟩,q⟩
  ·rw [if_neg z]
   rw [ZrK hf z] at q
   simp only [Zaj,Zad,L3.Zbc,L3.Zal,Zam,List.getElem?_cons_zero,List.getElem?_cons_succ]
   refine ⟨by decide,?_⟩
   rw [Zkc]
   exact q
def atS (n:Nat) (x:Str) (p:List Str):List (Str×Kd×Kd)→Bool
 | []=>false
 | u::us=>if u.1=x then ca n u.2.1 u.2.2 p else atS n x p us
abbrev gAK (sp:Spw):GS:=gIf (gTB (Zaj (Zam (eqF false)) (Zad 3) (Zaj (Zam ixW) (Zad 2) (gC (.int 0))))) (ZaE (Zap sp (fun _ _ _=>False) (L3.Zab (Zad 4) (L3.Zab (Zad 5) (L3.Zab (Zee (Zad 2) (ZaX (gC (.int 1))) Zav) L3.Zal))))) Zas
theorem ZoY {n:Nat} {D:Ew} {G:Hw} {w0 w1:Option W} {x:Str} {p:List Str}:∀ (xs:List (Str×Kd×Kd)) (o3 o4 o5:Option W),(∀ u∈xs,wg u.2.1∧wg u.2.2∧u.2.1.dp≤n) →
  D.rt (.bl (atS n x p xs)) G→(atS n x p xs=false→∀ o3 o4 o5,D.nx [w0,w1,some (pW (some (x::p))),o3,o4,o5] G) →
  ZdU yes (Zib 3 4 5) (gAK (Zu1 n)) D (xs.map fun u=>W.tup [.str u.1,u.2.1.enc,u.2.2.enc]) [w0,w1,some (pW (some (x::p))),o3,o4,o5] G
 | [],o3,o4,o5,_,_,h=>⟨trivial,h rfl o3 o4 o5⟩
 | u::xs,o3,o4,o5,hs,hb,h=>by
  refine ⟨trivial,?_⟩
  show gAK (Zu1 n) _ [w0,w1,some (pW (some (x::p))),some (.str u.1),some u.2.1.enc,some u.2.2.enc] G
  obtain ⟨h1,h2,h3⟩:=hs u List.mem_cons_self
  simp only [gIf,gTB,Zaj,Zam,Zad,gC,pW,List.map_cons,List.getElem?_cons_zero,List.getElem?_cons_succ,ixW,Zb4,Zae,eqF,eqW,Option.map_some]
  by_cases z:u.1=x
  ·have hz:(u.1==x)=true:=by simp [z]
   simp only [hz,show (true != false)=true from rfl,if_true,ZaE,Zap,L3.Zab,L3.Zal,Zad,Zee,ZaX,Zav,gC,List.getElem?_cons_zero,List.getElem?_cons_succ,slA,Zjr,List.drop_succ_cons,List.drop_zero]
   refine ⟨(u.2.1,u.2.2,p),⟨rfl,h1,h2,h3⟩,?_⟩
   have e:atS n x p (u::xs)=ca n u.2.1 u.2.2 p:=if_pos z
   rw [e] at hb;exact hb
  ·have hz:(u.1==x)=false:=by simpa using z
   have e:atS n x p (u::xs)=atS n x p xs:=if_neg z
   rw [e] at hb h
   simp only [hz,bne_self_eq_false,Bool.false_eq_true,if_false,Zas]
   exact ZoY xs _ _ _ (fun v hv=>hs v (List.mem_cons_of_mem _ hv)) hb h
abbrev gAT (sp:Spw):GS:=Zax (Ze1 (Zgy (L3.Zab (Zk7 Zdi (Zaj (Zam ixW) (Zad 0) (gC (.int 0)))) (L3.Zab (Zee (Zad 0) (ZaX (gC (.int 1))) Zav) (L3.Zab (Zee (Zad 1) (ZaX (gC (.int 1))) Zav) L3.Zal)))) (Zib 3 4 5) (gAK sp)) (ZaE (gC (.bl false)))
theorem Zn6 {n:Nat} {k l:Kd} {s t:Str} {G:Hw} {Q:Kw} {x:Str} {p:List Str} (us:List (Str×Kd×Kd)) (e0:k.enc=.tup (.str s::us.map fun u=>u.2.1.enc)) (e1:l.enc=.tup (.str t::us.map fun u=>u.2.2.enc)) (hT:KTD.datumAt s Zdi=some (us.map (·.1))) (hs:∀ u∈us,wg u.2.1∧wg u.2.2∧u.2.1.dp≤n)
  (q:Q (.bl (atS n x p us)) G):gAT (Zu1 n) (ZaR Q) [some k.enc,some l.enc,some (pW (some (x::p))),none,none,none] G:=by
 unfold gAT
 rw [e0,e1]
 simp only [Zax,Ze1,Zgy,Zk7,L3.Zab,L3.Zal,Zaj,Zad,gC,Zam,ixW,List.getElem?_cons_zero,List.getElem?_cons_succ,Zb4,Zae,Zee,ZaX,Zav,slA,Zjr,List.drop_succ_cons,List.drop_zero]
 refine ⟨_,hT,_,_,_,rfl,by simp,by simp,?_⟩
 rw [List.map_map]
 have ez:=Zi6 (fun u:Str×Kd×Kd=>W.str u.1) (fun u=>u.2.1.enc) (fun u=>u.2.2.enc) us
 rw [show ((W.str∘fun x:Str×Kd×Kd=>x.1))=fun u:Str×Kd×Kd=>W.str u.1 from rfl,ez]
 refine ZoY us none none none hs q (fun z o3 o4 o5=>?_)
 rw [z] at q
 exact q
def caM (n:Nat) (x:Str) (p:List Str):Kd→Kd→Bool
 | .to a b,.to c d=>if "in"=x then ca n a c p else if "out"=x then ca n b d p else false
 | .box a,.box b=>if "inside"=x then ca n a b p else false
 | .row fs o,.row gs q=>caE (ca n) (ent fs o x) (ent gs q x) p
 | _,_=>false
theorem Zki {n:Nat} {k l:Kd} (hh:k.hd=l.hd):ca (n+1) k l []=false:=if_pos hh
theorem Zhy {n:Nat} {k l:Kd} {x:Str} {p:List Str} (hh:k.hd=l.hd):ca (n+1) k l (x::p)=caM n x p k l:=if_pos hh
theorem Zbk (T:Tx K mg base a):∀ n:Nat,Df P w K mg base "clash_at" (2*n+2) 3 (Zu1 n)
 | 0=>ZkT T.ZdI Zdf fun ws G Q E ⟨x,⟨_,_,_,h⟩,_⟩=>by have:=Zgt x.1;omega
 | n+1=>by
  have D:=Zbk T n
  have DE:=Zco T D
  refine mk0 (k:=2*n+3) T.ZdI rfl Ziq Zdf (fun ws G Q E ⟨x,⟨e,_⟩,_⟩=>by rw [e];rfl) (ZmQ T (Zci T) (by omega) DE (Nat.le_refl _) D (by omega)) fun ws G Q E hC q=>?_
  obtain ⟨⟨k,l,p⟩,⟨rfl,w1,w2,hd⟩,q⟩:=q
  dsimp only at w1 w2 hd q
  unfold ZiN
  show Zax (gIf _ _ Zas) _ (ZaR Q) [some k.enc,some l.enc,some (pW (some p)),none,none,none] G
  refine ZgX rfl rfl (Zbq k G) (Zbq l G) ?_
  by_cases hh:k.hd=l.hd
  ·rw [if_pos hh]
   simp only [Zax,gIf,gTB,Zaj,Zad,L3.Zbc,L3.Zal,Zam,List.getElem?_cons_zero,List.getElem?_cons_succ]
   refine ⟨by decide,?_⟩
   rw [Zkc,Zae]
   cases p with
   | nil=>rw [Zki hh] at q;exact q
   | cons x p =>
    rw [Zhy hh] at q
    simp only [List.isEmpty_cons,Bool.false_eq_true,if_false,Zas]
    refine Zj5 (k:=k) rfl ?_
    by_cases hr:k.hd="row"
    ·rw [if_pos hr]
     obtain ⟨fs,o,rfl⟩:=Zin hr
     obtain ⟨gs,p',rfl⟩:=Zin (hh▸hr)
     simp only [Zap,L3.Zab,L3.Zal,Zaj,Zad,gC,Zam,List.getElem?_cons_zero,List.getElem?_cons_succ,pW,List.map_cons,ixW,Zb4,Zae,Zee,ZaX,Zav,slA,Zjr,List.drop_succ_cons,List.drop_zero]
     refine ⟨(fs,o,x),rfl,(gs,p',x),rfl,(ent fs o x,ent gs p' x,p),⟨rfl,fun m k m' k' u1 u2=>?_⟩,q⟩
     have h1:=Zg1 u1
     have h2:=Zg1 u2
     have hk:=Za8 (k:=.row fs o) (c:=k) h1
     exact ⟨Zbl w1 h1,Zbl w2 h2,by omega⟩
    ·rw [if_neg hr]
     cases k <;> cases l <;> first | exact absurd hh (by simp only [Kd.hd];decide) | exact absurd rfl hr | skip
     ·exact Zn6 (s:="any") (t:="any") [] rfl rfl rfl (fun u hu=>by cases hu) q
     ·exact Zn6 (s:="num") (t:="num") [] rfl rfl rfl (fun u hu=>by cases hu) q
     ·exact Zn6 (s:="truth") (t:="truth") [] rfl rfl rfl (fun u hu=>by cases hu) q
     ·rename_i a1 a2 b1 b2
      have d1:=Za8 (k:=.to a1 a2) (c:=a1) (by simp [Kd.kids])
      have d2:=Za8 (k:=.to a1 a2) (c:=a2) (by simp [Kd.kids])
      refine Zn6 (s:="to") (t:="to") [("in",a1,b1),("out",a2,b2)] rfl rfl rfl (fun u hu=>?_) q
      simp only [List.mem_cons,List.not_mem_nil,or_false] at hu
      rcases hu with rfl | rfl
      ·exact ⟨Zbl w1 (by simp [Kd.kids]),Zbl w2 (by simp [Kd.kids]),by dsimp only;omega⟩
      ·exact ⟨Zbl w1 (by simp [Kd.kids]),Zbl w2 (by simp [Kd.kids]),by dsimp only;omega⟩
     ·rename_i a1 b1
      have d1:=Za8 (k:=.box a1) (c:=a1) (by simp [Kd.kids])
      refine Zn6 (s:="box") (t:="box") [("inside",a1,b1)] rfl rfl rfl (fun u hu=>?_) q
      simp only [List.mem_cons,List.not_mem_nil,or_false] at hu
      subst hu
      exact ⟨Zbl w1 (by simp [Kd.kids]),Zbl w2 (by simp [Kd.kids]),by dsimp only;omega⟩
  ·rw [if_neg hh]
   have hca:ca (n+1) k l p=(p.isEmpty&&!(k.hd=="any")&&!(l.hd=="any")):=if_neg hh
   rw [hca] at q
   simp only [Zcl,Zaj,Zad,L3.Zbc,L3.Zab,L3.Zal,gC,Zam,List.getElem?_cons_zero,List.getElem?_cons_succ]
   refine ⟨by decide,?_⟩
   rw [Zkc,Zae]
   cases he:p.isEmpty with
   | false=>rw [he] at q;exact q
   | true =>
    rw [he] at q
    simp only [if_true]
    rw [Zbq,Zae,Zbq,Zae]
    refine ⟨(show 2≤sizeLine by decide),?_⟩
    have ei:inF true (.str "any") (.tup [.str k.hd,.str l.hd]) G=some (.bl (!([k.hd,l.hd].any (·=="any")))):=by
     unfold inF
     show (Zh6 ([k.hd,l.hd].map W.str)).map (fun us=>W.bl (if true=true then !inV (.str "any") us else inV (.str "any") us))=_
     rw [ZdV]
     show some (W.bl (!inV (.str "any") ([k.hd,l.hd].map V.str)))=_
     rw [Zfs]
    rw [ei,Zae]
    have:(!([k.hd,l.hd].any (·=="any")))=(true&&!(k.hd=="any")&&!(l.hd=="any")):=by
     simp only [List.any_cons,List.any_nil,Bool.or_false,Bool.not_or,Bool.true_and]
    rw [this];exact q
def kd8 (k:Kd):Prop:=k.ok=true∧ZkM k=true∧k.thr=true
theorem ZlK {k:Kd} (h:kd8 k):k.dp≤8:=by
 have:=h.2.1
 unfold ZkM at this
 exact (of_decide_eq_true this).2
abbrev Zxf:Spw:=spR (fun (x:Kd×Kd) ws _=>ws=[x.1.enc,x.2.enc]∧kd8 x.1∧kd8 x.2) fun x=>pW (cl 8 x.1 x.2)
theorem Zc2 (T:Tx K mg base a):Df P w K mg base "first_clash" 27 2 Zxf:=by
 refine mk0 T.Zc7 rfl ZiU Zdf (fun ws G Q E ⟨x,⟨e,_⟩,_⟩=>by rw [e];rfl) (Zi4 T (Zbe T) (by omega) (Zbj T 8 (by omega)) (Nat.le_refl _)) fun ws G Q E hC q=>?_
 obtain ⟨⟨k,l⟩,⟨rfl,h1,h2⟩,q⟩:=q
 dsimp only at h1 h2 q
 unfold ZfO
 walk_at "rd"
 exact ⟨(k,l),⟨rfl,⟨h1.1,h1.2.1⟩,⟨h2.1,h2.2.1⟩⟩,(k,l),⟨rfl,⟨h1.1,h1.2.2⟩,⟨h2.1,h2.2.2⟩,ZlK h1⟩,q⟩
abbrev ZwO:Spw:=spR (fun (x:Kd×Kd×List Str) ws _=>ws=[x.1.enc,x.2.1.enc,pW (some x.2.2)]∧kd8 x.1∧kd8 x.2.1) fun x=>.bl (ca 8 x.1 x.2.1 x.2.2)
theorem ZfN (T:Tx K mg base a):Df P w K mg base "clashes" 19 3 ZwO:=by
 refine mk0 T.ZfI rfl Zn1 Zdf (fun ws G Q E ⟨x,⟨e,_⟩,_⟩=>by rw [e];rfl) (ZnS T (Zbe T) (by omega) (Zbk T 8) (by omega)) fun ws G Q E hC q=>?_
 obtain ⟨⟨k,l,p⟩,⟨rfl,h1,h2⟩,q⟩:=q
 dsimp only at h1 h2 q
 unfold Zkq
 walk_at "rd"
 exact ⟨(k,l),⟨rfl,⟨h1.1,h1.2.1⟩,⟨h2.1,h2.2.1⟩⟩,(k,l,p),⟨rfl,⟨h1.1,h1.2.2⟩,⟨h2.1,h2.2.2⟩,ZlK h1⟩,q⟩
theorem ZgB {G:Hw} {p:Addr} {xs:List W} (h:G p=some (.lst xs)):rdL G (.ref p)=some xs:=by unfold rdL;dsimp only;rw [h]
theorem Zlv (k:Kd):∃ b,eqD k.enc (.tup [.str "any"])=some b∧(b=true↔k=.any):=by
 obtain ⟨b,e,i⟩:=plD k.enc Kd.any.enc (Zip k) (Zip .any)
 exact ⟨b,e,i.trans ⟨ZgZ,fun z=>by rw [z]⟩⟩
theorem Zwx {k:Kd} (hd:k.dp≤20):dpW k.enc < 90:=by have:=ZiE k;omega
theorem Zq4 (e:En):eqD e.enc (.tup [.str "free"])=some (e.hd=="free"):=by
 cases e with
 | free=>show some (("free":Str)=="free"&&true)=_;rw [Bool.and_true];rfl
 | nope=>show some (("none":Str)=="free"&&true)=_;rw [Bool.and_true];rfl
 | told m k =>
  show (match some (Zed m=="free"),some false with | some a,some b=>some (a&&b) | _,_=>none)=some (Zed m=="free")
  have:(Zed m=="free")=false:=by cases m <;> decide +kernel
  rw [this];rfl
def Zv7:En→Nat
 | .told _ k=>k.dp
 | _=>1
theorem Zxe {e:En} (h:Zv7 e≤20):dpW e.enc < 90:=by
 cases e with
 | free=>decide
 | nope=>decide
 | told m k =>
  have:=ZiE k
  have h':k.dp≤20:=h
  show max 0 (max (dpW k.enc) 0)+1 < 90
  omega
theorem Zp1 {i j:Nat} {x y:W} {s t:Str} {e:GE} {Zcf:GS} {D:Ew} {ω:Sw} {G:Hw} (h0:ω[i]?=some (some x)) (h1:ω[j]?=some (some y)) (e0:ixW x (.int 0) G=some (.str s)) (e1:ixW y (.int 0) G=some (.str t)) (h:if s=t then Zcf D ω G else e ω G D.rt) :
  Zax (gIf (gTB (Zaj (Zam (eqF true)) (Zaj (Zam ixW) (Zad i) (gC (.int 0))) (Zaj (Zam ixW) (Zad j) (gC (.int 0))))) (ZaE e) Zas) Zcf D ω G:=by
 simp only [Zax,gIf,gTB,Zaj,Zam,Zad,h0,h1,gC,ZaE,Zas]
 rw [e0,Zae,e1,Zae]
 simp only [eqF,eqW,Option.map_some,Zae]
 by_cases z:s=t
 ·rw [if_pos z] at h
  have:(s==t)=true:=by simp [z]
  simp only [this,bne_self_eq_false,Bool.false_eq_true,if_false]
  exact h
 ·rw [if_neg z] at h
  have:(s==t)=false:=by simp [z]
  simp only [this,show (false != true)=true from rfl,if_true]
  exact h
theorem ZoN {k:Kd} {B B' Zcf:GS} {D:Ew} {ω:Sw} {G:Hw} (h1:ω[0]?=some (some k.enc)) (h:if k.hd="row" then B { D with nx:=Zcf D } ω G else B' { D with nx:=Zcf D } ω G) :
  Zax (gIf (gTB (Zaj (Zam (eqF false)) (Zaj (Zam ixW) (Zad 0) (gC (.int 0))) (gC (.str "row")))) B B') Zcf D ω G:=by
 simp only [Zax,gIf,gTB,Zaj,Zam,Zad,h1,gC]
 rw [Zbq]
 simp only [Zae,eqF,eqW,Option.map_some]
 by_cases z:k.hd="row"
 ·rw [if_pos z] at h
  simp only [z,beq_self_eq_true,show (true != false)=true from rfl,if_true]
  exact h
 ·rw [if_neg z] at h
  have:(k.hd=="row")=false:=by simpa using z
  simp only [this,bne_self_eq_false,Bool.false_eq_true,if_false]
  exact h
abbrev ZtJ (n:Nat):Spw:=spR (fun (x:Kd×Kd×List Str) ws _=>ws=[x.1.enc,x.2.1.enc,pW (some x.2.2)]∧wg x.1∧wg x.2.1∧x.1.dp≤n∧x.2.1.dp≤20) fun x=>.bl (ca n x.1 x.2.1 x.2.2)
theorem Zg3 {k:Kd}:k=.any↔k.hd="any":=⟨fun h=>by rw [h];rfl,fun h=>by cases k <;> first | rfl | exact absurd h (by simp only [Kd.hd];decide)⟩
abbrev gTl (sp:Spw):GS:=Zax (gIf (gTB (Zaj (Zam inT) (L3.Zbc (L3.Zab (gC (.str "free")) L3.Zal)) (Zb5 (L3.Zab (Zad 4) (L3.Zab (Zad 5) L3.Zal))))) (ZaE (gC (.bl false))) Zas) (Zax (gIf (gTB (Zaj (Zam (eqF true)) (Zaj (Zam ixW) (Zad 4) (gC (.int 0))) (Zaj (Zam ixW) (Zad 5) (gC (.int 0))))) (ZaE (Zaj (Zam (eqF false)) (gB (rF ZeP) (L3.Zab (Zad 2) L3.Zal)) (gC (.int 1)))) Zas) (ZaE (Zcl (Zaj (Zam (eqF false)) (gB (rF ZeP) (L3.Zab (Zad 4) L3.Zal)) (gC (.int 2))) (Zap sp (fun _ _ _=>False) (L3.Zab (Zaj (Zam ixW) (Zad 4) (gC (.int 1))) (L3.Zab (Zaj (Zam ixW) (Zad 5) (gC (.int 1))) (L3.Zab (Zee (Zad 2) (ZaX (gC (.int 1))) Zav) L3.Zal)))))))
theorem Zr6 (p:List Str) (x:Str):((((x::p).map W.str).length:Int)==1)=p.isEmpty:=by
 cases p with
 | nil=>rfl
 | cons y p =>
  have:(((x::y::p).map W.str).length:Int)≠1:=by simp only [List.length_map,List.length_cons];omega
  simpa using this
theorem Zvl {n:Nat} {e e':En} {x:Str} {p:List Str} {G:Hw} {Q:Kw} {w0 w1 w3 w6:Option W} (hC:Kw.C Q) (d1:Zv7 e≤20) (d2:Zv7 e'≤20) (h:∀ m k m' k',e=.told m k→e'=.told m' k'→wg k∧wg k'∧k.dp≤n∧k'.dp≤20)
  (q:Q (.bl (caE (ca n) e e' p)) G):gTl (ZtJ n) (ZaR Q) [w0,w1,some (pW (some (x::p))),w3,some e.enc,some e'.enc,w6] G:=by
 unfold gTl
 simp only [Zax,gIf,gTB,Zaj,Zam,Zad,gC,L3.Zbc,Zb5,L3.Zab,L3.Zal,List.getElem?_cons_zero,List.getElem?_cons_succ]
 refine ⟨by decide,(show 2≤sizeLine by decide),fun p0 h0=>?_⟩
 have ei:inT (.tup [.str "free"]) (.ref p0) (put G p0 (.lst [e.enc,e'.enc]))=some (.bl ((e.hd=="free")||((e'.hd=="free")||false))):=by
  unfold inT
  rw [ZgB Zah,Option.bind_some]
  simp only [ZqY,Zxe d1,Zxe d2,if_true,Zq4,Option.map_some]
 rw [ei,Zae]
 have q1:=hC _ _ _ (Zbg (o:=.lst [e.enc,e'.enc]) h0) q
 generalize put G p0 (.lst [e.enc,e'.enc])=G1 at q1 ⊢
 by_cases hf:e.hd="free"∨e'.hd="free"
 ·have:((e.hd=="free")||((e'.hd=="free")||false))=true:=by rcases hf with z | z <;> simp [z]
  rw [this]
  rw [ZlV hf] at q1
  exact q1
 ·have:((e.hd=="free")||((e'.hd=="free")||false))=false:=by
   simp only [not_or] at hf
   simp [hf.1,hf.2]
  rw [this]
  simp only [Bool.false_eq_true,if_false,Zas]
  show Zax (gIf (gTB (Zaj (Zam (eqF true)) (Zaj (Zam ixW) (Zad 4) (gC (.int 0))) (Zaj (Zam ixW) (Zad 5) (gC (.int 0))))) (ZaE (Zaj (Zam (eqF false)) (gB (rF ZeP) (L3.Zab (Zad 2) L3.Zal)) (gC (.int 1)))) Zas) (ZaE (Zcl (Zaj (Zam (eqF false)) (gB (rF ZeP) (L3.Zab (Zad 4) L3.Zal)) (gC (.int 2))) (Zap (ZtJ n) (fun _ _ _=>False) (L3.Zab (Zaj (Zam ixW) (Zad 4) (gC (.int 1))) (L3.Zab (Zaj (Zam ixW) (Zad 5) (gC (.int 1))) (L3.Zab (Zee (Zad 2) (ZaX (gC (.int 1))) Zav) L3.Zal)))))) (ZaR Q) [w0,w1,some (pW (some (x::p))),w3,some e.enc,some e'.enc,w6] G1
  refine Zp1 (i:=4) (j:=5) rfl rfl (Ze6 e G1) (Ze6 e' G1) ?_
  by_cases z:e.hd=e'.hd
  ·rw [if_pos z]
   rcases Zlk hf z with ⟨rfl,rfl⟩ | ⟨m,k,k',rfl,rfl⟩
   ·exact q1
   ·obtain ⟨g1,g2,g3,g4⟩:=h m k m k' rfl rfl
    rw [Zje] at q1
    simp only [ZaE,Zcl,Zaj,gB,rF,ZeP,Zam,Zad,gC,En.enc,List.getElem?_cons_zero,List.getElem?_cons_succ,L3.Zab,L3.Zal,Zio,Zae,eqF,eqW,Option.map_some,List.length_cons,List.length_nil,Zap,ixW,Zc5,Zee,ZaX,Zav,pW,List.map_cons,slA,Zjr,List.drop_succ_cons,List.drop_zero]
    exact ⟨(k,k',p),⟨rfl,g1,g2,g3,g4⟩,q1⟩
  ·rw [if_neg z]
   rw [ZrK hf z] at q1
   simp only [Zaj,gB,rF,ZeP,Zam,Zad,gC,List.getElem?_cons_zero,List.getElem?_cons_succ,L3.Zab,L3.Zal,pW,Zio,Zae,eqF,eqW,Option.map_some,Zr6]
   rw [show ((p.isEmpty != false)=p.isEmpty) by cases p.isEmpty <;> rfl]
   exact q1
abbrev gSt:GS:=Zax (Zbd 6 (gMt Zpt ZuE (ZjU (gC (.str "to")) (Zb5 (L3.Zab (gC (.str "in")) (L3.Zab (gC (.str "out")) L3.Zal))) (gC (.str "box")) (Zb5 (L3.Zab (gC (.str "inside")) L3.Zal))) (L3.Zab (Zaj (Zam ixW) (Zad 0) (gC (.int 0))) (L3.Zab (Zb5 L3.Zal) L3.Zal)))) (Zax (gIf (gTB (Zaj (Zam (inF true)) (Zad 3) (Zad 6))) (ZaE (gC (.bl false))) Zas) (Zax (Zbd 4 (L3.Zbc (L3.Zab (gC (.str "must")) (L3.Zab (Zaj (Zam ixW) (Zad 0) (Zaj (ZdF) (gC (.int 1)) (gMt ZdB Zfy (Zad 6) (L3.Zab (Zad 3) L3.Zal)))) L3.Zal)))) (Zbd 5 (L3.Zbc (L3.Zab (gC (.str "must")) (L3.Zab (Zaj (Zam ixW) (Zad 1) (Zaj (ZdF) (gC (.int 1)) (gMt ZdB Zfy (Zad 6) (L3.Zab (Zad 3) L3.Zal)))) L3.Zal))))))
def stp:Kd→List Str
 | .to _ _=>["in","out"]
 | .box _=>["inside"]
 | _=>[]
theorem Zfe:∀ l:List Str,ZfA (l.map W.str)=some l
 | []=>rfl
 | x::l=>by show (ZfA (l.map W.str)).map (x::·)=_;rw [Zfe l];rfl
theorem Zw4 {k l:Kd} {x:Str} {w2:Option W} {D:Ew} {G:Hw} (hr:k.hd≠"row") (hh:k.hd=l.hd)
  (h1:x∉stp k→∀ G',Sub G G'→D.rt (.bl false) G') (h2:∀ (j:Nat) (c d:Kd) G' w6,(stp k)[j]?=some x→k.kids[j]?=some c→l.kids[j]?=some d→Sub G G'→D.nx [some k.enc,some l.enc,w2,some (.str x),some (En.told true c).enc,some (En.told true d).enc,w6] G') :
  gSt D [some k.enc,some l.enc,w2,some (.str x),none,none,none] G:=by
 unfold gSt
 simp only [Zax,Zbd,gMt,ZjU,gC,Zb5,L3.Zab,L3.Zal,Zaj,Zad,Zam,List.getElem?_cons_zero,List.getElem?_cons_succ]
 refine ⟨(show 2≤sizeLine by decide),fun p1 e1=>⟨(show 1≤sizeLine by decide),fun p2 e2=>⟨"to","box",rfl,rfl,by decide +kernel,fun d ed=>⟨⟨_,_,rfl,Zah⟩,?_⟩⟩⟩⟩
 rw [Zbq,Zae]
 refine ⟨(show 0≤sizeLine by decide),fun p4 e4=>⟨d,_,k.hd,.ref p4,rfl,rfl,by rw [Zao (ZaF Zah e4)];exact Zah,?_⟩⟩
 have s1:Sub G (put G p1 (.lst [.str "in",.str "out"])):=Zbg e1
 have f1:put G p1 (.lst [.str "in",.str "out"]) p1=some (.lst [.str "in",.str "out"]):=Zah
 generalize put G p1 (.lst [.str "in",.str "out"])=G1 at *
 have s2:Sub G1 (put G1 p2 (.lst [.str "inside"])):=Zbg e2
 have f2:put G1 p2 (.lst [.str "inside"]) p2=some (.lst [.str "inside"]):=Zah
 generalize put G1 p2 (.lst [.str "inside"])=G2 at *
 have s3:Sub G2 (put G2 d (.dct [((Sum.inr "to":Key),.ref p1),((Sum.inr "box":Key),.ref p2)])):=Zbg ed
 generalize put G2 d (.dct [((Sum.inr "to":Key),.ref p1),((Sum.inr "box":Key),.ref p2)])=G3 at *
 have s4:Sub G3 (put G3 p4 (.lst [])):=Zbg e4
 have f4:put G3 p4 (.lst []) p4=some (.lst []):=Zah
 generalize put G3 p4 (.lst [])=G4 at *
 have S:=((s1.trans s2).trans s3).trans s4
 have F1:=s4 _ _ (s3 _ _ (s2 _ _ f1))
 have F2:=s4 _ _ (s3 _ _ f2)
 have key:∃ r,Zpu [((Sum.inr "to":Key),W.ref p1),((Sum.inr "box":Key),W.ref p2)] k.hd (.ref p4)=.ref r∧G4 r=some (.lst ((stp k).map W.str)):=by
  cases k with
  | any=>exact ⟨p4,rfl,f4⟩
  | num=>exact ⟨p4,rfl,f4⟩
  | truth=>exact ⟨p4,rfl,f4⟩
  | to c d=>exact ⟨p1,rfl,F1⟩
  | box c=>exact ⟨p2,rfl,F2⟩
  | row fs o=>exact absurd rfl hr
 obtain ⟨r,er,fr⟩:=key
 rw [er]
 simp only [List.set_cons_zero,List.set_cons_succ,gIf,gTB,Zaj,Zam,Zad,List.getElem?_cons_zero,List.getElem?_cons_succ]
 have ei:inF true (.str x) (.ref r) G4=some (.bl (!((stp k).any (·==x)))):=by
  unfold inF
  show (some (V.str x)).bind (fun v=>(Zh5 G4 (.ref r)).bind fun xs=>(Zh6 xs).map fun us=>W.bl (if true=true then !inV v us else inV v us))=_
  rw [Option.bind_some,show Zh5 G4 (.ref r)=some ((stp k).map W.str) by show (match G4 r with | some (.lst xs)=>some xs | _=>none)=_;rw [fr],Option.bind_some,ZdV]
  show some (W.bl (!inV (.str x) ((stp k).map V.str)))=_
  rw [Zfs]
 rw [ei,Zae]
 by_cases hx:x∈stp k
 ·have:(stp k).any (·==x)=true:=List.any_eq_true.mpr ⟨x,hx,by simp⟩
  rw [this]
  simp only [Bool.not_true,Bool.false_eq_true,if_false,Zas]
  have fin:∀ (j:Nat) (c d:Kd),(stp k)[j]?=some x→(∀ m,m < j→(stp k)[m]?≠some x)→k.kids[j]?=some c→l.kids[j]?=some d→ixW k.enc (.int (1+(j:Int))) G4=some c.enc→ixW l.enc (.int (1+(j:Int))) G4=some d.enc →
    Zax (Zbd 4 (L3.Zbc (L3.Zab (gC (.str "must")) (L3.Zab (Zaj (Zam ixW) (Zad 0) (Zaj (ZdF) (gC (.int 1)) (gMt ZdB Zfy (Zad 6) (L3.Zab (Zad 3) L3.Zal)))) L3.Zal)))) (Zbd 5 (L3.Zbc (L3.Zab (gC (.str "must")) (L3.Zab (Zaj (Zam ixW) (Zad 1) (Zaj (ZdF) (gC (.int 1)) (gMt ZdB Zfy (Zad 6) (L3.Zab (Zad 3) L3.Zal)))) L3.Zal)))) D [some k.enc,some l.enc,w2,some (.str x),none,none,some (.ref r)] G4:=by
   intro j c d hj hm hc hd i1 i2
   simp only [Zax,Zbd,L3.Zbc,L3.Zab,L3.Zal,gC,Zaj,Zad,Zam,gMt,List.getElem?_cons_zero,List.getElem?_cons_succ]
   refine ⟨⟨_,ZdE fr⟩,_,_,x,j,ZgB fr,Zfe (stp k),rfl,hj,hm,?_⟩
   show opt (ixW k.enc (.int (1+(j:Int))) G4) _
   rw [i1,Zae]
   refine ⟨(show 2≤sizeLine by decide),?_⟩
   simp only [List.set_cons_zero,List.set_cons_succ,List.getElem?_cons_zero,List.getElem?_cons_succ]
   refine ⟨⟨_,ZdE fr⟩,_,_,x,j,ZgB fr,Zfe (stp k),rfl,hj,hm,?_⟩
   show opt (ixW l.enc (.int (1+(j:Int))) G4) _
   rw [i2,Zae]
   exact ⟨(show 2≤sizeLine by decide),h2 j c d G4 _ hj hc hd S⟩
  cases k with
  | any=>cases hx
  | num=>cases hx
  | truth=>cases hx
  | row fs o=>exact absurd rfl hr
  | to c1 c2 =>
   cases l <;> first | exact absurd hh (by simp only [Kd.hd];decide) | skip
   rename_i d1 d2
   simp only [stp,List.mem_cons,List.not_mem_nil,or_false] at hx
   rcases hx with rfl | rfl
   ·exact fin 0 c1 d1 rfl (fun m hm=>absurd hm (Nat.not_lt_zero m)) rfl rfl rfl rfl
   ·refine fin 1 c2 d2 rfl (fun m hm=>?_) rfl rfl rfl rfl
    obtain rfl:m=0:=by omega
    intro z
    exact absurd (Option.some.inj z) (by decide +kernel)
  | box c1 =>
   cases l <;> first | exact absurd hh (by simp only [Kd.hd];decide) | skip
   rename_i d1
   simp only [stp,List.mem_cons,List.not_mem_nil,or_false] at hx
   subst hx
   exact fin 0 c1 d1 rfl (fun m hm=>absurd hm (Nat.not_lt_zero m)) rfl rfl rfl rfl
 ·have:(stp k).any (·==x)=false:=by
   rw [Bool.eq_false_iff]
   intro z
   obtain ⟨y,hy,e⟩:=List.any_eq_true.mp z
   rw [eq_of_beq e] at hy
   exact hx hy
  rw [this]
  exact h1 hx G4 S
theorem ZvS {n:Nat} {x:Str} {p:List Str} {k l:Kd} (hr:k.hd≠"row") (h:x∉stp k):caM n x p k l=false:=by
 cases k with
 | any=>cases l <;> rfl
 | num=>cases l <;> rfl
 | truth=>cases l <;> rfl
 | row fs o=>exact absurd rfl hr
 | to a b =>
  simp only [stp,List.mem_cons,List.not_mem_nil,or_false,not_or] at h
  cases l <;> first | rfl | skip
  rename_i c d
  show (if "in"=x then ca n a c p else if "out"=x then ca n b d p else false)=false
  rw [if_neg (fun z=>h.1 z.symm),if_neg (fun z=>h.2 z.symm)]
 | box a =>
  simp only [stp,List.mem_cons,List.not_mem_nil,or_false] at h
  cases l <;> first | rfl | skip
  rename_i c
  show (if "inside"=x then ca n a c p else false)=false
  rw [if_neg (fun z=>h z.symm)]
theorem ZuC {n:Nat} {x:Str} {p:List Str} {k l c d:Kd} {j:Nat} (hh:k.hd=l.hd) (hj:(stp k)[j]?=some x) (hc:k.kids[j]?=some c) (hd:l.kids[j]?=some d):caM n x p k l=caE (ca n) (.told true c) (.told true d) p:=by
 rw [Zje]
 have ne:("in":Str)≠"out":=by decide +kernel
 cases k with
 | any=>simp [stp] at hj
 | num=>simp [stp] at hj
 | truth=>simp [stp] at hj
 | row fs o=>simp [stp] at hj
 | to a b =>
  cases l <;> first | exact absurd hh (by simp only [Kd.hd];decide) | skip
  rename_i a' b'
  show (if "in"=x then ca n a a' p else if "out"=x then ca n b b' p else false)=_
  match j with
  | 0=>cases hj;cases hc;cases hd;rw [if_pos rfl]
  | 1=>cases hj;cases hc;cases hd;rw [if_neg ne,if_pos rfl]
  | j+2=>cases hj
 | box a =>
  cases l <;> first | exact absurd hh (by simp only [Kd.hd];decide) | skip
  rename_i a'
  show (if "inside"=x then ca n a a' p else false)=_
  match j with
  | 0=>cases hj;cases hc;cases hd;rw [if_pos rfl]
  | j+1=>cases hj
theorem Ztj {xs ys:List W} (h:L3.dpL xs < 90) (G:Hw):eqW (.tup xs) (.tup ys) G=eqD (.tup xs) (.tup ys):=by
 show (if L3.dpL xs < 90 then Zg6 xs ys else none)=_
 rw [if_pos h,eqD]
theorem ZsL {k:Kd} (hd:k.dp≤20) (G:Hw):eqF false k.enc (.tup [.str "any"]) G=some (.bl (k.hd=="any")):=by
 obtain ⟨b,eb,ib⟩:=Zlv k
 have e:eqW k.enc (.tup [.str "any"]) G=some b:=by
  have h:=Zwx hd
  rw [← eb]
  obtain ⟨xs,hx⟩:∃ xs,k.enc=.tup xs:=by cases k <;> exact ⟨_,rfl⟩
  rw [hx] at h ⊢
  have h':L3.dpL xs+1 < 90:=h
  exact Ztj (by omega) G
 unfold eqF
 rw [e]
 have:b=(k.hd=="any"):=by
  cases b with
  | true=>rw [(Zg3.mp (ib.mp rfl))];rfl
  | false =>
   symm
   rw [beq_eq_false_iff_ne]
   intro z
   cases ib.mpr (Zg3.mpr z)
 rw [this]
 cases (k.hd=="any") <;> rfl
theorem ZlT {fs:Fs} {o:Bool} {x:Str} (h:(Kd.row fs o).dp≤20):Zv7 (ent fs o x)≤20:=by
 cases e:ent fs o x with
 | free=>show 1≤20;decide
 | nope=>show 1≤20;decide
 | told m k =>
  have h1:=Za8 (k:=.row fs o) (c:=k) (Zg1 e)
  show k.dp≤20
  omega
theorem Zbo (T:Tx K mg base a):∀ n:Nat,n≤20→Df P w K mg base "_law_there" (n+2) 3 (ZtJ n)
 | 0,_=>ZkT T.ZcU Zdf fun ws G Q E ⟨x,⟨_,_,_,h,_⟩,_⟩=>by have:=Zgt x.1;omega
 | n+1,hn=>by
  have D:=Zbo T n (by omega)
  refine mk0 (k:=n+2) T.ZcU rfl ZbO Zdf (fun ws G Q E ⟨x,⟨e,_⟩,_⟩=>by rw [e];rfl) (Zkd T (ZcS T) (by omega) D (Nat.le_refl _)) fun ws G Q E hC q=>?_
  obtain ⟨⟨k,l,p⟩,⟨rfl,w1,w2,hd,hd2⟩,q⟩:=q
  dsimp only at w1 w2 hd hd2 q
  have hk20:k.dp≤20:=by omega
  unfold ZgA
  show Zax (gIf (gTB (Zaj (Zam (eqF false)) (Zad 2) (L3.Zbc L3.Zal))) _ Zas) _ (ZaR Q) [some k.enc,some l.enc,some (pW (some p)),none,none,none,none] G
  simp only [Zax,gIf,gTB,Zaj,Zad,L3.Zbc,L3.Zal,Zam,List.getElem?_cons_zero,List.getElem?_cons_succ]
  refine ⟨by decide,?_⟩
  rw [Zkc,Zae]
  cases p with
  | nil =>
   simp only [List.isEmpty_nil,if_true,ZaE,Zcl,Zaj,Zad,gC,Zb5,L3.Zbc,L3.Zab,L3.Zal,Zam,List.getElem?_cons_zero,List.getElem?_cons_succ]
   refine ⟨by decide,(show 2≤sizeLine by decide),fun p0 h0=>?_⟩
   obtain ⟨b,eb,ib⟩:=Zlv k
   obtain ⟨c,ec,ic⟩:=Zlv l
   have ei:ZvL (.tup [.str "any"]) (.ref p0) (put G p0 (.lst [k.enc,l.enc]))=some (.bl (!(b||(c||false)))):=by
    unfold ZvL
    rw [ZgB Zah,Option.bind_some]
    simp only [ZqY,Zwx hk20,Zwx hd2,if_true,eb,ec,Option.map_some]
   rw [ei,Zae]
   have q1:=hC _ _ _ (Zbg (o:=.lst [k.enc,l.enc]) h0) q
   generalize put G p0 (.lst [k.enc,l.enc])=G1 at q1 ⊢
   by_cases hb:b=true∨c=true
   ·have e1:(!(b||(c||false)))=false:=by rcases hb with z | z <;> simp [z]
    rw [e1]
    have e2:ca (n+1) k l []=false:=by
     by_cases hh:k.hd=l.hd
     ·exact Zki hh
     ·unfold ca
      rw [if_neg hh]
      rcases hb with z | z
      ·rw [Zg3.mp (ib.mp z)];rfl
      ·rw [Zg3.mp (ic.mp z)];simp
    rw [e2] at q1
    exact q1
   ·simp only [not_or,Bool.not_eq_true] at hb
    rw [hb.1,hb.2]
    simp only [Bool.or_false,Bool.not_false,if_true]
    rw [Zbq,Zae,Zbq,Zae]
    have k1:k.hd≠"any":=fun z=>by have:=ib.mpr (Zg3.mpr z);rw [hb.1] at this;cases this
    have l1:l.hd≠"any":=fun z=>by have:=ic.mpr (Zg3.mpr z);rw [hb.2] at this;cases this
    simp only [eqF,eqW,Option.map_some,Zae]
    by_cases hh:k.hd=l.hd
    ·rw [Zki hh] at q1
     rw [show (k.hd==l.hd)=true by simp [hh]]
     exact q1
    ·rw [ZwX hh k1 l1] at q1
     rw [show (k.hd==l.hd)=false by simp [hh]]
     exact q1
  | cons x p =>
   simp only [List.isEmpty_cons,Bool.false_eq_true,if_false,Zas,gOr,gC,L3.Zbc,L3.Zab,L3.Zal,Zaj,Zad,ZaE,Zam,List.getElem?_cons_zero,List.getElem?_cons_succ]
   refine ⟨by decide,?_⟩
   show opt (eqF false k.enc (.tup [.str "any"]) G) _
   rw [ZsL hk20,Zae]
   by_cases ha:k.hd="any"
   ·rw [show (k.hd=="any")=true by simp [ha]]
    have e2:ca (n+1) k l (x::p)=false:=by
     by_cases hh:k.hd=l.hd
     ·rw [Zhy hh]
      obtain rfl:=Zg3.mpr ha
      cases l <;> rfl
     ·unfold ca;rw [if_neg hh];rfl
    rw [e2] at q
    exact q
   ·rw [show (k.hd=="any")=false by simp [ha]]
    simp only [Bool.false_eq_true,if_false,gTB,Zaj,Zam,Zad,gC,List.getElem?_cons_zero,List.getElem?_cons_succ]
    rw [Zbq,Zae,Zbq,Zae]
    simp only [eqF,eqW,Option.map_some,Zae]
    by_cases hh:k.hd=l.hd
    ·rw [show (k.hd==l.hd)=true by simp [hh]]
     rw [Zhy hh] at q
     simp only [bne_self_eq_false,Bool.false_eq_true,if_false]
     show opt (ixW (pW (some (x::p))) (.int 0) G) _
     rw [show ixW (pW (some (x::p))) (.int 0) G=some (.str x) from Zb4,Zae]
     show Zax (gIf (gTB (Zaj (Zam (eqF false)) (Zaj (Zam ixW) (Zad 0) (gC (.int 0))) (gC (.str "row")))) (Zax (Zbd 4 (Zaj (Zam ixW) (Zap Zph (fun _ _ _=>False) (L3.Zab (Zad 0) (L3.Zab (Zb5 (L3.Zab (Zad 3) L3.Zal)) L3.Zal))) (gC (.int 0)))) (Zbd 5 (Zaj (Zam ixW) (Zap Zph (fun _ _ _=>False) (L3.Zab (Zad 1) (L3.Zab (Zb5 (L3.Zab (Zad 3) L3.Zal)) L3.Zal))) (gC (.int 0))))) gSt) (gTl (ZtJ n)) (ZaR Q) [some k.enc,some l.enc,some (pW (some (x::p))),some (.str x),none,none,none] G
     refine ZoN rfl ?_
     by_cases hr:k.hd="row"
     ·rw [if_pos hr]
      obtain ⟨fs,o,rfl⟩:=Zin hr
      obtain ⟨gs,o',rfl⟩:=Zin (hh▸hr)
      simp only [Zax,Zbd,Zaj,Zap,Zad,gC,Zb5,L3.Zab,L3.Zal,Zam,List.getElem?_cons_zero,List.getElem?_cons_succ]
      have nd:∀ {fs:Fs} {o:Bool},wg (.row fs o)→fs.names.Nodup:=fun h=>(Zj2 h.1).1.imp fun z e=>by subst e;rw [Zg5] at z;cases z
      refine ⟨(show 1≤sizeLine by decide),fun p1 e1=>⟨(fs,o,p1,[x]),⟨rfl,Zah,nd w1,ZgP w1,(show 1≤100 by decide)⟩,fun p2 e2=>?_⟩⟩
      have s1:=ZcP (Zbg (o:=.lst [W.str x]) e1) (o:=.lst ([x].map fun z=>(ent fs o z).enc)) e2
      have f1:ixW (.ref p2) (.int 0) (put (put G p1 (.lst [W.str x])) p2 (.lst ([x].map fun z=>(ent fs o z).enc)))=some (ent fs o x).enc:=by
       show (match put (put G p1 (.lst [W.str x])) p2 (.lst ([x].map fun z=>(ent fs o z).enc)) p2 with | some (.lst xs)=>atI xs 0 | _=>none)=_
       rw [Zah];rfl
      show opt (ixW (.ref p2) (.int 0) (put (put G p1 (.lst [W.str x])) p2 (.lst ([x].map fun z=>(ent fs o z).enc)))) _
      rw [f1,Zae]
      generalize put (put G p1 (.lst [W.str x])) p2 (.lst ([x].map fun z=>(ent fs o z).enc))=G1 at s1 ⊢
      simp only [List.set_cons_zero,List.set_cons_succ,List.getElem?_cons_zero,List.getElem?_cons_succ]
      refine ⟨(show 1≤sizeLine by decide),fun p3 e3=>⟨(gs,o',p3,[x]),⟨rfl,Zah,nd w2,ZgP w2,(show 1≤100 by decide)⟩,fun p4 e4=>?_⟩⟩
      have s2:=s1.trans (ZcP (Zbg (o:=.lst [W.str x]) e3) (o:=.lst ([x].map fun z=>(ent gs o' z).enc)) e4)
      have f2:ixW (.ref p4) (.int 0) (put (put G1 p3 (.lst [W.str x])) p4 (.lst ([x].map fun z=>(ent gs o' z).enc)))=some (ent gs o' x).enc:=by
       show (match put (put G1 p3 (.lst [W.str x])) p4 (.lst ([x].map fun z=>(ent gs o' z).enc)) p4 with | some (.lst xs)=>atI xs 0 | _=>none)=_
       rw [Zah];rfl
      show opt (ixW (.ref p4) (.int 0) (put (put G1 p3 (.lst [W.str x])) p4 (.lst ([x].map fun z=>(ent gs o' z).enc)))) _
      rw [f2,Zae]
      generalize put (put G1 p3 (.lst [W.str x])) p4 (.lst ([x].map fun z=>(ent gs o' z).enc))=G2 at s2 ⊢
      show gTl (ZtJ n) (ZaR Q) [some (Kd.row fs o).enc,some (Kd.row gs o').enc,some (pW (some (x::p))),some (.str x),some (ent fs o x).enc,some (ent gs o' x).enc,none] G2
      refine Zvl hC (ZlT hk20) (ZlT hd2) (fun m c m' d u1 u2=>?_) (hC _ _ _ s2 q)
      have h1:=Zg1 u1
      have h2:=Zg1 u2
      have c1:=Za8 (k:=.row fs o) (c:=c) h1
      have c2:=Za8 (k:=.row gs o') (c:=d) h2
      exact ⟨Zbl w1 h1,Zbl w2 h2,by omega,by omega⟩
     ·rw [if_neg hr]
      refine Zw4 hr hh (fun hx G' s=>?_) (fun j c d G' w6 hj hc hd' s=>?_)
      ·rw [ZvS hr hx] at q
       exact hC _ _ _ s q
      ·rw [ZuC hh hj hc hd'] at q
       have m1:=List.mem_of_getElem? hc
       have m2:=List.mem_of_getElem? hd'
       have c1:=Za8 m1
       have c2:=Za8 m2
       refine Zvl hC (show c.dp≤20 by omega) (show d.dp≤20 by omega) (fun m c' m' d' u1 u2=>?_) (hC _ _ _ s q)
       cases u1;cases u2
       exact ⟨Zbl w1 m1,Zbl w2 m2,by omega,by omega⟩
    ·rw [show (k.hd==l.hd)=false by simp [hh]]
     have e2:ca (n+1) k l (x::p)=false:=by unfold ca;rw [if_neg hh];rfl
     rw [e2] at q
     exact q
set_option Elab.async false
set_option linter.all false
set_option maxRecDepth 100000
set_option maxHeartbeats 1000000
theorem Zrq:∀ {fs:Fs} {n:Nat},fs.dp≤n→∀ x∈fs.toL,x.2.2.dp≤n
 | .nil,_,_,x,hx=>by cases hx
 | .cons n m k r,j,h,x,hx=>by
  have h':max k.dp r.dp≤j:=h
  rcases List.mem_cons.mp hx with rfl | hx
  ·show k.dp≤j;omega
  ·exact Zrq (n:=j) (by omega) x hx
theorem Zoq:∀ {fs:Fs},∀ x∈fs.toL,x.2.2.cnt≤fs.cnt
 | .nil,x,hx=>by cases hx
 | .cons n m k r,x,hx=>by
  show x.2.2.cnt≤k.cnt+r.cnt
  rcases List.mem_cons.mp hx with rfl | hx
  ·show k.cnt≤_;omega
  ·have:=Zoq x hx;omega
theorem ZnI:∀ fs:Fs,fs.toL.length≤fs.cnt
 | .nil=>Nat.le_refl _
 | .cons n m k r=>by
  show r.toL.length+1≤k.cnt+r.cnt
  have:=ZnI r
  have:=ZnR k
  omega
theorem ZhA {G:Hw} {p:Addr} {xs:List W} (h:G p=some (.lst xs)):Zgx [.ref p] G=some (.tup xs):=by
 unfold Zgx;dsimp only;rw [Zgi h];rfl
mutual
def Kd.ren (f:Str→Str):Kd→Kd
 | .to x y=>.to (x.ren f) (y.ren f)
 | .box x=>.box (x.ren f)
 | .row fs o=>.row (fs.ren f) o
 | k=>k
def Fs.ren (f:Str→Str):Fs→Fs
 | .nil=>.nil
 | .cons n m k r=>.cons (f n) m (k.ren f) (r.ren f)
end
def nm3 (x y z n:Str):Str:=if n="a" then x else if n="b" then y else z
structure ZmD (x y z:Str):Prop where
 o1:ZcB x=true
 o2:ZcB y=true
 o3:ZcB z=true
 xy:ZaP x y=true
 yz:ZaP y z=true
 xz:ZaP x z=true
mutual
theorem ZhQ (f:Str→Str):∀ k:Kd,(k.ren f).cnt=k.cnt
 | .any=>rfl
 | .num=>rfl
 | .truth=>rfl
 | .to x y=>by show 1+((x.ren f).cnt+(y.ren f).cnt)=1+(x.cnt+y.cnt);rw [ZhQ f x,ZhQ f y]
 | .box x=>by show 1+(x.ren f).cnt=1+x.cnt;rw [ZhQ f x]
 | .row fs o=>by show 1+(fs.ren f).cnt=1+fs.cnt;rw [Zl8 f fs]
theorem Zl8 (f:Str→Str):∀ fs:Fs,(fs.ren f).cnt=fs.cnt
 | .nil=>rfl
 | .cons n m k r=>by show (k.ren f).cnt+(r.ren f).cnt=k.cnt+r.cnt;rw [ZhQ f k,Zl8 f r]
end
mutual
theorem Zj9 (f:Str→Str):∀ k:Kd,(k.ren f).dp=k.dp
 | .any=>rfl
 | .num=>rfl
 | .truth=>rfl
 | .to x y=>by show 1+max (x.ren f).dp (y.ren f).dp=1+max x.dp y.dp;rw [Zj9 f x,Zj9 f y]
 | .box x=>by show 1+(x.ren f).dp=1+x.dp;rw [Zj9 f x]
 | .row fs o=>by show 1+(fs.ren f).dp=1+fs.dp;rw [Zpg f fs]
theorem Zpg (f:Str→Str):∀ fs:Fs,(fs.ren f).dp=fs.dp
 | .nil=>rfl
 | .cons n m k r=>by show max (k.ren f).dp (r.ren f).dp=max k.dp r.dp;rw [Zj9 f k,Zpg f r]
end
theorem ZqO {x y z:Str} (g:ZmD x y z):∀ n∈abc,∀ m∈abc,ZaP n m=true→ZaP (nm3 x y z n) (nm3 x y z m)=true:=by
 have f1:ZaP ("a":Str) "a"=false:=by decide +kernel
 have f2:ZaP ("b":Str) "b"=false:=by decide +kernel
 have f3:ZaP ("cc":Str) "cc"=false:=by decide +kernel
 have f4:ZaP ("b":Str) "a"=false:=by decide +kernel
 have f5:ZaP ("cc":Str) "a"=false:=by decide +kernel
 have f6:ZaP ("cc":Str) "b"=false:=by decide +kernel
 have a1:nm3 x y z "a"=x:=if_pos rfl
 have n1:¬ (("b":Str)="a"):=by decide +kernel
 have n2:¬ (("cc":Str)="a"):=by decide +kernel
 have n3:¬ (("cc":Str)="b"):=by decide +kernel
 have a2:nm3 x y z "b"=y:=by unfold nm3;rw [if_neg n1,if_pos rfl]
 have a3:nm3 x y z "cc"=z:=by unfold nm3;rw [if_neg n2,if_neg n3]
 intro n hn m hm h
 simp only [abc,List.mem_cons,List.not_mem_nil,or_false] at hn hm
 rcases hn with rfl | rfl | rfl <;> rcases hm with rfl | rfl | rfl <;> simp only [a1,a2,a3] <;> first | exact g.xy | exact g.yz | exact g.xz | (rw [f1] at h;cases h) | (rw [f2] at h;cases h) | (rw [f3] at h;cases h) | (rw [f4] at h;cases h) | (rw [f5] at h;cases h) | (rw [f6] at h;cases h)
theorem ZvF {x y z:Str} (g:ZmD x y z) (n:Str):ZcB (nm3 x y z n)=true:=by
 unfold nm3
 split
 ·exact g.o1
 ·split
  ·exact g.o2
  ·exact g.o3
theorem Zml {f:Str→Str} (hf:∀ n∈abc,∀ m∈abc,ZaP n m=true→ZaP (f n) (f m)=true):∀ {ns:List Str},(∀ n∈ns,n∈abc)→ZhU ns=true→ZhU (ns.map f)=true
 | [],_,_=>rfl
 | [_],_,_=>rfl
 | n::m::r,h,hr=>by
  have hr':(ZaP n m&&ZhU (m::r))=true:=hr
  simp only [Bool.and_eq_true] at hr'
  show (ZaP (f n) (f m)&&ZhU ((m::r).map f))=true
  rw [hf n (h n List.mem_cons_self) m (h m (List.mem_cons_of_mem _ List.mem_cons_self)) hr'.1,Zml hf (fun k hk=>h k (List.mem_cons_of_mem _ hk)) hr'.2];rfl
theorem Zhs (f:Str→Str):∀ fs:Fs,(fs.ren f).names=fs.names.map f
 | .nil=>rfl
 | .cons n m k r=>by show f n::(r.ren f).names=f n::r.names.map f;rw [Zhs f r]
theorem Zkh:∀ {fs:Fs},fs.abc=true→∀ n∈fs.names,n∈abc
 | .nil,_,n,hn=>by cases hn
 | .cons n0 m k r,h,n,hn=>by
  have h':(abc.contains n0&&k.abc&&r.abc)=true:=h
  simp only [Bool.and_eq_true] at h'
  rcases List.mem_cons.mp hn with rfl | hn
  ·exact List.contains_iff_mem.mp h'.1.1
  ·exact Zkh h'.2 n hn
mutual
theorem Zke {x y z:Str} (g:ZmD x y z):∀ {k:Kd},k.ok=true→k.abc=true→(k.ren (nm3 x y z)).ok=true
 | .any,_,_=>rfl
 | .num,_,_=>rfl
 | .truth,_,_=>rfl
 | .to c d,h,h2=>by
  have h':(c.ok&&d.ok)=true:=h
  have h2':(c.abc&&d.abc)=true:=h2
  simp only [Bool.and_eq_true] at h' h2'
  show ((c.ren _).ok&&(d.ren _).ok)=true
  rw [Zke g h'.1 h2'.1,Zke g h'.2 h2'.2];rfl
 | .box c,h,h2=>Zke (k:=c) g h h2
 | .row fs o,h,h2=>by
  have h':(ZhU fs.names&&fs.ok)=true:=h
  simp only [Bool.and_eq_true] at h'
  show (ZhU (fs.ren _).names&&(fs.ren _).ok)=true
  rw [Zhs,Zml (ZqO g) (Zkh h2) h'.1,ZnX g h'.2 h2];rfl
theorem ZnX {x y z:Str} (g:ZmD x y z):∀ {fs:Fs},fs.ok=true→fs.abc=true→(fs.ren (nm3 x y z)).ok=true
 | .nil,_,_=>rfl
 | .cons n m k r,h,h2=>by
  have h':(ZcB n&&k.ok&&r.ok)=true:=h
  have h2':(abc.contains n&&k.abc&&r.abc)=true:=h2
  simp only [Bool.and_eq_true] at h' h2'
  show (ZcB (nm3 x y z n)&&(k.ren _).ok&&(r.ren _).ok)=true
  rw [ZvF g,Zke g h'.1.2 h2'.1.2,ZnX g h'.2 h2'.2];rfl
end
def Zsg (n:Nat):Spw:=fun ws G Q _=>∃ (k:Kd) (p:Addr) (x y z:Str),ws=[k.enc,.ref p]∧G p=some (.lst [.str x,.str y,.str z])∧k.abc=true∧k.dp≤n∧k.cnt≤1000∧Q (k.ren (nm3 x y z)).enc G
theorem Zoa {n:Nat}:Spw.M (Zsg n):=(by rintro ws G Q Q' E E' h _ ⟨k,p,x,y,z,h1,h2,h3,h4,h5,q⟩;exact ⟨k,p,x,y,z,h1,h2,h3,h4,h5,h _ _ q⟩)
theorem Zuo {k:Kd} (h:∀ fs o,k≠.row fs o) (f:Str→Str):k.enc=.tup (.str k.hd::k.kids.map Kd.enc)∧(k.ren f).enc=.tup (.str k.hd::k.kids.map fun c=>(c.ren f).enc)∧(k.hd==("row":Str))=false:=by
 cases k with
 | row fs o=>exact absurd rfl (h fs o)
 | any=>exact ⟨rfl,rfl,by decide +kernel⟩
 | num=>exact ⟨rfl,rfl,by decide +kernel⟩
 | truth=>exact ⟨rfl,rfl,by decide +kernel⟩
 | to x y=>exact ⟨rfl,rfl,(by decide +kernel:(("to":Str)==("row":Str))=false)⟩
 | box x=>exact ⟨rfl,rfl,(by decide +kernel:(("box":Str)==("row":Str))=false)⟩
theorem ZpD {k:Kd} (h:k.abc=true):∀ c∈k.kids,c.abc=true:=by
 have hf:∀ {fs:Fs},fs.abc=true→∀ c∈fs.kinds,c.abc=true:=by
  intro fs
  induction fs using Fs.rec (motive_1:=fun _=>True) with
  | nil=>intro _ c hc;cases hc
  | cons n m k r _ ih =>
   intro h c hc
   have h':(abc.contains n&&k.abc&&r.abc)=true:=h
   simp only [Bool.and_eq_true] at h'
   rcases List.mem_cons.mp hc with rfl | hc
   ·exact h'.1.2
   ·exact ih h'.2 c hc
  | _=>trivial
 intro c hc
 cases k with
 | to x y =>
  have h':(x.abc&&y.abc)=true:=h
  simp only [Bool.and_eq_true] at h'
  have:c=x∨c=y:=by simpa [Kd.kids] using hc
  rcases this with rfl | rfl
  ·exact h'.1
  ·exact h'.2
 | box x =>
  have:c=x:=by simpa [Kd.kids] using hc
  subst this;exact h
 | row fs o=>exact hf h c hc
 | any=>cases hc
 | num=>cases hc
 | truth=>cases hc
def Zwa (x y z:Str) (u:Str×Bool×Kd):Str×Bool×Kd:=(nm3 x y z u.1,u.2.1,u.2.2.ren (nm3 x y z))
theorem Zoe (x y z:Str):∀ fs:Fs,(fs.ren (nm3 x y z)).toL=fs.toL.map (Zwa x y z)
 | .nil=>rfl
 | .cons n m k r=>by show _::(r.ren _).toL=_::r.toL.map _;rw [Zoe x y z r];rfl
theorem Zo0:∀ {fs:Fs},fs.abc=true→∀ u∈fs.toL,u.1∈abc∧u.2.2.abc=true
 | .nil,_,u,hu=>by cases hu
 | .cons n0 m k r,h,u,hu=>by
  have h':(abc.contains n0&&k.abc&&r.abc)=true:=h
  simp only [Bool.and_eq_true] at h'
  rcases List.mem_cons.mp hu with rfl | hu
  ·exact ⟨List.contains_iff_mem.mp h'.1.1,h'.1.2⟩
  ·exact Zo0 h'.2 u hu
theorem ZnC {n:Str} (h:n∈abc):∃ j:Nat,abc[j]?=some n∧(∀ m,m < j→abc[m]?≠some n)∧∀ x y z:Str,atI [W.str x,.str y,.str z] (j:Int)=some (.str (nm3 x y z n)):=by
 have n1:¬ (("b":Str)="a"):=by decide +kernel
 have n2:¬ (("cc":Str)="a"):=by decide +kernel
 have n3:¬ (("cc":Str)="b"):=by decide +kernel
 simp only [abc,List.mem_cons,List.not_mem_nil,or_false] at h
 rcases h with rfl | rfl | rfl
 ·exact ⟨0,rfl,fun m hm=>by omega,fun x y z=>by rw [show ((0:Nat):Int)=0 from rfl,Zb4];unfold nm3;rw [if_pos rfl]⟩
 ·refine ⟨1,rfl,fun m hm=>?_,fun x y z=>by rw [show ((1:Nat):Int)=1 from rfl,Zc5];unfold nm3;rw [if_neg n1,if_pos rfl]⟩
  obtain rfl:m=0:=by omega
  exact fun e=>n1 (Option.some.inj e).symm
 ·refine ⟨2,rfl,fun m hm=>?_,fun x y z=>by rw [show ((2:Nat):Int)=2 from rfl,Zei];unfold nm3;rw [if_neg n2,if_neg n3]⟩
  obtain rfl | rfl:m=0∨m=1:=by omega
  ·exact fun e=>n2 (Option.some.inj e).symm
  ·exact fun e=>n3 (Option.some.inj e).symm
theorem Zma {n:Nat} {D:Ew} {pn p:Addr} {k0:W} {x y z:Str}:∀ (l dn:List (Str×Bool×Kd)) (o3 o4 o5:Option W) (G:Hw),(∀ u∈l,u.1∈abc∧u.2.2.abc=true)→(∀ u∈l,u.2.2.dp≤n)→(∀ u∈l,u.2.2.cnt≤1000)→dn.length+l.length≤1000→p≠pn →
  G p=some (.lst (dn.map Zfr))→G pn=some (.lst [.str x,.str y,.str z]) →
  (∀ ω G',(∃ u v t,ω=[some k0,some (.ref pn),some (.ref p),u,v,t])→G' p=some (.lst ((dn++l.map (Zwa x y z)).map Zfr))→(∀ b,b≠p→∀ u,G b=some u→G' b=some u)→D.nx ω G') →
  ZdU yes (Zib 3 4 5) (Zck (gMt ZdB Zni (Zad 2) (L3.Zab (L3.Zbc (L3.Zab (Zaj (Zam ixW) (Zad 1) (gMt ZdB Zfy (Zb5 (L3.Zab (gC (.str "a")) (L3.Zab (gC (.str "b")) (L3.Zab (gC (.str "cc")) L3.Zal)))) (L3.Zab (Zad 3) L3.Zal))) (L3.Zab (Zad 4) (L3.Zab (Zap (Zsg n) (fun _ _ _=>False) (L3.Zab (Zad 5) (L3.Zab (Zad 1) L3.Zal))) L3.Zal)))) L3.Zal))) D (l.map Zfr) [some k0,some (.ref pn),some (.ref p),o3,o4,o5] G
 | [],dn,o3,o4,o5,G,_,_,_,_,_,hp,_,fin=>⟨trivial,fin _ G ⟨o3,o4,o5,rfl⟩ (by simpa using hp) fun _ _ _ h=>h⟩
 | u::l,dn,o3,o4,o5,G,h1,h2,h3,hl,hne,hp,hpn,fin=>by
  refine ⟨trivial,?_⟩
  have eu:Zfr u=.tup [.str u.1,.str (Zed u.2.1),u.2.2.enc]:=rfl
  rw [eu]
  simp only [Zib]
  walk_at "rd"
  obtain ⟨j,hj,hno,hat⟩:=ZnC (h1 u List.mem_cons_self).1
  refine ⟨ZfR hp,by decide,fun q hq=>⟨ZfR Zah,?_⟩⟩
  have hpq:=ZaF hp hq
  have hnq:=ZaF hpn hq
  refine ⟨_,abc,u.1,j,ZgB Zah,rfl,rfl,hj,hno,?_⟩
  have hpn':put G q (.lst [.str "a",.str "b",.str "cc"]) pn=some (.lst [.str x,.str y,.str z]):=by rw [Zao hnq];exact hpn
  simp only [hpn',hat x y z,Zae]
  refine ⟨u.2.2,pn,x,y,z,rfl,hpn',(h1 u List.mem_cons_self).2,h2 u List.mem_cons_self,h3 u List.mem_cons_self,by decide,?_⟩
  rw [List.length_cons] at hl
  refine Zn9 (by rw [Zao hpq];exact hp) (by rw [List.length_map];exact Nat.lt_of_le_of_lt (m:=1000) (by omega) (by decide)) ?_
  refine Zma l (dn++[Zwa x y z u]) _ _ _ _ (fun v hv=>h1 v (List.mem_cons_of_mem _ hv)) (fun v hv=>h2 v (List.mem_cons_of_mem _ hv)) (fun v hv=>h3 v (List.mem_cons_of_mem _ hv)) (by rw [List.length_append];simp only [List.length_cons,List.length_nil];omega) hne (by rw [Zah,List.map_append];rfl) (by rw [Zao (Ne.symm hne)];exact hpn') fun ω G' hω h4 h5=>?_
  refine fin ω G' hω (by rw [h4,List.map_cons];simp) fun b hb v hv=>h5 b hb v ?_
  rw [Zao hb,Zao (ZaF hv hq)];exact hv
theorem Zwm {α:Type} (h:α) (t:List α):ZgS (h::t) none (some 1)=[h]:=by
 have e:HT.sIx (h::t).length (h::t).length (some 1)=min 1 (h::t).length:=HT.sIx_nat _ _ 1
 unfold ZgS
 rw [HT.sIx_none,e]
 simp
theorem Za0 (T:Tx K mg base a):∀ n:Nat,Df P w K mg base "_law_renamed" (n+1) 2 (Zsg n)
 | 0=>ZkT T.Zb0 Zoa (by rintro ws G Q E ⟨k,p,x,y,z,_,_,_,h,_⟩;have:=Zgt k;omega)
 | n+1=>by
  have D:=Za0 T n
  refine mk0 (k:=n+1) T.Zb0 rfl ZdC Zoa ((by rintro ws G Q E ⟨k,p,x,y,z,e,_⟩;rw [e];rfl)) (ZhY T D (Nat.le_refl _)) fun ws G Q E hC q=>?_
  obtain ⟨k,p,x,y,z,rfl,hp,ha,hd,hc,q⟩:=q
  unfold ZeS
  by_cases hrow:∃ fs o,k=.row fs o
  ·obtain ⟨fs,o,rfl⟩:=hrow
   have hd':1+fs.dp≤n+1:=hd
   have hc':1+fs.cnt≤1000:=hc
   simp only [Kd.enc]
   walk_at "rd"
   simp only [beq_self_eq_true,show (true != true)=false from rfl,Option.map_some,Zae,Bool.false_eq_true,if_false]
   refine ⟨by decide,fun p2 hp2=>?_⟩
   have hpp:=ZaF hp hp2
   rw [Zhq]
   have hll:=ZnI fs
   refine Zma (n:=n) (x:=x) (y:=y) (z:=z) fs.toL [] none none none _ (Zo0 ha) (Zrq (by omega)) (fun u hu=>Nat.le_trans (Zoq u hu) (by omega)) (by simp only [List.length_nil];omega) (Ne.symm hpp) Zah (by rw [Zao hpp];exact hp) ?_
   intro ω G' hω h1 h2
   obtain ⟨u,v,t,rfl⟩:=hω
   walk_at "rd"
   rw [ZhA h1]
   simp only [Zae,List.nil_append]
   refine ⟨by decide,hC _ _ _ (fun b u hu=>h2 b (ZaF hu hp2) u (by rw [Zao (ZaF hu hp2)];exact hu)) ?_⟩
   have e:(Kd.ren (nm3 x y z) (.row fs o)).enc=.tup [.str "row",.tup ((fs.toL.map (Zwa x y z)).map Zfr),.bl o]:=by rw [← Zoe,← Zhq];rfl
   rw [e] at q
   exact q
  ·obtain ⟨e1,e2,e3⟩:=Zuo (fun fs o h=>hrow ⟨fs,o,h⟩) (nm3 x y z) (k:=k)
   rw [e1]
   walk_at "rd"
   simp only [e3,show (false != true)=true from rfl,Option.map_some,Zae,if_true]
   simp only [slA,Zwm,Zjr,List.drop_succ_cons,List.drop_zero]
   have hkl:=Zmp k
   refine ZpU (f:=fun c=>(c.ren (nm3 x y z)).enc) (cst:=[some (.ref p)]) trivial k.kids none [] (fun c hcm Q' q'=>?_) (by simp only [List.length_nil];exact Zbw (by omega)) fun p1 hp1=>?_
   ·exact ⟨c,p,x,y,z,rfl,hp,ZpD ha c hcm,by have:=Za8 hcm;omega,by have:=Zqu hcm;omega,q'⟩
   ·rw [ZhA Zah]
    simp only [Zae,List.nil_append]
    rw [Zcq]
    refine ⟨Zbw (by simp only [List.length_cons,List.length_nil,List.length_map];omega),hC _ _ _ (Zbg hp1) ?_⟩
    rw [e2] at q
    exact q
def ZrT:Spw:=fun ws G Q _=>∃ (s:Addr) (x y:Int),ws=[.ref s]∧G s=some (.lst [.int x,.int y])∧∀ (p:Addr) (n1 n2 n3:Str) (x' y':Int) (G':Hw),ZmD n1 n2 n3→G' p=some (.lst [.str n1,.str n2,.str n3])→Sub (put G s (.lst [.int x',.int y'])) G'→Q (.ref p) G'
theorem Zpw:Spw.M ZrT:=(by rintro ws G Q Q' E E' h _ ⟨s,x,y,h1,h2,q⟩;exact ⟨s,x,y,h1,h2,fun p n1 n2 n3 x' y' G' g h3 h4=>h _ _ (q p n1 n2 n3 x' y' G' g h3 h4)⟩)
theorem ZbV (T:Tx K mg base a):Df P w K mg base "_law_some_names" 2 1 ZrT:=by
 refine mk0 (k:=1) T.ZbS rfl ZdK Zpw ((by rintro ws G Q E ⟨s,x,y,e,_⟩;rw [e];rfl)) (Zga T (ZaC T) (Nat.le_refl _)) fun ws G Q E hC q=>?_
 obtain ⟨s,x,y,rfl,hs,q⟩:=q
 unfold ZdP
 walk_at "rd"
 refine ⟨by decide,fun p0 h0=>⟨by decide,fun p1 h1=>⟨by decide,fun p2 h2=>⟨by decide,fun p3 h3=>⟨by decide,fun q0 hq=>?_⟩⟩⟩⟩⟩
 have s1:Sub G (put G p0 (.lst [.str "a",.str "b",.str "cc"])):=Sub.refl.put h0
 have f0:put G p0 (.lst [.str "a",.str "b",.str "cc"]) p0=some (.lst [.str "a",.str "b",.str "cc"]):=Zah
 generalize put G p0 (.lst [.str "a",.str "b",.str "cc"])=G1 at *
 have s2:Sub G1 (put G1 p1 (.lst [.str "any",.str "num",.str "truth"])):=Sub.refl.put h1
 have f1:put G1 p1 (.lst [.str "any",.str "num",.str "truth"]) p1=some (.lst [.str "any",.str "num",.str "truth"]):=Zah
 generalize put G1 p1 (.lst [.str "any",.str "num",.str "truth"])=G2 at *
 have s3:Sub G2 (put G2 p2 (.lst [.str "in",.str "inside",.str "out"])):=Sub.refl.put h2
 have f2:put G2 p2 (.lst [.str "in",.str "inside",.str "out"]) p2=some (.lst [.str "in",.str "inside",.str "out"]):=Zah
 generalize put G2 p2 (.lst [.str "in",.str "inside",.str "out"])=G3 at *
 have s4:Sub G3 (put G3 p3 (.lst [.str "may",.str "row",.str "zzzzzzzz"])):=Sub.refl.put h3
 have f3:put G3 p3 (.lst [.str "may",.str "row",.str "zzzzzzzz"]) p3=some (.lst [.str "may",.str "row",.str "zzzzzzzz"]):=Zah
 generalize put G3 p3 (.lst [.str "may",.str "row",.str "zzzzzzzz"])=G4 at *
 have s5:Sub G4 (put G4 q0 (.lst [.ref p0,.ref p1,.ref p2,.ref p3])):=Sub.refl.put hq
 have f4:put G4 q0 (.lst [.ref p0,.ref p1,.ref p2,.ref p3]) q0=some (.lst [.ref p0,.ref p1,.ref p2,.ref p3]):=Zah
 generalize put G4 q0 (.lst [.ref p0,.ref p1,.ref p2,.ref p3])=G5 at *
 have S:=(((s1.trans s2).trans s3).trans s4).trans s5
 have hs5:=S _ _ hs
 have k0:=s5 _ _ (s4 _ _ (s3 _ _ (s2 _ _ f0)))
 have k1:=s5 _ _ (s4 _ _ (s3 _ _ f1))
 have k2:=s5 _ _ (s4 _ _ f2)
 have k3:=s5 _ _ f3
 have ns:∀ {p:Addr} {L:List W} {v:W},G5 p=some (.lst L)→L≠[.int x,.int y]→p≠s:=fun h hne e=>by
  subst e
  rw [hs5] at h
  exact hne (HW.lst.inj (Option.some.inj h)).symm
 refine ⟨s,4,x,y,rfl,by decide,by decide,hs5,fun r x1 y1 r0 r1=>?_⟩
 have m0:=ns (v:=.non) k0 (by intro e;cases e)
 have m1:=ns (v:=.non) k1 (by intro e;cases e)
 have m2:=ns (v:=.non) k2 (by intro e;cases e)
 have m3:=ns (v:=.non) k3 (by intro e;cases e)
 have m4:=ns (v:=.non) f4 (by intro e;cases e)
 have F4:put G5 s (.lst [.int x1,.int y1]) q0=some (.lst [.ref p0,.ref p1,.ref p2,.ref p3]):=by rw [Zao m4];exact f4
 simp only [F4]
 have SS:Sub (put G s (.lst [.int x1,.int y1])) (put G5 s (.lst [.int x1,.int y1])):=S.put2
 have cases4:r=0∨r=1∨r=2∨r=3:=by omega
 rcases cases4 with rfl | rfl | rfl | rfl
 ·rw [Zb4]
  exact q p0 "a" "b" "cc" x1 y1 _ ⟨by decide +kernel,by decide +kernel,by decide +kernel,by decide +kernel,by decide +kernel,by decide +kernel⟩ (by rw [Zao m0];exact k0) SS
 ·rw [Zc5]
  exact q p1 "any" "num" "truth" x1 y1 _ ⟨by decide +kernel,by decide +kernel,by decide +kernel,by decide +kernel,by decide +kernel,by decide +kernel⟩ (by rw [Zao m1];exact k1) SS
 ·rw [Zei]
  exact q p2 "in" "inside" "out" x1 y1 _ ⟨by decide +kernel,by decide +kernel,by decide +kernel,by decide +kernel,by decide +kernel,by decide +kernel⟩ (by rw [Zao m2];exact k2) SS
 ·have e3:atI [W.ref p0,.ref p1,.ref p2,.ref p3] 3=some (.ref p3):=rfl
  rw [e3]
  exact q p3 "may" "row" "zzzzzzzz" x1 y1 _ ⟨by decide +kernel,by decide +kernel,by decide +kernel,by decide +kernel,by decide +kernel,by decide +kernel⟩ (by rw [Zao m3];exact k3) SS
mutual
theorem ZhD {f:Str→Str}:∀ {k:Kd},wf k→(k.ren f).thr=true
 | .any,_=>rfl
 | .num,_=>rfl
 | .truth,_=>rfl
 | .to c d,h=>by
  show ((c.ren f).thr&&(d.ren f).thr)=true
  rw [ZhD (ZdZ h (c:=c) (by simp [Kd.kids])),ZhD (ZdZ h (c:=d) (by simp [Kd.kids]))];rfl
 | .box c,h=>ZhD (k:=c) (ZdZ h (c:=c) (by simp [Kd.kids]))
 | .row fs o,h=>by
  show (decide ((fs.ren f).names.length≤3)&&(fs.ren f).thr)=true
  have hn:fs.names.Nodup:=(Zj2 h.1).1.imp fun z e=>by subst e;rw [Zg5] at z;cases z
  have h3:=Zc8 hn (Ziy h.2).2
  have e3:abc.length=3:=rfl
  rw [Zhs,List.length_map,decide_eq_true (by omega),Zl4 fun c hc=>ZdZ h hc];rfl
theorem Zl4 {f:Str→Str}:∀ {fs:Fs},(∀ c∈fs.kinds,wf c)→(fs.ren f).thr=true
 | .nil,_=>rfl
 | .cons n m k r,h=>by
  show ((k.ren f).thr&&(r.ren f).thr)=true
  rw [ZhD (h k List.mem_cons_self),Zl4 fun c hc=>h c (List.mem_cons_of_mem _ hc)];rfl
end
theorem Zrt {x y z:Str} (g:ZmD x y z) {k:Kd} (h:gen 3 k):kd8 (k.ren (nm3 x y z)):=by
 obtain ⟨w1,d1⟩:=Zgm h
 refine ⟨Zke g w1.1 w1.2,?_,?_⟩
 ·unfold ZkM
  rw [ZhQ,Zj9]
  have:=h.2.2.1
  have e:Nn 3=40:=rfl
  exact decide_eq_true ⟨by omega,by omega⟩
 ·exact ZhD w1
def Ob (s:Addr) (G G':Hw):Prop:=∃ x y:Int,Sub (put G s (.lst [.int x,.int y])) G'
theorem Ob.st {s:Addr} {G G':Hw} (h:Ob s G G'):∃ x y:Int,G' s=some (.lst [.int x,.int y]):=by
 obtain ⟨x,y,h⟩:=h
 exact ⟨x,y,h _ _ Zah⟩
theorem Ob.keep {s b:Addr} {G G':Hw} {o:HW} (h:Ob s G G') (hb:b≠s) (e:G b=some o):G' b=some o:=by
 obtain ⟨x,y,h⟩:=h
 exact h _ _ (by rw [Zao hb];exact e)
theorem Ob.refl {s:Addr} {G:Hw} {x y:Int} (h:G s=some (.lst [.int x,.int y])):Ob s G G:=⟨x,y,fun b o e=>by
 by_cases hb:b=s
 ·subst hb;rw [Zah] at e;rw [h];exact e
 ·rw [Zao hb] at e;exact e⟩
theorem Ob.new {s p:Addr} {G G':Hw} {o:HW} (h:Ob s G G') (hp:G' p=none):Ob s G (put G' p o):=by
 obtain ⟨x,y,h⟩:=h
 exact ⟨x,y,ZcP h hp⟩
theorem Ob.take {s:Addr} {G G':Hw} {x y:Int} (h:Ob s G G'):Ob s G (put G' s (.lst [.int x,.int y])):=⟨x,y,fun b o e=>by
 by_cases hb:b=s
 ·subst hb;rw [Zah] at e ⊢;exact e
 ·rw [Zao hb] at e ⊢;exact h.keep hb e⟩
theorem Ob.trans {s:Addr} {G G' G2:Hw} (h:Ob s G G') (h2:Ob s G' G2):Ob s G G2:=by
 obtain ⟨x,y,k⟩:=h2
 refine ⟨x,y,fun b o e=>k b o ?_⟩
 by_cases hb:b=s
 ·subst hb;rw [Zah] at e ⊢;exact e
 ·rw [Zao hb] at e ⊢;exact h.keep hb e
abbrev ZmG:List Str:=["in","out","inside","a","b","cc","rest",""]
theorem Zpx {r:Int} (h0:0≤r) (h8:r < 8):∃ z:Str,atI (ZmG.map W.str) r=some (.str z):=by
 have:r=0∨r=1∨r=2∨r=3∨r=4∨r=5∨r=6∨r=7:=by omega
 rcases this with rfl | rfl | rfl | rfl | rfl | rfl | rfl | rfl <;> exact ⟨_,rfl⟩
theorem ZoU {i j:Nat} {ω:Sw} {G:Hw} {Q:Kw} {s p2:Addr} {x y:Int} (hs:ω[i]?=some (some (.ref s))) (hp:ω[j]?=some (some (.ref p2))) (h1:G s=some (.lst [.int x,.int y])) (h2:G p2=some (.lst (ZmG.map W.str))) (q:∀ (z:Str) (x' y':Int),Q (.str z) (put G s (.lst [.int x',.int y']))) :
  Zaj (Zam ixW) (Zad j) (Zap ZcA (fun _ _ _=>False) (L3.Zab (Zad i) (L3.Zab (gC (.int 8)) L3.Zal))) ω G Q:=by
 simp only [Zaj,Zad,hs,hp,Zap,L3.Zab,L3.Zal,gC,Zam]
 refine ⟨s,8,x,y,rfl,by decide,by decide,h1,fun r x' y' r0 r8=>?_⟩
 obtain ⟨z,hz⟩:=Zpx r0 r8
 have hne:p2≠s:=fun e=>by
  subst e
  rw [h1] at h2
  have:=congrArg List.length (HW.lst.inj (Option.some.inj h2))
  simp at this
 have:ixW (.ref p2) (.int r) (put G s (.lst [.int x',.int y']))=some (.str z):=by
  show (match put G s (.lst [.int x',.int y']) p2 with | some (.lst xs)=>atI xs r | _=>none)=_
  rw [Zao hne,h2];exact hz
 rw [this,Zae]
 exact q z x' y'
theorem Zkp {s p2:Addr} {R:List W→Hw→Prop} {ge:GE} (he:ge=Zaj (Zam ixW) (Zad 2) (Zap ZcA (fun _ _ _=>False) (L3.Zab (Zad 1) (L3.Zab (gC (.int 8)) L3.Zal)))) (hne:p2≠s):∀ (l:List W) (o:Option W) (G:Hw) (x y:Int) (ys:List Str),G s=some (.lst [.int x,.int y])→G p2=some (.lst (ZmG.map W.str))→ys.length+l.length≤100→(∀ (zs:List Str) G',Ob s G G'→R (zs.map W.str) G') →
  Zb3 yes (gNm 0) Zf6 ge R l [o,some (.ref s),some (.ref p2)] G (ys.map W.str)
 | [],o,G,x,y,ys,h1,_,_,r=>⟨trivial,r ys G (.refl h1)⟩
 | v::l,o,G,x,y,ys,h1,h2,hl,r=>by
  subst he
  refine ⟨trivial,by simp only [List.length_cons] at hl;rw [List.length_map];exact Nat.lt_of_lt_of_le (show ys.length < 101 by omega) (show 101≤sizeLine by decide),?_⟩
  show Zaj (Zam ixW) (Zad 2) (Zap ZcA (fun _ _ _=>False) (L3.Zab (Zad 1) (L3.Zab (gC (.int 8)) L3.Zal))) [some v,some (.ref s),some (.ref p2)] G _
  refine ZoU rfl rfl h1 h2 fun z x' y'=>?_
  have e:ys.map W.str++[W.str z]=(ys++[z]).map W.str:=by simp
  show Zb3 yes (gNm 0) Zf6 _ R l [some v,some (.ref s),some (.ref p2)] _ (ys.map W.str++[W.str z])
  rw [e]
  exact Zkp rfl hne l _ _ x' y' (ys++[z]) Zah (by rw [Zao hne];exact h2) (by simp only [List.length_append,List.length_cons,List.length_nil] at hl ⊢;omega) fun zs G' ho=>r zs G' (Ob.trans ((Ob.refl h1).take) ho)
theorem ZsF {α β:Type} (f:α→β) (xs:List α) (lo hi:Option Int):ZgS (xs.map f) lo hi=(ZgS xs lo hi).map f:=by
 unfold ZgS
 rw [List.length_map,List.map_take,List.map_drop]
def Zne:Spw:=fun ws G Q _=>∃ (s:Addr) (x y:Int) (c:Option (List Str)),ws=[.ref s,pW c]∧G s=some (.lst [.int x,.int y])∧(∀ p,c=some p→p.length≤100)∧∀ (p:List Str) (G':Hw),Ob s G G'→Q (pW (some p)) G'
theorem Zp4:Spw.M Zne:=(by rintro ws G Q Q' E E' h _ ⟨s,x,y,c,h1,h2,h3,q⟩;exact ⟨s,x,y,c,h1,h2,h3,fun p G' ho=>h _ _ (q p G' ho)⟩)
theorem Zl0 {r j:Int} {i:Nat} {e:GE} {Zcf:GS} {D:Ew} {ω:Sw} {G:Hw} (h1:ω[i]?=some (some (.int r))) (h:if r=j then e ω G D.rt else Zcf D ω G) :
  Zax (gIf (gTB (Zaj (Zam (eqF false)) (Zad i) (gC (.int j)))) (ZaE e) Zas) Zcf D ω G:=by
 simp only [Zax,gIf,gTB,Zaj,Zam,Zad,h1,gC,eqF,eqW,Option.map_some,Zae,ZaE,Zas]
 by_cases z:r=j
 ·rw [if_pos z] at h
  rw [show (r==j)=true by simp [z]]
  exact h
 ·rw [if_neg z] at h
  rw [show (r==j)=false by simp [z]]
  exact h
theorem ZnV {ω:Sw} {G:Hw} {Q:Kw} {p:List Str} (h:ω[1]?=some (some (pW (some p)))) (q:Q (pW (some (ZgS p none (some (-1))))) G):Zee (Zad 1) Zav (ZaX (ZpL (gC (.int 1)))) ω G Q:=by
 simp only [Zee,Zad,h,Zav,ZaX,ZpL,gC]
 refine ⟨1,rfl,?_⟩
 show Q (.tup (ZgS (p.map W.str) none (some (-1)))) G
 rw [ZsF]
 exact q
theorem Ztn {α:Type} (xs:List α) (lo hi:Option Int):(ZgS xs lo hi).length≤xs.length:=by
 unfold ZgS
 rw [List.length_take,List.length_drop]
 omega
theorem Zoh {g:GE} {ω:Sw} {G:Hw} {Q:Kw} {s p2:Addr} {x y:Int} {p:List Str} (hg:∀ Q':Kw,Q' (pW (some p)) G→g ω G Q') (hl:p.length≤100) (hs:ω[0]?=some (some (.ref s))) (hp:ω[2]?=some (some (.ref p2))) (h1:G s=some (.lst [.int x,.int y])) (h2:G p2=some (.lst (ZmG.map W.str))) (q:∀ (z:List Str) (x' y':Int),Q (pW (some z)) (put G s (.lst [.int x',.int y']))) :
  Zaj (ZdF) g (L3.Zbc (L3.Zab (Zaj (Zam ixW) (Zad 2) (Zap ZcA (fun _ _ _=>False) (L3.Zab (Zad 0) (L3.Zab (gC (.int 8)) L3.Zal)))) L3.Zal)) ω G Q:=by
 refine hg _ ?_
 refine ZoU hs hp h1 h2 fun z x' y'=>?_
 refine ⟨(show 1≤sizeLine by decide),?_⟩
 refine ⟨by rw [List.length_map];exact Zbw (by simp only [List.length_cons,List.length_nil];omega),?_⟩
 have e:p.map W.str++[W.str z]=(p++[z]).map W.str:=by simp
 rw [e]
 exact q (p++[z]) x' y'
theorem Zeb (T:Tx K mg base a):Df P w K mg base "_law_path" 2 2 Zne:=by
 refine mk0 (k:=1) T.Zd0 rfl Zfi Zp4 (by rintro ws G Q E ⟨s,x,y,c,e,_⟩;rw [e];rfl) (Zla T (ZaC T) (Nat.le_refl _)) fun ws G Q E hC q=>?_
 obtain ⟨s,x,y,c,rfl,hs,hc,q⟩:=q
 unfold Zhv
 show Zax (Zbd 2 _) _ (ZaR Q) [some (.ref s),some (pW c),none,none] G
 simp only [Zax,Zbd,Zb5,L3.Zab,L3.Zal,gC]
 refine ⟨(show 8≤sizeLine by decide),fun p2 e2=>?_⟩
 have o1:Ob s G (put G p2 (.lst [.str "in",.str "out",.str "inside",.str "a",.str "b",.str "cc",.str "rest",.str ""])):=(Ob.refl hs).new e2
 have f1:put G p2 (.lst [.str "in",.str "out",.str "inside",.str "a",.str "b",.str "cc",.str "rest",.str ""]) p2=some (.lst (ZmG.map W.str)):=Zah
 have hne:p2≠s:=fun e=>by rw [e,hs] at e2;cases e2
 generalize put G p2 (.lst [.str "in",.str "out",.str "inside",.str "a",.str "b",.str "cc",.str "rest",.str ""])=G1 at o1 f1 ⊢
 obtain ⟨x1,y1,hs1⟩:=o1.st
 simp only [Zap,L3.Zab,L3.Zal,gC,Zad,List.set_cons_zero,List.set_cons_succ,List.getElem?_cons_zero,List.getElem?_cons_succ]
 refine ⟨s,6,x1,y1,rfl,by decide,by decide,hs1,fun r x2 y2 r0 r6=>?_⟩
 have o2:=o1.take (x:=x2) (y:=y2)
 have f2:put G1 s (.lst [.int x2,.int y2]) p2=some (.lst (ZmG.map W.str)):=by rw [Zao hne];exact f1
 have hs2:put G1 s (.lst [.int x2,.int y2]) s=some (.lst [.int x2,.int y2]):=Zah
 generalize put G1 s (.lst [.int x2,.int y2])=G2 at o2 f2 hs2 ⊢
 have hA:(gB (rF Zgx) (L3.Zab (Zcs (Zdq (L3.Zab (Zap ZcA (fun _ _ _=>False) (L3.Zab (Zad 0) (L3.Zab (gC (.int 5)) L3.Zal))) L3.Zal)) 1 [0,2] (gNm 0) Zf6 (Zaj (Zam ixW) (Zad 2) (Zap ZcA (fun _ _ _=>False) (L3.Zab (Zad 1) (L3.Zab (gC (.int 8)) L3.Zal))))) L3.Zal)) [some (.ref s),some (pW c),some (.ref p2),some (.int r)] G2 Q:=by
  simp only [gB,rF,L3.Zab,L3.Zal,Zcs,Zdq,Zap,Zad,gC,List.getElem?_cons_zero,List.getElem?_cons_succ,Zh1,List.replicate,List.map_cons,List.map_nil,List.cons_append,List.nil_append,Option.getD_some]
  refine ⟨s,5,x2,y2,rfl,by decide,by decide,hs2,fun t x3 y3 t0 t5=>?_⟩
  refine ⟨by omega,by omega,?_⟩
  refine Zkp (s:=s) (p2:=p2) rfl hne _ none _ x3 y3 [] Zah (by rw [Zao hne];exact f2) (by simp only [List.length_nil,List.length_map,List.length_range];omega) fun zs G' ho p hp=>?_
  show opt (Zgx [.ref p] _) _
  rw [ZhA Zah,Zae]
  exact q zs _ ((o2.take.trans ho).new hp)
 simp only [gIf,gOr,gTB,Zaj,Zam,Zad,gC,List.getElem?_cons_zero,List.getElem?_cons_succ,isF,Zae,ZfY]
 cases c with
 | none=>exact hA
 | some p =>
  have hl:=hc p rfl
  show (if decide (r < 2)=true then _ else _)
  by_cases h2:r < 2
  ·rw [if_pos (decide_eq_true h2)]
   exact hA
  ·rw [if_neg (by simpa using h2)]
   show Zax (gIf (gTB (Zaj (Zam (eqF false)) (Zad 3) (gC (.int 2)))) (ZaE _) Zas) _ (ZaR Q) [some (.ref s),some (pW (some p)),some (.ref p2),some (.int r)] G2
   refine Zl0 rfl ?_
   by_cases z2:r=2
   ·rw [if_pos z2]
    exact ZnV rfl (q _ _ o2)
   ·rw [if_neg z2]
    refine Zl0 rfl ?_
    by_cases z3:r=3
    ·rw [if_pos z3]
     exact Zoh (p:=p) (fun Q' h=>h) hl rfl rfl hs2 f2 fun z x' y'=>q z _ o2.take
    ·rw [if_neg z3]
     have ek:(Zax (gIf (ZhT (gTB (Zaj (Zam (eqF false)) (Zad 3) (gC (.int 4)))) (gTB (Zaj (Zam (eqF true)) (Zad 1) (L3.Zbc L3.Zal)))) (ZaE (Zaj (ZdF) (Zee (Zad 1) Zav (ZaX (ZpL (gC (.int 1))))) (L3.Zbc (L3.Zab (Zaj (Zam ixW) (Zad 2) (Zap ZcA (fun _ _ _=>False) (L3.Zab (Zad 0) (L3.Zab (gC (.int 8)) L3.Zal)))) L3.Zal)))) Zas) (ZaE (Zad 1))) (ZaR Q) [some (.ref s),some (pW (some p)),some (.ref p2),some (.int r)] G2:=by
      have hB:∀ X:Sw→Hw→Prop,ZaE (Zaj (ZdF) (Zee (Zad 1) Zav (ZaX (ZpL (gC (.int 1))))) (L3.Zbc (L3.Zab (Zaj (Zam ixW) (Zad 2) (Zap ZcA (fun _ _ _=>False) (L3.Zab (Zad 0) (L3.Zab (gC (.int 8)) L3.Zal)))) L3.Zal))) { ZaR Q with nx:=X } [some (.ref s),some (pW (some p)),some (.ref p2),some (.int r)] G2 :=
       fun X=>Zoh (p:=ZgS p none (some (-1))) (fun Q' h=>ZnV rfl h) (Nat.le_trans (Ztn _ _ _) hl) rfl rfl hs2 f2 fun z x' y'=>q z _ o2.take
      have hR:ZaE (Zad 1) (ZaR Q) [some (.ref s),some (pW (some p)),some (.ref p2),some (.int r)] G2:=q p _ o2
      generalize ZaE (Zaj (ZdF) (Zee (Zad 1) Zav (ZaX (ZpL (gC (.int 1))))) (L3.Zbc (L3.Zab (Zaj (Zam ixW) (Zad 2) (Zap ZcA (fun _ _ _=>False) (L3.Zab (Zad 0) (L3.Zab (gC (.int 8)) L3.Zal)))) L3.Zal)))=B at hB ⊢
      generalize ZaE (Zad 1)=R at hR ⊢
      have en:eqF true (pW (some p)) (.tup []) G2=some (.bl (!p.isEmpty)):=by
       have:=Zkc p G2
       unfold eqF at this ⊢
       cases hz:eqW (pW (some p)) (.tup []) G2 with
       | none=>rw [hz] at this;cases this
       | some b =>
        rw [hz] at this
        have h':(b != false)=p.isEmpty:=W.bl.inj (Option.some.inj this)
        show some (W.bl (b != true))=_
        rw [← h']
        cases b <;> rfl
      simp only [Zax,gIf,ZhT,gTB,Zaj,Zam,Zad,gC,L3.Zbc,L3.Zal,List.getElem?_cons_zero,List.getElem?_cons_succ,Zas]
      show opt (eqF false (.int r) (.int 4) G2) _
      have e4:eqF false (.int r) (.int 4) G2=some (.bl (r==4)):=by
       unfold eqF eqW
       show some (W.bl ((r==4) != false))=_
       cases (r==4) <;> rfl
      rw [e4,Zae]
      dsimp only
      cases (r==4) with
      | false=>exact hR
      | true =>
       rw [if_pos rfl]
       refine ⟨by decide,?_⟩
       rw [en,Zae]
       dsimp only
       cases p.isEmpty with
       | true=>exact hR
       | false=>exact hB _
     exact ek
set_option Elab.async false
set_option linter.all false
set_option maxRecDepth 100000
set_option maxHeartbeats 1000000
theorem Zdl {i:Nat} {ge:GE} {Zcf:GS} {D:Ew} {ω:Sw} {G:Hw} (h:ge ω G fun w G1=>Zcf D (ω.set i (some w)) G1):Zax (Zbd i ge) Zcf D ω G:=h
theorem ZqV {f:Kd→Kd→List Str→Bool} (h:∀ k l p,f k l p=f l k p) (e e':En) (p:List Str):caE f e e' p=caE f e' e p:=by
 cases e <;> cases e' <;> first | rfl | skip
 rename_i m k m' k'
 show (if m=m' then f k k' p else p.isEmpty)=(if m'=m then f k' k p else p.isEmpty)
 by_cases z:m=m'
 ·rw [if_pos z,if_pos z.symm,h]
 ·rw [if_neg z,if_neg (fun y=>z y.symm)]
theorem ZhI:∀ (n:Nat) (k l:Kd) (p:List Str),ca n k l p=ca n l k p
 | 0,_,_,_=>rfl
 | n+1,k,l,p=>by
  by_cases hh:k.hd=l.hd
  ·cases p with
   | nil=>rw [Zki hh,Zki hh.symm]
   | cons x p =>
    rw [Zhy hh,Zhy hh.symm]
    cases k <;> cases l <;> first | exact absurd hh (by simp only [Kd.hd];decide) | rfl | skip
    ·rename_i a b c d
     show (if "in"=x then ca n a c p else if "out"=x then ca n b d p else false)=(if "in"=x then ca n c a p else if "out"=x then ca n d b p else false)
     rw [ZhI n a c,ZhI n b d]
    ·rename_i a b
     show (if "inside"=x then ca n a b p else false)=(if "inside"=x then ca n b a p else false)
     rw [ZhI n a b]
    ·exact ZqV (ZhI n) _ _ _
  ·unfold ca
   rw [if_neg hh,if_neg (fun z=>hh z.symm),Bool.and_assoc,Bool.and_assoc,Bool.and_comm (!(k.hd=="any"))]
abbrev gWB:GS:=Zax (Zbd 6 (Zap Zne (fun _ _ _=>False) (L3.Zab (Zad 1) (L3.Zab (Zap Zxf (fun _ _ _=>False) (L3.Zab (Zad 2) (L3.Zab (Zad 3) L3.Zal))) L3.Zal)))) (Zax (Zbd 7 (Zap ZwO (fun _ _ _=>False) (L3.Zab (Zad 2) (L3.Zab (Zad 3) (L3.Zab (Zad 6) L3.Zal))))) (Zax (gIf (gOr (gNt (Zf2 (Zc3 "bool" (Zad 7)))) (gTB (Zaj (Zam (eqF true)) (Zad 7) (Zap (ZtJ 8) (fun _ _ _=>False) (L3.Zab (Zad 2) (L3.Zab (Zad 3) (L3.Zab (Zad 6) L3.Zal))))))) (ZaE (gC (.bl false))) Zas) (gIf (gTB (Zaj (Zam (eqF true)) (Zap ZwO (fun _ _ _=>False) (L3.Zab (Zad 3) (L3.Zab (Zad 2) (L3.Zab (Zad 6) L3.Zal)))) (Zad 7))) (ZaE (gC (.bl false))) Zas)))
theorem Ztp {k l:Kd} {D:Ew} {w0 w4 w5 w6 w7:Option W} {s:Addr} {x y:Int} {G:Hw} (hk:kd8 k) (hl:kd8 l) (hs:G s=some (.lst [.int x,.int y])) (h:∀ o6 o7 G' x' y',G' s=some (.lst [.int x',.int y'])→D.nx [w0,some (.ref s),some k.enc,some l.enc,w4,w5,o6,o7] G') :
  gWB D [w0,some (.ref s),some k.enc,some l.enc,w4,w5,w6,w7] G:=by
 unfold gWB
 refine Zdl ?_
 refine ⟨(k,l),⟨rfl,hk,hl⟩,?_⟩
 refine ⟨s,x,y,cl 8 k l,rfl,hs,fun p hp=>Nat.le_trans (ZhP 8 _ _ _ hp) (by decide),fun p G1 ho=>?_⟩
 obtain ⟨x1,y1,hs1⟩:=ho.st
 simp only [List.set_cons_zero,List.set_cons_succ]
 refine Zdl ?_
 refine ⟨(k,l,p),⟨rfl,hk,hl⟩,?_⟩
 simp only [List.set_cons_zero,List.set_cons_succ,Zax,gIf,gOr,gNt,Zf2,gTB,Zc3,Zaj,Zap,Zad,gC,L3.Zab,L3.Zal,List.getElem?_cons_zero,List.getElem?_cons_succ,Zas]
 have hi:Zn8 "bool" "bool"=true:=by first | rfl | decide +kernel
 simp only [tyN,Zi7,hi,Bool.not_true,Bool.false_eq_true,if_false]
 refine ⟨(k,l,p),⟨rfl,⟨hk.1,hk.2.2⟩,⟨hl.1,hl.2.2⟩,ZlK hk,Nat.le_trans (ZlK hl) (by decide)⟩,?_⟩
 have eb:∀ b:Bool,∀ G:Hw,Zam (eqF true) (.bl b) (.bl b) G=fun Q=>Q (.bl false) G:=fun b G=>by
  have:eqF true (.bl b) (.bl b) G=some (.bl false):=by cases b <;> rfl
  funext Q
  show opt (eqF true (.bl b) (.bl b) G) _=_
  rw [this];rfl
 dsimp only
 rw [eb]
 simp only [Bool.false_eq_true,if_false]
 refine ⟨(l,k,p),⟨rfl,hl,hk⟩,?_⟩
 dsimp only
 rw [ZhI 8 l k p,eb]
 simp only [Bool.false_eq_true,if_false]
 exact h _ _ G1 x1 y1 hs1
abbrev gWT:GS:=Zax (Ze1 (Zdq (L3.Zab (gC (.int 3)) L3.Zal)) (gNm 5) gWB) (ZaE (gC (.bl true)))
theorem ZwD {k l:Kd} {Q:Kw} {w0 w4:Option W} {s:Addr} {x y:Int} {G:Hw} (hk:kd8 k) (hl:kd8 l) (hs:G s=some (.lst [.int x,.int y])) (q:∀ G',Q (.bl true) G'):gWT (ZaR Q) [w0,some (.ref s),some k.enc,some l.enc,w4,none,none,none] G:=by
 unfold gWT
 refine ⟨by decide,by decide,?_⟩
 refine ⟨trivial,?_⟩
 refine Ztp hk hl hs fun _ _ G1 x1 y1 h1=>⟨trivial,?_⟩
 refine Ztp hk hl h1 fun _ _ G2 x2 y2 h2=>⟨trivial,?_⟩
 refine Ztp hk hl h2 fun _ _ G3 x3 y3 h3=>⟨trivial,q G3⟩
theorem Zw1 (T:Tx K mg base a) {f:Addr} {fd:FuncData} (F:Fun K "law" "law" ZjY f fd):FnOk P w K mg base (CXe P w) 28 f fd ["script"] (ZtH K ZpE):=by
 refine ok0 F ZhX (fun ws G Q E ⟨ns,e,_⟩=>by rw [e];rfl) (ZwR (k:=27) T (Zdm T) (by omega) (ZaV T 3) (by omega) (ZbH T 3) (by omega) (ZbV T) (by omega) (Za0 T 8) (by omega) (Zc2 T) (by omega) (Zeb T) (by omega) (ZfN T) (by omega) (Zbo T 8 (by omega)) (by omega)) fun ws G Q E hC q=>?_
 obtain ⟨ns,rfl,hns,q⟩:=q
 unfold Zul
 show Zax (Zbd 1 _) _ (ZaR Q) [some (.rol (ns.map W.int)),none,none,none,none,none,none,none] G
 refine Zdl ?_
 refine ⟨ns,0,rfl,by decide,by decide,fun s x y hs=>?_⟩
 simp only [List.set_cons_zero,List.set_cons_succ]
 refine Zdl ?_
 refine ⟨s,x,y,rfl,Zah,fun k0 x1 y1 g0=>?_⟩
 simp only [List.set_cons_zero,List.set_cons_succ]
 refine Zdl ?_
 refine ⟨s,x1,y1,k0,rfl,Zah,g0,fun k3 x4 y4 g3=>?_⟩
 simp only [List.set_cons_zero,List.set_cons_succ]
 refine Zdl ?_
 refine ⟨s,x4,y4,rfl,Zah,fun p n1 n2 n3 x5 y5 G' hg hp hsub=>?_⟩
 simp only [List.set_cons_zero,List.set_cons_succ]
 obtain ⟨u1,d1⟩:=Zgm g0
 obtain ⟨u2,d2⟩:=Zgm g3
 have c1:=g0.2.2.1
 have c2:=g3.2.2.1
 have e40:Nn 3=40:=rfl
 refine Zdl ?_
 refine ⟨k0,p,n1,n2,n3,rfl,hp,u1.2,by omega,by omega,?_⟩
 simp only [List.set_cons_zero,List.set_cons_succ]
 refine Zdl ?_
 refine ⟨k3,p,n1,n2,n3,rfl,hp,u2.2,by omega,by omega,?_⟩
 simp only [List.set_cons_zero,List.set_cons_succ]
 exact ZwD (Zrt hg g0) (Zrt hg g3) (hsub _ _ Zah) q
set_option maxHeartbeats 4000000
theorem Zm7 {base:Heap} {e:DictEntry} {x:Str} {i:Int} {t u:Tok} {es:List DictEntry} {D:List (Str×KTD.Dat)} (h1:e.key=.str x t) (h2:e.val=.int i u) (r:KTD.Rows (KTD.Dat.At base) es D):KTD.Rows (KTD.Dat.At base) (e::es) ((x,KTD.Dat.flat (.int i))::D) :=
 .cons h1 (by rw [h2];exact PyProof.V.Flat.int i u) r
theorem Zwe {K:PySem.W.Frag} {h:Heap} {mg:Str→Option Value} (X:K.In h) (G:h.Ns mainGlobals mg) (ZbT:Fn K mg ZaQ "is_small_letter" ["sign"]) (Zdj:Fn K mg ZbM "names_rise" ["names"]) (ZfJ:Fn K mg Zc9 "is_name" ["thing"]) (ZeN:Fn K mg ZcF "is_field" ["thing"]) (Zds:Fn K mg ZbF "are_fields" ["thing"]) (ZeH:Fn K mg ZcL "has_form" ["thing"]) (ZcM:Fn K mg Zbh "kinds_within" ["kind"]) (ZcR:Fn K mg Zbf "layer_within" ["layer","things_within"]) (Zdu:Fn K mg Zbp "is_made_of" ["thing","is_formed","things_within","most","deepest"]) (ZfT:Fn K mg Zdb "is_kind" ["thing"]) (Zdp:Fn K mg ZbE "check_kind" ["thing"]) (ZeF:Fn K mg ZcI "entry_of" ["row","name"]) (ZeK:Fn K mg ZcE "names_of" ["row"]) (Zcy:Fn K mg Zba "names_of_both" ["one","other"]) (Zc4:Fn K mg Zbr "check_kinds" ["one","other"]) (ZgY:Fn K mg Zd1 "behind" ["step","path"]) (ZbC:Fn K mg ZaK "clash_of_entries" ["one","other"]) (Zcn:Fn K mg Za7 "clash_of_rows" ["one","other"]) (ZdH:Fn K mg ZcD "clash_of" ["one","other"]) (Zdo:Fn K mg ZbR "_law_state" ["script","k"]) (Zd6:Fn K mg Zcb "_law_take" ["state","many"]) (ZbN:Fn K mg Zca "_law_kind" ["state","deep"]) (ZcK:Fn K mg ZbD "_law_near" ["state","kind","deep"]) (Zb0:Fn K mg Za5 "_law_renamed" ["kind","names"]) (ZbS:Fn K mg ZaS "_law_some_names" ["state"]) (ZcO:Fn K mg Za1 "_law_entries" ["kind","names"]) (ZcU:Fn K mg ZbP "_law_there" ["one","other","path"]) (Zd0:Fn K mg ZbL "_law_path" ["state","found"]) (Zsm:Fn K mg ZjY "law" ["script"]) (Zcw:Fn K mg Za6 "clash_at_name" ["one","other","path"]) (ZdI:Fn K mg ZcJ "clash_at" ["one","other","path"]) (Zc7:Fn K mg Zbs "first_clash" ["one","other"]) (ZfI:Fn K mg Zdd "clashes" ["one","other","path"]) {c_CastError c_NoKind:Addr} {z_MARKS:Addr} {w0_MARKS w1_MARKS:Tok} {dd_MARKS:Option Addr} {nn_MARKS:Nat} {sl_MARKS:Array (Option Value)} {w_MOST_DEPTH:Tok} {w_MOST_KINDS:Tok} {w_MOST_LETTERS:Tok} {z_LENGTHS:Addr} {ep_LENGTHS:Nat} {e0_LENGTHS e1_LENGTHS e2_LENGTHS e3_LENGTHS e4_LENGTHS e5_LENGTHS:DictEntry} {a0_LENGTHS b0_LENGTHS:Tok} {a1_LENGTHS b1_LENGTHS:Tok} {a2_LENGTHS b2_LENGTHS:Tok} {a3_LENGTHS b3_LENGTHS:Tok} {a4_LENGTHS b4_LENGTHS:Tok} {a5_LENGTHS b5_LENGTHS:Tok} {z_STEPS:Addr} {ep_STEPS:Nat} {s0:DictEntry} {st0:Tok} {sa0:Addr} {sd0:Option Addr} {sn0:Nat} {sl0:Array (Option Value)} {s1:DictEntry} {st1:Tok} {sa1:Addr} {sd1:Option Addr} {sn1:Nat} {sl1:Array (Option Value)} {s2:DictEntry} {st2:Tok} {sa2:Addr} {sd2:Option Addr} {sn2:Nat} {sl2:Array (Option Value)} {s3:DictEntry} {st3:Tok} {sa3:Addr} {sd3:Option Addr} {sn3:Nat} {sl3:Array (Option Value)} {sw3_0:Tok} {sw3_1:Tok} {s4:DictEntry} {st4:Tok} {sa4:Addr} {sd4:Option Addr} {sn4:Nat} {sl4:Array (Option Value)} {sw4_0:Tok}
  (e_CastError:PySem.W.nsIn K mainGlobals "CastError"=some (some (.ref c_CastError)))
  (e_NoKind:PySem.W.nsIn K mainGlobals "NoKind"=some (some (.ref c_NoKind)))
  (Zjh:PySem.W.nsIn K mainGlobals "all"=some none)
  (Zhk:PySem.W.nsIn K mainGlobals "bool"=some none)
  (Zil:PySem.W.nsIn K mainGlobals "dict"=some none)
  (ZkY:PySem.W.nsIn K mainGlobals "int"=some none)
  (ZaN:PySem.W.nsIn K mainGlobals "isinstance"=some none)
  (ZfM:PySem.W.nsIn K mainGlobals "len"=some none)
  (Zij:PySem.W.nsIn K mainGlobals "list"=some none)
  (Zfp:PySem.W.nsIn K mainGlobals "range"=some none)
  (Znb:PySem.W.nsIn K mainGlobals "set"=some none)
  (ZeM:PySem.W.nsIn K mainGlobals "sorted"=some none)
  (Zle:PySem.W.nsIn K mainGlobals "str"=some none)
  (Zcu:PySem.W.nsIn K mainGlobals "tuple"=some none)
  (ZjP:PySem.W.nsIn K mainGlobals "zip"=some none)
  (ZfZ:PySem.W.nsIn K mainGlobals "MARKS"=some (some (.ref z_MARKS)))
  (l_MARKS:K.lookup z_MARKS=some ⟨.type "tuple",dd_MARKS,.seq #[.str "must" w0_MARKS,.str "may" w1_MARKS] nn_MARKS,sl_MARKS⟩)
  (Zcg:PySem.W.nsIn K mainGlobals "MOST_DEPTH"=some (some (.int 8 w_MOST_DEPTH)))
  (Zcj:PySem.W.nsIn K mainGlobals "MOST_KINDS"=some (some (.int 40 w_MOST_KINDS)))
  (Zbx:PySem.W.nsIn K mainGlobals "MOST_LETTERS"=some (some (.int 8 w_MOST_LETTERS)))
  (v_LENGTHS:PySem.W.nsIn K mainGlobals "LENGTHS"=some (some (.ref z_LENGTHS)))
  (l_LENGTHS:K.lookup z_LENGTHS=some ⟨.type "dict",none,.dict #[e0_LENGTHS,e1_LENGTHS,e2_LENGTHS,e3_LENGTHS,e4_LENGTHS,e5_LENGTHS] ep_LENGTHS,#[]⟩)
  (u_LENGTHS:(z_LENGTHS==sysModules)=false)
  (a0_LENGTHS_:e0_LENGTHS.key=.str "any" a0_LENGTHS)
  (b0_LENGTHS_:e0_LENGTHS.val=.int 1 b0_LENGTHS)
  (a1_LENGTHS_:e1_LENGTHS.key=.str "num" a1_LENGTHS)
  (b1_LENGTHS_:e1_LENGTHS.val=.int 1 b1_LENGTHS)
  (a2_LENGTHS_:e2_LENGTHS.key=.str "truth" a2_LENGTHS)
  (b2_LENGTHS_:e2_LENGTHS.val=.int 1 b2_LENGTHS)
  (a3_LENGTHS_:e3_LENGTHS.key=.str "to" a3_LENGTHS)
  (b3_LENGTHS_:e3_LENGTHS.val=.int 3 b3_LENGTHS)
  (a4_LENGTHS_:e4_LENGTHS.key=.str "box" a4_LENGTHS)
  (b4_LENGTHS_:e4_LENGTHS.val=.int 2 b4_LENGTHS)
  (a5_LENGTHS_:e5_LENGTHS.key=.str "row" a5_LENGTHS)
  (b5_LENGTHS_:e5_LENGTHS.val=.int 3 b5_LENGTHS)
  (v_STEPS:PySem.W.nsIn K mainGlobals "STEPS"=some (some (.ref z_STEPS)))
  (l_STEPS:K.lookup z_STEPS=some ⟨.type "dict",none,.dict #[s0,s1,s2,s3,s4] ep_STEPS,#[]⟩)
  (u_STEPS:(z_STEPS==sysModules)=false)
  (ka0:s0.key=.str "any" st0)
  (kb0:s0.val=.ref sa0)
  (kc0:K.lookup sa0=some ⟨.type "tuple",sd0,.seq #[] sn0,sl0⟩)
  (ka1:s1.key=.str "num" st1)
  (kb1:s1.val=.ref sa1)
  (kc1:K.lookup sa1=some ⟨.type "tuple",sd1,.seq #[] sn1,sl1⟩)
  (ka2:s2.key=.str "truth" st2)
  (kb2:s2.val=.ref sa2)
  (kc2:K.lookup sa2=some ⟨.type "tuple",sd2,.seq #[] sn2,sl2⟩)
  (ka3:s3.key=.str "to" st3)
  (kb3:s3.val=.ref sa3)
  (kc3:K.lookup sa3=some ⟨.type "tuple",sd3,.seq #[.str "in" sw3_0,.str "out" sw3_1] sn3,sl3⟩)
  (ka4:s4.key=.str "box" st4)
  (kb4:s4.val=.ref sa4)
  (kc4:K.lookup sa4=some ⟨.type "tuple",sd4,.seq #[.str "inside" sw4_0] sn4,sl4⟩)
 :
  ∃ a:Adr,∀ base:Heap,K.In base→Tx K mg base a:=by
 refine ⟨⟨c_CastError,c_NoKind⟩,fun base B=>?_⟩
 exact {
  Zjh:=PySem.W.mg_none_of X G Zjh
  Zhk:=PySem.W.mg_none_of X G Zhk
  Zil:=PySem.W.mg_none_of X G Zil
  ZkY:=PySem.W.mg_none_of X G ZkY
  ZaN:=PySem.W.mg_none_of X G ZaN
  ZfM:=PySem.W.mg_none_of X G ZfM
  Zij:=PySem.W.mg_none_of X G Zij
  Zfp:=PySem.W.mg_none_of X G Zfp
  Znb:=PySem.W.mg_none_of X G Znb
  ZeM:=PySem.W.mg_none_of X G ZeM
  Zle:=PySem.W.mg_none_of X G Zle
  Zcu:=PySem.W.mg_none_of X G Zcu
  ZjP:=PySem.W.mg_none_of X G ZjP
  Zlj:=PySem.W.mg_of X G e_CastError
  Zqn:=PySem.W.mg_of X G e_NoKind
  ZfZ:=Zr5 X G (ts:=[("must",w0_MARKS),("may",w1_MARKS)]) ZfZ l_MARKS (by simp)
  Zcg:=ZkP X G Zcg
  Zcj:=ZkP X G Zcj
  Zbx:=ZkP X G Zbx
  Zj8:=ZtQ X G B v_LENGTHS l_LENGTHS u_LENGTHS ⟨rfl,rfl,rfl⟩ rfl (Zm7 a0_LENGTHS_ b0_LENGTHS_ (Zm7 a1_LENGTHS_ b1_LENGTHS_ (Zm7 a2_LENGTHS_ b2_LENGTHS_ (Zm7 a3_LENGTHS_ b3_LENGTHS_ (Zm7 a4_LENGTHS_ b4_LENGTHS_ (Zm7 a5_LENGTHS_ b5_LENGTHS_ .nil))))))
  Zlq:=ZsN X G B v_STEPS l_STEPS u_STEPS ⟨rfl,rfl,rfl⟩ rfl (ZoV (ts:=[]) ka0 kb0 kc0 (by simp) (ZoV (ts:=[]) ka1 kb1 kc1 (by simp) (ZoV (ts:=[]) ka2 kb2 kc2 (by simp) (ZoV (ts:=[("in",sw3_0),("out",sw3_1)]) ka3 kb3 kc3 (by simp) (ZoV (ts:=[("inside",sw4_0)]) ka4 kb4 kc4 (by simp) .nil)))))
  ZbT:=ZbT
  Zdj:=Zdj
  ZfJ:=ZfJ
  ZeN:=ZeN
  Zds:=Zds
  ZeH:=ZeH
  ZcM:=ZcM
  ZcR:=ZcR
  Zdu:=Zdu
  ZfT:=ZfT
  Zdp:=Zdp
  ZeF:=ZeF
  ZeK:=ZeK
  Zcy:=Zcy
  Zc4:=Zc4
  ZgY:=ZgY
  ZbC:=ZbC
  Zcn:=Zcn
  ZdH:=ZdH
  Zdo:=Zdo
  Zd6:=Zd6
  ZbN:=ZbN
  ZcK:=ZcK
  Zb0:=Zb0
  ZbS:=ZbS
  ZcO:=ZcO
  ZcU:=ZcU
  Zd0:=Zd0
  Zsm:=Zsm
  Zcw:=Zcw
  ZdI:=ZdI
  Zc7:=Zc7
  ZfI:=ZfI }
end K2
open PySem PySem.W PyProof.Rows
set_option maxRecDepth 100000 in
set_option maxHeartbeats 0 in
theorem PySem.Challenge.cw_castwright_k19_clashes_judged_holds : PySem.Challenge.rw_castwright_k19_clashes_judged.Holds := by
 show K2.rwS.Holds
 w_on;o_law
 refine holds_open (r:=K2.rwS.row) (q:=K2.vwS) (loose:=["LENGTHS","STEPS"]) (N:=3520)
  (Yf:=(kHook K2.KF K2.KL K2.kfe).obs) (Ya:=(kHook K2.KF K2.KL K2.kfe).val) (YP:=(kHook K2.KF K2.KL K2.kfe).says)
  (Xt:=fun s=>xlAt K2.vwS [] s&&recOk (RowW.records K2.rwS.row.toRowW) s)
  (XP:=XL K2.vwS []) ?hl (kHook K2.KF K2.KL K2.kfe).of (kHook K2.KF K2.KL K2.kfe).keeps ?g1 XL.keeps rfl rfl rfl ?g2 rfl
  ?g3 (by decide +kernel) ?g4 ?hw ?hc
 case g1=>exact fun s e=>xl_of s (Bool.and_eq_true_iff.mp e).1
 case g2=>exact fun s e=>recFacts_of (Bool.and_eq_true_iff.mp e).2
 case g3=>first | assumption | decide +kernel
 case g4=>exact ⟨rfl,rfl,rfl,rfl,rfl,by decide +kernel⟩
 case hw=>w_witness2
 case hl=>exact byRow2 "special-get-raises" K2.lbf K2.lbt
 k_fill
 refine L3.ZwP (l:=K2.rwS) (k:=28) ⟨rfl,by decide,by decide⟩ rfl rfl (fun w h Y=>PySem.W.kIn_of Y) ?F
 case F =>
  intro w mg fa h KX G hmg
  have F_is_small_letter:L3.Fn (L2.KOf KX) mg K2.ZaQ "is_small_letter" ["sign"]:=by
   dsimp only [L2.KOf]
   refine' L3.ZbZ KX G ?e ?l ?c ?k ?b
   (case e=>k_is);(case l=>k_is);(case c=>k_is);(case k=>k_is)
   (case b=>exact fun _ _ _ _ _ _ us hl=>by obtain ⟨_,_,rfl,g0⟩:=L3.ln1 hl;obtain rfl:=L3.ln0 g0;rfl)
  have F_names_rise:L3.Fn (L2.KOf KX) mg K2.ZbM "names_rise" ["names"]:=by
   dsimp only [L2.KOf]
   refine' L3.ZbZ KX G ?e ?l ?c ?k ?b
   (case e=>k_is);(case l=>k_is);(case c=>k_is);(case k=>k_is)
   (case b=>exact fun _ _ _ _ _ _ us hl=>by obtain ⟨_,_,rfl,g0⟩:=L3.ln1 hl;obtain rfl:=L3.ln0 g0;rfl)
  have F_is_name:L3.Fn (L2.KOf KX) mg K2.Zc9 "is_name" ["thing"]:=by
   dsimp only [L2.KOf]
   refine' L3.ZbZ KX G ?e ?l ?c ?k ?b
   (case e=>k_is);(case l=>k_is);(case c=>k_is);(case k=>k_is)
   (case b=>exact fun _ _ _ _ _ _ us hl=>by obtain ⟨_,_,rfl,g0⟩:=L3.ln1 hl;obtain rfl:=L3.ln0 g0;rfl)
  have F_is_field:L3.Fn (L2.KOf KX) mg K2.ZcF "is_field" ["thing"]:=by
   dsimp only [L2.KOf]
   refine' L3.ZbZ KX G ?e ?l ?c ?k ?b
   (case e=>k_is);(case l=>k_is);(case c=>k_is);(case k=>k_is)
   (case b=>exact fun _ _ _ _ _ _ us hl=>by obtain ⟨_,_,rfl,g0⟩:=L3.ln1 hl;obtain rfl:=L3.ln0 g0;rfl)
  have F_are_fields:L3.Fn (L2.KOf KX) mg K2.ZbF "are_fields" ["thing"]:=by
   dsimp only [L2.KOf]
   refine' L3.ZbZ KX G ?e ?l ?c ?k ?b
   (case e=>k_is);(case l=>k_is);(case c=>k_is);(case k=>k_is)
   (case b=>exact fun _ _ _ _ _ _ us hl=>by obtain ⟨_,_,rfl,g0⟩:=L3.ln1 hl;obtain rfl:=L3.ln0 g0;rfl)
  have F_has_form:L3.Fn (L2.KOf KX) mg K2.ZcL "has_form" ["thing"]:=by
   dsimp only [L2.KOf]
   refine' L3.ZbZ KX G ?e ?l ?c ?k ?b
   (case e=>k_is);(case l=>k_is);(case c=>k_is);(case k=>k_is)
   (case b=>exact fun _ _ _ _ _ _ us hl=>by obtain ⟨_,_,rfl,g0⟩:=L3.ln1 hl;obtain rfl:=L3.ln0 g0;rfl)
  have F_kinds_within:L3.Fn (L2.KOf KX) mg K2.Zbh "kinds_within" ["kind"]:=by
   dsimp only [L2.KOf]
   refine' L3.ZbZ KX G ?e ?l ?c ?k ?b
   (case e=>k_is);(case l=>k_is);(case c=>k_is);(case k=>k_is)
   (case b=>exact fun _ _ _ _ _ _ us hl=>by obtain ⟨_,_,rfl,g0⟩:=L3.ln1 hl;obtain rfl:=L3.ln0 g0;rfl)
  have F_layer_within:L3.Fn (L2.KOf KX) mg K2.Zbf "layer_within" ["layer","things_within"]:=by
   dsimp only [L2.KOf]
   refine' L3.ZbZ KX G ?e ?l ?c ?k ?b
   (case e=>k_is);(case l=>k_is);(case c=>k_is);(case k=>k_is)
   (case b=>exact fun _ _ _ _ _ _ us hl=>by obtain ⟨_,_,rfl,g0⟩:=L3.ln1 hl;obtain ⟨_,_,rfl,g1⟩:=L3.ln1 g0;obtain rfl:=L3.ln0 g1;rfl)
  have F_is_made_of:L3.Fn (L2.KOf KX) mg K2.Zbp "is_made_of" ["thing","is_formed","things_within","most","deepest"]:=by
   dsimp only [L2.KOf]
   refine' L3.ZbZ KX G ?e ?l ?c ?k ?b
   (case e=>k_is);(case l=>k_is);(case c=>k_is);(case k=>k_is)
   (case b=>exact fun _ _ _ _ _ _ us hl=>by obtain ⟨_,_,rfl,g0⟩:=L3.ln1 hl;obtain ⟨_,_,rfl,g1⟩:=L3.ln1 g0;obtain ⟨_,_,rfl,g2⟩:=L3.ln1 g1;obtain ⟨_,_,rfl,g3⟩:=L3.ln1 g2;obtain ⟨_,_,rfl,g4⟩:=L3.ln1 g3;obtain rfl:=L3.ln0 g4;rfl)
  have F_is_kind:L3.Fn (L2.KOf KX) mg K2.Zdb "is_kind" ["thing"]:=by
   dsimp only [L2.KOf]
   refine' L3.ZbZ KX G ?e ?l ?c ?k ?b
   (case e=>k_is);(case l=>k_is);(case c=>k_is);(case k=>k_is)
   (case b=>exact fun _ _ _ _ _ _ us hl=>by obtain ⟨_,_,rfl,g0⟩:=L3.ln1 hl;obtain rfl:=L3.ln0 g0;rfl)
  have F_check_kind:L3.Fn (L2.KOf KX) mg K2.ZbE "check_kind" ["thing"]:=by
   dsimp only [L2.KOf]
   refine' L3.ZbZ KX G ?e ?l ?c ?k ?b
   (case e=>k_is);(case l=>k_is);(case c=>k_is);(case k=>k_is)
   (case b=>exact fun _ _ _ _ _ _ us hl=>by obtain ⟨_,_,rfl,g0⟩:=L3.ln1 hl;obtain rfl:=L3.ln0 g0;rfl)
  have F_entry_of:L3.Fn (L2.KOf KX) mg K2.ZcI "entry_of" ["row","name"]:=by
   dsimp only [L2.KOf]
   refine' L3.ZbZ KX G ?e ?l ?c ?k ?b
   (case e=>k_is);(case l=>k_is);(case c=>k_is);(case k=>k_is)
   (case b=>exact fun _ _ _ _ _ _ us hl=>by obtain ⟨_,_,rfl,g0⟩:=L3.ln1 hl;obtain ⟨_,_,rfl,g1⟩:=L3.ln1 g0;obtain rfl:=L3.ln0 g1;rfl)
  have F_names_of:L3.Fn (L2.KOf KX) mg K2.ZcE "names_of" ["row"]:=by
   dsimp only [L2.KOf]
   refine' L3.ZbZ KX G ?e ?l ?c ?k ?b
   (case e=>k_is);(case l=>k_is);(case c=>k_is);(case k=>k_is)
   (case b=>exact fun _ _ _ _ _ _ us hl=>by obtain ⟨_,_,rfl,g0⟩:=L3.ln1 hl;obtain rfl:=L3.ln0 g0;rfl)
  have F_names_of_both:L3.Fn (L2.KOf KX) mg K2.Zba "names_of_both" ["one","other"]:=by
   dsimp only [L2.KOf]
   refine' L3.ZbZ KX G ?e ?l ?c ?k ?b
   (case e=>k_is);(case l=>k_is);(case c=>k_is);(case k=>k_is)
   (case b=>exact fun _ _ _ _ _ _ us hl=>by obtain ⟨_,_,rfl,g0⟩:=L3.ln1 hl;obtain ⟨_,_,rfl,g1⟩:=L3.ln1 g0;obtain rfl:=L3.ln0 g1;rfl)
  have F_check_kinds:L3.Fn (L2.KOf KX) mg K2.Zbr "check_kinds" ["one","other"]:=by
   dsimp only [L2.KOf]
   refine' L3.ZbZ KX G ?e ?l ?c ?k ?b
   (case e=>k_is);(case l=>k_is);(case c=>k_is);(case k=>k_is)
   (case b=>exact fun _ _ _ _ _ _ us hl=>by obtain ⟨_,_,rfl,g0⟩:=L3.ln1 hl;obtain ⟨_,_,rfl,g1⟩:=L3.ln1 g0;obtain rfl:=L3.ln0 g1;rfl)
  have F_behind:L3.Fn (L2.KOf KX) mg K2.Zd1 "behind" ["step","path"]:=by
   dsimp only [L2.KOf]
   refine' L3.ZbZ KX G ?e ?l ?c ?k ?b
   (case e=>k_is);(case l=>k_is);(case c=>k_is);(case k=>k_is)
   (case b=>exact fun _ _ _ _ _ _ us hl=>by obtain ⟨_,_,rfl,g0⟩:=L3.ln1 hl;obtain ⟨_,_,rfl,g1⟩:=L3.ln1 g0;obtain rfl:=L3.ln0 g1;rfl)
  have F_clash_of_entries:L3.Fn (L2.KOf KX) mg K2.ZaK "clash_of_entries" ["one","other"]:=by
   dsimp only [L2.KOf]
   refine' L3.ZbZ KX G ?e ?l ?c ?k ?b
   (case e=>k_is);(case l=>k_is);(case c=>k_is);(case k=>k_is)
   (case b=>exact fun _ _ _ _ _ _ us hl=>by obtain ⟨_,_,rfl,g0⟩:=L3.ln1 hl;obtain ⟨_,_,rfl,g1⟩:=L3.ln1 g0;obtain rfl:=L3.ln0 g1;rfl)
  have F_clash_of_rows:L3.Fn (L2.KOf KX) mg K2.Za7 "clash_of_rows" ["one","other"]:=by
   dsimp only [L2.KOf]
   refine' L3.ZbZ KX G ?e ?l ?c ?k ?b
   (case e=>k_is);(case l=>k_is);(case c=>k_is);(case k=>k_is)
   (case b=>exact fun _ _ _ _ _ _ us hl=>by obtain ⟨_,_,rfl,g0⟩:=L3.ln1 hl;obtain ⟨_,_,rfl,g1⟩:=L3.ln1 g0;obtain rfl:=L3.ln0 g1;rfl)
  have F_clash_of:L3.Fn (L2.KOf KX) mg K2.ZcD "clash_of" ["one","other"]:=by
   dsimp only [L2.KOf]
   refine' L3.ZbZ KX G ?e ?l ?c ?k ?b
   (case e=>k_is);(case l=>k_is);(case c=>k_is);(case k=>k_is)
   (case b=>exact fun _ _ _ _ _ _ us hl=>by obtain ⟨_,_,rfl,g0⟩:=L3.ln1 hl;obtain ⟨_,_,rfl,g1⟩:=L3.ln1 g0;obtain rfl:=L3.ln0 g1;rfl)
  have F__law_state:L3.Fn (L2.KOf KX) mg K2.ZbR "_law_state" ["script","k"]:=by
   dsimp only [L2.KOf]
   refine' L3.ZbZ KX G ?e ?l ?c ?k ?b
   (case e=>k_is);(case l=>k_is);(case c=>k_is);(case k=>k_is)
   (case b=>exact fun _ _ _ _ _ _ us hl=>by obtain ⟨_,_,rfl,g0⟩:=L3.ln1 hl;obtain ⟨_,_,rfl,g1⟩:=L3.ln1 g0;obtain rfl:=L3.ln0 g1;rfl)
  have F__law_take:L3.Fn (L2.KOf KX) mg K2.Zcb "_law_take" ["state","many"]:=by
   dsimp only [L2.KOf]
   refine' L3.ZbZ KX G ?e ?l ?c ?k ?b
   (case e=>k_is);(case l=>k_is);(case c=>k_is);(case k=>k_is)
   (case b=>exact fun _ _ _ _ _ _ us hl=>by obtain ⟨_,_,rfl,g0⟩:=L3.ln1 hl;obtain ⟨_,_,rfl,g1⟩:=L3.ln1 g0;obtain rfl:=L3.ln0 g1;rfl)
  have F__law_kind:L3.Fn (L2.KOf KX) mg K2.Zca "_law_kind" ["state","deep"]:=by
   dsimp only [L2.KOf]
   refine' L3.ZbZ KX G ?e ?l ?c ?k ?b
   (case e=>k_is);(case l=>k_is);(case c=>k_is);(case k=>k_is)
   (case b=>exact fun _ _ _ _ _ _ us hl=>by obtain ⟨_,_,rfl,g0⟩:=L3.ln1 hl;obtain ⟨_,_,rfl,g1⟩:=L3.ln1 g0;obtain rfl:=L3.ln0 g1;rfl)
  have F__law_near:L3.Fn (L2.KOf KX) mg K2.ZbD "_law_near" ["state","kind","deep"]:=by
   dsimp only [L2.KOf]
   refine' L3.ZbZ KX G ?e ?l ?c ?k ?b
   (case e=>k_is);(case l=>k_is);(case c=>k_is);(case k=>k_is)
   (case b=>exact fun _ _ _ _ _ _ us hl=>by obtain ⟨_,_,rfl,g0⟩:=L3.ln1 hl;obtain ⟨_,_,rfl,g1⟩:=L3.ln1 g0;obtain ⟨_,_,rfl,g2⟩:=L3.ln1 g1;obtain rfl:=L3.ln0 g2;rfl)
  have F__law_renamed:L3.Fn (L2.KOf KX) mg K2.Za5 "_law_renamed" ["kind","names"]:=by
   dsimp only [L2.KOf]
   refine' L3.ZbZ KX G ?e ?l ?c ?k ?b
   (case e=>k_is);(case l=>k_is);(case c=>k_is);(case k=>k_is)
   (case b=>exact fun _ _ _ _ _ _ us hl=>by obtain ⟨_,_,rfl,g0⟩:=L3.ln1 hl;obtain ⟨_,_,rfl,g1⟩:=L3.ln1 g0;obtain rfl:=L3.ln0 g1;rfl)
  have F__law_some_names:L3.Fn (L2.KOf KX) mg K2.ZaS "_law_some_names" ["state"]:=by
   dsimp only [L2.KOf]
   refine' L3.ZbZ KX G ?e ?l ?c ?k ?b
   (case e=>k_is);(case l=>k_is);(case c=>k_is);(case k=>k_is)
   (case b=>exact fun _ _ _ _ _ _ us hl=>by obtain ⟨_,_,rfl,g0⟩:=L3.ln1 hl;obtain rfl:=L3.ln0 g0;rfl)
  have F__law_entries:L3.Fn (L2.KOf KX) mg K2.Za1 "_law_entries" ["kind","names"]:=by
   dsimp only [L2.KOf]
   refine' L3.ZbZ KX G ?e ?l ?c ?k ?b
   (case e=>k_is);(case l=>k_is);(case c=>k_is);(case k=>k_is)
   (case b=>exact fun _ _ _ _ _ _ us hl=>by obtain ⟨_,_,rfl,g0⟩:=L3.ln1 hl;obtain ⟨_,_,rfl,g1⟩:=L3.ln1 g0;obtain rfl:=L3.ln0 g1;rfl)
  have F__law_there:L3.Fn (L2.KOf KX) mg K2.ZbP "_law_there" ["one","other","path"]:=by
   dsimp only [L2.KOf]
   refine' L3.ZbZ KX G ?e ?l ?c ?k ?b
   (case e=>k_is);(case l=>k_is);(case c=>k_is);(case k=>k_is)
   (case b=>exact fun _ _ _ _ _ _ us hl=>by obtain ⟨_,_,rfl,g0⟩:=L3.ln1 hl;obtain ⟨_,_,rfl,g1⟩:=L3.ln1 g0;obtain ⟨_,_,rfl,g2⟩:=L3.ln1 g1;obtain rfl:=L3.ln0 g2;rfl)
  have F__law_path:L3.Fn (L2.KOf KX) mg K2.ZbL "_law_path" ["state","found"]:=by
   dsimp only [L2.KOf]
   refine' L3.ZbZ KX G ?e ?l ?c ?k ?b
   (case e=>k_is);(case l=>k_is);(case c=>k_is);(case k=>k_is)
   (case b=>exact fun _ _ _ _ _ _ us hl=>by obtain ⟨_,_,rfl,g0⟩:=L3.ln1 hl;obtain ⟨_,_,rfl,g1⟩:=L3.ln1 g0;obtain rfl:=L3.ln0 g1;rfl)
  have F_law:L3.Fn (L2.KOf KX) mg K2.ZjY "law" ["script"]:=by
   dsimp only [L2.KOf]
   refine' L3.ZbZ KX G ?e ?l ?c ?k ?b
   (case e=>k_is);(case l=>k_is);(case c=>k_is);(case k=>k_is)
   (case b=>exact fun _ _ _ _ _ _ us hl=>by obtain ⟨_,_,rfl,g0⟩:=L3.ln1 hl;obtain rfl:=L3.ln0 g0;rfl)
  have F_clash_at_name:L3.Fn (L2.KOf KX) mg K2.Za6 "clash_at_name" ["one","other","path"]:=by
   dsimp only [L2.KOf]
   refine' L3.ZbZ KX G ?e ?l ?c ?k ?b
   (case e=>k_is);(case l=>k_is);(case c=>k_is);(case k=>k_is)
   (case b=>exact fun _ _ _ _ _ _ us hl=>by obtain ⟨_,_,rfl,g0⟩:=L3.ln1 hl;obtain ⟨_,_,rfl,g1⟩:=L3.ln1 g0;obtain ⟨_,_,rfl,g2⟩:=L3.ln1 g1;obtain rfl:=L3.ln0 g2;rfl)
  have F_clash_at:L3.Fn (L2.KOf KX) mg K2.ZcJ "clash_at" ["one","other","path"]:=by
   dsimp only [L2.KOf]
   refine' L3.ZbZ KX G ?e ?l ?c ?k ?b
   (case e=>k_is);(case l=>k_is);(case c=>k_is);(case k=>k_is)
   (case b=>exact fun _ _ _ _ _ _ us hl=>by obtain ⟨_,_,rfl,g0⟩:=L3.ln1 hl;obtain ⟨_,_,rfl,g1⟩:=L3.ln1 g0;obtain ⟨_,_,rfl,g2⟩:=L3.ln1 g1;obtain rfl:=L3.ln0 g2;rfl)
  have F_first_clash:L3.Fn (L2.KOf KX) mg K2.Zbs "first_clash" ["one","other"]:=by
   dsimp only [L2.KOf]
   refine' L3.ZbZ KX G ?e ?l ?c ?k ?b
   (case e=>k_is);(case l=>k_is);(case c=>k_is);(case k=>k_is)
   (case b=>exact fun _ _ _ _ _ _ us hl=>by obtain ⟨_,_,rfl,g0⟩:=L3.ln1 hl;obtain ⟨_,_,rfl,g1⟩:=L3.ln1 g0;obtain rfl:=L3.ln0 g1;rfl)
  have F_clashes:L3.Fn (L2.KOf KX) mg K2.Zdd "clashes" ["one","other","path"]:=by
   dsimp only [L2.KOf]
   refine' L3.ZbZ KX G ?e ?l ?c ?k ?b
   (case e=>k_is);(case l=>k_is);(case c=>k_is);(case k=>k_is)
   (case b=>exact fun _ _ _ _ _ _ us hl=>by obtain ⟨_,_,rfl,g0⟩:=L3.ln1 hl;obtain ⟨_,_,rfl,g1⟩:=L3.ln1 g0;obtain ⟨_,_,rfl,g2⟩:=L3.ln1 g1;obtain rfl:=L3.ln0 g2;rfl)
  have T:∃ a:K2.Adr,∀ base:Heap,(L2.KOf KX).In base→K2.Tx (L2.KOf KX) mg base a:=by
   dsimp only [L2.KOf] at *
   refine' K2.Zwe KX G F_is_small_letter F_names_rise F_is_name F_is_field F_are_fields F_has_form F_kinds_within F_layer_within F_is_made_of F_is_kind F_check_kind F_entry_of F_names_of F_names_of_both F_check_kinds F_behind F_clash_of_entries F_clash_of_rows F_clash_of F__law_state F__law_take F__law_kind F__law_near F__law_renamed F__law_some_names F__law_entries F__law_there F__law_path F_law F_clash_at_name F_clash_at F_first_clash F_clashes ?e_CastError ?e_NoKind ?Zjh ?Zhk ?Zil ?ZkY ?ZaN ?ZfM ?Zij ?Zfp ?Znb ?ZeM ?Zle ?Zcu ?ZjP ?ZfZ ?l_MARKS ?Zcg ?Zcj ?Zbx ?v_LENGTHS ?l_LENGTHS ?u_LENGTHS ?a0_LENGTHS_ ?b0_LENGTHS_ ?a1_LENGTHS_ ?b1_LENGTHS_ ?a2_LENGTHS_ ?b2_LENGTHS_ ?a3_LENGTHS_ ?b3_LENGTHS_ ?a4_LENGTHS_ ?b4_LENGTHS_ ?a5_LENGTHS_ ?b5_LENGTHS_ ?v_STEPS ?l_STEPS ?u_STEPS ?ka0 ?kb0 ?kc0 ?ka1 ?kb1 ?kc1 ?ka2 ?kb2 ?kc2 ?ka3 ?kb3 ?kc3 ?ka4 ?kb4 ?kc4
   (case e_CastError=>k_is)
   (case e_NoKind=>k_is)
   (case Zjh=>k_is)
   (case Zhk=>k_is)
   (case Zil=>k_is)
   (case ZkY=>k_is)
   (case ZaN=>k_is)
   (case ZfM=>k_is)
   (case Zij=>k_is)
   (case Zfp=>k_is)
   (case Znb=>k_is)
   (case ZeM=>k_is)
   (case Zle=>k_is)
   (case Zcu=>k_is)
   (case ZjP=>k_is)
   (case ZfZ=>k_is)
   (case l_MARKS=>k_is)
   (case Zcg=>k_is)
   (case Zcj=>k_is)
   (case Zbx=>k_is)
   (case v_LENGTHS=>k_is)
   (case l_LENGTHS=>k_is)
   (case u_LENGTHS=>decide)
   (case a0_LENGTHS_=>exact rfl)
   (case b0_LENGTHS_=>exact rfl)
   (case a1_LENGTHS_=>exact rfl)
   (case b1_LENGTHS_=>exact rfl)
   (case a2_LENGTHS_=>exact rfl)
   (case b2_LENGTHS_=>exact rfl)
   (case a3_LENGTHS_=>exact rfl)
   (case b3_LENGTHS_=>exact rfl)
   (case a4_LENGTHS_=>exact rfl)
   (case b4_LENGTHS_=>exact rfl)
   (case a5_LENGTHS_=>exact rfl)
   (case b5_LENGTHS_=>exact rfl)
   (case v_STEPS=>k_is)
   (case l_STEPS=>k_is)
   (case u_STEPS=>decide)
   (case ka0=>exact rfl)
   (case kb0=>exact rfl)
   (case kc0=>k_is)
   (case ka1=>exact rfl)
   (case kb1=>exact rfl)
   (case kc1=>k_is)
   (case ka2=>exact rfl)
   (case kb2=>exact rfl)
   (case kc2=>k_is)
   (case ka3=>exact rfl)
   (case kb3=>exact rfl)
   (case kc3=>k_is)
   (case ka4=>exact rfl)
   (case kb4=>exact rfl)
   (case kc4=>k_is)
  obtain ⟨a,T⟩:=T
  obtain ⟨f,fd,hm,F,_⟩:=F_law
  have e0:=hmg.symm.trans hm
  cases e0
  obtain ⟨oc,od,kV,doc,pm,an,cdv,ct,osl,rfl,lk,hcd⟩:=F.ex
  exact ⟨_,fun s u=>.of_eq rfl,fun base kb nb=>K2.Zw1 (T base kb) F⟩
