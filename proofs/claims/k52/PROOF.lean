import PyProof.Rows.All
import KE.KNestM
import KE.KSortTup
import KE.KSortKey
import KE.KIsAll
import KE.KLam
import KE.KItem
import OpenK.KOwn
import OpenK.KRaise
import KE.KDictSum
import KE.KRevIter
import KE.KRevSl
import PyProof.StrLawsTight
import PyProof.Rows.StrItems
import KE.KPairComp
import KE.KItemsList
import PySem.Challenge.RW_fairbench_k52_whole_box
set_option Elab.async false
set_option linter.all false
set_option maxRecDepth 100000
set_option maxHeartbeats 4000000
noncomputable section
abbrev dZ:=List (List Int×Int)
abbrev gw:=List (PySem.Addr×PySem.Obj)
abbrev LR9:=List (Int×Option Rat)
abbrev BK:=List (Int×List Int)
abbrev bL:=List Int
abbrev cA:=List PySem.Value
abbrev ic:=PySem.Value→PySem.Shared→Prop
abbrev dB:=List PySem.Str
abbrev fQ:=Option PySem.Value
theorem aE:type_of% @PySem.wpAny_bind:=@PySem.wpAny_bind
theorem cU:type_of% @Option.bind_eq_some_iff:=@Option.bind_eq_some_iff
theorem cV {α:Type} {a:α} {l:List α}:(a::l)[0]?=some a:=rfl
theorem cj {α β:Type} {a:α} {f:α→Option β}:(some a).bind f=f a:=rfl
theorem dO {α:Type} {a:α} {l:List α} {i:Nat}:(a::l)[i+1]?=l[i]?:=rfl
theorem dC:type_of% @PySem.Heap.get?_push_of_some:=@PySem.Heap.get?_push_of_some
theorem bP:type_of% @PySem.wpAny_pure:=@PySem.wpAny_pure
theorem iD:type_of% @Option.map_eq_some_iff:=@Option.map_eq_some_iff
theorem eF {α β:Type} {a:α} {f:α→β}:(some a).map f=some (f a):=rfl
theorem iE:type_of% @PySem.Heap.get?_push_size:=@PySem.Heap.get?_push_size
theorem bY:type_of% @List.length_map:=@List.length_map
theorem ax:type_of% @if_neg:=@if_neg
theorem az:type_of% @if_pos:=@if_pos
theorem bG:type_of% @PySem.Heap.lt_size:=@PySem.Heap.lt_size
theorem eQ:type_of% @List.getElem?_eq_getElem:=@List.getElem?_eq_getElem
theorem bJ:type_of% @Nat.le_refl:=@Nat.le_refl
theorem ef:type_of% @List.mem_cons_of_mem:=@List.mem_cons_of_mem
theorem cD:type_of% @List.map_cons:=@List.map_cons
theorem jd:type_of% @List.getD_eq_getElem?_getD:=@List.getD_eq_getElem?_getD
theorem eR:type_of% @List.mem_cons_self:=@List.mem_cons_self
theorem eA:type_of% @List.size_toArray:=@List.size_toArray
theorem eT:type_of% @Bool.false_ne_true:=@Bool.false_ne_true
theorem dc:type_of% @List.mem_cons:=@List.mem_cons
theorem eU:type_of% @List.getElem?_map:=@List.getElem?_map
theorem eW:type_of% @List.length_cons:=@List.length_cons
theorem eX:type_of% @List.all_eq_true:=@List.all_eq_true
theorem lR:type_of% @List.getElem?_eq_some_iff:=@List.getElem?_eq_some_iff
theorem dP:type_of% @Nat.ne_of_lt:=@Nat.ne_of_lt
theorem je:type_of% @Array.length_toList:=@Array.length_toList
theorem ky:type_of% @List.mem_append_right:=@List.mem_append_right
theorem jf {α:Type} {x a:α} {l:List α}:(x::l).set 0 a=a::l:=rfl
theorem gQ:type_of% @decide_eq_false:=@decide_eq_false
theorem jI {α:Type} {x a:α} {l:List α} {i:Nat}:(x::l).set (i+1) a=x::l.set i a:=rfl
theorem jX:type_of% @Nat.lt_of_lt_of_le:=@Nat.lt_of_lt_of_le
theorem fB:type_of% @List.map_map:=@List.map_map
theorem fR:type_of% @Nat.le_trans:=@Nat.le_trans
theorem cw:type_of% @if_true:=@if_true
theorem jJ:type_of% @Option.some.inj:=@Option.some.inj
theorem gC:type_of% @List.mem_map:=@List.mem_map
theorem lZ:type_of% @List.length_append:=@List.length_append
theorem fU:type_of% @PySem.sizeLine_eq:=@PySem.sizeLine_eq
theorem nL:type_of% @PySem.F.called_set:=@PySem.F.called_set
theorem cT:type_of% @Ne.symm:=@Ne.symm
theorem ik:type_of% @Nat.zero_le:=@Nat.zero_le
theorem nM:type_of% @Int.toNat_natCast:=@Int.toNat_natCast
theorem uh:type_of% @Array.getElem?_eq_getElem:=@Array.getElem?_eq_getElem
theorem kz:type_of% @PySem.Heap.size_push:=@PySem.Heap.size_push
theorem md:type_of% @PySem.wpAny_call_entry:=@PySem.wpAny_call_entry
theorem mh:type_of% @List.mem_append:=@List.mem_append
theorem pG:type_of% @PySem.Heap.SameBut.update:=@PySem.Heap.SameBut.update
theorem oA:type_of% @Bool.and_eq_true:=@Bool.and_eq_true
theorem mj:type_of% @decide_eq_true:=@decide_eq_true
theorem ml:type_of% @List.mem_range:=@List.mem_range
theorem sZ:type_of% @PySem.Heap.get?_update_self:=@PySem.Heap.get?_update_self
theorem ui:type_of% @PySem.wpAny_callSpecial?_slot:=@PySem.wpAny_callSpecial?_slot
theorem rh:type_of% @Bool.false_eq_true:=@Bool.false_eq_true
theorem xD:type_of% @List.getElem?_append_right:=@List.getElem?_append_right
theorem rj:type_of% @PySem.wpAny_setField_rec:=@PySem.wpAny_setField_rec
theorem xE:type_of% @List.getElem?_append_left:=@List.getElem?_append_left
theorem tf:type_of% @Int.emod_lt_of_pos:=@Int.emod_lt_of_pos
theorem gG:type_of% @congrArg:=@congrArg
theorem pI:type_of% @Int.emod_nonneg:=@Int.emod_nonneg
theorem pJ:type_of% @Bool.eq_iff_iff:=@Bool.eq_iff_iff
theorem v3:type_of% @Array.getElem?_toList:=@Array.getElem?_toList
theorem kA:type_of% @PySem.wpAny_field:=@PySem.wpAny_field
theorem mq:type_of% @Nat.ne_of_gt:=@Nat.ne_of_gt
theorem jK:type_of% @PySem.wpAny_mono:=@PySem.wpAny_mono
theorem tj:type_of% @PySem.wpAny_Call_Name_kw:=@PySem.wpAny_Call_Name_kw
theorem il:type_of% @if_false:=@if_false
theorem v5:type_of% @List.getElem?_set_ne:=@List.getElem?_set_ne
theorem rm:type_of% @List.find?_cons:=@List.find?_cons
theorem nO:type_of% @Nat.le_of_lt:=@Nat.le_of_lt
theorem xF:type_of% @List.getElem?_set_self:=@List.getElem?_set_self
theorem FV:type_of% @PyProof.Rows.F.plain_set_update_loop:=@PyProof.Rows.F.plain_set_update_loop
theorem xG:type_of% @List.contains_iff_mem:=@List.contains_iff_mem
theorem oB:type_of% @PySem.wpAny_holding:=@PySem.wpAny_holding
theorem tm:type_of% @PySem.W.kia_one:=@PySem.W.kia_one
theorem BL:type_of% @PyProof.Rows.callWith_type1:=@PyProof.Rows.callWith_type1
theorem uj:type_of% @PySem.wpAny_newObj_type:=@PySem.wpAny_newObj_type
theorem rn:type_of% @Nat.lt_irrefl:=@Nat.lt_irrefl
theorem pK:type_of% @PySem.Paired.length:=@PySem.Paired.length
theorem v9:type_of% @PySem.Obj.data_mapFields:=@PySem.Obj.data_mapFields
theorem wa:type_of% @PySem.Calls.spliced_cons:=@PySem.Calls.spliced_cons
theorem zB:type_of% @List.getElem?_eq_none:=@List.getElem?_eq_none
theorem wc:type_of% @List.not_mem_nil:=@List.not_mem_nil
theorem xH:type_of% @List.mem_singleton:=@List.mem_singleton
theorem wd:type_of% @List.lookup_cons:=@List.lookup_cons
theorem rq:type_of% @List.map_nil:=@List.map_nil
theorem zC:type_of% @List.mem_of_getElem?:=@List.mem_of_getElem?
theorem wg:type_of% @List.map_append:=@List.map_append
theorem BM:type_of% @Array.getElem?_eq_none:=@Array.getElem?_eq_none
theorem xI:type_of% @PySem.wpAny_dictEntries:=@PySem.wpAny_dictEntries
theorem xJ:type_of% @PySem.Calls.spliced_nil:=@PySem.Calls.spliced_nil
theorem xK:type_of% @List.append_nil:=@List.append_nil
open PySem.W (instObj methodObj lookIn plainGet hasDictIn handedIn plainGet_of isFn plainOver takerIn makesIn typeIn emptyDict keepIn methodCall_KW kitOne kia_one kitx_list kitx_dict callWith_K cellsFrom_some fnOf codeIn binds_K nsIn mg_of)
variable {ks us:List PySem.Value} {qual x:PySem.Str} {ov u:PySem.Value} {C a b d fn it l1 p:PySem.Addr} {P:PySem.Program} {w:PySem.World} {h h':PySem.Heap} {ep i j k n t':Nat} {e tg:PySem.Expr} {N:List PySem.Str} {A:PySem.Around} {E Q:PySem.Value→PySem.Shared→Prop} {s:PySem.Shared} {pins:List (PySem.Addr×PySem.Obj)} {f:PySem.Value→PySem.Value→PySem.Sem PySem.Value} {apos aX p2 pos pos' px:PySem.Pos} {op:PySem.CmpOp} {c:Int} {es:Array PySem.DictEntry} {body:List PySem.Stmt} {l:List (Int×PySem.Value)} {ex fp:List PySem.Addr} {pl:PySem.Sem Bool} {like ns:bL} {kw:List (PySem.Str×PySem.Value)} {mg:PySem.Str→Option PySem.Value} {fd:PySem.FuncData} {ps rs:dZ} {scope:PySem.Scope} {an od:Option PySem.Addr} {xM:Array (Option PySem.Value)} {items ys:Array PySem.Value} {ms:List Bool} {XP:(PySem.Str→Option PySem.Value)→PySem.Heap→Prop} {YP:PySem.World→PySem.Heap→Prop} {S fi:List Nat} {elts:List PySem.Expr} {ws:List (List Nat)} {led:Bool}
namespace L2
open PySem
def inClass(s:Stmt)(j:Nat):Stmt:=match s with
  |.ClassDef _ _ _ body _ _ _ _ _ _ _=>body.getD j (.Pass ⟨0,0,0,0⟩)
  |_=>.Pass ⟨0,0,0,0⟩
def bM(s:Stmt):Arguments:=match s with
  |.FunctionDef _ a _ _ _ _ _ _ _ _=>a
  |_=>{ posonlyargs:=[],args:=[],vararg:=none,kwonlyargs:=[],kw_defaults:=[],kwarg:=none,defaults:=[] }
def bA(s:Stmt):List Stmt:=match s with
  |.FunctionDef _ _ b _ _ _ _ _ _ _=>b
  |_=>[]
def aj(s:Stmt):Scope:=match s with
  |.FunctionDef _ _ _ _ _ _ sc _ _ _=>sc
  |_=>{ kind:=.function,names:=[],isGenerator:=false,isCoroutine:=false }
end L2
namespace HH
open PySem PySem.W PyProof.Rows L2
def pD(i:Nat):Stmt:=PySem.Challenge.pw_fairbench_k52_whole_box.main.body.getD i (.Pass ⟨0,0,0,0⟩)
abbrev sH(x:String)(t:Nat):Value:=.str (Str.ofString x) t
abbrev rH(a:Nat):Value:=.ref a
abbrev jH(i:Int)(t:Nat):Value:=.int i t
def eH(P:Params)(x:String)(t:Nat)(v:Value):DictEntry:=⟨PyData.keyHash P (Str.ofString x),.str (Str.ofString x) t,v⟩
def tH(l:Array Value):Obj:={ cls:=.type "tuple",data:=.seq l }
def cH(l:Array Value):Obj:={ cls:=.type "code",data:=.fields l }
def dH(l:Array DictEntry)(n:Nat):Obj:={ cls:=.type "dict",data:=.dict l n }
def fH(x q:String)(s:Stmt)(m:String)(t c:Nat):Obj:={ cls:=.type "function",data:=.func { name:=x,qualname:=q,params:=bM s,body:=.stmts (bA s),scope:=aj s,globals:=3,closure:=[],defaults:=.none,kwdefaults:=.none,pyModule:=.str (Str.ofString m) t,code:=.ref c } }
def pH(x q:String)(s:Stmt)(m:String)(t c d:Nat):Obj:={ cls:=.type "function",data:=.func { name:=x,qualname:=q,params:=bM s,body:=.stmts (bA s),scope:=aj s,globals:=3,closure:=[],defaults:=.ref d,kwdefaults:=.none,pyModule:=.str (Str.ofString m) t,code:=.ref c } }
def KH:Params→PySem.W.Frag:=fun P=>(nat_lit 2,{ cls:=.none,data:=.dict #[] }) ::
(nat_lit 3,dH #[eH P "__name__" 165 (sH "law_fairbench_k52_whole_box" 458),eH P "__doc__" 166 .none,eH P "__package__" 167 .none,eH P "__loader__" 168 (.builtin "__main__.__loader__#opaque"),eH P "__spec__" 169 .none,eH P "__annotations__" 170 (rH 6),eH P "__builtins__" 171 (rH 4),eH P "__file__" 173 (sH "/claim/cut.py" 172),eH P "__cached__" 174 .none,eH P "_wall" 193 (rH 21),eH P "BenchError" 213 (rH 31),eH P "NoCount" 229 (rH 44),eH P "NoName" 245 (rH 56),eH P "NoHeap" 261 (rH 68),eH P "NoRoll" 277 (rH 80),eH P "NoBallot" 293 (rH 92),eH P "MOST_NAMES" 297 (jH 6 296),eH P "heaps_of" 303 (rH 99),eH P "rank" 310 (rH 106),eH P "check_count" 317 (rH 113),eH P "check_names" 328 (rH 120),eH P "check_ballots" 334 (rH 125),eH P "put_together" 345 (rH 132),eH P "LETTERS" 349 (sH "abcdefghijklmnopqrstuvwxyz" 348),eH P "MOST_SIGNS" 351 (jH 12 350),eH P "Box" 426 (rH 184),eH P "check_roll" 434 (rH 195),eH P "is_word" 440 (rH 200),eH P "names_in" 450 (rH 207),eH P "check_many" 457 (rH 214),eH P "_law_cell_at" 467 (rH 221),eH P "_law_mixed" 478 (rH 228),eH P "_law_base" 489 (rH 235),eH P "_law_word" 501 (rH 242),eH P "_law_words" 516 (rH 249),eH P "_law_whole" 523 (rH 256),eH P "_law_same" 532 (rH 263),eH P "_law_before" 542 (rH 270),eH P "_law_heaps" 548 (rH 275),eH P "_law_like" 554 (rH 280),eH P "_law_good" 560 (rH 285),eH P "_law_right" 572 (rH 292),eH P "_law_moved" 578 (rH 297),eH P "law" 593 (rH 304)] 44) ::
(nat_lit 15,tH #[]) ::
(nat_lit 17,tH #[sH "k" 190]) ::
(nat_lit 18,tH #[]) ::
(nat_lit 20,cH #[sH "_wall" 187,sH "_wall" 188,sH "/claim/cut.py" 189,jH 1 0,jH 1 0,jH 0 0,jH 0 0,jH 3 0,rH 15,.bool true,jH 181 0,rH 16,.none,rH 17,rH 18,rH 19,jH 191 0,jH 1 0,sH "/claim/cut.py" 192]) ::
(nat_lit 21,fH "_wall" "_wall" (pD 0) "__main__" 164 20) ::
(nat_lit 22,tH #[.type "ValueError"]) ::
(nat_lit 29,tH #[]) ::
(nat_lit 30,dH #[eH P "__module__" 203 (sH "fairbench.errors" 194),eH P "__firstlineno__" 207 (jH 5 206),eH P "__static_attributes__" 208 (rH 29),eH P "__weakref__" 210 (rH 32),eH P "__doc__" 211 .none] 3) ::
(nat_lit 31,{ cls:=.type "type",data:=.cls { name:="BenchError",bases:=[.type "ValueError"],mro:=[rH 31,.type "ValueError",.type "Exception",.type "BaseException",.type "object"],ns:=30,qualname:="BenchError",subclasses:=[rH 44,rH 56,rH 68,rH 80,rH 92] },slots:=#[some (rH 22),none,some (sH "BenchError" 196),some (sH "BenchError" 204),some (.builtin "ValueError.__new__"),some (.bool true)] }) ::
(nat_lit 32,{ cls:=.type "getset_descriptor",data:=.fields #[sH "__weakref__" 209,rH 31,.builtin "ExceptionGroup.__weakref__",.none] }) ::
(nat_lit 35,tH #[rH 31]) ::
(nat_lit 42,tH #[]) ::
(nat_lit 43,dH #[eH P "__module__" 221 (sH "fairbench.errors" 194),eH P "__firstlineno__" 225 (jH 7 224),eH P "__static_attributes__" 226 (rH 42),eH P "__doc__" 227 .none] 2) ::
(nat_lit 44,{ cls:=.type "type",data:=.cls { name:="NoCount",bases:=[rH 31],mro:=[rH 44,rH 31,.type "ValueError",.type "Exception",.type "BaseException",.type "object"],ns:=43,qualname:="NoCount" },slots:=#[some (rH 35),none,some (sH "NoCount" 214),some (sH "NoCount" 222),some (.builtin "ValueError.__new__"),some (.bool true)] }) ::
(nat_lit 47,tH #[rH 31]) ::
(nat_lit 54,tH #[]) ::
(nat_lit 55,dH #[eH P "__module__" 237 (sH "fairbench.errors" 194),eH P "__firstlineno__" 241 (jH 9 240),eH P "__static_attributes__" 242 (rH 54),eH P "__doc__" 243 .none] 2) ::
(nat_lit 56,{ cls:=.type "type",data:=.cls { name:="NoName",bases:=[rH 31],mro:=[rH 56,rH 31,.type "ValueError",.type "Exception",.type "BaseException",.type "object"],ns:=55,qualname:="NoName" },slots:=#[some (rH 47),none,some (sH "NoName" 230),some (sH "NoName" 238),some (.builtin "ValueError.__new__"),some (.bool true)] }) ::
(nat_lit 59,tH #[rH 31]) ::
(nat_lit 66,tH #[]) ::
(nat_lit 67,dH #[eH P "__module__" 253 (sH "fairbench.errors" 194),eH P "__firstlineno__" 257 (jH 11 256),eH P "__static_attributes__" 258 (rH 66),eH P "__doc__" 259 .none] 2) ::
(nat_lit 68,{ cls:=.type "type",data:=.cls { name:="NoHeap",bases:=[rH 31],mro:=[rH 68,rH 31,.type "ValueError",.type "Exception",.type "BaseException",.type "object"],ns:=67,qualname:="NoHeap" },slots:=#[some (rH 59),none,some (sH "NoHeap" 246),some (sH "NoHeap" 254),some (.builtin "ValueError.__new__"),some (.bool true)] }) ::
(nat_lit 71,tH #[rH 31]) ::
(nat_lit 78,tH #[]) ::
(nat_lit 79,dH #[eH P "__module__" 269 (sH "fairbench.errors" 194),eH P "__firstlineno__" 273 (jH 13 272),eH P "__static_attributes__" 274 (rH 78),eH P "__doc__" 275 .none] 2) ::
(nat_lit 80,{ cls:=.type "type",data:=.cls { name:="NoRoll",bases:=[rH 31],mro:=[rH 80,rH 31,.type "ValueError",.type "Exception",.type "BaseException",.type "object"],ns:=79,qualname:="NoRoll" },slots:=#[some (rH 71),none,some (sH "NoRoll" 262),some (sH "NoRoll" 270),some (.builtin "ValueError.__new__"),some (.bool true)] }) ::
(nat_lit 83,tH #[rH 31]) ::
(nat_lit 90,tH #[]) ::
(nat_lit 91,dH #[eH P "__module__" 285 (sH "fairbench.errors" 194),eH P "__firstlineno__" 289 (jH 15 288),eH P "__static_attributes__" 290 (rH 90),eH P "__doc__" 291 .none] 2) ::
(nat_lit 92,{ cls:=.type "type",data:=.cls { name:="NoBallot",bases:=[rH 31],mro:=[rH 92,rH 31,.type "ValueError",.type "Exception",.type "BaseException",.type "object"],ns:=91,qualname:="NoBallot" },slots:=#[some (rH 83),none,some (sH "NoBallot" 278),some (sH "NoBallot" 286),some (.builtin "ValueError.__new__"),some (.bool true)] }) ::
(nat_lit 95,tH #[]) ::
(nat_lit 98,cH #[sH "heaps_of" 298,sH "heaps_of" 299,sH "/claim/cut.py" 300,jH 19 0,jH 2 0,jH 0 0,jH 0 0,jH 3 0,rH 95,.bool true,jH 181 0,rH 96,.none,.none,.none,rH 97,jH 301 0,jH 19 0,sH "/claim/cut.py" 302]) ::
(nat_lit 99,fH "heaps_of" "heaps_of" (pD 10) "fairbench.heaps" 294 98) ::
(nat_lit 100,tH #[]) ::
(nat_lit 102,tH #[sH "names" 307]) ::
(nat_lit 103,tH #[]) ::
(nat_lit 105,cH #[sH "rank" 304,sH "rank" 305,sH "/claim/cut.py" 306,jH 25 0,jH 1 0,jH 0 0,jH 0 0,jH 3 0,rH 100,.bool true,jH 181 0,rH 101,.none,rH 102,rH 103,rH 104,jH 308 0,jH 25 0,sH "/claim/cut.py" 309]) ::
(nat_lit 106,fH "rank" "rank" (pD 11) "fairbench.heaps" 294 105) ::
(nat_lit 107,tH #[]) ::
(nat_lit 109,tH #[sH "count" 314]) ::
(nat_lit 110,tH #[]) ::
(nat_lit 112,cH #[sH "check_count" 311,sH "check_count" 312,sH "/claim/cut.py" 313,jH 27 0,jH 1 0,jH 0 0,jH 0 0,jH 3 0,rH 107,.bool true,jH 181 0,rH 108,.none,rH 109,rH 110,rH 111,jH 315 0,jH 27 0,sH "/claim/cut.py" 316]) ::
(nat_lit 113,fH "check_count" "check_count" (pD 12) "fairbench.heaps" 294 112) ::
(nat_lit 114,tH #[]) ::
(nat_lit 116,tH #[sH "count" 321,sH "rows" 322,sH "names" 323,sH "many" 324,sH "name" 325]) ::
(nat_lit 117,tH #[]) ::
(nat_lit 119,cH #[sH "check_names" 318,sH "check_names" 319,sH "/claim/cut.py" 320,jH 30 0,jH 2 0,jH 0 0,jH 0 0,jH 3 0,rH 114,.bool true,jH 181 0,rH 115,.none,rH 116,rH 117,rH 118,jH 326 0,jH 30 0,sH "/claim/cut.py" 327]) ::
(nat_lit 120,fH "check_names" "check_names" (pD 13) "fairbench.heaps" 294 119) ::
(nat_lit 121,tH #[]) ::
(nat_lit 124,cH #[sH "check_ballots" 329,sH "check_ballots" 330,sH "/claim/cut.py" 331,jH 35 0,jH 1 0,jH 0 0,jH 0 0,jH 3 0,rH 121,.bool true,jH 181 0,rH 122,.none,.none,.none,rH 123,jH 332 0,jH 35 0,sH "/claim/cut.py" 333]) ::
(nat_lit 125,fH "check_ballots" "check_ballots" (pD 14) "fairbench.heaps" 294 124) ::
(nat_lit 126,tH #[]) ::
(nat_lit 128,tH #[sH "rows" 338,sH "together" 339,sH "row" 340,sH "many" 341,sH "names" 342]) ::
(nat_lit 129,tH #[]) ::
(nat_lit 131,cH #[sH "put_together" 335,sH "put_together" 336,sH "/claim/cut.py" 337,jH 41 0,jH 1 0,jH 0 0,jH 0 0,jH 3 0,rH 126,.bool true,jH 181 0,rH 127,.none,rH 128,rH 129,rH 130,jH 343 0,jH 41 0,sH "/claim/cut.py" 344]) ::
(nat_lit 132,fH "put_together" "put_together" (pD 15) "fairbench.heaps" 294 131) ::
(nat_lit 140,tH #[]) ::
(nat_lit 142,tH #[sH "self" 367,sH "words" 368]) ::
(nat_lit 143,tH #[]) ::
(nat_lit 145,cH #[sH "__init__" 364,sH "Box.__init__" 365,sH "/claim/cut.py" 366,jH 53 0,jH 2 0,jH 0 0,jH 0 0,jH 3 0,rH 140,.bool true,jH 181 0,rH 141,.none,rH 142,rH 143,rH 144,jH 369 0,jH 53 0,sH "/claim/cut.py" 370]) ::
(nat_lit 146,fH "__init__" "Box.__init__" (inClass (pD 19) 0) "fairbench.box" 346 145) ::
(nat_lit 147,tH #[jH 1 372]) ::
(nat_lit 148,tH #[]) ::
(nat_lit 150,tH #[sH "self" 376,sH "text" 377,sH "many" 378,sH "names" 379]) ::
(nat_lit 151,tH #[]) ::
(nat_lit 153,cH #[sH "put" 373,sH "Box.put" 374,sH "/claim/cut.py" 375,jH 58 0,jH 3 0,jH 0 0,jH 0 0,jH 3 0,rH 148,.bool true,jH 181 0,rH 149,.none,rH 150,rH 151,rH 152,jH 380 0,jH 58 0,sH "/claim/cut.py" 381]) ::
(nat_lit 154,pH "put" "Box.put" (inClass (pD 19) 1) "fairbench.box" 346 153 147) ::
(nat_lit 155,tH #[jH 1 383]) ::
(nat_lit 156,tH #[]) ::
(nat_lit 158,tH #[sH "self" 387,sH "text" 388,sH "many" 389,sH "names" 390,sH "left" 391]) ::
(nat_lit 159,tH #[]) ::
(nat_lit 161,cH #[sH "take" 384,sH "Box.take" 385,sH "/claim/cut.py" 386,jH 63 0,jH 3 0,jH 0 0,jH 0 0,jH 3 0,rH 156,.bool true,jH 181 0,rH 157,.none,rH 158,rH 159,rH 160,jH 392 0,jH 63 0,sH "/claim/cut.py" 393]) ::
(nat_lit 162,pH "take" "Box.take" (inClass (pD 19) 2) "fairbench.box" 346 161 155) ::
(nat_lit 163,tH #[]) ::
(nat_lit 165,tH #[sH "self" 398]) ::
(nat_lit 166,tH #[]) ::
(nat_lit 168,cH #[sH "count" 395,sH "Box.count" 396,sH "/claim/cut.py" 397,jH 71 0,jH 1 0,jH 0 0,jH 0 0,jH 3 0,rH 163,.bool true,jH 181 0,rH 164,.none,rH 165,rH 166,rH 167,jH 399 0,jH 71 0,sH "/claim/cut.py" 400]) ::
(nat_lit 169,fH "count" "Box.count" (inClass (pD 19) 3) "fairbench.box" 346 168) ::
(nat_lit 170,tH #[]) ::
(nat_lit 173,cH #[sH "heaps" 402,sH "Box.heaps" 403,sH "/claim/cut.py" 404,jH 74 0,jH 1 0,jH 0 0,jH 0 0,jH 3 0,rH 170,.bool true,jH 181 0,rH 171,.none,.none,.none,rH 172,jH 405 0,jH 74 0,sH "/claim/cut.py" 406]) ::
(nat_lit 174,fH "heaps" "Box.heaps" (inClass (pD 19) 4) "fairbench.box" 346 173) ::
(nat_lit 175,tH #[]) ::
(nat_lit 177,tH #[sH "self" 411,sH "way" 412,sH "places" 413]) ::
(nat_lit 178,tH #[]) ::
(nat_lit 180,cH #[sH "bench" 408,sH "Box.bench" 409,sH "/claim/cut.py" 410,jH 79 0,jH 3 0,jH 0 0,jH 0 0,jH 3 0,rH 175,.bool true,jH 181 0,rH 176,.none,rH 177,rH 178,rH 179,jH 414 0,jH 79 0,sH "/claim/cut.py" 415]) ::
(nat_lit 181,fH "bench" "Box.bench" (inClass (pD 19) 5) "fairbench.box" 346 180) ::
(nat_lit 182,tH #[sH "lying" 417,sH "words" 418]) ::
(nat_lit 183,dH #[eH P "__module__" 359 (sH "fairbench.box" 346),eH P "__firstlineno__" 363 (jH 51 362),eH P "__init__" 371 (rH 146),eH P "put" 382 (rH 154),eH P "take" 394 (rH 162),eH P "count" 401 (rH 169),eH P "heaps" 407 (rH 174),eH P "bench" 416 (rH 181),eH P "__static_attributes__" 419 (rH 182),eH P "__dict__" 421 (rH 185),eH P "__weakref__" 423 (rH 186),eH P "__doc__" 424 .none] 4) ::
(nat_lit 184,{ cls:=.type "type",data:=.cls { name:="Box",bases:=[.type "object"],mro:=[rH 184,.type "object"],ns:=183,qualname:="Box" },slots:=#[none,none,some (sH "Box" 352),some (sH "Box" 360),some (.builtin "object.__new__"),some (.bool true)] }) ::
(nat_lit 185,{ cls:=.type "getset_descriptor",data:=.fields #[sH "__dict__" 420,rH 184,.builtin "function.__dict__",.builtin "function.__dict__#set"] }) ::
(nat_lit 186,{ cls:=.type "getset_descriptor",data:=.fields #[sH "__weakref__" 422,rH 184,.builtin "ExceptionGroup.__weakref__",.none] }) ::
(nat_lit 189,tH #[]) ::
(nat_lit 191,tH #[sH "words" 430,sH "word" 431]) ::
(nat_lit 192,tH #[]) ::
(nat_lit 194,cH #[sH "check_roll" 427,sH "check_roll" 428,sH "/claim/cut.py" 429,jH 81 0,jH 1 0,jH 0 0,jH 0 0,jH 3 0,rH 189,.bool true,jH 181 0,rH 190,.none,rH 191,rH 192,rH 193,jH 432 0,jH 81 0,sH "/claim/cut.py" 433]) ::
(nat_lit 195,fH "check_roll" "check_roll" (pD 20) "fairbench.box" 346 194) ::
(nat_lit 196,tH #[]) ::
(nat_lit 199,cH #[sH "is_word" 435,sH "is_word" 436,sH "/claim/cut.py" 437,jH 89 0,jH 1 0,jH 0 0,jH 0 0,jH 3 0,rH 196,.bool true,jH 181 0,rH 197,.none,.none,.none,rH 198,jH 438 0,jH 89 0,sH "/claim/cut.py" 439]) ::
(nat_lit 200,fH "is_word" "is_word" (pD 21) "fairbench.box" 346 199) ::
(nat_lit 201,tH #[]) ::
(nat_lit 203,tH #[sH "words" 444,sH "text" 445,sH "names" 446,sH "word" 447]) ::
(nat_lit 204,tH #[]) ::
(nat_lit 206,cH #[sH "names_in" 441,sH "names_in" 442,sH "/claim/cut.py" 443,jH 93 0,jH 2 0,jH 0 0,jH 0 0,jH 3 0,rH 201,.bool true,jH 181 0,rH 202,.none,rH 203,rH 204,rH 205,jH 448 0,jH 93 0,sH "/claim/cut.py" 449]) ::
(nat_lit 207,fH "names_in" "names_in" (pD 22) "fairbench.box" 346 206) ::
(nat_lit 208,tH #[]) ::
(nat_lit 210,tH #[sH "many" 454]) ::
(nat_lit 211,tH #[]) ::
(nat_lit 213,cH #[sH "check_many" 451,sH "check_many" 452,sH "/claim/cut.py" 453,jH 101 0,jH 1 0,jH 0 0,jH 0 0,jH 3 0,rH 208,.bool true,jH 181 0,rH 209,.none,rH 210,rH 211,rH 212,jH 455 0,jH 101 0,sH "/claim/cut.py" 456]) ::
(nat_lit 214,fH "check_many" "check_many" (pD 23) "fairbench.box" 346 213) ::
(nat_lit 215,tH #[]) ::
(nat_lit 217,tH #[sH "_law_script" 463,sH "_law_k" 464]) ::
(nat_lit 218,tH #[]) ::
(nat_lit 220,cH #[sH "_law_cell_at" 460,sH "_law_cell_at" 461,sH "/claim/cut.py" 462,jH 105 0,jH 2 0,jH 0 0,jH 0 0,jH 3 0,rH 215,.bool true,jH 181 0,rH 216,.none,rH 217,rH 218,rH 219,jH 465 0,jH 105 0,sH "/claim/cut.py" 466]) ::
(nat_lit 221,fH "_law_cell_at" "_law_cell_at" (pD 25) "law_fairbench_k52_whole_box" 458 220) ::
(nat_lit 222,tH #[]) ::
(nat_lit 224,tH #[sH "_law_cell" 471,sH "_law_many" 472,sH "_law_found" 473,sH "_law_number" 474,sH "_law_k" 475]) ::
(nat_lit 225,tH #[]) ::
(nat_lit 227,cH #[sH "_law_mixed" 468,sH "_law_mixed" 469,sH "/claim/cut.py" 470,jH 109 0,jH 2 0,jH 0 0,jH 0 0,jH 3 0,rH 222,.bool true,jH 181 0,rH 223,.none,rH 224,rH 225,rH 226,jH 476 0,jH 109 0,sH "/claim/cut.py" 477]) ::
(nat_lit 228,fH "_law_mixed" "_law_mixed" (pD 26) "law_fairbench_k52_whole_box" 458 227) ::
(nat_lit 229,tH #[]) ::
(nat_lit 231,tH #[sH "_law_cell" 482,sH "_law_size" 483,sH "_law_found" 484,sH "_law_rest" 485,sH "_law_k" 486]) ::
(nat_lit 232,tH #[]) ::
(nat_lit 234,cH #[sH "_law_base" 479,sH "_law_base" 480,sH "/claim/cut.py" 481,jH 122 0,jH 2 0,jH 0 0,jH 0 0,jH 3 0,rH 229,.bool true,jH 181 0,rH 230,.none,rH 231,rH 232,rH 233,jH 487 0,jH 122 0,sH "/claim/cut.py" 488]) ::
(nat_lit 235,fH "_law_base" "_law_base" (pD 27) "law_fairbench_k52_whole_box" 458 234) ::
(nat_lit 236,tH #[]) ::
(nat_lit 238,tH #[sH "_law_base_here" 493,sH "_law_place" 494,sH "_law_size" 495,sH "_law_k" 496,sH "_law_letters" 497,sH "_law_other" 498]) ::
(nat_lit 239,tH #[]) ::
(nat_lit 241,cH #[sH "_law_word" 490,sH "_law_word" 491,sH "/claim/cut.py" 492,jH 134 0,jH 4 0,jH 0 0,jH 0 0,jH 3 0,rH 236,.bool true,jH 181 0,rH 237,.none,rH 238,rH 239,rH 240,jH 499 0,jH 134 0,sH "/claim/cut.py" 500]) ::
(nat_lit 242,fH "_law_word" "_law_word" (pD 28) "law_fairbench_k52_whole_box" 458 241) ::
(nat_lit 243,tH #[]) ::
(nat_lit 245,tH #[sH "_law_script" 505,sH "_law_at" 506,sH "_law_many" 507,sH "_law_cell" 508,sH "_law_size" 509,sH "_law_base_here" 510,sH "_law_words_here" 511,sH "_law_k" 512,sH "_law_word_here" 513]) ::
(nat_lit 246,tH #[]) ::
(nat_lit 248,cH #[sH "_law_words" 502,sH "_law_words" 503,sH "/claim/cut.py" 504,jH 138 0,jH 3 0,jH 0 0,jH 0 0,jH 3 0,rH 243,.bool true,jH 181 0,rH 244,.none,rH 245,rH 246,rH 247,jH 514 0,jH 138 0,sH "/claim/cut.py" 515]) ::
(nat_lit 249,fH "_law_words" "_law_words" (pD 29) "law_fairbench_k52_whole_box" 458 248) ::
(nat_lit 250,tH #[]) ::
(nat_lit 252,tH #[sH "_law_found" 520]) ::
(nat_lit 253,tH #[]) ::
(nat_lit 255,cH #[sH "_law_whole" 517,sH "_law_whole" 518,sH "/claim/cut.py" 519,jH 149 0,jH 1 0,jH 0 0,jH 0 0,jH 3 0,rH 250,.bool true,jH 181 0,rH 251,.none,rH 252,rH 253,rH 254,jH 521 0,jH 149 0,sH "/claim/cut.py" 522]) ::
(nat_lit 256,fH "_law_whole" "_law_whole" (pD 30) "law_fairbench_k52_whole_box" 458 255) ::
(nat_lit 257,tH #[]) ::
(nat_lit 259,tH #[sH "_law_found" 527,sH "_law_due" 528,sH "_law_k" 529]) ::
(nat_lit 260,tH #[]) ::
(nat_lit 262,cH #[sH "_law_same" 524,sH "_law_same" 525,sH "/claim/cut.py" 526,jH 151 0,jH 2 0,jH 0 0,jH 0 0,jH 3 0,rH 257,.bool true,jH 181 0,rH 258,.none,rH 259,rH 260,rH 261,jH 530 0,jH 151 0,sH "/claim/cut.py" 531]) ::
(nat_lit 263,fH "_law_same" "_law_same" (pD 31) "law_fairbench_k52_whole_box" 458 262) ::
(nat_lit 264,tH #[]) ::
(nat_lit 266,tH #[sH "_law_one" 536,sH "_law_two" 537,sH "_law_left" 538,sH "_law_right_here" 539]) ::
(nat_lit 267,tH #[]) ::
(nat_lit 269,cH #[sH "_law_before" 533,sH "_law_before" 534,sH "/claim/cut.py" 535,jH 168 0,jH 2 0,jH 0 0,jH 0 0,jH 3 0,rH 264,.bool true,jH 181 0,rH 265,.none,rH 266,rH 267,rH 268,jH 540 0,jH 168 0,sH "/claim/cut.py" 541]) ::
(nat_lit 270,fH "_law_before" "_law_before" (pD 32) "law_fairbench_k52_whole_box" 458 269) ::
(nat_lit 271,tH #[]) ::
(nat_lit 274,cH #[sH "_law_heaps" 543,sH "_law_heaps" 544,sH "/claim/cut.py" 545,jH 175 0,jH 1 0,jH 0 0,jH 0 0,jH 3 0,rH 271,.bool true,jH 181 0,rH 272,.none,.none,.none,rH 273,jH 546 0,jH 175 0,sH "/claim/cut.py" 547]) ::
(nat_lit 275,fH "_law_heaps" "_law_heaps" (pD 33) "law_fairbench_k52_whole_box" 458 274) ::
(nat_lit 276,tH #[]) ::
(nat_lit 279,cH #[sH "_law_like" 549,sH "_law_like" 550,sH "/claim/cut.py" 551,jH 187 0,jH 2 0,jH 0 0,jH 0 0,jH 3 0,rH 276,.bool true,jH 181 0,rH 277,.none,.none,.none,rH 278,jH 552 0,jH 187 0,sH "/claim/cut.py" 553]) ::
(nat_lit 280,fH "_law_like" "_law_like" (pD 34) "law_fairbench_k52_whole_box" 458 279) ::
(nat_lit 286,tH #[]) ::
(nat_lit 288,tH #[sH "_law_box" 564,sH "_law_kept" 565,sH "_law_first" 566,sH "_law_due" 567,sH "_law_found" 568,sH "_law_many" 569]) ::
(nat_lit 289,tH #[]) ::
(nat_lit 291,cH #[sH "_law_right" 561,sH "_law_right" 562,sH "/claim/cut.py" 563,jH 193 0,jH 3 0,jH 0 0,jH 0 0,jH 3 0,rH 286,.bool true,jH 181 0,rH 287,.none,rH 288,rH 289,rH 290,jH 570 0,jH 193 0,sH "/claim/cut.py" 571]) ::
(nat_lit 292,fH "_law_right" "_law_right" (pD 36) "law_fairbench_k52_whole_box" 458 291) ::
(nat_lit 293,tH #[]) ::
(nat_lit 296,cH #[sH "_law_moved" 573,sH "_law_moved" 574,sH "/claim/cut.py" 575,jH 204 0,jH 5 0,jH 0 0,jH 0 0,jH 3 0,rH 293,.bool true,jH 181 0,rH 294,.none,.none,.none,rH 295,jH 576 0,jH 204 0,sH "/claim/cut.py" 577]) ::
(nat_lit 297,fH "_law_moved" "_law_moved" (pD 37) "law_fairbench_k52_whole_box" 458 296) ::
(nat_lit 298,tH #[]) ::
(nat_lit 300,tH #[sH "_law_script" 582,sH "_law_roll" 583,sH "_law_rolls" 584,sH "_law_handed" 585,sH "_law_boxes" 586,sH "_law_kept" 587,sH "_law_cell" 588,sH "_law_xs" 589,sH "_law_which" 590]) ::
(nat_lit 301,tH #[]) ::
(nat_lit 303,cH #[sH "law" 579,sH "law" 580,sH "/claim/cut.py" 581,jH 222 0,jH 1 0,jH 0 0,jH 0 0,jH 3 0,rH 298,.bool true,jH 181 0,rH 299,.none,rH 300,rH 301,rH 302,jH 591 0,jH 222 0,sH "/claim/cut.py" 592]) ::
(nat_lit 304,fH "law" "law" (pD 38) "law_fairbench_k52_whole_box" 458 303)::[]
def LX:List Addr:=[2,3,15,17,18,20,21,22,29,30,31,32,35,42,43,44,47,54,55,56,59,66,67,68,71,78,79,80,83,90,91,92,95,98,99,100,102,103,105,106,107,109,110,112,113,114,116,117,119,120,121,124,125,126,128,129,131,132,140,142,143,145,146,147,148,150,151,153,154,155,156,158,159,161,162,163,165,166,168,169,170,173,174,175,177,178,180,181,182,183,184,185,186,189,191,192,194,195,196,199,200,201,203,204,206,207,208,210,211,213,214,215,217,218,220,221,222,224,225,227,228,229,231,232,234,235,236,238,239,241,242,243,245,246,248,249,250,252,253,255,256,257,259,260,262,263,264,266,267,269,270,271,274,275,276,279,280,286,288,289,291,292,293,296,297,298,300,301,303,304]
def qv:Program:={ PySem.Challenge.pw_fairbench_k52_whole_box with main:={ PySem.Challenge.pw_fairbench_k52_whole_box.main with body:=(PySem.Challenge.pw_fairbench_k52_whole_box.main.body.zipIdx.filter fun x=>!([1,8,16,24].contains x.2)).map (·.1) } }
theorem xN:∀P,LX=(KH P).map (·.1):=fun _=>by kernel_rfl
def zE(w:World):Option Shared:=openEnds treeTable PySem.Challenge.rw_fairbench_k52_whole_box.row.prog w 5042
def y1(s:Shared):=seen ((recsOf qv).map (·.name)) (ownsOf qv) [] { s with gens:=#[] }
def y3(s:Shared):Bool:=s.heap.keysOk (looseW qv []) ((recsOf qv).map (·.name)) ((litsOf qv).map (·.1)) ((clssOf qv (looseW qv [])).map (·.name))&&s.heap.accountedOkI (importedModules PySem.Challenge.rw_fairbench_k52_whole_box.row.prog.main.body)&&s.heap.isNs mainGlobals&&s.heap.isNs builtinsNs&&tablesOk qv s.heap&&(xlAt qv [] s&&recOk (RowW.records PySem.Challenge.rw_fairbench_k52_whole_box.row.toRowW) s)&&s.gens.size==0
theorem d0:drecsOf qv=[]:=by kernel_rfl
theorem d2:wclssOf qv []=[]:=by kernel_rfl
theorem Tw:∀w,(zE w).map y1=some (expectedOf qv):=by intro w;kernel_rfl
theorem Tx:∀w,(zE w).map (fun s=>(s.heap.bltView,tabsOk qv s,plainSeenD qv [] s))=some (bltViewBooted,true,plainGoodD qv []):=by intro w;kernel_rfl
theorem Tz:∀w,(zE w).map (fun s=>(y3 s,plainSeenE qv (looseW qv []) s,wideSeen qv s))=some (true,plainGoodE qv (looseW qv []),wideGood qv):=by intro w;kernel_rfl
theorem TB:∀w,(zE w).map (kmHook KH LX xN []).obs=some ((kmHook KH LX xN []).val w):=by intro w;kernel_rfl
theorem TC:LeftO PySem.Challenge.rw_fairbench_k52_whole_box.row.prog qv [] (fun s=>xlAt qv [] s&&recOk (RowW.records PySem.Challenge.rw_fairbench_k52_whole_box.row.toRowW) s) (kmHook KH LX xN []).obs (kmHook KH LX xN []).val 5042:=by
  intro w;have h1:=Tw w;have h2:=Tz w;have h3:=Tx w;have h4:=TB w;unfold zE at h1 h2 h3 h4;cases h:openEnds treeTable PySem.Challenge.rw_fairbench_k52_whole_box.row.prog w 5042 with
  |none=>rw[h] at h1;cases h1
  |some s =>
   rw[h] at h1 h2 h3 h4;have e1:=jJ h1;have e3:=jJ h3;have e2:=jJ h2;have p:pinSeenD qv (drecsOf qv) s=pinGoodD (drecsOf qv):=by rw[d0];rfl
   have q:plainSeenD qv [] s=plainGoodD qv []:=gG (·.2.2) e3;have r:clsSeenW qv [] s=clsGoodW qv []:=by unfold clsSeenW clsGoodW;rw[d2];rfl
   exact gG some (Prod.ext (Prod.ext e1 (Prod.ext (gG (·.1) e3) (Prod.ext (gG (·.1) e2) (Prod.ext (gG (·.2.1) e3) (Prod.ext p (Prod.ext (gG (·.2.1) e2) (Prod.ext q (Prod.ext (gG (·.2.2) e2) r)))))))) (jJ h4))
end HH
namespace L2
open PySem PySem.Spec PyProof.Rows
abbrev Key:=Sum Int Str
def wU:Key→Value→Bool
  |.inl k,v=>Value.isInt k v
  |.inr x,v=>Value.isStrOf x v
def WV(w:World):Key→Int
  |.inl k=>hashInt k
  |.inr x=>hashStr w x
theorem de:∀{k:Key} {v:Value},wU k v=true→(∃i t,k=Sum.inl i∧v=Value.int i t)∨(∃x t,k=Sum.inr x∧v=Value.str x t)
  |.inl i,v,h=>by obtain⟨t,e⟩:=Value.isInt_shape (k:=i) (v:=v) h;exact .inl ⟨i,t,rfl,e⟩
  |.inr x,v,h=>by obtain⟨t,e⟩:=Value.isStrOf_shape (x:=x) (v:=v) h;exact .inr ⟨x,t,rfl,e⟩
theorem FW(i:Int)(t:Tok):wU (.inl i) (.int i t)=true:=by simp[wU,Value.isInt]
theorem FX(x:Str)(t:Tok):wU (.inr x) (.str x t)=true:=by simp[wU,Value.isStrOf]
theorem P9(a b:Int):decide ((Sum.inl a:Key)=Sum.inl b)=(a==b):=by
  by_cases e:a=b
  ·subst e;simp
  ·have h:¬ (Sum.inl a:Key)=Sum.inl b:=fun q=>e (Sum.inl.inj q);rw[gQ h];exact(beq_eq_false_iff_ne.mpr e).symm
theorem Qa(a b:Str):decide ((Sum.inr a:Key)=Sum.inr b)=decide (a=b):=by
  by_cases e:a=b
  ·subst e;simp
  ·have h:¬ (Sum.inr a:Key)=Sum.inr b:=fun q=>e (Sum.inr.inj q);rw[gQ h,gQ e]
theorem Qb(a:Int)(b:Str):decide ((Sum.inl a:Key)=Sum.inr b)=false:=gQ (fun q=>nomatch q)
theorem Qc(a:Str)(b:Int):decide ((Sum.inr a:Key)=Sum.inl b)=false:=gQ (fun q=>nomatch q)
def cJ(prog:Program)(w:World):PySem.KeyKind prog w Key where
  is:=wU
  hash:=WV w
  inj:=fun v a b ha hb=>by
    rcases de ha with⟨i,t,rfl,rfl⟩|⟨x,t,rfl,rfl⟩
    · rcases de hb with⟨j,u,rfl,e⟩|⟨y,u,rfl,e⟩
      ·injection e with e1 _;rw[e1]
      ·exact nomatch e
    · rcases de hb with⟨j,u,rfl,e⟩|⟨y,u,rfl,e⟩
      ·exact nomatch e
      ·injection e with e1 _;rw[e1]
  byValue:=fun k v h=>by rcases de h with⟨i,t,rfl,rfl⟩|⟨x,t,rfl,rfl⟩<;>rfl
  pyHash:=fun hv h=>by
    rcases de hv with⟨i,t,rfl,rfl⟩|⟨x,t,rfl,rfl⟩
    ·exact wpAny_pyHash_int h
    ·exact wpAny_pyHash_str h
  eqBool:=fun hu hv h=>by
    rcases de hu with⟨i,t,rfl,rfl⟩|⟨x,t,rfl,rfl⟩
    · rcases de hv with⟨j,u,rfl,rfl⟩|⟨y,u,rfl,rfl⟩
      ·rw[P9] at h;exact wpAny_eqBool_int h
      ·rw[Qb] at h;exact SeqAt.EqAt.int_str i t y u _ _ _ _ h
    · rcases de hv with⟨j,u,rfl,rfl⟩|⟨y,u,rfl,rfl⟩
      ·rw[Qc] at h;exact SeqAt.EqAt.str_int x t j u _ _ _ _ h
      ·rw[Qa] at h;exact wpAny_eqBool_str h
  «strs»:=fun k x t v h=>by
    rcases de h with⟨i,u,rfl,e⟩|⟨y,u,rfl,e⟩
    ·exact nomatch e
    ·injection e with e1 _;subst e1;cases v<;>rfl
theorem zD(prog:Program)(w:World)(i:Int)(t:Tok):(cJ prog w).is (.inl i) (.int i t)=true:=FW i t
theorem zF(prog:Program)(w:World)(x:Str)(t:Tok):(cJ prog w).is (.inr x) (.str x t)=true:=FX x t
inductive V where
  |non|bl (b:Bool)|int (i:Int)|str (x:Str)|HB (b:Array UInt8)|Qd (b:UInt64)|ref (a:Addr)|ty (n:String)
  deriving DecidableEq
def RelV:V→Value→Prop
  |.non,u=>u=Value.none
  |.bl b,u=>u=Value.bool b
  |.int i,u=>∃t,u=Value.int i t
  |.str x,u=>∃t,u=Value.str x t
  |.HB b,u=>∃t,u=Value.bytes b t
  |.Qd b,u=>∃t,u=Value.float b t
  |.ref a,u=>u=Value.ref a
  |.ty n,u=>u=Value.type n
abbrev Vals:List V→cA→Prop:=Paired RelV
theorem Vals.length{xs:List V}(r:Vals xs us):xs.length=us.length:=pK r
theorem Vals.get:∀{xs:List V} {us:cA} {i:Nat} {x:V},Vals xs us→xs[i]?=some x→∃u,us[i]?=some u∧RelV x u
  |_,_,_,_,.nil,e=>by simp at e
  |_,_,0,_,.cons r _,e=>by simp at e;subst e;exact⟨_,rfl,r⟩
  |_,_,i+1,x,.cons _ t,e=>by obtain⟨u,h1,h2⟩:=Vals.get (i:=i) (x:=x) t (by simpa using e);exact⟨u,by simpa using h1,h2⟩
theorem Vals.set{x:V}(r:RelV x u):∀{xs:List V} {us:cA} (i:Nat),Vals xs us→Vals (xs.set i x) (us.set i u)
  |_,_,_,.nil=>.nil
  |_,_,0,.cons _ t=>.cons r t
  |_,_,i+1,.cons q t=>.cons q (Vals.set r i t)
theorem Vals.append:∀{xs ys:List V} {us ws:cA},Vals xs us→Vals ys ws→Vals (xs++ys) (us++ws)
  |_,_,_,_,.nil,s=>s
  |_,_,_,_,.cons r t,s=>.cons r (Vals.append t s)
theorem Vals.take:∀{xs:List V} {us:cA} (n:Nat),Vals xs us→Vals (xs.take n) (us.take n)
  |_,_,0,_=>.nil
  |_,_,_+1,.nil=>.nil
  |_,_,n+1,.cons r t=>.cons r (Vals.take n t)
theorem Vals.drop:∀{xs:List V} {us:cA} (n:Nat),Vals xs us→Vals (xs.drop n) (us.drop n)
  |_,_,0,r=>r
  |_,_,_+1,.nil=>.nil
  |_,_,n+1,.cons _ t=>Vals.drop n t
def lS:Option V→fQ→Prop
  |some v,some u=>RelV v u
  |none,none=>True
  |_,_=>False
def KV{κ:Type}:List (κ×V)→List (κ×Value)→Prop:=Paired fun(p:κ×V) (q:κ×Value)=>p.1=q.1∧RelV p.2 q.2
def kV:Key→V
  |.inl i=>.int i
  |.inr x=>.str x
inductive HO where
  /-- a list -/
  |lst (xs:List V)
  /-- a tuple (never changes) -/
  |tup (xs:List V)
  /-- a dict whose keys are ints and texts;one whose keys are tuples of ints and texts (the empty one is both) -/
  |dK (ao:List (Key×V))|dT (ao:List (List Key×V))
  /-- a set of ints: its members,its size -/
  |set (S:Int→Bool) (n:Nat)
  /-- an instance of the class at C,its dict at dx,its attributes -/
  |ins (C dx:Addr) (fs:List (Str×V))
  /-- the dict of the instance at x -/
  |own (x:Addr)
  /-- the dict of an exception -/
  |xd (fs:List (Str×V))
  /-- a bound method,f of x -/
  |met (f x:Addr)
  /-- a range object lo,lo+1,.. below hi -/
  |WW (lo hi:Int)
  /-- a thing that is known to the object (the script;a dict while a loop walks it): read,never written while it is so -/
  |gM (o:Obj) (u:HO)
  /-- a code object's table -/
  |LY (ps:Array Value)
  /-- a code record,its name -/
  |SW (q:Str)
  /-- any other thing,by what is true of its one object (a def of aak own: ace a S n:=HO.ext fun h=>..) -/
  |ext (φ:Heap→Prop)
abbrev Hp:=Addr→Option HO
def upd(H:Hp)(a:Addr)(o:HO):Hp:=fun b=>if b=a then some o else H b
theorem ay{H:Hp}{o:HO}:upd H a o a=some o:=by unfold upd;rw[az rfl]
theorem ai{H:Hp}{o:HO}(h:b≠a):upd H a o b=H b:=by unfold upd;rw[ax h]
theorem mr{H:Hp}{o u:HO}(h:H a=some o)(h':H b=some u)(d:o≠u):a≠b:=by intro e;subst e;rw[h] at h';exact d (jJ h')
theorem aQ{H:Hp}{o:HO}(h:H a=some o)(h':H b=none):a≠b:=by intro e;subst e;rw[h] at h';cases h'
section
variable (P:Program) (w:World)
def bS(H:Hp)(h:Heap)(a:Addr):HO→Prop
  |.lst xs=>xs.length≤sizeLine∧∃(its:cA) (n:Nat),Vals xs its∧h.get? a=some { cls:=.type "list",data:=.seq its.toArray n }
  |.tup xs=>xs.length≤sizeLine∧∃its:cA,Vals xs its∧IsTup h a its.toArray
  |.dK ao=>ao.length≤sizeLine∧(a==sysModules)=false∧∃vs,KV ao vs∧h.DictOf (cJ P w) a vs
  |.dT ao=>ao.length≤sizeLine∧(a==sysModules)=false∧∃xs:List (List Key×Addr×Value),
      Paired (fun(p:List Key×V) (q:List Key×Addr×Value)=>p.1=q.1∧H q.2.1=some (.tup (p.1.map kV))∧RelV p.2 q.2.2) ao xs ∧
      ∃o es ep,h.get? a=some o∧o.ExactDict∧o.data=.dict es ep∧es.toList=xs.map (entryOfKey (tupleKind (cJ P w)))∧(xs.map (·.1)).Nodup
  |.set S n=>h.SetOf (intKind P w) a S n
  |.ins C dx fs=>H dx=some (.own a)∧fs.length≤1000∧dx≠a∧h.get? a=some (instObj C dx) ∧
      ∃mA,h.Ns1 dx mA∧(∀f,lS (fs.lookup f) (mA f))∧PySem.Within mA (fs.map (·.1))
  |.own _=>∃o,h.get? a=some o
  |.xd fs=>∃mA,h.Ns1 a mA∧∀f,lS (fs.lookup f) (mA f)
  |.WW lo hi=>∃t u v,h.get? a=some { cls:=.type "range",data:=.fields #[.int lo t,.int hi u,.int 1 v] }
  |.gM o u=>h.get? a=some o∧bS H h a u
  |.LY ps=>∃(q:Str) (qs:Array Value),ps=#[.str q 0]∧h.get? a=some { cls:=.none,data:=.fields qs }∧TriplesOk qs.toList∧∀pos v,codeAmong pos qs.toList=some v→∃c,v=.ref c∧H c=some (.SW q)
  |.SW q=>h.CodeRec (.ref a) q
  |.met f x=>h.get? a=some (methodObj (.ref f) (.ref x))
  |.ext φ=>φ h∧(∃o,h.get? a=some o)∧∀h1 h2:Heap,φ h1→(∀o,h1.get? a=some o→h2.get? a=some o)→φ h2
def oC(H:Hp)(h:Heap):Prop:=∀a o,H a=some o→bS P w H h a o
end
section
variable {P:Program} {w:World} {H H':Hp} {h h':Heap} {a:Addr} {o:HO}
theorem bS.lt(x:bS P w H h a o):a<h.objs.size:=by
  cases o with
  |lst xs=>obtain⟨_,_,_,_,e⟩:=x;exact bG e
  |tup xs=>obtain⟨_,_,_,p⟩:=x;exact p.lt
  |dK ao=>obtain⟨_,_,_,_,o,_,_,e,_⟩:=x;exact bG e
  |dT ao=>obtain⟨_,_,_,_,o,_,_,e,_⟩:=x;exact bG e
  |set S n=>obtain⟨o,_,_,_,e,_⟩:=x;exact bG e
  |ins C dx fs=>obtain⟨_,_,_,e,_⟩:=x;exact bG e
  |own y=>obtain⟨_,e⟩:=x;exact bG e
  |xd fs=>obtain⟨_,⟨_,_,_,e,_⟩,_⟩:=x;exact bG e
  |WW lo hi=>obtain⟨_,_,_,e⟩:=x;exact bG e
  |gM ob u=>obtain⟨e,_⟩:=x;exact bG e
  |LY ps=>obtain⟨_,_,_,e,_⟩:=x;exact bG e
  |SW q=>obtain⟨_,_,_,_,e,g,_⟩:=x;cases e;exact bG g
  |met f y=>exact bG (show h.get? a=some _ from x)
  |ext φ=>obtain⟨_,⟨_,e⟩,_⟩:=x;exact bG e
theorem Paired.HQ{α β:Type}{F G:α→β→Prop}:∀{l₁:List α} {l₂:List β},Paired F l₁ l₂→(∀a b,F a b→G a b)→Paired G l₁ l₂
  |_,_,.nil,_=>.nil
  |_,_,.cons r t,f=>.cons (f _ _ r) (Paired.HQ t f)
theorem bS.jY(x:bS P w H h a o)(k:∀b u,(b=a∨H b=some (.own a))→h.get? b=some u→h'.get? b=some u)(ho:∀b,H b=some (.own a)→H' b=some (.own a))(ht:∀b xs,H b=some (.tup xs)→H' b=some (.tup xs))(dU:∀b q,H b=some (.SW q)→H' b=some (.SW q):=by
      intro b q hb
      first
        |exact hb
        |(rw[ai (aQ hb (by assumption))];exact hb)
        |(rw[ai (mr hb (by assumption) (fun z=>nomatch z))];exact hb)
        |(rw[ai (by rintro rfl;simp_all [SX])];exact hb)):bS P w H' h' a o:=by
  induction o with
  |lst xs=>obtain⟨z,its,n,r,e⟩:=x;exact⟨z,its,n,r,k _ _ (.inl rfl) e⟩
  |tup xs=>obtain⟨z,its,r,ob,e,c⟩:=x;exact⟨z,its,r,ob,k _ _ (.inl rfl) e,c⟩
  |dK ao=>obtain⟨z,y,vs,r,ob,es,ep,e,c⟩:=x;exact⟨z,y,vs,r,ob,es,ep,k _ _ (.inl rfl) e,c⟩
  |dT ao=>obtain⟨z,y,xs,r,ob,es,ep,e,c⟩:=x;exact⟨z,y,xs,Paired.HQ r fun p q z=>⟨z.1,ht _ _ z.2.1,z.2.2⟩,ob,es,ep,k _ _ (.inl rfl) e,c⟩
  |set S n=>obtain⟨ob,es,ep,t,e,c⟩:=x;exact⟨ob,es,ep,t,k _ _ (.inl rfl) e,c⟩
  |ins C dx fs=>obtain⟨d,z,ne,e,mA,⟨od,es,ep,e2,c⟩,r⟩:=x;exact⟨ho _ d,z,ne,k _ _ (.inl rfl) e,mA,⟨od,es,ep,k _ _ (.inr d) e2,c⟩,r⟩
  |own y=>obtain⟨ob,e⟩:=x;exact⟨ob,k _ _ (.inl rfl) e⟩
  |xd fs=>obtain⟨mA,⟨od,es,ep,e,c⟩,r⟩:=x;exact⟨mA,⟨od,es,ep,k _ _ (.inl rfl) e,c⟩,r⟩
  |WW lo hi=>obtain⟨t,u,v,e⟩:=x;exact⟨t,u,v,k _ _ (.inl rfl) e⟩
  |gM ob u ih=>obtain⟨e,q⟩:=x;exact⟨k _ _ (.inl rfl) e,ih q⟩
  |LY ps=>obtain⟨q,qs,e0,e,ht,hc⟩:=x;refine⟨q,qs,e0,k a _ (.inl rfl) e,ht,fun pos v hv=>?_⟩;obtain⟨c,e1,hH⟩:=hc pos v hv;exact⟨c,e1,dU _ _ hH⟩
  |SW q=>obtain⟨c,o2,vs2,t2,e2,g2,r2⟩:=x;cases e2;exact⟨_,o2,vs2,t2,rfl,k _ _ (.inl rfl) g2,r2⟩
  |met f y=>have e:h.get? a=some (methodObj (.ref f) (.ref y)):=x;show h'.get? a=some (methodObj (.ref f) (.ref y));exact k a _ (.inl rfl) e
  |ext φ=>obtain⟨p,⟨o,e⟩,st⟩:=x;exact⟨st _ _ p fun o q=>k _ _ (.inl rfl) q,⟨o,k _ _ (.inl rfl) e⟩,st⟩
theorem oC.lt(x:oC P w H h)(e:H a=some o):a<h.objs.size:=(x a o e).lt
theorem oC.fresh(x:oC P w H h)(e:h.objs.size≤a):H a=none:=by
  cases q:H a with
  |none=>rfl
  |some u=>exact absurd (jX (x.lt q) e) (rn _)
theorem oC.kept(x:oC P w H h)(k:∀b u,h.get? b=some u→h'.get? b=some u):oC P w H h':=fun a o e =>
  (x a o e).jY (fun b u _ q=>k b u q) (fun _ q=>q) fun _ _ q=>q
theorem oC.laid(x:oC P w H h)(k:∀b u,h.get? b=some u→h'.get? b=some u)(hp:h.objs.size≤a)(new:bS P w (upd H a o) h' a o):oC P w (upd H a o) h':=fun b u e=>by
  have hn:=x.fresh hp;by_cases hb:b=a
  ·subst hb;rw[ay] at e;cases e;exact new
  ·rw[ai hb] at e;exact(x b u e).jY (fun c v _ q=>k c v q) (fun c q=>by rw[ai (aQ q hn)];exact q) fun c xs q=>by rw[ai (aQ q hn)];exact q
end
def Rd(H:Hp)(a:Addr)(u:HO):Prop:=H a=some u∨∃o,H a=some (.gM o u)
theorem Rd.ok{H:Hp}{u:HO}(r:Rd H a u)(x:oC P w H h):bS P w H h a u:=by
  rcases r with r|⟨o,r⟩
  ·exact x a u r
  ·obtain⟨_,q⟩:=x a _ r;exact q
def SX:Option HO→Prop
  |some (.lst _)=>True
  |some (.dK _)=>True
  |some (.dT _)=>True
  |some (.set _ _)=>True
  |some (.ins _ _ _)=>True
  |some (.ext _)=>True
  |_=>False
section
variable {P:Program} {w:World} {H:Hp} {h h':Heap} {x e:Addr} {o':HO}
theorem oC.write(ok:oC P w H h)(mu:SX (H x))(he:e=x∨H e=some (.own x))(k:∀b u,b≠e→h.get? b=some u→h'.get? b=some u)(SY:∃u,h'.get? e=some u)(new:bS P w (upd H x o') h' x o'):oC P w (upd H x o') h':=fun b u q=>by
  have TH:∀c y,H c=some (.own y)→c≠x:=fun c y r z=>by subst z;rw[r] at mu;exact mu
  have WX:∀c xs,H c=some (.tup xs)→c≠x:=fun c xs r z=>by subst z;rw[r] at mu;exact mu
  by_cases hb:b=x
  ·subst hb;rw[ay] at q;cases q;exact new
  · rw[ai hb] at q;by_cases Qe:b=e
    · have q':H b=some (.own x):=by
        rcases he with z|z
        ·exact absurd (Qe.trans z) hb
        ·rw[Qe];exact z
      rw[q] at q';cases q';obtain⟨v,hv⟩:=SY;exact⟨v,by rw[Qe];exact hv⟩
    · refine(ok b u q).jY (fun c v hc r=>k c v ?_ r) (fun c r=>by rw[ai (TH c b r)];exact r) fun c xs r=>by rw[ai (WX c xs r)];exact r
      rcases hc with rfl|hc
      ·exact Qe
      · rintro rfl;rcases he with z|z
        ·exact TH c b hc z
        ·rw[hc] at z;cases z;exact hb rfl
end
structure Un (fs ex:List Addr) (H H':Hp) (h h':Heap):Prop where
  keep:∀b o,h.get? b=some o→H b=none→b∉fs→b∉ex→h'.get? b=some o
  slot:∀b o,h.get? b=some o→H b=none→b∈fs→b∉ex→∃sl,h'.get? b=some { o with slots:=sl }
  free:∀b o,h.get? b=some o→H b=none→b∉ex→H' b=none
  there:∀b o,h.get? b=some o→b∉ex→∃o',h'.get? b=some o'
  oE:∀b xs,H b=some (.tup xs)→H' b=some (.tup xs)
  oF:∀b o u,H b=some (.gM o u)→H' b=some (.gM o u)
  rA:∀b ps,H b=some (.LY ps)→∃more,H' b=some (.LY (ps++more))
section
variable {fs fs' ex ex':List Addr} {H H1 H2:Hp} {h h1 h2 h':Heap} {a x e:Addr} {o:HO}
theorem Un.any(u:Un fs ex H H1 h h1){ob:Obj}(q:h.get? b=some ob)(n:H b=none)(hx:b∉ex):∃sl,h1.get? b=some { ob with slots:=sl }:=by
  by_cases hb:b∈fs
  ·exact u.slot b ob q n hb hx
  ·exact⟨ob.slots,u.keep b ob q n hb hx⟩
theorem Un.kept(k:∀b u,h.get? b=some u→h'.get? b=some u):Un fs ex H H h h' :=
  ⟨fun b ob q _ _ _=>k b ob q,fun b ob q _ _ _=>⟨ob.slots,k b ob q⟩,fun _ _ _ n _=>n,fun b ob q _=>⟨ob,k b ob q⟩,fun _ _ q=>q,fun _ _ _ q=>q,fun _ ps q=>⟨#[],by rw[q];simp⟩⟩
theorem Un.refl:Un fs ex H H h h:=Un.kept fun _ _ q=>q
theorem Un.laid(k:∀b u,h.get? b=some u→h'.get? b=some u)(hp:h.objs.size≤a)(hn:H a=none):Un fs ex H (upd H a o) h h' where
  keep:=fun b u q _ _ _=>k b u q
  slot:=fun b u q _ _ _=>⟨u.slots,k b u q⟩
  free:=fun b u q n _=>by rw[ai (dP (jX (bG q) hp))];exact n
  there:=fun b u q _=>⟨u,k b u q⟩
  oE:=fun b xs q=>by rw[ai (aQ q hn)];exact q
  oF:=fun b u xs q=>by rw[ai (aQ q hn)];exact q
  rA:=fun b ps q=>⟨#[],by rw[ai (aQ q hn),q];simp⟩
theorem Un.write(mu:SX (H x))(he:e=x∨H e=some (.own x))(k:∀b u,b≠e→h.get? b=some u→h'.get? b=some u)(SY:∃u,h'.get? e=some u):Un fs ex H (upd H x o) h h':=by
  have hx:∀b,H b=none→b≠x:=fun b n z=>by subst z;rw[n] at mu;exact mu
  have hb:∀b,H b=none→b≠e:=fun b n z=>by
    subst z;rcases he with r|r
    ·exact hx b n r
    ·rw[n] at r;cases r
  have hm:∀b u,H b=some u→¬ SX (some u)→b≠x:=fun b u q nm z=>by subst z;rw[q] at mu;exact nm mu
  refine⟨fun b u q n _ _=>k b u (hb b n) q,fun b u q n _ _=>⟨u.slots,k b u (hb b n) q⟩,fun b u q n _=>by rw[ai (hx b n)];exact n,fun b u q _=>?_,
    fun b xs q=>by rw[ai (hm b _ q fun z=>z)];exact q,fun b u xs q=>by rw[ai (hm b _ q fun z=>z)];exact q,fun b ps q=>⟨#[],by rw[ai (hm b _ q fun z=>z),q];simp⟩⟩
  by_cases Qe:b=e
  ·subst Qe;exact SY
  ·exact⟨u,k b u Qe q⟩
end
def V6(h:Heap)(H:Hp):List Addr:=(List.range h.objs.size).filter fun a=>(H a).isSome
def xO(h:Heap)(H:Hp):Heap:=PySem.W.hideAll h (V6 h H)
theorem FY(h:Heap)(H:Hp):(xO h H).objs.size=h.objs.size:=PySem.W.hideAll_size _ _
theorem HR{H:Hp}{o:Obj}(e:h.get? b=some o)(n:H b=none):(xO h H).get? b=some o :=
  PySem.W.hideAll_get _ e fun hm=>by have q:(H b).isSome=true:=(List.mem_filter.mp hm).2;rw[n] at q;simp at q
theorem L7{H:Hp}{o:Obj}(e:(xO h H).get? b=some o):h.get? b=some o∧H b=none:=by
  have e':h.get? b=some o:=PySem.W.of_hideAll (V6 h H) e;refine⟨e',?_⟩;cases q:H b with
  |none=>rfl
  |some x=>have hm:b∈V6 h H:=List.mem_filter.mpr ⟨ml.mpr (bG e'),by simp[q]⟩;have z:(xO h H).get? b=none:=PySem.W.hideAll_none (V6 h H) hm;rw[z] at e;cases e
structure Mod (K:PySem.W.Frag) (mg:Str→fQ) (base:Heap):Prop where
  TJ:K.In base
  glob:base.Ns mainGlobals mg
  blt:∃mb,base.Ns builtinsNs mb∧∀x:Str,x≠"__name__"→mb x=bootBuiltins x
  nolimit:base.NoLimit
structure Cx where
  prog:Program
  w:World
  K:PySem.W.Frag
  mg:Str→fQ
  base:Heap
  A:Around
  N:dB
  s₀:Shared
  H₀:Hp
  env:Env
  outer:List Env
  stack:List Env
  ex:List Addr
  fn:Str→Bool
  calm:Bool
  pn:gw
  xe:ic
def FZ(l:List Env):List Addr:=l.filterMap (·.frame)
abbrev Cx.fs(X:Cx):List Addr:=FZ X.outer
def pL(sc:Scope)(x:Str):Prop:=sc.names.lookup x=some .local∨sc.names.lookup x=some .cell∨sc.names.lookup x=some .free
def Loc(sc:Scope)(x:Str):Prop:=sc.names.lookup x=some .local∨sc.names.lookup x=some .cell
def Look(env:Env)(h:Heap)(m:Str→fQ)(x:Str)(u:Value):Prop :=
  (env.kindOf x=some .local∧m x=some u)∨((env.kindOf x=some .cell∨env.kindOf x=some .free)∧∃c,env.cells.lookup x=some c∧h.IsCell c (some u))
structure Cx.Ok (X:Cx):Prop where
  mod:Mod X.K X.mg X.base
  kind:X.env.scope.kind=.function
  glob:X.env.globals=mainGlobals
  blt:X.env.builtins=builtinsNs
  above:X.s₀.heap.objs.size≤X.env.locals
  inj:∀x y c,X.env.cells.lookup x=some c→X.env.cells.lookup y=some c→x=y
  has:∀x,(X.env.kindOf x=some .cell∨X.env.kindOf x=some .free)→∃c,X.env.cells.lookup x=some c
  S0:∀x c,X.fn x=true→X.env.cells.lookup x=some c→X.s₀.heap.objs.size≤c
  hd:X.calm=true→X.A.handled=none
  frames:X.A.frames=some X.stack
  TK:X.stack=X.outer∨(X.stack=X.env::X.outer∧X.env.frame=some X.env.locals)
  WY:∀b∈X.ex,b≠X.env.locals∧∀x c,X.env.cells.lookup x=some c→c≠b
  bs:∀b o,X.base.get? b=some o→X.s₀.heap.get? b=some o∧X.H₀ b=none
  L8:X.base.objs.size≤X.s₀.heap.objs.size
  F5:∀b o,X.base.get? b=some o→b∉X.ex
  HS:∀b∈X.ex,b∉X.fs
  rC:X.s₀.heap.FunFrames X.base X.outer
  Pa:∀b∈X.fs,X.H₀ b=none
structure Inv (X:Cx) (pins:gw) (σ:List (Option V)) (H:Hp) (s:Shared):Prop where
  ok:X.Ok
  os:s.os=X.s₀.os
  bare:AllBare s.gens
  base:Un X.fs X.ex X.H₀ H X.s₀.heap s.heap
  loc:∃m,s.heap.Ns X.env.locals m∧∀(i:Nat) (x:Str) (v:V),X.N[i]?=some x→σ[i]?=some (some v)→pL X.env.scope x→∃u,RelV v u∧Look X.env s.heap m x u
  cell:∀x c,X.env.cells.lookup x=some c→∃v,s.heap.IsCell c v
  free:H X.env.locals=none
  fI:∀x c,X.env.cells.lookup x=some c→H c=none
  pin:∀p∈X.pn++pins,s.heap.get? p.1=some p.2∧H p.1=none∧p.1≠X.env.locals∧p.1∉X.fs∧∀v,p.2.data≠.cell v
  bV:oC X.prog X.w H s.heap
  len:σ.length=X.N.length
section
variable {X:Cx} {pins:gw} {σ:List (Option V)} {H H':Hp} {s:Shared} {h':Heap}
theorem Cx.Ok.WZ(ok:X.Ok){o:Obj}(e:X.base.get? b=some o):b∉X.fs:=fun hb=>by have:=(ok.rC.mem hb).1;rw[e] at this;cases this
theorem Inv.bs(I:Inv X pins σ H s):∀b o,X.base.get? b=some o→s.heap.get? b=some o∧H b=none:=fun b o e =>
  ⟨I.base.keep b o (I.ok.bs b o e).1 (I.ok.bs b o e).2 (I.ok.WZ e) (I.ok.F5 b o e),I.base.free b o (I.ok.bs b o e).1 (I.ok.bs b o e).2 (I.ok.F5 b o e)⟩
theorem Inv.bk(I:Inv X pins σ H s):∀b o,X.base.get? b=some o→s.heap.get? b=some o:=fun b o e=>(I.bs b o e).1
theorem Inv.mod(I:Inv X pins σ H s):Mod X.K X.mg X.base:=I.ok.mod
theorem Inv.qZ(I:Inv X pins σ H s):X.K.In s.heap:=I.ok.mod.TJ.keeps I.bk
theorem Inv.lt(I:Inv X pins σ H s):X.env.locals<s.heap.objs.size:=let ⟨_,hn,_⟩:=I.loc;hn.lt
theorem Inv.sz(I:Inv X pins σ H s):X.s₀.heap.objs.size≤s.heap.objs.size:=fR I.ok.above (nO I.lt)
theorem Inv.Qf(I:Inv X pins σ H s)(h:s.heap.objs.size≤a):a∉X.fs:=fun hb=>by obtain⟨_,o,ho,_⟩:=I.ok.rC.mem hb;exact absurd (jX (bG ho) (fR I.sz h)) (rn _)
theorem Inv.Qg(I:Inv X pins σ H s):∀x c,X.env.cells.lookup x=some c→c≠X.env.locals:=fun x c e z=>by obtain⟨v,o,ho,hd⟩:=I.cell x c e;obtain⟨m,⟨o',es,ep,BO,HC,_⟩,_⟩:=I.loc;rw[z,BO] at ho;cases ho;rw[HC] at hd;cases hd
theorem Inv.rC(I:Inv X pins σ H s):s.heap.FunFrames X.base X.outer:=by
  have all:∀(l:List Env),(∀b∈FZ l,b∈X.fs)→X.s₀.heap.FunFrames X.base l→s.heap.FunFrames X.base l:=by
    intro l;induction l with
    |nil=>intro _ _;trivial
    |cons env r ih=>intro hs hl;obtain⟨hk,⟨L,o,hf,hn,ho,hd⟩,hr⟩:=hl;have hL:L∈X.fs:=hs L (by unfold FZ;rw[List.filterMap_cons,hf];exact eR);obtain⟨sl,e⟩:=I.base.slot L o ho (I.ok.Pa L hL) hL fun z=>I.ok.HS L z hL;exact⟨hk,⟨L,_,hf,hn,e,hd⟩,ih (fun b hb=>hs b (by unfold FZ;rw[List.filterMap_cons,hf];exact ef _ hb)) hr⟩
  exact all X.outer (fun _ hb=>hb) I.ok.rC
theorem Inv.stack(I:Inv X pins σ H s):s.heap.FunFrames X.base X.stack:=by
  rcases I.ok.TK with e|⟨e,hf⟩
  ·rw[e];exact I.rC
  ·rw[e];obtain⟨m,hn,_⟩:=I.loc;refine .cons (by rw[I.ok.kind];decide) hf hn ?_ I.rC;exact Heap.get?_none_of_le (fR I.ok.L8 I.ok.above)
theorem Inv.rD(I:Inv X pins σ H s):∀b∈FZ X.stack,b∈X.env.locals::X.fs:=fun b hb=>by
  rcases I.ok.TK with e|⟨e,hf⟩
  ·rw[e] at hb;exact ef _ hb
  ·rw[e] at hb;unfold FZ at hb;rw[List.filterMap_cons,hf] at hb;exact hb
theorem Inv.D7(I:Inv X pins σ H s):∀b∈FZ X.stack,H b=none:=fun b hb=>by
  rcases dc.mp (I.rD b hb) with e|hb
  ·rw[e];exact I.free
  ·obtain⟨_,o,ho,_⟩:=I.ok.rC.mem hb;exact I.base.free b o ho (I.ok.Pa b hb) fun z=>I.ok.HS b z hb
theorem Inv.step{g':Array GenState}{d':Drawn}{ch:List Addr}(I:Inv X pins σ H s)(LZ:∀b∈ch,(b∈X.ex∨X.s₀.heap.objs.size≤b)∧b≠X.env.locals∧(∀x c,X.env.cells.lookup x=some c→c≠b)∧∀p∈X.pn++pins,p.1≠b)(keep:∀b o,b≠X.env.locals→b∉X.fs→b∉ch→s.heap.get? b=some o→H b=none→h'.get? b=some o)(slot:∀b o,b≠X.env.locals→b∈X.fs→b∉ch→s.heap.get? b=some o→H b=none→∃sl,h'.get? b=some { o with slots:=sl })(free:∀b o,b∉ch→s.heap.get? b=some o→H b=none→H' b=none)(there:∀b o,b∉ch→s.heap.get? b=some o→∃o',h'.get? b=some o')(oE:∀b xs,H b=some (.tup xs)→H' b=some (.tup xs))(oF:∀b o u,H b=some (.gM o u)→H' b=some (.gM o u))(rA:∀b ps,H b=some (.LY ps)→∃more,H' b=some (.LY (ps++more)))(ns:∀m,s.heap.Ns X.env.locals m→h'.Ns X.env.locals m)(bV:oC X.prog X.w H' h')(hg:AllBare g'):Inv X pins σ H' { s with heap:=h',gens:=g',drawn:=d',toks:=t' }:=by
  have neL:∀b o,X.s₀.heap.get? b=some o→b≠X.env.locals:=fun b o e=>dP (jX (bG e) I.ok.above);have V7:∀b o,X.s₀.heap.get? b=some o→b∉X.ex→b∉ch:=fun b o e hx hb=>by
    rcases(LZ b hb).1 with z|z
    ·exact hx z
    ·exact absurd (jX (bG e) z) (rn _)
  have cellK:∀x c,X.env.cells.lookup x=some c→∀v,s.heap.IsCell c v→h'.IsCell c v:=fun x c e v ⟨o,ho,hd⟩=>by
    have TL:c∉ch:=fun z=>(LZ c z).2.2.1 x c e rfl;by_cases hc:c∈X.fs
    ·obtain⟨sl,q⟩:=slot c o (I.Qg x c e) hc TL ho (I.fI x c e);exact⟨_,q,hd⟩
    ·exact⟨o,keep c o (I.Qg x c e) hc TL ho (I.fI x c e),hd⟩
  refine⟨I.ok,I.os,hg,⟨fun b o e n hb hx=>?_,fun b o e n hb hx=>?_,fun b o e n hx=>?_,fun b o e hx=>?_,fun b xs e=>oE b xs (I.base.oE b xs e),fun b o xs e=>oF b o xs (I.base.oF b o xs e),fun b ps e=>?_⟩,?_,fun x c e=>?_,?_,fun x c e=>?_,fun p hp=>?_,bV,I.len⟩
  ·exact keep b o (neL b o e) hb (V7 b o e hx) (I.base.keep b o e n hb hx) (I.base.free b o e n hx)
  ·obtain⟨sl,e1⟩:=I.base.slot b o e n hb hx;obtain⟨wj,e2⟩:=slot b _ (neL b o e) hb (V7 b o e hx) e1 (I.base.free b o e n hx);exact⟨wj,e2⟩
  ·obtain⟨o',e1⟩:=I.base.there b o e hx;exact free b o' (V7 b o e hx) e1 (I.base.free b o e n hx)
  ·obtain⟨o',e1⟩:=I.base.there b o e hx;exact there b o' (V7 b o e hx) e1
  ·obtain⟨m1,e1⟩:=I.base.rA b ps e;obtain⟨m2,e2⟩:=rA b _ e1;exact⟨m1++m2,by rw[e2,Array.append_assoc]⟩
  · obtain⟨m,hn,hl⟩:=I.loc;refine⟨m,ns m hn,fun i x v e1 e2 e3=>?_⟩;obtain⟨u,r,l⟩:=hl i x v e1 e2 e3;refine⟨u,r,?_⟩;rcases l with l|⟨k,c,e,z⟩
    ·exact .inl l
    ·exact .inr ⟨k,c,e,cellK x c e _ z⟩
  ·obtain⟨v,z⟩:=I.cell x c e;exact⟨v,cellK x c e v z⟩
  ·obtain⟨m,⟨o,_,_,ho,_⟩,_⟩:=I.loc;exact free _ o (fun z=>(LZ _ z).2.1 rfl) ho I.free
  ·obtain⟨v,o,ho,hd⟩:=I.cell x c e;exact free c o (fun z=>(LZ c z).2.2.1 x c e rfl) ho (I.fI x c e)
  ·obtain⟨e,n,ne,nf,d⟩:=I.pin p hp;have TL:p.1∉ch:=fun z=>(LZ p.1 z).2.2.2 p hp rfl;exact⟨keep p.1 p.2 ne nf TL e n,free p.1 p.2 TL e n,ne,nf,d⟩
theorem Inv.un(I:Inv X pins σ H s)(u:Un X.fs [] H H' s.heap h')(bV:oC X.prog X.w H' h'):Inv X pins σ H' { s with heap:=h',toks:=t' }:=by
  obtain⟨m,⟨o,es,ep,ho,r⟩,_⟩:=id I.loc;obtain⟨sl,hL⟩:=u.any ho I.free (by simp);exact I.step (g':=s.gens) (d':=s.drawn) (ch:=[]) (fun _ z=>nomatch z) (fun b o _ hb _ e n=>u.keep b o e n hb (by simp)) (fun b o _ hb _ e n=>u.slot b o e n hb (by simp)) (fun b o _ e n=>u.free b o e n (by simp)) (fun b o _ e=>u.there b o e (by simp)) u.oE u.oF u.rA (fun m' hm=>by
    obtain⟨o',V8,V9,BO,r'⟩:=hm;rw[ho] at BO;cases BO;exact⟨_,V8,V9,hL,r'⟩) bV I.bare
theorem Inv.call{g':Array GenState}{d':Drawn}{ch:List Addr}(I:Inv X pins σ H s)(u:Un (FZ X.stack) ch H H' s.heap h')(bV:oC X.prog X.w H' h')(hg:AllBare g')(LZ:∀b∈ch,(b∈X.ex∨X.s₀.heap.objs.size≤b)∧b≠X.env.locals∧(∀x c,X.env.cells.lookup x=some c→c≠b)∧∀p∈X.pn++pins,p.1≠b):Inv X pins σ H' { s with heap:=h',gens:=g',drawn:=d',toks:=t' }:=by
  obtain⟨m,⟨o,es,ep,ho,r⟩,_⟩:=id I.loc;obtain⟨sl,hL⟩:=u.any ho I.free fun z=>(LZ _ z).2.1 rfl;exact I.step (ch:=ch) LZ (fun b o hL hb hc e n=>u.keep b o e n (fun z=>(dc.mp (I.rD b z)).elim hL hb) hc) (fun b o _ _ hc e n=>u.any e n hc) (fun b o hc e n=>u.free b o e n hc) (fun b o hc e=>u.there b o e hc) u.oE u.oF u.rA (fun m' hm=>by
    obtain⟨o',V8,V9,BO,r'⟩:=hm;rw[ho] at BO;cases BO;exact⟨_,V8,V9,hL,r'⟩) bV hg
theorem Inv.turned(I:Inv X pins σ H s)(k:∀b o,b≠it→s.heap.get? b=some o→h'.get? b=some o)(hn:H it=none)(hL:it≠X.env.locals)(h1:it∈X.ex∨X.s₀.heap.objs.size≤it)(h2:∀x c,X.env.cells.lookup x=some c→c≠it)(h3:∀p∈X.pn++pins,p.1≠it):Inv X pins σ H { s with heap:=h',toks:=t' }:=by
  have nit:∀b u,H b=some u→b≠it:=fun b u e z=>by rw[z,hn] at e;cases e
  refine I.step (g':=s.gens) (d':=s.drawn) (ch:=[it]) (fun b hb=>?_) (fun b o _ _ hc e _=>k b o (fun z=>hc (by simp[z])) e) (fun b o _ _ hc e _=>⟨o.slots,k b o (fun z=>hc (by simp[z])) e⟩) (fun _ _ _ _ n=>n)
    (fun b o hc e=>⟨o,k b o (fun z=>hc (by simp[z])) e⟩) (fun _ _ e=>e) (fun _ _ _ e=>e) (fun b ps e=>⟨#[],by rw[e];simp⟩) (fun m hm=>?_) (fun b u e=>?_) I.bare
  · have e:b=it:=by simpa using hb
    subst e;exact⟨h1,hL,h2,h3⟩
  ·obtain⟨o,es,ep,ho,r⟩:=hm;exact⟨o,es,ep,k _ o (cT hL) ho,r⟩
  · refine(I.bV b u e).jY (fun c v hc q=>k c v ?_ q) (fun _ q=>q) fun _ _ q=>q;rcases hc with z|z
    ·rw[z];exact nit b u e
    ·exact nit c _ z
theorem Inv.tok(I:Inv X pins σ H s)(t:Nat):Inv X pins σ H { s with toks:=t }:=I.un (h':=s.heap) (t':=t) Un.refl I.bV
theorem Inv.kept(I:Inv X pins σ H s)(k:∀b u,s.heap.get? b=some u→h'.get? b=some u):Inv X pins σ H { s with heap:=h',toks:=t' }:=I.un (Un.kept k) (I.bV.kept k)
theorem Inv.laid{o:HO}(I:Inv X pins σ H s)(k:∀b u,s.heap.get? b=some u→h'.get? b=some u)(hp:s.heap.objs.size≤a)(new:bS X.prog X.w (upd H a o) h' a o):Inv X pins σ (upd H a o) { s with heap:=h',toks:=t' }:=I.un (Un.laid k hp (I.bV.fresh hp)) (I.bV.laid k hp new)
theorem Inv.write{x e:Addr}{o:HO}(I:Inv X pins σ H s)(mu:SX (H x))(he:e=x∨H e=some (.own x))(k:∀b u,b≠e→s.heap.get? b=some u→h'.get? b=some u)(SY:∃u,h'.get? e=some u)(new:bS X.prog X.w (upd H x o) h' x o):Inv X pins σ (upd H x o) { s with heap:=h',toks:=t' }:=I.un (Un.write mu he k SY) (I.bV.write mu he k SY new)
theorem Inv.xP{Pb:gw}(I:Inv X pins σ H s)(h:∀p∈Pb,s.heap.get? p.1=some p.2∧H p.1=none∧p.1≠X.env.locals∧p.1∉X.fs∧∀v,p.2.data≠.cell v):Inv X Pb σ H s :=
  ⟨I.ok,I.os,I.bare,I.base,I.loc,I.cell,I.free,I.fI,fun p hp=>(mh.mp hp).elim (fun z=>I.pin p (List.mem_append_left _ z)) (h p),I.bV,I.len⟩
theorem zG(hN:N.Nodup)(a:N[i]?=some x)(b:N[j]?=some x):i=j:=by obtain⟨h1,e1⟩:=lR.mp a;obtain⟨h2,e2⟩:=lR.mp b;exact(List.getElem_inj hN).mp (e1.trans e2.symm)
theorem wV{M:Model}{v:V}{Q:Unit→Shared→Prop}(I:Inv X pins σ H s)(hN:X.N.Nodup)(hi:X.N[i]?=some x)(hx:Loc X.env.scope x)(r:RelV v u)(h:∀s',Inv X pins (σ.set i (some v)) H s'→(∃a,Heap.SameBut a s.heap s'.heap∧(a=X.env.locals∨X.env.cells.lookup x=some a))→Q () s')(hf:X.fn x=true∨X.env.scope.names.lookup x=some .local:=by first|exact .inl rfl|exact .inr rfl|assumption):wpAny M A (storeName X.env x u) Q E s:=by
  obtain⟨m,hn,hl⟩:=id I.loc;have W0:(X.env.scope.kind==.class||(X.env.scope.kind==.module&&X.env.locals != X.env.globals))=false:=by rw[I.ok.kind];rfl
  have hiσ:i<σ.length:=by rw[I.len];exact(lR.mp hi).1
  have Qg:=I.Qg;have tracked:∀{a:Addr} {h':Heap},(∃o,s.heap.get? a=some o∧H a=none)→Heap.SameBut a s.heap h'→oC X.prog X.w H h':=fun {a h'} ha hs b ob e=>by
    obtain⟨_,_,Pg⟩:=ha;refine(I.bV b ob e).jY (fun c w' hc q=>(hs.2 c ?_).trans q) (fun _ q=>q) fun _ _ q=>q;rintro rfl;rcases hc with rfl|hc
    ·rw[Pg] at e;cases e
    ·rw[Pg] at hc;cases hc
  rcases hx with hk|hk
  · refine wpAny_storeName_local hk hn (fun h' W2 hs=>?_) W0;obtain⟨oL,_,_,Ph,_⟩:=id hn;refine h _ ⟨I.ok,I.os,I.bare,⟨fun b o e n hb hx=>?_,fun b o e n hb hx=>?_,I.base.free,fun b o e hx=>?_,I.base.oE,I.base.oF,I.base.rA⟩,⟨_,W2,fun j y v' e1 e2 e3=>?_⟩,fun y c e=>?_,I.free,I.fI,fun p hp=>?_,tracked ⟨oL,Ph,I.free⟩ hs,by simpa using I.len⟩ ⟨_,hs,.inl rfl⟩
    ·exact(hs.2 b (dP (jX (bG e) I.ok.above))).trans (I.base.keep b o e n hb hx)
    ·obtain⟨sl,e1⟩:=I.base.slot b o e n hb hx;exact⟨sl,(hs.2 b (dP (jX (bG e) I.ok.above))).trans e1⟩
    ·obtain⟨o',e1⟩:=I.base.there b o e hx;exact⟨o',(hs.2 b (dP (jX (bG e) I.ok.above))).trans e1⟩
    · by_cases hj:j=i
      ·subst hj;rw[hi] at e1;cases e1;rw[xF hiσ] at e2;cases e2;exact⟨u,r,.inl ⟨hk,by simp⟩⟩
      · rw[v5 (cT hj)] at e2;obtain⟨u',r',q⟩:=hl j y v' e1 e2 e3;refine⟨u',r',?_⟩;rcases q with⟨k,e⟩|⟨k,c,e,z⟩
        ·refine .inl ⟨k,?_⟩;have:y≠x:=fun e=>hj (zG hN e1 (e▸hi));simp[this,e]
        ·exact .inr ⟨k,c,e,z.sameBut hs (Qg y c e)⟩
    ·obtain⟨w',z⟩:=I.cell y c e;exact⟨w',z.sameBut hs (Qg y c e)⟩
    ·obtain⟨e,n,ne,nf,d⟩:=I.pin p hp;exact⟨(hs.2 p.1 ne).trans e,n,ne,nf,d⟩
  · have W3:X.fn x=true:=by
      rcases hf with z|z
      ·exact z
      ·rw[z] at hk;cases hk
    obtain⟨c,hc⟩:=I.ok.has x (.inl hk);obtain⟨w',z⟩:=I.cell x c hc;refine wpAny_storeName_cell I.ok.kind hk hc z (fun h' HD hs=>?_);obtain⟨oc,hoc,W4⟩:=id z;refine h { s with heap:=h' } ⟨I.ok,I.os,I.bare,⟨fun b o e n hb hx=>?_,fun b o e n hb hx=>?_,I.base.free,fun b o e hx=>?_,I.base.oE,I.base.oF,I.base.rA⟩,⟨m,hn.sameBut hs (cT (Qg x c hc)),fun j y v' e1 e2 e3=>?_⟩,fun y c' e=>?_,I.free,I.fI,fun p hp=>?_,tracked ⟨oc,hoc,I.fI x c hc⟩ hs,by simpa using I.len⟩ ⟨c,hs,.inr hc⟩
    ·exact(hs.2 b (dP (jX (bG e) (I.ok.S0 x c W3 hc)))).trans (I.base.keep b o e n hb hx)
    ·obtain⟨sl,e1⟩:=I.base.slot b o e n hb hx;exact⟨sl,(hs.2 b (dP (jX (bG e) (I.ok.S0 x c W3 hc)))).trans e1⟩
    ·obtain⟨o',e1⟩:=I.base.there b o e hx;exact⟨o',(hs.2 b (dP (jX (bG e) (I.ok.S0 x c W3 hc)))).trans e1⟩
    · by_cases hj:j=i
      ·subst hj;rw[hi] at e1;cases e1;rw[xF hiσ] at e2;cases e2;exact⟨u,r,.inr ⟨.inl hk,c,hc,HD⟩⟩
      · rw[v5 (cT hj)] at e2;obtain⟨u',r',q⟩:=hl j y v' e1 e2 e3;refine⟨u',r',?_⟩;rcases q with q|⟨k,c',e,z'⟩
        ·exact .inl q
        ·refine .inr ⟨k,c',e,z'.sameBut hs ?_⟩;rintro rfl;exact hj (zG hN e1 (I.ok.inj _ _ _ e hc▸hi))
    · by_cases hcc:c'=c
      ·subst hcc;exact⟨_,HD⟩
      ·obtain⟨w2,z2⟩:=I.cell y c' e;exact⟨w2,z2.sameBut hs hcc⟩
    ·obtain⟨e,n,ne,nf,d⟩:=I.pin p hp;refine⟨(hs.2 p.1 ?_).trans e,n,ne,nf,d⟩;intro q;rw[q,hoc] at e;have q':oc=p.2:=jJ e;exact d w' (by rw[←q'];exact W4)
theorem zH{M:Model}{v:V}{Q:Unit→Shared→Prop}(I:Inv X pins σ H s)(hN:X.N.Nodup)(hi:X.N[i]?=some x)(hx:Loc X.env.scope x)(r:RelV v u)(h:∀s',Inv X pins (σ.set i (some v)) H s'→Q () s')(hf:X.fn x=true∨X.env.scope.names.lookup x=some .local:=by first|exact .inl rfl|exact .inr rfl|assumption):wpAny M A (storeName X.env x u) Q E s :=
  wV I hN hi hx r (fun s' I' _=>h s' I') hf
theorem Inv.TN{s':Shared}{ch:List Addr}(I:Inv X pins σ H s)(ho:s'.os=s.os)(u:Un (FZ X.stack) ch H H' s.heap s'.heap)(bV:oC X.prog X.w H' s'.heap)(hg:AllBare s'.gens)(LZ:∀b∈ch,(b∈X.ex∨X.s₀.heap.objs.size≤b)∧b≠X.env.locals∧(∀x c,X.env.cells.lookup x=some c→c≠b)∧∀p∈X.pn++pins,p.1≠b):Inv X pins σ H' s':=by
  obtain⟨h',g',d',t',o'⟩:=s';have e:o'=s.os:=ho;subst e;exact I.call (g':=g') (t':=t') (d':=d') u bV hg LZ
end
abbrev XK:=Value→Option Addr→Hp→Prop
abbrev St:=List (Option V)
abbrev VK:=V→Hp→Prop
abbrev TE:=St→Hp→VK→Prop
abbrev TT:=St→Hp→(Bool→Hp→Prop)→Prop
abbrev TA:=St→Hp→(List V→Hp→Prop)→Prop
structure Ends where
  nx:St→Hp→Prop
  rt:VK
  bk:St→Hp→Prop:=fun _ _=>False
  ct:St→Hp→Prop:=fun _ _=>False
abbrev TS:=Ends→St→Hp→Prop
def EP(X:Cx)(pins:gw)(σ:St)(Q:VK)(u:Value)(s':Shared):Prop:=∃v H',Inv X pins σ H' s'∧RelV v u∧Q v H'
def TP(X:Cx)(pins:gw)(σ:St)(Q:Bool→Hp→Prop)(b:Bool)(s':Shared):Prop:=∃H',Inv X pins σ H' s'∧Q b H'
def AP(X:Cx)(pins:gw)(σ:St)(Q:List V→Hp→Prop)(us:cA)(s':Shared):Prop:=∃vs H',Inv X pins σ H' s'∧Vals vs us∧Q vs H'
def SP(X:Cx)(pins:gw)(D:Ends)(f:Flow)(s':Shared):Prop :=
  match f with
  |.next=>∃σ' H',Inv X pins σ' H' s'∧D.nx σ' H'
  |.brk=>∃σ' H',Inv X pins σ' H' s'∧D.bk σ' H'
  |.cont=>∃σ' H',Inv X pins σ' H' s'∧D.ct σ' H'
  |.ret u=>∃v σ' H',Inv X pins σ' H' s'∧RelV v u∧D.rt v H'
def PE(X:Cx)(e:Expr)(t:TE):Prop :=
  ∀(pins:gw) (s:Shared) (σ:St) (H:Hp) (Q:VK),Inv X pins σ H s→t σ H Q→wpAny (model X.prog X.w) X.A (eval e X.env) (EP X pins σ Q) X.xe s
def PT(X:Cx)(e:Expr)(t:TT):Prop :=
  ∀(pins:gw) (s:Shared) (σ:St) (H:Hp) (Q:Bool→Hp→Prop),Inv X pins σ H s→t σ H Q→wpAny (model X.prog X.w) X.A (isTrue e X.env (eval e X.env)) (TP X pins σ Q) X.xe s
def PW(X:Cx)(e:Expr)(t:TT):Prop :=
  ∀(whole:Sem Value) (pins:gw) (s:Shared) (σ:St) (H:Hp) (Q:Bool→Hp→Prop),Inv X pins σ H s→t σ H Q→wpAny (model X.prog X.w) X.A (isTrue e X.env whole) (TP X pins σ Q) X.xe s
theorem PW.pt{X:Cx}{t:TT}(h:PW X e t):PT X e t:=h _
def PA(X:Cx)(es:List Expr)(t:TA):Prop :=
  ∀(pos:Pos) (pins:gw) (s:Shared) (σ:St) (H:Hp) (Q:List V→Hp→Prop),Inv X pins σ H s→t σ H Q→wpAny (model X.prog X.w) X.A (spliced (backTo pos (starEach es X.env))) (AP X pins σ Q) X.xe s
def PS(X:Cx)(st:Stmt)(t:TS):Prop :=
  ∀(pins:gw) (s:Shared) (σ:St) (H:Hp) (D:Ends),Inv X pins σ H s→t D σ H→wpAny (model X.prog X.w) X.A (exec st X.env) (SP X pins D) X.xe s
def xQ(X:Cx)(st:List Stmt)(t:TS):Prop :=
  ∀(pins:gw) (s:Shared) (σ:St) (H:Hp) (D:Ends),Inv X pins σ H s→t D σ H→wpAny (model X.prog X.w) X.A (execs st X.env) (SP X pins D) X.xe s
theorem cN{α:Type}{t:Sem α}{Q Q':α→Shared→Prop}{M:Model}(h:wpAny M A t Q E s)(hQ:∀a s,Q a s→Q' a s):wpAny M A t Q' E s:=jK h hQ fun _ _ x=>x
section
variable {X:Cx}
theorem bin{a b:Expr}{ta tb:TE}(ha:PE X a ta)(hb:PE X b tb){σ:St}{H:Hp}{R:V→V→Hp→Prop}(I:Inv X pins σ H s)(h:ta σ H fun x H1=>tb σ H1 fun y H2=>R x y H2){α:Type}{Q:α→Shared→Prop}{f:Value→Value→Sem α}(hf:∀v u s2 x y H2,Inv X pins σ H2 s2→RelV x v→RelV y u→R x y H2→wpAny (model X.prog X.w) X.A (f v u) Q X.xe s2):wpAny (model X.prog X.w) X.A (eval a X.env) (fun v s₁=>wpAny (model X.prog X.w) X.A (eval b X.env) (fun u s₂=>wpAny (model X.prog X.w) X.A (f v u) Q X.xe s₂) X.xe s₁) X.xe s:=by
  refine cN (ha pins s σ H _ I h) fun v s1 ⟨x,H1,I1,r1,q1⟩=>?_;refine cN (hb pins s1 σ H1 _ I1 q1) fun u s2 ⟨y,H2,I2,r2,q2⟩=>?_;exact hf v u s2 x y H2 I2 r1 r2 q2
def jZ(i:Nat):TE:=fun σ H Q=>∃v,σ[i]?=some (some v)∧Q v H
def tC(v:V):TE:=fun _ H Q=>Q v H
theorem cO(hN:X.N[i]?=some x)(hv:pL X.env.scope x)(hd:(x==("__debug__":Str))=false:=by decide)(dU:(x==("__classdict__":Str))=false:=by decide):PE X (.Name x pos) (jZ i):=by
  intro pins s σ H Q I h;obtain⟨v,e,h⟩:=h;obtain⟨m,hn,hl⟩:=I.loc;obtain⟨u,r,l⟩:=hl i x v hN e hv;have fin:EP X pins σ Q u s:=⟨v,H,I,r,h⟩
  rcases l with⟨hk,hm⟩|⟨hk,c,hc,D8⟩
  ·exact wpAny_Name (wpAny_loadName_local I.ok.kind hk hn hm fin) hd
  · rcases hk with hk|hk
    ·exact wpAny_Name (wpAny_loadName_cell I.ok.kind hk hc D8 fin) hd
    ·exact wpAny_Name (wpAny_loadName_free I.ok.kind hk hc D8 fin dU) hd
theorem gR{i j pos}:PE X (.Constant (.int i) j pos) (tC (.int i)):=fun _ _ _ H _ I h=>wpAny_Constant_int ⟨.int i,H,I.tok _,⟨_,rfl⟩,h⟩
theorem zI{b j pos}:PE X (.Constant (.bool b) j pos) (tC (.bl b)):=fun _ _ _ H _ I h=>Constant_bool ⟨.bl b,H,I,rfl,h⟩
theorem HV{j pos}:PE X (.Constant .none j pos) (tC .non):=fun _ _ _ H _ I h=>Constant_none ⟨.non,H,I,rfl,h⟩
theorem Qh{x j pos}:PE X (.Constant (.str x) j pos) (tC (.str x)):=fun _ _ _ H _ I h=>Calls.Constant_str ⟨.str x,H,I.tok _,⟨_,rfl⟩,h⟩
def Gl(X:Cx)(x:Str):Prop:=X.env.kindOf x=some .globalImplicit
theorem pM{σ:St}{H:Hp}(I:Inv X pins σ H s)(hg:Gl X x)(hm:X.mg x=some u)(h:Q u s)(hd:(x==("__debug__":Str))=false:=by decide):wpAny (model X.prog X.w) X.A (eval (.Name x pos) X.env) Q E s :=
  Calls.Name_function_global I.ok.kind hg (Calls.loadGlobal_global (by rw[I.ok.glob];exact I.mod.glob.keeps I.bk) hm h) hd
theorem gT{σ:St}{H:Hp}(I:Inv X pins σ H s)(hg:Gl X x)(hm:X.mg x=none)(hv:bootBuiltins x=some u)(h:Q u s)(hn:x≠"__name__":=by decide)(hd:(x==("__debug__":Str))=false:=by decide):wpAny (model X.prog X.w) X.A (eval (.Name x pos) X.env) Q E s:=by
  obtain⟨mb,h1,h2⟩:=I.mod.blt;exact Calls.Name_function_global I.ok.kind hg (Calls.loadGlobal_builtin (by rw[I.ok.glob];exact I.mod.glob.keeps I.bk) hm (by rw[I.ok.blt];exact h1.keeps I.bk) ((h2 x hn).trans hv) h) hd
theorem L9{v:V}(hg:Gl X x)(hm:X.mg x=some u)(r:RelV v u)(hd:(x==("__debug__":Str))=false:=by decide):PE X (.Name x pos) (tC v) :=
  fun _ _ _ H _ I h=>pM I hg hm ⟨v,H,I,r,h⟩ hd
theorem Ma{v:V}(hg:Gl X x)(hm:X.mg x=none)(hv:bootBuiltins x=some u)(r:RelV v u)(hn:x≠"__name__":=by decide)(hd:(x==("__debug__":Str))=false:=by decide):PE X (.Name x pos) (tC v) :=
  fun _ _ _ H _ I h=>gT I hg hm hv ⟨v,H,I,r,h⟩ hn hd
variable {a b:Expr} {ta tb:TE} {pos:Pos}
def PC(X:Cx)(op:CmpOp)(a b:Expr)(t:TE):Prop :=
  ∀(pins:gw) (s:Shared) (σ:St) (H:Hp) (Q:VK),Inv X pins σ H s→t σ H Q →
   wpAny (model X.prog X.w) X.A (eval a X.env) (fun v s₁=>wpAny (model X.prog X.w) X.A (eval b X.env) (fun u s₂=>wpAny (model X.prog X.w) X.A (compareOp op v u) (EP X pins σ Q) X.xe s₂) X.xe s₁) X.xe s
theorem HW(b:Expr)(h:op≠.In)(h2:op≠.NotIn):behindInMarks op b=false:=by
  have e1:(op==CmpOp.In)=false:=by cases op<;>first|rfl|exact absurd rfl h
  have e2:(op==CmpOp.NotIn)=false:=by cases op<;>first|rfl|exact absurd rfl h2
  cases b<;>simp[behindInMarks,e1,e2]
def tB(t:TE):TT:=fun σ H Q=>t σ H fun x H1=>∃c,x=.bl c∧Q c H1
theorem W5{t:TE}(h:PC X op a b t)(h1:behindInMarks op b=false:=by first|exact HW _ (by decide) (by decide)|rfl):PT X (.Compare a [op] [b] pos) (tB t):=by intro pins s σ H Q I hw;refine wpAny_isTrue_Compare1 (cN (h pins s σ H _ I hw) fun v s1 h1=>cN h1 fun u s2 h2=>cN h2 fun c s3 ⟨x,H1,I1,r1,q1⟩=>?_) h1;obtain⟨d,rfl,q⟩:=q1;cases r1;exact wpAny_truthy_bool ⟨H1,I1,q⟩
theorem HX{t:TE}(h:PE X e t)(he:∀whole,isTrue e X.env whole=(do let v ←whole;standAt e.pos;holding [v] (truthy v)):=by intro _;rfl):PT X e (tB t):=by intro pins s σ H Q I hw;refine isTrue_plain (cN (h pins s σ H _ I hw) fun v s1 ⟨x,H1,I1,r1,q1⟩=>?_) (he _);obtain⟨d,rfl,q⟩:=q1;cases r1;exact wpAny_truthy_bool ⟨H1,I1,q⟩
variable {tA Wa:TT} {rest:List Expr}
def TQ(t u:TT):TT:=fun σ H Q=>t σ H fun c H1=>if c=true then u σ H1 Q else Q false H1
def tOr(t u:TT):TT:=fun σ H Q=>t σ H fun c H1=>if c=true then Q true H1 else u σ H1 Q
def Qi(t:TT):TT:=fun σ H Q=>t σ H fun c H1=>Q (!c) H1
theorem pw_and1(ha:PT X a tA):PW X (.BoolOp .And [a] pos) tA:=by
  intro wh pins s σ H Q I h;refine isTrue_and (cN (ha pins s σ H Q I h) fun c s1 e=>?_);cases c with
  |true=>exact isTrue_and_nil e
  |false=>exact e
theorem pw_or1(ha:PT X a tA):PW X (.BoolOp .Or [a] pos) tA:=by
  intro wh pins s σ H Q I h;refine isTrue_or (cN (ha pins s σ H Q I h) fun c s1 e=>?_);cases c with
  |false=>exact isTrue_or_nil e
  |true=>exact e
theorem pw_and(ha:PT X a tA)(hb:PW X (.BoolOp .And (b::rest) pos) Wa):PW X (.BoolOp .And (a::b::rest) pos) (TQ tA Wa):=by
  intro wh pins s σ H Q I h;refine isTrue_and (cN (ha pins s σ H _ I h) fun c s1 ⟨H1,I1,q1⟩=>?_);cases c with
  |true=>exact hb wh pins s1 σ H1 Q I1 q1
  |false=>exact⟨H1,I1,q1⟩
theorem pw_or(ha:PT X a tA)(hb:PW X (.BoolOp .Or (b::rest) pos) Wa):PW X (.BoolOp .Or (a::b::rest) pos) (tOr tA Wa):=by
  intro wh pins s σ H Q I h;refine isTrue_or (cN (ha pins s σ H _ I h) fun c s1 ⟨H1,I1,q1⟩=>?_);cases c with
  |true=>exact⟨H1,I1,q1⟩
  |false=>exact hb wh pins s1 σ H1 Q I1 q1
theorem HY(ha:PT X a tA):PT X (.UnaryOp .Not a pos) (Qi tA):=by intro pins s σ H Q I h;exact isTrue_not (ha pins s σ H (fun c H1=>Q (!c) H1) I h)
def HZ(ta tb:TE):TE:=fun σ H Q=>ta σ H fun x H1=>∃c,x=.bl c∧if c=true then tb σ H1 Q else Q (.bl false) H1
def TR(ta:TE):TE:=fun σ H Q=>ta σ H fun x H1=>∃c,x=.bl c∧Q (.bl (!c)) H1
theorem Ia{op}{t:TE}(h:PE X a t):PE X (.BoolOp op [a] pos) t:=fun pins s σ H Q I hw=>BoolOp_one (h pins s σ H Q I hw)
theorem Ib(ha:PE X a ta)(hb:PE X (.BoolOp .And (b::rest) pos) tb):PE X (.BoolOp .And (a::b::rest) pos) (HZ ta tb):=by
  intro pins s σ H Q I h;refine BoolOp_and (cN (ha pins s σ H _ I h) fun v s1 ⟨x,H1,I1,r1,q1⟩=>?_);obtain⟨c,rfl,q1⟩:=q1;cases r1;refine wpAny_truthy_bool ?_;cases c with
  |true=>exact hb pins s1 σ H1 Q I1 q1
  |false=>exact⟨.bl false,H1,I1,rfl,q1⟩
theorem Qj(ha:PE X a ta):PE X (.UnaryOp .Not a pos) (TR ta):=by intro pins s σ H Q I h;refine UnaryOp_ (cN (ha pins s σ H _ I h) fun v s1 ⟨x,H1,I1,r1,q1⟩=>?_);obtain⟨c,rfl,q1⟩:=q1;cases r1;exact not_of (wpAny_truthy_bool ⟨.bl (!c),H1,I1,rfl,q1⟩)
end
def eY(K:PySem.W.Frag)(H:Hp)(a:Addr)(xs:List V):Prop :=
  Rd H a (.lst xs) ∨
    ∃(o:Obj) (its:Array Value) (n:Nat),K.lookup a=some o∧o.cls=.type "list"∧o.dict=none∧o.data=.seq its n∧its.size≤sizeLine∧Vals xs its.toList
def gy(K:PySem.W.Frag)(H:Hp)(a:Addr)(xs:List V):Prop :=
  Rd H a (.tup xs) ∨
    ∃(o:Obj) (its:Array Value) (n:Nat),K.lookup a=some o∧o.cls=.type "tuple"∧o.data=.seq its n∧its.size≤sizeLine∧Vals xs its.toList
def W6:Value→Option V
  |.none=>some .non
  |.bool b=>some (.bl b)
  |.int i _=>some (.int i)
  |.str x _=>some (.str x)
  |.bytes b _=>some (.HB b)
  |.float b _=>some (.Qd b)
  |.ref a=>some (.ref a)
  |.type n=>some (.ty n)
  |_=>none
theorem RelV.abs{x:V}(r:RelV x u):W6 u=some x:=by
  cases x with
  |non=>cases r;rfl
  |bl _=>cases r;rfl
  |int _=>obtain⟨t,rfl⟩:=r;rfl
  |str _=>obtain⟨t,rfl⟩:=r;rfl
  |HB _=>obtain⟨t,rfl⟩:=r;rfl
  |Qd _=>obtain⟨t,rfl⟩:=r;rfl
  |ref _=>cases r;rfl
  |ty _=>cases r;rfl
theorem RelV.inj{x y:V}(r:RelV x u)(q:RelV y u):x=y:=jJ (r.abs.symm.trans q.abs)
theorem Vals.inj:∀{xs ys:List V} {us:cA},Vals xs us→Vals ys us→xs=ys
  |_,_,_,.nil,.nil=>rfl
  |_,_,_,.cons r t,.cons r' t'=>by rw[r.inj r',Vals.inj t t']
section
variable {X:Cx} {pins:gw} {σ:St} {H:Hp} {s:Shared} {a:Addr} {xs ys:List V}
theorem eY.of{K:PySem.W.Frag}(h:H a=some (.lst xs)):eY K H a xs:=.inl (.inl h)
theorem gy.of{K:PySem.W.Frag}(h:H a=some (.tup xs)):gy K H a xs:=.inl (.inl h)
theorem Inv.list(I:Inv X pins σ H s)(h:eY X.K H a xs):∃its:cA,Vals xs its∧PlainL s.heap a its.toArray∧xs.length≤sizeLine:=by
  rcases h with h|⟨o,its,n,hk,hc,hd,hs,hz,r⟩
  ·obtain⟨z,its,n,r,e⟩:=h.ok I.bV;exact⟨its,r,⟨_,n,e,rfl,rfl,rfl⟩,z⟩
  ·refine⟨its.toList,r,⟨o,n,I.qZ a o hk,hc,hd,by simpa using hs⟩,?_⟩;have e:=r.length;simp only[je] at e;omega
theorem Inv.tuple(I:Inv X pins σ H s)(h:gy X.K H a xs):∃its:cA,Vals xs its∧IsTup s.heap a its.toArray∧xs.length≤sizeLine:=by
  rcases h with h|⟨o,its,n,hk,hc,hs,hz,r⟩
  ·obtain⟨z,its,r,p⟩:=h.ok I.bV;exact⟨its,r,p,z⟩
  ·refine⟨its.toList,r,⟨o,I.qZ a o hk,hc,n,by simpa using hs⟩,?_⟩;have e:=r.length;simp only[je] at e;omega
theorem Inv.zJ(I:Inv X pins σ H s)(h:eY X.K H a xs)(h':eY X.K H a ys):xs=ys:=by
  obtain⟨its,r,⟨o,n,e,_,_,d⟩,_⟩:=I.list h;obtain⟨its',r',⟨o',n',e',_,_,d'⟩,_⟩:=I.list h';rw[e] at e';cases e';rw[d] at d';injection d' with d1 _;have:its=its':=by simpa using gG Array.toList d1
  subst this;exact r.inj r'
theorem Inv.F9(I:Inv X pins σ H s)(h:gy X.K H a xs)(h':gy X.K H a ys):xs=ys:=by
  obtain⟨its,r,⟨o,e,_,n,d⟩,_⟩:=I.tuple h;obtain⟨its',r',⟨o',e',_,n',d'⟩,_⟩:=I.tuple h';rw[e] at e';cases e';rw[d] at d';injection d' with d1 _;have:its=its':=by simpa using gG Array.toList d1
  subst this;exact r.inj r'
end
abbrev Cx.tq(X:Cx)(E:ic):Cx:={ X with xe:=E }
abbrev Cx.L0(X:Cx):Cx:=X.tq fun _ _=>False
theorem Cx.Ok.tq{X:Cx}(ok:X.Ok)(E:ic):(X.tq E).Ok :=
  ⟨ok.mod,ok.kind,ok.glob,ok.blt,ok.above,ok.inj,ok.has,ok.S0,ok.hd,ok.frames,ok.TK,ok.WY,ok.bs,ok.L8,ok.F5,ok.HS,ok.rC,ok.Pa⟩
theorem Cx.Ok.j3{X:Cx}(ok:(X.tq E).Ok):X.Ok :=
  ⟨ok.mod,ok.kind,ok.glob,ok.blt,ok.above,ok.inj,ok.has,ok.S0,ok.hd,ok.frames,ok.TK,ok.WY,ok.bs,ok.L8,ok.F5,ok.HS,ok.rC,ok.Pa⟩
section
variable {X:Cx} {pins:gw} {σ:St} {H:Hp} {s:Shared} {E:ic}
theorem Inv.tq(I:Inv X pins σ H s)(E:ic):Inv (X.tq E) pins σ H s:=⟨I.ok.tq E,I.os,I.bare,I.base,I.loc,I.cell,I.free,I.fI,I.pin,I.bV,I.len⟩
theorem Inv.j3(I:Inv (X.tq E) pins σ H s):Inv X pins σ H s:=⟨I.ok.j3,I.os,I.bare,I.base,I.loc,I.cell,I.free,I.fI,I.pin,I.bV,I.len⟩
theorem SP.j3{D:Ends}{f:Flow}{s':Shared}(h:SP (X.tq E) pins D f s'):SP X pins D f s':=by
  cases f with
  |next=>obtain⟨σ',H',I,q⟩:=h;exact⟨σ',H',I.j3,q⟩
  |brk=>obtain⟨σ',H',I,q⟩:=h;exact⟨σ',H',I.j3,q⟩
  |cont=>obtain⟨σ',H',I,q⟩:=h;exact⟨σ',H',I.j3,q⟩
  |ret u=>obtain⟨v,σ',H',I,r,q⟩:=h;exact⟨v,σ',H',I.j3,r,q⟩
theorem PE.L0{t:TE}(h:PE X.L0 e t):PE X e t:=fun pins s σ H Q I hw =>
  jK (h pins s σ H Q (I.tq _) hw) (fun _ _ ⟨v,H',I',r,q⟩=>⟨v,H',I'.j3,r,q⟩) fun _ _ z=>False.elim z
theorem PT.L0{t:TT}(h:PT X.L0 e t):PT X e t:=fun pins s σ H Q I hw =>
  jK (h pins s σ H Q (I.tq _) hw) (fun _ _ ⟨H',I',q⟩=>⟨H',I'.j3,q⟩) fun _ _ z=>False.elim z
theorem xQ.L0{st:List Stmt}{t:TS}(h:xQ X.L0 st t):xQ X st t:=fun pins s σ H D I hw =>
  jK (h pins s σ H D (I.tq _) hw) (fun _ _ q=>q.j3) fun _ _ z=>False.elim z
end
section
variable {X:Cx} {st:Stmt} {rest:List Stmt} {t u:TS} {e:Expr} {te:TE} {pos:Pos}
def D9:TS:=fun D σ H=>D.nx σ H
def Ic(t u:TS):TS:=fun D σ H=>t { D with nx:=u D } σ H
theorem xR:xQ X [] D9:=fun _ _ σ H _ I h=>wpAny_execs_nil ⟨σ,H,I,h⟩
theorem df(h1:PS X st t)(h2:xQ X rest u):xQ X (st::rest) (Ic t u):=by
  intro pins s σ H D I h;refine wpAny_execs_cons (cN (h1 pins s σ H { D with nx:=u D } I h) fun f s1 q=>?_);cases f with
  |next=>obtain⟨σ',H',I',q⟩:=q;exact h2 pins s1 σ' H' D I' q
  |ret v=>exact q
  |brk=>exact q
  |cont=>exact q
theorem m4(h1:PS X st t):xQ X [st] t:=by
  intro pins s σ H D I h;refine wpAny_execs_cons (cN (h1 pins s σ H D I h) fun f s1 q=>?_);cases f with
  |next=>exact wpAny_execs_nil q
  |ret v=>exact q
  |brk=>exact q
  |cont=>exact q
theorem Inv.quiet{σ:St}{H:Hp}(I:Inv X pins σ H s):interactive X.env=false:=by simp[interactive,I.ok.kind]
def TV(te:TE):TS:=fun D σ H=>te σ H fun _ H1=>D.nx σ H1
theorem kN(he:PE X e te)(hs:swapsWith e none pos.line X.env=pure false:=by rfl):PS X (.Expr e pos) (TV te):=by intro pins s σ H D I h;exact wpAny_Expr_any (cN (he pins s σ H _ I h) fun v s1 ⟨x,H1,I1,r1,q1⟩=>⟨σ,H1,I1,q1⟩) I.quiet hs
def Ie(te:TE):TS:=fun D σ H=>te σ H D.rt
theorem mv(he:PE X e te):PS X (.Return (some e) pos) (Ie te):=by intro pins s σ H D I h;exact wpAny_Return_some (cN (he pins s σ H _ I h) fun v s1 ⟨x,H1,I1,r1,q1⟩=>⟨x,σ,H1,I1,r1,q1⟩)
def Mb(c:TT)(t u:TS):TS:=fun D σ H=>c σ H fun b H1=>if b=true then t D σ H1 else u D σ H1
theorem Ig{c:Expr}{a b:List Stmt}{tc:TT}(hc:PT X c tc)(ha:xQ X a t)(hb:xQ X b u):PS X (.If c a b pos) (Mb tc t u):=by
  intro pins s σ H D I h;refine wpAny_If (cN (hc pins s σ H _ I h) fun d s1 ⟨H1,I1,q1⟩=>?_);cases d with
  |true=>exact ha pins s1 σ H1 D I1 q1
  |false=>exact hb pins s1 σ H1 D I1 q1
end
abbrev TG:=V→St→Hp→(St→Hp→Prop)→Prop
abbrev Md:=List V→St→Hp→(St→Hp→Prop)→Prop
def PG(X:Cx)(target:Expr)(t:TG):Prop :=
  ∀(pins:gw) (s:Shared) (σ:St) (H:Hp) (v:V) (u:Value) (Q:St→Hp→Prop),Inv X pins σ H s→RelV v u→t v σ H Q →
   wpAny (model X.prog X.w) X.A (assign target X.env u) (fun _ s'=>∃σ' H',Inv X pins σ' H' s'∧Q σ' H') X.xe s
def L1(X:Cx)(ts:List Expr)(t:Md):Prop :=
  ∀(pins:gw) (s:Shared) (σ:St) (H:Hp) (vs:List V) (us:cA) (Q:St→Hp→Prop),Inv X pins σ H s→Vals vs us→t vs σ H Q →
   wpAny (model X.prog X.w) X.A (assignInOrder ((assignEach ts X.env).map (·.2)) us) (fun _ s'=>∃σ' H',Inv X pins σ' H' s'∧Q σ' H') X.xe s
abbrev Qk:=V→V→V→Hp→(Hp→Prop)→Prop
def TX(X:Cx)(t:Qk):Prop :=
  ∀(pins:gw) (s:Shared) (σ:St) (H:Hp) (o i v:V) (ov iv u:Value) (Q:Hp→Prop),Inv X pins σ H s→RelV o ov→RelV i iv→RelV v u→t o i v H Q →
   wpAny (model X.prog X.w) X.A (setItem ov iv u) (fun _ s'=>∃H',Inv X pins σ H' s'∧Q H') X.xe s
section
variable {X:Cx} {pos:Pos}
def nS(i:Nat):TG:=fun v σ H Q=>Q (σ.set i (some v)) H
theorem Ea(hN:X.N.Nodup)(hi:X.N[i]?=some x)(hx:Loc X.env.scope x)(hf:X.fn x=true∨X.env.scope.names.lookup x=some .local:=by first|exact .inl rfl|exact .inr rfl|assumption):PG X (.Name x pos) (nS i):=by intro pins s σ H v u Q I r h;exact wpAny_assign_Name (zH I hN hi hx r (fun s' I'=>⟨_,H,I',h⟩) hf)
def W7:Md:=fun vs σ H Q=>vs=[]∧Q σ H
def TY(t:TG)(u:Md):Md:=fun vs σ H Q=>∃v r,vs=v::r∧t v σ H fun σ' H'=>u r σ' H' Q
theorem Mf:L1 X [] W7:=by intro pins s σ H vs us Q I r h;obtain⟨e,h⟩:=h;subst e;cases r;exact assignInOrder_nil ⟨σ,H,I,h⟩
theorem Ih{es:List Expr}{t:TG}{u:Md}(h1:PG X e t)(h2:L1 X es u)(hs:(assignEach (e::es) X.env).map (·.2)=assign e X.env::(assignEach es X.env).map (·.2):=by rfl):L1 X (e::es) (TY t u):=by
  intro pins s σ H vs us Q I r h;obtain⟨v,vr,e1,h⟩:=h;subst e1;cases r with
  |cons r rr=>rw[hs];refine assignInOrder_cons (cN (h1 pins s σ H _ _ _ I r h) fun _ s1 ⟨σ1,H1,I1,q1⟩=>?_);exact h2 pins s1 σ1 H1 _ _ Q I1 rr q1
def W8(K:PySem.W.Frag)(n:Nat)(t:Md):TG:=fun v σ H Q=>∃a xs,v=.ref a∧gy K H a xs∧xs.length=n∧t xs σ H Q
theorem Ql{es:List Expr}{t:Md}(hc:X.calm=true)(h:L1 X es t)(hn:(assignEach es X.env).length=n:=by rfl)(xS:(assignEach es X.env).findIdx? (·.1)=none:=by rfl):PG X (.Tuple es k pos) (W8 X.K n t):=by
  intro pins s σ H v u Q I r hw;obtain⟨a,xs,e1,hq,hl,hw⟩:=hw;subst e1;cases r;obtain⟨its,rv,ht,hz⟩:=I.tuple hq;refine assign_Tuple_tuple (I.ok.hd hc) ht (by simp[hn,←hl,rv.length]) xS fun h' hx=>?_;have I1:Inv X pins σ H { s with heap:=h' }:=I.kept (t':=s.toks) fun b o e=>hx b o (dP (bG e)) e;exact h pins _ σ H xs _ Q I1 (by simpa using rv) hw
def W9(to ti:TE)(t:Qk):TG:=fun v σ H Q=>to σ H fun o H1=>ti σ H1 fun i H2=>t o i v H2 fun H3=>Q σ H3
theorem Qm{o i:Expr}{to ti:TE}{t:Qk}(ho:PE X o to)(hi:PE X i ti)(hs:TX X t)(ha:∀v,assign (.Subscript o i pos) X.env v=(do
      let ov ←holding [v] (eval o X.env)
      let iv ←holding [v,ov] (eval i X.env)
      standAt pos
      holding [v,ov,iv] (setItem ov iv v)
      release [v,ov,iv] []):=by intro _;rfl):PG X (.Subscript o i pos) (W9 to ti t):=by
  intro pins s σ H v u Q I r h;rw[ha];refine aE (oB (cN (ho pins s σ H _ I h) fun ov s1 ⟨x,H1,I1,r1,q1⟩=>?_));refine aE (oB (cN (hi pins s1 σ H1 _ I1 q1) fun iv s2 ⟨y,H2,I2,r2,q2⟩=>?_));refine aE (wpAny_standAt (aE (oB (cN (hs pins s2 σ H2 x y v ov iv u _ I2 r1 r2 r q2) fun _ s3 ⟨H3,I3,q3⟩=>?_))));exact wpAny_release ⟨σ,H3,I3,q3⟩
def xT(te:TE)(g:TG):TS:=fun D σ H=>te σ H fun x H1=>g x σ H1 D.nx
theorem Qn{te:TE}{g:TG}(he:PE X e te)(hg:PG X tg g)(hs:swapsWithSole [tg] e pos.line X.env=pure false:=by rfl)(hw:swappedStores [tg] e X.env=pure none:=by rfl)(h1:(assignEach [tg] X.env).map (·.2)=[assign tg X.env]:=by rfl):PS X (.Assign [tg] e pos) (xT te g):=by
  intro pins s σ H D I h;refine wpAny_Assign_stores (cN (he pins s σ H _ I h) fun v s1 ⟨x,H1,I1,r1,q1⟩=>?_) hs hw;rw[h1];exact cN (hg pins s1 σ H1 x v _ I1 r1 q1) fun _ s2 q=>q
theorem jg{te:TE}(hN:X.N.Nodup)(hi:X.N[i]?=some x)(hx:Loc X.env.scope x)(he:PE X e te)(hs:swapsWith e (some (.Name x pos')) pos.line X.env=pure false:=by rfl)(hf:X.fn x=true∨X.env.scope.names.lookup x=some .local:=by first|exact .inl rfl|exact .inr rfl|assumption):PS X (.Assign [.Name x pos'] e pos) (xT te (nS i)):=by
  intro pins s σ H D I h;refine wpAny_Assign_Name (cN (he pins s σ H _ I h) fun v s1 ⟨y,H1,I1,r1,q1⟩=>?_) hs;exact zH I1 hN hi hx r1 (fun s2 I2=>⟨_,H1,I2,q1⟩) hf
end
section
variable {X:Cx} {pos:Pos}
def Qo(c:TT)(tb:TS):TS:=fun D σ H=>∃W:Nat→St→Hp→Prop,(∃m,W m σ H)∧∀m σ H,W m σ H →
  c σ H fun b H1=>if b=true then ∃N:St→Hp→Prop,(∀σ' H',N σ' H'→∃m',m'<m∧W m' σ' H')∧tb { D with nx:=N,ct:=N,bk:=D.nx } σ H1 else D.nx σ H1
theorem Ii{c:Expr}{tc:TT}{tb:TS}(hp:PassesOwn (model X.prog X.w) X.A X.env X.xe)(hc:PT X c tc)(hb:xQ X body tb):PS X (.While c body [] pos) (Qo tc tb):=by
  intro pins s σ H D I h;obtain⟨W,⟨m0,w0⟩,turn⟩:=h;refine wpAny_While (codeAny_whileLoop (fun n s'=>∃σ' H',Inv X pins σ' H' s'∧W n σ' H') ?_ m0 ⟨σ,H,I,w0⟩);rintro n s1 ⟨σ1,H1,I1,w1⟩;refine wpAny_passesOwn hp (cN (hc pins s1 σ1 H1 _ I1 (turn n σ1 H1 w1)) fun b s2 ⟨H2,I2,q2⟩=>?_);cases b with
  |true =>
   obtain⟨N,hN,q2⟩:=q2;rw[az rfl];refine wpAny_passesOwn hp (cN (hb pins s2 σ1 H2 _ I2 q2) fun f s3 q3=>?_);cases f with
   |next=>obtain⟨σ3,H3,I3,n3⟩:=q3;obtain⟨m',hm,w3⟩:=hN σ3 H3 n3;exact⟨m',hm,σ3,H3,I3,w3⟩
   |cont=>obtain⟨σ3,H3,I3,n3⟩:=q3;obtain⟨m',hm,w3⟩:=hN σ3 H3 n3;exact⟨m',hm,σ3,H3,I3,w3⟩
   |brk=>exact q3
   |ret v=>exact q3
  |false=>rw[ax eT];exact wpAny_execs_nil ⟨σ1,H2,I2,q2⟩
end
structure It where
  go:Nat→Hp→Prop
  BP:Nat→Hp→V→Hp→Prop
  stop:Nat→Hp→Prop
def fS(X:Cx)(pins:gw)(H:Hp)(b:Addr):Prop :=
  H b=none∧b≠X.env.locals∧b∉X.fs∧(b∈X.ex∨X.s₀.heap.objs.size≤b)∧(∀x c,X.env.cells.lookup x=some c→c≠b)∧∀p∈X.pn++pins,p.1≠b
theorem Inv.tu{X:Cx}{σ:St}{H H':Hp}(I:Inv X pins σ H s)(hb:s.heap.objs.size≤b)(hn:H' b=none):fS X pins H' b:=by
  refine⟨hn,mq (jX I.lt hb),I.Qf hb,.inr (fR I.sz hb),fun x c e z=>?_,fun p hp z=>?_⟩
  ·obtain⟨v,q⟩:=I.cell x c e;exact absurd (jX q.lt (by rw[z];exact hb)) (rn _)
  ·exact absurd (jX (bG (I.pin p hp).1) (by rw[z];exact hb)) (rn _)
structure Turn (P:Program) (w:World) (K:PySem.W.Frag) (tg:Expr) (J:It) (fp:List Addr) (it:Addr) (tn:Nat→Heap→Prop):Prop where
  mem:it∈fp
  obj:∀i h,tn i h→∀b∈fp,∃o,h.get? b=some o∧∀v,o.data≠.cell v
  keep:∀i h h',tn i h→(∀b∈fp,∀o,h.get? b=some o→h'.get? b=some o)→tn i h'
  item:∀(X:Cx),X.prog=P→X.w=w→X.K=K→X.calm=true→∀(i:Nat) (pins:gw) (s:Shared) (σ:St) (H:Hp) (E:ic),Inv X pins σ H s→(∀b∈fp,fS X pins H b)→tn i s.heap→J.go i H →
    wpAny (model P w) X.A (pyNext (.ref it)) (fun r s1=>∃u,r=some u ∧
      wpAny (model P w) X.A (letOwnedTupleGo tg (.ref it) u) (fun _ s2=>∃x H',Inv X pins σ H' s2∧RelV x u∧J.BP i H x H'∧tn (i+1) s2.heap∧∀b∈fp,H' b=none) E s1) E s
  done:∀(X:Cx),X.prog=P→X.w=w→X.K=K→X.calm=true→∀(i:Nat) (pins:gw) (s:Shared) (σ:St) (H:Hp) (E:ic),Inv X pins σ H s→(∀b∈fp,fS X pins H b)→tn i s.heap→J.stop i H →
    wpAny (model P w) X.A (pyNext (.ref it)) (fun r s1=>r=none∧Inv X pins σ H s1) E s
  self:∀(A:Around) (i:Nat) (s:Shared) (Q:ic) (E:ic),tn i s.heap→Q (.ref it) s→wpAny (model P w) A (pyIter (.ref it)) Q E s
abbrev TI:=St→Hp→(It→Hp→Prop)→Prop
def PIE(X:Cx)(pins:gw)(σ:St)(tg:Expr)(R:It→Hp→Prop)(Wb:Value)(s2:Shared):Prop :=
  ∃(it:Addr) (fp:List Addr) (tn:Nat→Heap→Prop) (J:It) (H':Hp),Wb=.ref it∧Inv X pins σ H' s2∧Turn X.prog X.w X.K tg J fp it tn∧tn 0 s2.heap∧(∀b∈fp,fS X pins H' b)∧R J H'
def PI(X:Cx)(tg iter:Expr)(wi:TI):Prop :=
  ∀(pins:gw) (s:Shared) (σ:St) (H:Hp) (R:It→Hp→Prop),Inv X pins σ H s→wi σ H R →
   wpAny (model X.prog X.w) X.A (eval iter X.env) (fun v s1=>wpAny (model X.prog X.w) X.A (pyIter v) (PIE X pins σ tg R) X.xe s1) X.xe s
theorem Eb{M:Model}{o:Obj}{n:String}{vs:Array Value}{Q:Unit→Shared→Prop}(ho:s.heap.get? it=some o)(hc:o.cls=.type n)(hd:o.data=.fields vs)(hn:["enumerate","zip","dict_itemiterator","dict_reverseitemiterator","odict_iterator","itertools.zip_longest","itertools.pairwise"].contains n=false)(hQ:Q () s):wpAny M A (letOwnedTupleGo tg (.ref it) u) Q E s:=by
  unfold letOwnedTupleGo;cases tg<;>first
    |exact bP hQ
    |(cases u<;>first
        |exact bP hQ
        |(refine aE (wpAny_load ho ?_)
          rw[hc,hd];show wpAny M A (if (["enumerate","zip","dict_itemiterator","dict_reverseitemiterator","odict_iterator","itertools.zip_longest","itertools.pairwise"].contains n&&vs[0]?==some (rawInt _))=true then _ else _) Q E s;rw[ax (by intro h;rw[hn,Bool.false_and] at h;cases h)];exact bP hQ))
def Wc(K:PySem.W.Frag)(a:Addr):It :=
  ⟨fun i H=>∃xs x,eY K H a xs∧xs[i]?=some x,fun i H x H'=>H'=H∧∀xs,eY K H a xs→xs[i]?=some x,fun i H=>∃xs,eY K H a xs∧xs.length≤i⟩
def Xa(K:PySem.W.Frag)(a:Addr):It :=
  ⟨fun i H=>∃xs x,gy K H a xs∧xs[i]?=some x,fun i H x H'=>H'=H∧∀xs,gy K H a xs→xs[i]?=some x,fun i H=>∃xs,gy K H a xs∧xs.length≤i⟩
def Wd(lo:Int)(n:Nat):It:=⟨fun i _=>i<n,fun i H x H'=>H'=H∧x=.int (lo+i),fun i _=>n≤i⟩
theorem Ga{K:PySem.W.Frag}(a it:Addr):Turn P w K tg (Wc K a) [it] it (fun i h=>h.IsListIter it a i) where
  mem:=by simp
  obj:=fun i h st b hb=>by
    have e:b=it:=by simpa using hb
    subst e;obtain⟨o,e,c,d⟩:=st;exact⟨o,e,fun v z=>by rw[d] at z;cases z⟩
  keep:=fun i h h' st k=>st.at fun o e=>k it (by simp) o e
  item:=by intro X hP hw hK hc i pins s σ H E I hf st hg;subst hP hw hK;obtain⟨xs,x,hq,hx⟩:=hg;obtain⟨its,rv,p,hz⟩:=I.list hq;obtain⟨u,hu,ru⟩:=rv.get hx;obtain⟨f0,f1,f2,f3,f4,f5⟩:=hf it (by simp);refine wpAny_pyNext_list_item st p.isList (x:=u) (by simpa using hu) fun h' sM sb=>?_;have I1:Inv X pins σ H { s with heap:=h' }:=I.turned (t':=s.toks) (fun b o hb e=>(sb.2 b hb).trans e) f0 f1 f3 f4 f5;obtain⟨o,e,c,d⟩:=id sM;exact⟨u,rfl,Eb (s:={ s with heap:=h' }) e c d (by decide) ⟨x,H,I1,ru,⟨rfl,fun ys hy=>by rw[I.zJ hy hq];exact hx⟩,sM,fun b hb=>(hf b hb).1⟩⟩
  done:=by intro X hP hw hK hc i pins s σ H E I hf st hg;subst hP hw hK;obtain⟨xs,hq,hx⟩:=hg;obtain⟨its,rv,p,hz⟩:=I.list hq;obtain⟨f0,f1,f2,f3,f4,f5⟩:=hf it (by simp);have hl:=rv.length;exact wpAny_pyNext_list_end (I.ok.hd hc) st p.isList (by simp;omega) fun h' eb=>⟨rfl,I.turned (t':=s.toks) (fun b o hb e=>eb b o hb e) f0 f1 f3 f4 f5⟩
  self:=fun _ _ _ _ _ st h=>wpAny_pyIter_listiter st h
theorem BQ{K:PySem.W.Frag}(a it:Addr):Turn P w K tg (Xa K a) [it] it (fun i h=>h.IsTupleIter it a i) where
  mem:=by simp
  obj:=fun i h st b hb=>by
    have e:b=it:=by simpa using hb
    subst e;obtain⟨o,e,c,d⟩:=st;exact⟨o,e,fun v z=>by rw[d] at z;cases z⟩
  keep:=fun i h h' st k=>st.at fun o e=>k it (by simp) o e
  item:=by intro X hP hw hK hc i pins s σ H E I hf st hg;subst hP hw hK;obtain⟨xs,x,hq,hx⟩:=hg;obtain⟨its,rv,p,hz⟩:=I.tuple hq;obtain⟨u,hu,ru⟩:=rv.get hx;obtain⟨f0,f1,f2,f3,f4,f5⟩:=hf it (by simp);refine wpAny_pyNext_tuple_item st (show s.heap.IsTuple a its.toArray from p) (x:=u) (by simpa using hu) fun h' sM sb=>?_;have I1:Inv X pins σ H { s with heap:=h' }:=I.turned (t':=s.toks) (fun b o hb e=>(sb.2 b hb).trans e) f0 f1 f3 f4 f5;obtain⟨o,e,c,d⟩:=id sM;exact⟨u,rfl,Eb (s:={ s with heap:=h' }) e c d (by decide) ⟨x,H,I1,ru,⟨rfl,fun ys hy=>by rw[I.F9 hy hq];exact hx⟩,sM,fun b hb=>(hf b hb).1⟩⟩
  done:=by intro X hP hw hK hc i pins s σ H E I hf st hg;subst hP hw hK;obtain⟨xs,hq,hx⟩:=hg;obtain⟨its,rv,p,hz⟩:=I.tuple hq;obtain⟨f0,f1,f2,f3,f4,f5⟩:=hf it (by simp);have hl:=rv.length;exact wpAny_pyNext_tuple_end (I.ok.hd hc) st (show s.heap.IsTuple a its.toArray from p) (by simp;omega) fun h' eb=>⟨rfl,I.turned (t':=s.toks) (fun b o hb e=>eb b o hb e) f0 f1 f3 f4 f5⟩
  self:=fun _ _ _ _ _ st h=>wpAny_pyIter_tupleiter st h
theorem BR{K:PySem.W.Frag}(it:Addr)(lo:Int)(n:Nat):Turn P w K tg (Wd lo n) [it] it (fun i h=>IsRangeIter h it (lo+(i:Nat)*1) ((n:Int)-(i:Nat)) 1) where
  mem:=by simp
  obj:=fun i h st b hb=>by
    have e:b=it:=by simpa using hb
    subst e;exact⟨_,st,fun v z=>by
      have z':Data.fields _=Data.cell v:=z;cases z'⟩
  keep:=fun i h h' st k=>k it (by simp) _ st
  item:=by intro X hP hw hK hc i pins s σ H E I hf st hg;subst hP hw hK;obtain⟨f0,f1,f2,f3,f4,f5⟩:=hf it (by simp);have W:=Walks.range (prog:=X.prog) (w:=X.w) (I.ok.hd hc) it lo 1 n;refine W.item i s _ _ hg st fun v h' tk hv sM kk=>?_;obtain⟨t,rfl⟩:=hv;have I1:Inv X pins σ H { s with heap:=h',toks:=tk }:=I.turned (fun b o hb e=>kk b o (by simpa using hb) e) f0 f1 f3 f4 f5;refine⟨_,rfl,Eb (s:={ s with heap:=h',toks:=tk }) (n:="range_iterator") sM rfl rfl (by decide) ⟨.int (lo+i),H,I1,⟨t,?_⟩,⟨rfl,rfl⟩,sM,fun b hb=>(hf b hb).1⟩⟩;rw[Int.mul_one]
  done:=by intro X hP hw hK hc i pins s σ H E I hf st hg;subst hP hw hK;obtain⟨f0,f1,f2,f3,f4,f5⟩:=hf it (by simp);exact wpAny_pyNext_range_end (I.ok.hd hc) st (by have:n≤i:=hg;omega) fun h' eb=>⟨rfl,I.turned (t':=s.toks) (fun b o hb e=>eb b o hb e) f0 f1 f3 f4 f5⟩
  self:=fun _ _ _ _ _ st h=>wpAny_pyIter_rangeiter st h
section
variable {X:Cx} {tg:Expr}
def T1(K:PySem.W.Frag)(tl:TE):TI:=fun σ H R=>tl σ H fun x H1=>∃a,x=.ref a∧(∃xs,eY K H1 a xs)∧R (Wc K a) H1
def Xb(K:PySem.W.Frag)(tl:TE):TI:=fun σ H R=>tl σ H fun x H1=>∃a,x=.ref a∧(∃xs,gy K H1 a xs)∧R (Xa K a) H1
theorem Ec{l:Expr}{tl:TE}(hl:PE X l tl):PI X tg l (T1 X.K tl):=by
  intro pins s σ H R I h;refine cN (hl pins s σ H _ I h) fun v s1 ⟨x,H1,I1,r1,q1⟩=>?_;obtain⟨a,e,⟨xs,hq⟩,q⟩:=q1;subst e;cases r1;obtain⟨its,rv,p,hz⟩:=I1.list hq;refine wpAny_pyIter_list p.isList ?_;refine⟨s1.heap.objs.size,[s1.heap.objs.size],_,_,H1,rfl,I1.kept (t':=s1.toks) fun b o e=>dC _ e,Ga a _,⟨_,iE _ rfl,rfl,rfl⟩,fun b hb=>?_,q⟩;have e:b=s1.heap.objs.size:=by simpa using hb
  subst e;exact I1.tu (bJ _) (I1.bV.fresh (bJ _))
theorem Qp{l:Expr}{tl:TE}(hl:PE X l tl):PI X tg l (Xb X.K tl):=by
  intro pins s σ H R I h;refine cN (hl pins s σ H _ I h) fun v s1 ⟨x,H1,I1,r1,q1⟩=>?_;obtain⟨a,e,⟨xs,hq⟩,q⟩:=q1;subst e;cases r1;obtain⟨its,rv,p,hz⟩:=I1.tuple hq;refine wpAny_pyIter_tuple (show s1.heap.IsTuple a its.toArray from p) ?_;refine⟨s1.heap.objs.size,[s1.heap.objs.size],_,_,H1,rfl,I1.kept (t':=s1.toks) fun b o e=>dC _ e,BQ a _,⟨_,iE _ rfl,rfl,rfl⟩,fun b hb=>?_,q⟩;have e:b=s1.heap.objs.size:=by simpa using hb
  subst e;exact I1.tu (bJ _) (I1.bV.fresh (bJ _))
theorem Ij{σ:St}{H:Hp}{R:It→Hp→Prop}{lo hi:Int}{t u v:Tok}{tk:Nat}(I:Inv X pins σ H s)(h1:-(2^62)≤lo)(h2:lo<2^62)(h3:-(2^62)≤hi)(h4:hi<2^62)(q:R (Wd lo (hi-lo).toNat) H):wpAny (model X.prog X.w) X.A (pyIter (.ref s.heap.objs.size)) (PIE X pins σ tg R) E { s with heap:=s.heap.push { cls:=.type "range",data:=.fields #[.int lo t,.int hi u,.int 1 v] },toks:=tk }:=by
  refine wpAny_pyIter_range (IsRange.new ..) (small_one h1 h2 h3 h4) ?_;have I1:Inv X pins σ H { s with heap:=s.heap.push { cls:=.type "range",data:=.fields #[.int lo t,.int hi u,.int 1 v] },toks:=tk }:=I.kept fun b o e=>dC _ e;refine⟨(s.heap.push { cls:=.type "range",data:=.fields #[.int lo t,.int hi u,.int 1 v] }).objs.size,[(s.heap.push { cls:=.type "range",data:=.fields #[.int lo t,.int hi u,.int 1 v] }).objs.size],_,_,H,rfl,
    I1.kept (t':=tk) fun b o e=>dC _ e,BR _ lo (hi-lo).toNat,?_,fun b hb=>?_,q⟩
  · have e1:lo+((0:Nat):Int)*1=lo:=by simp
    have e2:(((hi-lo).toNat:Nat):Int)-((0:Nat):Int)=Builtin.Range.rangeSize lo hi 1:=by rw[rangeSize_one];split<;>omega
    show IsRangeIter _ _ (lo+((0:Nat):Int)*1) ((((hi-lo).toNat:Nat):Int)-((0:Nat):Int)) 1;rw[e1,e2];exact iE _ rfl
  · have e:b=(s.heap.push { cls:=.type "range",data:=.fields #[.int lo t,.int hi u,.int 1 v] }).objs.size:=by simpa using hb
    subst e;exact I1.tu (bJ _) (I1.bV.fresh (bJ _))
def T2(ta:TA):TI:=fun σ H R=>ta σ H fun vs H1=>∃j:Int,vs=[.int j]∧-(2^62)≤j∧j<2^62∧R (Wd 0 j.toNat) H1
theorem Gb{a:Expr}{ta:TA}{p:Pos}(hg:Gl X "range")(hm:X.mg "range"=none)(ha:PA X [a] ta)(hs:starEach [a] X.env=[(false,eval a X.env)]:=by rfl):PI X tg (.Call (.Name "range" p) [a] [] pos) (T2 ta):=by
  intro pins s σ H R I h;refine Call_ (gT I hg hm boot_range (BL (cN (ha pos pins s σ H _ I h) fun us s1 ⟨vs,H1,I1,r1,q1⟩=>?_) hs rfl));obtain⟨j,e,q1,q2,q⟩:=q1;subst e;cases r1 with
  |cons r rr=>cases rr;obtain⟨t,rfl⟩:=r;exact call_range_1 (Ij I1 (by omega) (by omega) q1 q2 (by simpa using q))
def Xc(wi:TI)(g:TG)(tb:TS):TS:=fun D σ H=>wi σ H fun J H1=>∃W:Nat→Nat→St→Hp→Prop,(∃m,W 0 m σ H1)∧∀i m σ H,W i m σ H →
  (J.stop i H∧D.nx σ H)∨(J.go i H∧∃N:St→Hp→Prop,(∀σ' H',N σ' H'→∃m',m'<m∧W (i+1) m' σ' H')∧∀x H',J.BP i H x H'→g x σ H' fun σ2 H2=>tb { D with nx:=N,ct:=N,bk:=D.nx } σ2 H2)
def uk(fp:List Addr)(h:Heap):gw:=fp.filterMap fun b=>(h.get? b).map fun o=>(b,o)
theorem kO{o:Obj}(hb:b∈fp)(e:h.get? b=some o):(b,o)∈uk fp h:=List.mem_filterMap.mpr ⟨b,hb,by rw[e];rfl⟩
theorem Gd{p:Addr×Obj}(hp:p∈uk fp h):p.1∈fp∧h.get? p.1=some p.2:=by
  obtain⟨b,hb,e⟩:=List.mem_filterMap.mp hp;cases q:h.get? b with
  |none=>rw[q] at e;cases e
  |some o=>rw[q] at e;have e':(b,o)=p:=jJ e;subst e';exact⟨hb,q⟩
theorem Inv.pinned{σ:St}{H:Hp}(I:Inv X pins σ H s)(hf:∀b∈fp,fS X pins H b)(ho:∀b∈fp,∃o,s.heap.get? b=some o∧∀v,o.data≠.cell v):Inv X (pins++uk fp s.heap) σ H s :=
  I.xP fun p hp=>(mh.mp hp).elim (fun z=>I.pin p (ky _ z)) fun z=>by obtain⟨hb,e⟩:=Gd z;obtain⟨f0,f1,f2,_⟩:=hf p.1 hb;obtain⟨o,e',d⟩:=ho p.1 hb;rw[e] at e';cases e';exact⟨e,f0,f1,f2,d⟩
theorem Inv.kB{pl:gw}{σ:St}{H:Hp}(I:Inv X (pins++pl) σ H s):Inv X pins σ H s:=I.xP fun p hp=>I.pin p (ky _ (List.mem_append_left _ hp))
theorem Ik{iter:Expr}{wi:TI}{g:TG}{tb:TS}(hp:PassesOwn (model X.prog X.w) X.A X.env X.xe)(hc:X.calm=true)(hi:PI X tg iter wi)(hg:PG X tg g)(hb:xQ X body tb)(hs:∀x,foldedSetIterable iter X.env x=pure x:=by intro _;rfl):PS X (.For tg iter body [] pos) (Xc wi g tb):=by
  intro pins s σ H D I h;refine wpAny_For (cN (hi pins s σ H _ I h) fun v s1 h1=>cN h1 fun Wb s2 h2=>?_) hs;obtain⟨it,fp,tn,J,H2,e,I2,T,T3,f2,W,⟨m0,w0⟩,turn⟩:=h2;subst e
  -- what stays true of the iterator's objects through the loop
  have stat:∀{H':Hp},(∀b∈fp,H' b=none)→∀b∈fp,fS X pins H' b:=fun hn b hb=>⟨hn b hb,(f2 b hb).2⟩
  refine codeAny_forLoop_any (fun n s'=>∃i σ' H',Inv X pins σ' H' s'∧tn i s'.heap∧(∀b∈fp,H' b=none)∧W i n σ' H') ?_ m0 ⟨0,σ,H2,I2,T3,fun b hb=>(f2 b hb).1,w0⟩;rintro n s3 ⟨i,σ3,H3,I3,st3,fr3,w3⟩;rcases turn i n σ3 H3 w3 with⟨stop,qn⟩|⟨go,N,hN,step⟩
  ·refine wpAny_passesOwn hp (cN (T.done X rfl rfl rfl hc i pins s3 σ3 H3 X.xe I3 (stat fr3) st3 stop) fun r s4 ⟨hr,I4⟩=>?_);subst hr;exact wpAny_execs_nil ⟨σ3,H3,I4,qn⟩
  · refine wpAny_passesOwn hp (cN (T.item X rfl rfl rfl hc i pins s3 σ3 H3 X.xe I3 (stat fr3) st3 go) fun r s4 ⟨u,hr,h4⟩=>?_);subst hr;refine wpAny_passesOwn hp (cN h4 fun _ s5 ⟨x,H5,I5,r5,y5,Xd,fr5⟩=>?_);have I5':=I5.pinned (stat fr5) (T.obj _ _ Xd);refine wpAny_passesOwn hp (cN (hg _ s5 σ3 H5 x u _ I5' r5 (step x H5 y5)) fun _ s6 ⟨σ6,H6,I6,q6⟩=>?_);refine wpAny_passesOwn hp (cN (hb _ s6 σ6 H6 _ I6 q6) fun f s7 q7=>?_);have again:∀{σ7:St} {H7:Hp},Inv X (pins++uk fp s5.heap) σ7 H7 s7→N σ7 H7→∃m,m<n∧∃i σ' H',Inv X pins σ' H' s7∧tn i s7.heap∧(∀b∈fp,H' b=none)∧W i m σ' H':=fun {σ7 H7} I7 n7=>by
      obtain⟨m',hm,w7⟩:=hN σ7 H7 n7;refine⟨m',hm,i+1,σ7,H7,I7.kB,T.keep _ _ _ Xd fun b hb o e=>(I7.pin (b,o) (ky _ (ky _ (kO hb e)))).1,fun b hb=>?_,w7⟩;obtain⟨o,e,d⟩:=T.obj _ _ Xd b hb;exact(I7.pin (b,o) (ky _ (ky _ (kO hb e)))).2.1
    cases f with
    |next=>obtain⟨σ7,H7,I7,n7⟩:=q7;exact again I7 n7
    |cont=>obtain⟨σ7,H7,I7,n7⟩:=q7;exact again I7 n7
    |brk=>obtain⟨σ7,H7,I7,q7⟩:=q7;exact⟨σ7,H7,I7.kB,q7⟩
    |ret v=>obtain⟨x7,σ7,H7,I7,r7,q7⟩:=q7;exact⟨x7,σ7,H7,I7.kB,r7,q7⟩
end
abbrev R2:=V→V→Hp→VK→Prop
def nT(X:Cx)(f:Value→Value→Sem Value)(r:R2):Prop :=
  ∀(pins:gw) (s:Shared) (σ:St) (H:Hp) (x y:V) (v u:Value) (Q:VK),Inv X pins σ H s→RelV x v→RelV y u→r x y H Q →
   wpAny (model X.prog X.w) X.A (f v u) (EP X pins σ Q) X.xe s
def Xe(X:Cx)(f:Value→Sem Value)(r:V→Hp→VK→Prop):Prop :=
  ∀(pins:gw) (s:Shared) (σ:St) (H:Hp) (x:V) (v:Value) (Q:VK),Inv X pins σ H s→RelV x v→r x H Q →
   wpAny (model X.prog X.w) X.A (f v) (EP X pins σ Q) X.xe s
def mw(X:Cx)(f:Value)(r:List V→Hp→VK→Prop):Prop :=
  ∀(pins:gw) (s:Shared) (σ:St) (H:Hp) (xs:List V) (us:cA) (Q:VK),Inv X pins σ H s→Vals xs us→r xs H Q →
   wpAny (model X.prog X.w) X.A (call f us) (EP X pins σ Q) X.xe s
def Ed(r:R2)(ta tb:TE):TE:=fun σ H Q=>ta σ H fun x H1=>tb σ H1 fun y H2=>r x y H2 Q
def tUn(r:V→Hp→VK→Prop)(ta:TE):TE:=fun σ H Q=>ta σ H fun x H1=>r x H1 Q
def rI(C:Int→Int→Prop)(g:Int→Int→V):R2:=fun x y H Q=>∃i j,x=.int i∧y=.int j∧C i j∧Q (g i j) H
def Mg(g:Int→Int→V):R2:=fun x y H Q=>∃i j,x=.int i∧y=.int j∧Q (g i j) H
def rU(g:Int→V):V→Hp→VK→Prop:=fun x H Q=>∃i,x=.int i∧Q (g i) H
section
variable {X:Cx} {a b c:Expr} {ta tb tc:TE} {pos:Pos}
theorem Qq(ha:PE X a ta)(hb:PE X b tb){σ:St}{H:Hp}{R:V→V→Hp→Prop}(I:Inv X pins σ H s)(h:ta σ H fun x H1=>tb σ H1 fun y H2=>R x y H2)(hf:∀v u s2 x y H2,Inv X pins σ H2 s2→RelV x v→RelV y u→R x y H2→wpAny (model X.prog X.w) X.A (f v u) Q X.xe s2):wpAny (model X.prog X.w) X.A (eval a X.env) (fun v s₁=>wpAny (model X.prog X.w) X.A (eval b X.env) (fun u s₂=>wpAny (model X.prog X.w) X.A (f v u) Q X.xe s₂) X.xe s₁) X.xe s:=by
  refine cN (ha pins s σ H _ I h) fun v s1 ⟨x,H1,I1,r1,q1⟩=>?_;refine cN (hb pins s1 σ H1 _ I1 q1) fun u s2 ⟨y,H2,I2,r2,q2⟩=>?_;exact hf v u s2 x y H2 I2 r1 r2 q2
theorem Pj{op:Operator}{r:R2}(ho:nT X (binaryOp op) r)(ha:PE X a ta)(hb:PE X b tb):PE X (.BinOp a op b pos) (Ed r ta tb):=by intro pins s σ H Q I h;exact wpAny_BinOp (Qq ha hb I h fun v u s2 x y H2 I2 rx ry q=>ho pins s2 σ H2 x y v u Q I2 rx ry q)
theorem T4{op:UnaryOp}{r:V→Hp→VK→Prop}(ho:Xe X (unaryOp op) r)(ha:PE X a ta):PE X (.UnaryOp op a pos) (tUn r ta):=by intro pins s σ H Q I h;exact UnaryOp_ (cN (ha pins s σ H _ I h) fun v s1 ⟨x,H1,I1,r1,q1⟩=>ho pins s1 σ H1 x v Q I1 r1 q1)
theorem Wf{C:Int→Int→Prop}{g:Int→Int→Int}(rule:∀(i j:Int) (t u:Tok) (s:Shared) (Q:ic) (E:ic),C i j→Q (.int (g i j) s.toks) { s with toks:=s.toks+1 }→wpAny (model X.prog X.w) X.A (f (.int i t) (.int j u)) Q E s):nT X f (rI C fun i j=>.int (g i j)):=by
  intro pins s σ H x y v u Q I rx ry h;obtain⟨i,j,rfl,rfl,hc,q⟩:=h;obtain⟨t,rfl⟩:=rx;obtain⟨t',rfl⟩:=ry;exact rule i j t t' s _ _ hc ⟨.int (g i j),H,I.tok _,⟨_,rfl⟩,q⟩
theorem T5{g:Int→Int→Int}(rule:∀(i j:Int) (t u:Tok) (s:Shared) (Q:ic) (E:ic),Q (.int (g i j) s.toks) { s with toks:=s.toks+1 }→wpAny (model X.prog X.w) X.A (f (.int i t) (.int j u)) Q E s):nT X f (Mg fun i j=>.int (g i j)):=by
  intro pins s σ H x y v u Q I rx ry h;obtain⟨i,j,rfl,rfl,q⟩:=h;obtain⟨t,rfl⟩:=rx;obtain⟨t',rfl⟩:=ry;exact rule i j t t' s _ _ ⟨.int (g i j),H,I.tok _,⟨_,rfl⟩,q⟩
theorem Qr{g:Int→Int→Bool}(rule:∀(i j:Int) (t u:Tok) (s:Shared) (Q:ic) (E:ic),Q (.bool (g i j)) s→wpAny (model X.prog X.w) X.A (f (.int i t) (.int j u)) Q E s):nT X f (Mg fun i j=>.bl (g i j)):=by
  intro pins s σ H x y v u Q I rx ry h;obtain⟨i,j,rfl,rfl,q⟩:=h;obtain⟨t,rfl⟩:=rx;obtain⟨t',rfl⟩:=ry;exact rule i j t t' s _ _ ⟨.bl (g i j),H,I,rfl,q⟩
def T6(i j:Int):Prop:=0<j∧j<1073741824
def T7(i j:Int):Prop:=0≤j∧j≤1000000∧i.natAbs<2^64
def Mh(i j:Int):Prop:=(-(2^64)<i∧i<2^64)∨(-(2^64)<j∧j<2^64)
theorem Mh.ok{i j:Int}(h:Mh i j):IntMulOk i j:=by
  rcases h with⟨h1,h2⟩|⟨h1,h2⟩
  ·exact .of_left (intBits_le_64 h1 h2)
  ·exact .of_right (intBits_le_64 h1 h2)
theorem Qs:nT X (binaryOp .Add) (Mg fun i j=>.int (i+j)):=T5 fun _ _ _ _ _ _ _ q=>add_int q
theorem Qt:nT X (binaryOp .Sub) (Mg fun i j=>.int (i-j)):=T5 fun _ _ _ _ _ _ _ q=>sub_int q
theorem Qu:nT X (binaryOp .Mult) (rI Mh fun i j=>.int (i*j)):=Wf fun _ _ _ _ _ _ _ hc q=>mul_int q hc.ok
theorem Mi:nT X (binaryOp .FloorDiv) (rI T6 fun i j=>.int (i / j)):=Wf fun i j _ _ _ _ _ hc q=>by have h1:(0:Int)<j:=hc.1;have h2:j<1073741824:=hc.2;exact floordiv_int (by omega) (by rw[Int.fdiv_eq_ediv_of_nonneg i (by omega)];exact q) (.inl (PyProof.noPylong_small (by omega)))
theorem Il:nT X (binaryOp .Mod) (rI (fun _ j=>0<j) fun i j=>.int (i%j)):=Wf fun i j _ _ _ _ _ hc q=>by have h1:(0:Int)<j:=hc;exact mod_int' (by omega) (by rw[Int.fmod_eq_emod_of_nonneg i (by omega)];exact q)
theorem Qv:nT X (binaryOp .Pow) (rI T7 fun i j=>.int (i^j.toNat)):=Wf fun _ _ _ _ _ _ _ hc q=>pow_int_small hc.1 hc.2.1 hc.2.2 q
theorem unI{f:Value→Sem Value}{g:Int→Int}(rule:∀(i:Int) (t:Tok) (s:Shared) (Q:ic) (E:ic),Q (.int (g i) s.toks) { s with toks:=s.toks+1 }→wpAny (model X.prog X.w) X.A (f (.int i t)) Q E s):Xe X f (rU fun i=>.int (g i)):=by
  intro pins s σ H x v Q I rx h;obtain⟨i,rfl,q⟩:=h;obtain⟨t,rfl⟩:=rx;exact rule i t s _ _ ⟨.int (g i),H,I.tok _,⟨_,rfl⟩,q⟩
theorem Qw:Xe X (unaryOp .USub) (rU fun i=>.int (-i)):=unI fun _ _ _ _ _ q=>neg_int q
end
def Im:V→V→Bool
  |.non,.non=>true|.non,.int _=>true|.int _,.non=>true|.non,.bl _=>true|.bl _,.non=>true|.non,.str _=>true|.str _,.non=>true
  |.int _,.int _=>true|.bl _,.bl _=>true|.str _,.str _=>true|.HB _,.HB _=>true
  |.int _,.str _=>true|.str _,.int _=>true|.bl _,.str _=>true|.str _,.bl _=>true
  |_,_=>false
def Xf:R2:=fun x y H Q=>Im x y=true∧Q (.bl (decide (x=y))) H
def rNe:R2:=fun x y H Q=>Im x y=true∧Q (.bl (!decide (x=y))) H
theorem xU{i j:Int}:decide (V.int i=V.int j)=(i==j):=by rw[pJ];simp
theorem BU{i j:Bool}:decide (V.bl i=V.bl j)=(i==j):=by rw[pJ];simp
theorem xV{i j:Str}:decide (V.str i=V.str j)=(i==j):=by rw[pJ];simp
theorem Ee{i j:Array UInt8}:decide (V.HB i=V.HB j)=(i.toList==j.toList):=by rw[pJ];cases i;cases j;simp
section
variable {X:Cx} {a b c:Expr} {ta tb tc:TE} {pos:Pos}
theorem bB{σ:St}{H:Hp}{Q:VK}{k k':Bool}(I:Inv X pins σ H s)(q:Q (.bl k) H)(e:k=k'):EP X pins σ Q (.bool k') s:=by subst e;exact⟨.bl k,H,I,rfl,q⟩
theorem Io:nT X (compareOp .Eq) Xf:=by
  intro pins s σ H x y v u Q I rx ry h;obtain⟨hs,q⟩:=h;cases x with
  |non =>
   cases rx;cases y with
   |non=>cases ry;exact PySem.EqNone.eq_none_none (bB I q (by simp))
   |bl j=>cases ry;exact PySem.EqNone.eq_none_bool (bB I q (by simp))
   |int j=>obtain⟨t',rfl⟩:=ry;exact PySem.EqNone.eq_none_int (bB I q (by simp))
   |str j=>obtain⟨t',rfl⟩:=ry;exact PySem.EqNone.eq_none_str (bB I q (by simp))
   |_=>exact absurd (show false=true from hs) eT
  |bl i =>
   cases rx;cases y with
   |non=>cases ry;exact PySem.EqNone.eq_bool_none (bB I q (by simp))
   |bl j=>cases ry;exact eq_bool (bB I q BU)
   |str j=>obtain⟨t',rfl⟩:=ry;exact PySem.EqMixed.eq_bool_str (bB I q (by simp))
   |_=>exact absurd (show false=true from hs) eT
  |int i =>
   obtain⟨t,rfl⟩:=rx;cases y with
   |non=>cases ry;exact PySem.EqNone.eq_int_none (bB I q (by simp))
   |int j=>obtain⟨t',rfl⟩:=ry;exact eq_int (bB I q xU)
   |str j=>obtain⟨t',rfl⟩:=ry;exact PySem.EqMixed.eq_int_str (bB I q (by simp))
   |_=>exact absurd (show false=true from hs) eT
  |str i =>
   obtain⟨t,rfl⟩:=rx;cases y with
   |non=>cases ry;exact PySem.EqNone.eq_str_none (bB I q (by simp))
   |bl j=>cases ry;exact PySem.EqMixed.eq_str_bool (bB I q (by simp))
   |int j=>obtain⟨t',rfl⟩:=ry;exact PySem.EqMixed.eq_str_int (bB I q (by simp))
   |str j=>obtain⟨t',rfl⟩:=ry;exact eq_str (bB I q xV)
   |_=>exact absurd (show false=true from hs) eT
  |HB i =>
   obtain⟨t,rfl⟩:=rx;cases y with
   |HB j=>obtain⟨t',rfl⟩:=ry;exact PySem.W.eq_bytes (bB I q Ee)
   |_=>exact absurd (show false=true from hs) eT
  |_=>cases y<;>exact absurd (show false=true from hs) eT
theorem T8:nT X (compareOp .NotEq) rNe:=by
  intro pins s σ H x y v u Q I rx ry h;obtain⟨hs,q⟩:=h;cases x with
  |non =>
   cases rx;cases y with
   |non=>cases ry;exact PySem.EqNone.ne_none_none (bB I q (by simp))
   |bl j=>cases ry;exact PySem.EqNone.ne_none_bool (bB I q (by simp))
   |int j=>obtain⟨t',rfl⟩:=ry;exact PySem.EqNone.ne_none_int (bB I q (by simp))
   |str j=>obtain⟨t',rfl⟩:=ry;exact PySem.EqNone.ne_none_str (bB I q (by simp))
   |_=>exact absurd (show false=true from hs) eT
  |bl i =>
   cases rx;cases y with
   |non=>cases ry;exact PySem.EqNone.ne_bool_none (bB I q (by simp))
   |bl j=>cases ry;exact ne_bool (bB I q (gG not BU))
   |str j=>obtain⟨t',rfl⟩:=ry;exact PySem.EqMixed.ne_bool_str (bB I q (by simp))
   |_=>exact absurd (show false=true from hs) eT
  |int i =>
   obtain⟨t,rfl⟩:=rx;cases y with
   |non=>cases ry;exact PySem.EqNone.ne_int_none (bB I q (by simp))
   |int j=>obtain⟨t',rfl⟩:=ry;exact ne_int (bB I q (gG not xU))
   |str j=>obtain⟨t',rfl⟩:=ry;exact PySem.EqMixed.ne_int_str (bB I q (by simp))
   |_=>exact absurd (show false=true from hs) eT
  |str i =>
   obtain⟨t,rfl⟩:=rx;cases y with
   |non=>cases ry;exact PySem.EqNone.ne_str_none (bB I q (by simp))
   |bl j=>cases ry;exact PySem.EqMixed.ne_str_bool (bB I q (by simp))
   |int j=>obtain⟨t',rfl⟩:=ry;exact PySem.EqMixed.ne_str_int (bB I q (by simp))
   |str j=>obtain⟨t',rfl⟩:=ry;exact ne_str (bB I q (gG not xV))
   |_=>exact absurd (show false=true from hs) eT
  |HB i =>
   obtain⟨t,rfl⟩:=rx;cases y with
   |HB j=>obtain⟨t',rfl⟩:=ry;exact PySem.W.ne_bytes (bB I q (gG not Ee))
   |_=>exact absurd (show false=true from hs) eT
  |_=>cases y<;>exact absurd (show false=true from hs) eT
theorem Pk:nT X (compareOp .Lt) (Mg fun i j=>.bl (decide (i<j))):=Qr fun _ _ _ _ _ _ _ q=>lt_int q
theorem T9:nT X (compareOp .Gt) (Mg fun i j=>.bl (decide (j<i))):=Qr fun _ _ _ _ _ _ _ q=>gt_int q
theorem Ua:nT X (compareOp .GtE) (Mg fun i j=>.bl (decide (j≤i))):=Qr fun _ _ _ _ _ _ _ q=>ge_int q
theorem Ge:nT X (compareOp .In) (fun x y H Q=>∃i j,x=.str i∧y=.str j∧Q (.bl (!(Builtin.Str.occurrences j i 0 j.length 1).isEmpty)) H):=by intro pins s σ H x y v u Q I rx ry h;obtain⟨i,j,rfl,rfl,q⟩:=h;obtain⟨t,rfl⟩:=rx;obtain⟨t',rfl⟩:=ry;exact in_str (bB I q rfl)
theorem Qx:nT X (compareOp .Is) (fun x y H Q=>y=.non∧Q (.bl (decide (x=.non))) H):=by
  intro pins s σ H x y v u Q I rx ry h;obtain⟨rfl,q⟩:=h;cases ry;refine is_none_gen (bB I q ?_);cases x<;>first
    |(cases rx;rfl)
    |(obtain⟨t,rfl⟩:=rx;rfl)
theorem Mj:nT X (compareOp .IsNot) (fun x y H Q=>y=.non∧Q (.bl (!decide (x=.non))) H):=by
  intro pins s σ H x y v u Q I rx ry h;obtain⟨rfl,q⟩:=h;cases ry;refine isnot_none_gen (bB I q ?_);cases x<;>first
    |(cases rx;rfl)
    |(obtain⟨t,rfl⟩:=rx;rfl)
theorem nT.or{r r':R2}(h:nT X f r)(h':nT X f r'):nT X f (fun x y H Q=>r x y H Q∨r' x y H Q):=by
  intro pins s σ H x y v u Q I rx ry q;rcases q with q|q
  ·exact h pins s σ H x y v u Q I rx ry q
  ·exact h' pins s σ H x y v u Q I rx ry q
theorem j4(b:Expr)(h:op≠.In:=by decide)(h2:op≠.NotIn:=by decide):behindInMarks op b=false:=by
  have e1:(op==CmpOp.In)=false:=by cases op<;>first|rfl|exact absurd rfl h
  have e2:(op==CmpOp.NotIn)=false:=by cases op<;>first|rfl|exact absurd rfl h2
  cases b<;>simp[behindInMarks,e1,e2]
theorem Ef{r:R2}(ho:nT X (compareOp op) r)(ha:PE X a ta)(hb:PE X b tb)(hm:behindInMarks op b=false):PE X (.Compare a [op] [b] pos) (Ed r ta tb):=by intro pins s σ H Q I h;exact wpAny_Compare1 (Qq ha hb I h fun v u s2 x y H2 I2 rx ry q=>ho pins s2 σ H2 x y v u Q I2 rx ry q) hm
def Pl(t:TE):TT:=fun σ H Q=>t σ H fun x H'=>∃k,x=.bl k∧Q k H'
theorem Eg{r:R2}(ho:nT X (compareOp op) r)(ha:PE X a ta)(hb:PE X b tb)(hm:behindInMarks op b=false):PT X (.Compare a [op] [b] pos) (Pl (Ed r ta tb)):=by
  intro pins s σ H Q I h;refine wpAny_isTrue_Compare1 (cN (ha pins s σ H _ I h) fun v s1 ⟨x,H1,I1,r1,q1⟩=>cN (hb pins s1 σ H1 _ I1 q1) fun u s2 ⟨y,H2,I2,r2,q2⟩ =>
    cN (ho pins s2 σ H2 x y v u _ I2 r1 r2 q2) fun c s3 ⟨z,H3,I3,r3,k,e,q3⟩=>?_) hm
  subst e;cases r3;exact wpAny_truthy_bool ⟨H3,I3,q3⟩
theorem rE:(sizeLine:Nat)<2^63:=by rw[fU];decide
theorem BV:nT X (binaryOp .Add) (fun x y H Q=>∃i j,x=.str i∧y=.str j∧i.length+j.length≤sizeLine∧Q (.str (i++j)) H):=by intro pins s σ H x y v u Q I rx ry h;obtain⟨i,j,rfl,rfl,hz,q⟩:=h;obtain⟨t,rfl⟩:=rx;obtain⟨t',rfl⟩:=ry;exact add_str (fun t' tk=>⟨.str (i++j),H,I.tok _,⟨_,rfl⟩,q⟩) hz
theorem vals1{x:V}(r:Vals [x] us):∃u,us=[u]∧RelV x u:=by
  cases r with
  |cons r1 r2=>cases r2;exact⟨_,rfl,r1⟩
theorem vals2{x y:V}(r:Vals [x,y] us):∃u w',us=[u,w']∧RelV x u∧RelV y w':=by
  cases r with
  |cons r1 r2 =>
   cases r2 with
   |cons r3 r4=>cases r4;exact⟨_,_,rfl,r1,r3⟩
theorem Gf(hc:X.calm=true):mw X (.builtin "min") (fun xs H Q=>∃i j,xs=[.int i,.int j]∧Q (.int (if j<i then j else i)) H):=by
  intro pins s σ H xs us Q I r h;obtain⟨i,j,rfl,q⟩:=h;obtain⟨u,w',rfl,⟨t,rfl⟩,⟨t',rfl⟩⟩:=vals2 r;refine min_two_ints (I.ok.hd hc) fun h' tk k=>⟨_,H,I.kept k,?_,q⟩
  by_cases hj:j<i
  ·rw[az hj,az hj];exact⟨_,rfl⟩
  ·rw[ax hj,ax hj];exact⟨_,rfl⟩
end
structure BW (h:Heap) (x dx C:Addr) (mA:Str→fQ):Prop where
  obj:h.get? x=some (instObj C dx)
  ns:h.Ns1 dx mA
  ne:dx≠x
theorem Gg{dx:Addr}{mA:Str→fQ}(n:h.Ns1 dx mA):∃od,h.get? dx=some od∧∀name,lookIn name od=some (mA name):=by
  obtain⟨o,es,ep,ho,hd,hk,_,hm⟩:=n;refine⟨o,ho,fun name=>?_⟩;have e:=hm name;unfold nsFind findBy at e;rw[←Array.find?_toList] at e;unfold lookIn;rw[hd];dsimp only;split
  ·rename_i y q;rw[q] at e;exact gG some e
  · rename_i q;rw[q] at e;have a:es.toList.any (·.refKey)=false:=by
      rw[List.any_eq_false];intro y hy;obtain⟨z,t,Qy⟩:=hk y (Array.mem_toList_iff.mp hy);simp[DictEntry.refKey,Qy]
    have a':¬ es.toList.any (·.refKey)=true:=by rw[a];exact eT
    rw[ax a'];exact gG some e
theorem BW.look{x dx:Addr}{mA:Str→fQ}(I:BW h x dx C mA):∃od,PySem.W.InstAt h x (instObj C dx) C (some od)∧∀name,lookIn name od=some (mA name) :=
  let ⟨od,ho,hl⟩:=Gg I.ns
  ⟨od,⟨I.obj,rfl,rfl,ho⟩,hl⟩
section
variable {prog:Program} {w:World} {A:Around} {E:ic} {s:Shared} {K:PySem.W.Frag} {x dx C f:Addr} {mA:Str→fQ} {name:Str} {v:Value}
theorem get_map{expr:Bool}(X:K.In s.heap)(I:BW s.heap x dx C mA)(hg:plainGet K C name=true)(hh:hasDictIn K C=true)(ha:PySem.W.findIn K (.ref C) name=some none)(hv:mA name=some v)(xW:handedIn v=true)(h:Q v { s with toks:=s.toks+1 }):wpAny (model prog w) A (getAttr (.ref x) name expr) Q E s:=by
  obtain⟨od,J,hl⟩:=I.look;exact PySem.W.get_value X J (plainGet_of hg).1 (PySem.W.findObj_own hh ha rfl (by rw[hl,hv])) xW h
theorem Ip{Q:Value×cA→Shared→Prop}(X:K.In s.heap)(I:BW s.heap x dx C mA)(hg:plainGet K C name=true)(hf:PySem.W.findIn K (.ref C) name=some (some (.ref f)))(ht:isFn K (.ref f)=true)(hv:mA name=none)(h:Q (.ref f,[.ref x]) s):wpAny (model prog w) A (getMethod (.ref x) name pl) Q E s:=by
  obtain⟨od,J,hl⟩:=I.look;exact PySem.W.method_fn X J (plainGet_of hg).1 (plainGet_of hg).2 hf (beq_iff_eq.mp ht) (by show(lookIn name od).map (·.isSome)=some false;rw[hl,hv];rfl) h
theorem Ml{ns:dB}{Q:Unit→Shared→Prop}(X:K.In s.heap)(I:BW s.heap x dx C mA)(hs:PySem.W.findIn K (.ref C) "__setattr__"=some (some (.builtin "object.__setattr__")))(hp:plainOver K C=true)(ht:takerIn K C name=some none)(hh:hasDictIn K C=true)(hw:PySem.Within mA ns)(hsz:ns.length≤sizeLine)(h:∀h',BW h' x dx C (fun y=>if y=name then some v else mA y)→Heap.SameBut dx s.heap h'→Q () { s with heap:=h',toks:=s.toks+2 }):wpAny (model prog w) A (setAttr (.ref x) name v) Q E s:=by
  obtain⟨od,J,hl⟩:=I.look;refine PySem.W.set_plain X J hs (PySem.W.osa_open (s:={ s with toks:=s.toks+1 }) (r:=none) X J hp ht fun b=>?_);obtain⟨cd,hc,HC⟩:=PySem.W.any_some hh;have hx:s.heap.get? x=some ⟨.ref C,some dx,.plain,#[]⟩:=I.obj;refine aE (bP (aE (aE (wpAny_loadPart hx (aE (PySem.W.Looks.here (s:={ s with toks:=s.toks+1 }) (PySem.W.looks_clsIn X hc) ?_))))));rw[HC];refine bP (a:=some dx) (aE (bP (aE ?_)));refine wpAny_nsSet1 (s:={ s with toks:=s.toks+1 }) I.ns fun h' Wg kx=>?_;obtain⟨oD,esD,epD,hoD,hdD,hcD⟩:=Wg.count (PySem.Within.cons name v hw);refine aE (wpAny_lookBehind hoD (by rw[hdD];exact pastItsLine_dict (fR hcD (by rw[eW];omega))) ?_);exact bP (h _ ⟨(kx.2 _ (cT I.ne)).trans I.obj,Wg,I.ne⟩ kx)
theorem Iq{R:Result→Shared→Prop}{vs:cA}(X:K.In s.heap)(hm:makesIn K C=true)(hi:PySem.W.findIn K (.ref C) "__init__"=some (some (.ref f)))(hf:typeIn K (.ref f)=some (.type "function"))(h:codeAny (model prog w) (A.under (.builtin "type.__call__" ⟨.ref C::vs,kw⟩)) (.call (.ref f) ⟨.ref (s.heap.objs.size+1)::vs,kw⟩) (PySem.W.InitBack (s.heap.objs.size+1) R) { s with heap:=(s.heap.push emptyDict).push (instObj C s.heap.objs.size) }):codeAny (model prog w) A (.call (.ref C) ⟨vs,kw⟩) R s:=by
  obtain⟨hh,g,d,t,os⟩:=s;exact PySem.W.make_core (PySem.W.makes_of X hm) (PySem.W.looks_findIn X hi) (fun self=>PySem.W.bind_fn X self hf) (.inl rfl) h
end
def lT(f:Str)(v:V):List (Str×V)→List (Str×V)
  |[]=>[(f,v)]
  |(g,x)::r=>if g=f then(g,v)::r else(g,x)::lT f v r
theorem sN(f g:Str)(v:V):∀fs:List (Str×V),(lT f v fs).lookup g=if g=f then some v else fs.lookup g
  |[]=>by
   show List.lookup g [(f,v)]=_;by_cases h:g=f
   ·have hb:(g==f)=true:=beq_iff_eq.mpr h;simp only[List.lookup,hb,az h]
   ·have hb:(g==f)=false:=beq_eq_false_iff_ne.mpr h;simp only[List.lookup,hb,ax h]
  |(k,x)::r=>by
   have ih:=sN f g v r;rw[show lT f v ((k,x)::r)=(if k=f then(k,v)::r else(k,x)::lT f v r) from rfl];by_cases hk:k=f
   · rw[az hk];by_cases h:g=k
     ·have hb:(g==k)=true:=beq_iff_eq.mpr h;simp only[List.lookup,hb,az (h.trans hk)]
     ·have hb:(g==k)=false:=beq_eq_false_iff_ne.mpr h;simp only[List.lookup,hb,ax (fun e:g=f=>h (e.trans hk.symm))]
   · rw[ax hk];by_cases h:g=k
     ·have hb:(g==k)=true:=beq_iff_eq.mpr h;simp only[List.lookup,hb,ax (fun e:g=f=>hk (h.symm.trans e))]
     ·have hb:(g==k)=false:=beq_eq_false_iff_ne.mpr h;simp only[List.lookup,hb];exact ih
theorem rF(f:Str)(v:V):∀fs:List (Str×V),f∈(lT f v fs).map (·.1)∧∀g,g∈fs.map (·.1)→g∈(lT f v fs).map (·.1)
  |[]=>⟨by simp[lT],fun g h=>by simp at h⟩
  |(k,x)::r=>by
   obtain⟨i1,i2⟩:=rF f v r;rw[show lT f v ((k,x)::r)=(if k=f then(k,v)::r else(k,x)::lT f v r) from rfl];by_cases hk:k=f
   ·rw[az hk];subst hk;exact⟨by simp,fun g h=>by simpa using h⟩
   · rw[ax hk];refine⟨?_,fun g h=>?_⟩
     ·rw[cD];exact ef _ i1
     · rw[cD] at h⊢;rcases dc.mp h with e|e
       ·exact dc.mpr (.inl e)
       ·exact ef _ (i2 g e)
theorem sO(f:Str)(v:V):∀fs:List (Str×V),(lT f v fs).length≤fs.length+1
  |[]=>by simp[lT]
  |(k,x)::r=>by
   have ih:=sO f v r;rw[show lT f v ((k,x)::r)=(if k=f then(k,v)::r else(k,x)::lT f v r) from rfl];by_cases hk:k=f
   ·rw[az hk,eW,eW];omega
   ·rw[ax hk,eW,eW];omega
theorem lS.some_of{v:V}{o:fQ}(r:lS (some v) o):∃u,o=some u∧RelV v u:=by
  cases o with
  |none=>exact(show False from r).elim
  |some u=>exact⟨u,rfl,r⟩
theorem lS.none_of{o:fQ}(r:lS none o):o=none:=by
  cases o with
  |none=>rfl
  |some u=>exact(show False from r).elim
theorem Gh{v:V}(r:RelV v u):handedIn u=true:=by
  cases v with
  |non=>cases(show u=Value.none from r);rfl
  |bl b=>cases(show u=Value.bool b from r);rfl
  |int i=>obtain⟨t,e⟩:=(show ∃t,u=Value.int i t from r);cases e;rfl
  |str x=>obtain⟨t,e⟩:=(show ∃t,u=Value.str x t from r);cases e;rfl
  |HB b=>obtain⟨t,e⟩:=(show ∃t,u=Value.bytes b t from r);cases e;rfl
  |Qd b=>obtain⟨t,e⟩:=(show ∃t,u=Value.float b t from r);cases e;rfl
  |ref a=>cases(show u=Value.ref a from r);rfl
  |ty n=>cases(show u=Value.type n from r);rfl
section
variable {P:Program} {w:World} {H H':Hp} {h h':Heap} {a C dx:Addr} {fs fs':List (Str×V)}
theorem tS(bV:oC P w H h)(e:H a=some (.ins C dx fs)):∃mA,BW h a dx C mA∧(∀f,lS (fs.lookup f) (mA f))∧PySem.Within mA (fs.map (·.1))∧fs.length≤1000∧H dx=some (.own a):=by
  obtain⟨d,z,ne,ob,mA,n,r,q⟩:=(show bS P w H h a (.ins C dx fs) from bV a _ e)
  exact⟨mA,⟨ob,n,ne⟩,r,q,z,d⟩
end
structure vX (K:PySem.W.Frag) (C:Addr):Prop where
  pg:plainGet K C Str.empty=true
  hd:hasDictIn K C=true
  po:plainOver K C=true
  sa:PySem.W.findIn K (.ref C) "__setattr__"=some (some (.builtin "object.__setattr__"))
theorem vX.get{K:PySem.W.Frag}(c:vX K C)(f:Str):plainGet K C f=true:=c.pg
def iF(K:PySem.W.Frag)(C:Addr)(f:Str):Prop:=PySem.W.findIn K (.ref C) f=some none
theorem iF.Ub{K:PySem.W.Frag}{f:Str}(n:iF K C f):takerIn K C f=some none:=by unfold takerIn;rw[show PySem.W.findIn K (.ref C) f=some none from n];rfl
structure Con (K:PySem.W.Frag) (C:Addr) (f:Str) (v:V) (u:Value):Prop where
  at_:PySem.W.findIn K (.ref C) f=some (some u)
  rel:RelV v u
  get:PySem.W.specialIn K u "__get__"=some none
  cp:PySem.W.copiedNames.contains f=false
structure Meth (K:PySem.W.Frag) (C:Addr) (m:Str) (f:Addr):Prop where
  at_:PySem.W.findIn K (.ref C) m=some (some (.ref f))
  fn:isFn K (.ref f)=true
  kp:keepIn K (.ref f)=true
section
variable {X:Cx} {pins:gw} {σ:St} {H:Hp} {s:Shared} {a C dx:Addr} {fs:List (Str×V)} {f:Str} {v:V} {A:Around} {E:ic}
theorem BX{b:Bool}(I:Inv X pins σ H s)(e:H a=some (.ins C dx fs))(c:vX X.K C)(n:iF X.K C f)(l:fs.lookup f=some v)(h:∀u s',Inv X pins σ H s'→RelV v u→Q u s'):wpAny (model X.prog X.w) A (getAttr (.ref a) f b) Q E s:=by
  obtain⟨mA,O,r,_,_,_⟩:=tS I.bV e;obtain⟨u,hu,ru⟩:=lS.some_of (v:=v) (o:=mA f) (by rw[←l];exact r f);exact get_map I.qZ O (c.get f) c.hd n hu (Gh ru) (h u _ (I.tok _) ru)
theorem oG{m:Str}{g:Addr}{Q:Value×cA→Shared→Prop}(I:Inv X pins σ H s)(e:H a=some (.ins C dx fs))(c:vX X.K C)(k:Meth X.K C m g)(l:fs.lookup m=none)(h:Q (.ref g,[.ref a]) s):wpAny (model X.prog X.w) A (getMethod (.ref a) m pl) Q E s:=by
  obtain⟨mA,O,r,_,_,_⟩:=tS I.bV e;have hn:mA m=none:=lS.none_of (by rw[←l];exact r m);exact Ip I.qZ O (c.get m) k.at_ k.fn hn h
theorem BZ{y:V}{Q:Unit→Shared→Prop}(I:Inv X pins σ H s)(e:H a=some (.ins C dx fs))(c:vX X.K C)(n:iF X.K C f)(hl:fs.length<1000)(ry:RelV y u)(h:∀s',Inv X pins σ (upd H a (.ins C dx (lT f y fs))) s'→Q () s'):wpAny (model X.prog X.w) A (setAttr (.ref a) f u) Q E s:=by
  obtain⟨mA,O,r,wi,_,ho⟩:=tS I.bV e;have hz:(fs.map (·.1)).length≤sizeLine:=by rw[bY,fU];omega
  refine Ml I.qZ O c.sa c.po n.Ub c.hd wi hz fun h' O' sb=>h _ ?_;have hd:∃o,h'.get? dx=some o:=let ⟨o,_,_,e',_⟩:=O'.ns;⟨o,e'⟩
  refine I.write (x:=a) (e:=dx) (by rw[e];exact True.intro) (.inr ho) (fun b q hb z=>(sb.2 b hb).trans z) hd ?_;refine⟨by rw[ai O.ne];exact ho,?_,O.ne,O'.obj,_,O'.ns,fun g=>?_,fun g hg=>?_⟩
  ·have:=sO f y fs;omega
  · show lS ((lT f y fs).lookup g) (if g=f then some u else mA g);rw[sN];by_cases q:g=f
    ·rw[az q,az q];exact ry
    ·rw[ax q,ax q];exact r g
  · by_cases q:g=f
    ·rw[q];exact(rF f y fs).1
    ·refine(rF f y fs).2 g (wi g fun z=>hg ?_);show(if g=f then some u else mA g)=none;rw[ax q];exact z
theorem Inv.made(I:Inv X pins σ H s):Inv X pins σ (upd (upd H s.heap.objs.size (.own (s.heap.objs.size+1))) (s.heap.objs.size+1) (.ins C s.heap.objs.size [])) { s with heap:=(s.heap.push emptyDict).push (instObj C s.heap.objs.size) }:=by
  have e1:(s.heap.push emptyDict).get? s.heap.objs.size=some emptyDict:=iE s.heap rfl;have e2:((s.heap.push emptyDict).push (instObj C s.heap.objs.size)).get? (s.heap.objs.size+1)=some (instObj C s.heap.objs.size):=by have:=iE (s.heap.push emptyDict) (o:=instObj C s.heap.objs.size) rfl;rwa[kz] at this
  have e3:(s.heap.push emptyDict).Ns s.heap.objs.size (fun _=>none):=⟨emptyDict,#[],_,e1,rfl,(fun e he=>absurd he (by simp)),fun _=>rfl⟩
  have I1:=I.laid (a:=s.heap.objs.size) (o:=.own (s.heap.objs.size+1)) (h':=s.heap.push emptyDict) (t':=s.toks) (fun b u q=>dC _ q) (bJ _) ⟨_,e1⟩;refine I1.laid (a:=s.heap.objs.size+1) (o:=.ins C s.heap.objs.size []) (t':=s.toks) (fun b u q=>dC _ q) (Nat.le_of_eq (kz _ _)) ?_;have ne:s.heap.objs.size≠s.heap.objs.size+1:=dP (Nat.lt_succ_self _);refine⟨by rw[ai ne,ay],ik _,ne,e2,fun _=>none,(Heap.Ns1.of_empty e3).at fun o q=>dC _ q,fun _=>True.intro,fun y hy=>absurd rfl hy⟩
theorem Mm{prog:Program}{env:Env}{f:Str}(hb:attributeBase e f env (eval e env)=eval e env)(h:wpAny (model prog w) A (eval e env) (fun o s₁=>wpAny (model prog w) A (getAttr o f true) Q E s₁) E s):wpAny (model prog w) A (eval (.Attribute e f pos) env) Q E s :=
  Attribute_any_ h (by rw[arm_eval_Attribute,hb])
end
def Uc(K:PySem.W.Frag)(ta:TE)(f:Str):TE:=fun σ H Q=>ta σ H fun x H1=>∃a C dx fs v,x=.ref a∧H1 a=some (.ins C dx fs)∧vX K C∧iF K C f∧fs.lookup f=some v∧Q v H1
def Xg(K:PySem.W.Frag)(ta tv:TE)(f:Str):TS:=fun D σ H=>tv σ H fun y H1=>ta σ H1 fun x H2=>∃a C dx fs,x=.ref a∧H2 a=some (.ins C dx fs)∧vX K C∧iF K C f∧fs.length<1000 ∧
  D.nx σ (upd H2 a (.ins C dx (lT f y fs)))
section
variable {X:Cx} {o e value:Expr} {f:Str} {pos pos' um:Pos} {ta tv:TE}
theorem xX(he:PE X e ta)(hb:attributeBase e f X.env (eval e X.env)=eval e X.env):PE X (.Attribute e f pos) (Uc X.K ta f):=by intro pins s σ H Q I h;refine Mm hb (cN (he pins s σ H _ I h) fun u s1 ⟨x,H1,I1,rx,a,C,dx,fs,v,ex,ea,c,n,l,q⟩=>?_);subst ex;obtain rfl:u=Value.ref a:=rx;exact BX I1 ea c n l fun u' s2 I2 ru=>⟨v,H1,I2,ru,q⟩
theorem Ir(ha:PE X o ta)(hv:PE X value tv)(hs:swapsWith value (some (.Attribute o f pos')) pos.line X.env=pure false):PS X (.Assign [.Attribute o f pos'] value pos) (Xg X.K ta tv f):=by intro pins s σ H D I h;refine plainObj_wpAny_Assign_Attribute (cN (hv pins s σ H _ I h) fun u s1 ⟨y,H1,I1,ry,q⟩=>cN (ha pins s1 σ H1 _ I1 q) fun ov s2 ⟨x,H2,I2,rx,a,C,dx,fs,ex,ea,c,n,l,q2⟩=>?_) hs;subst ex;obtain rfl:ov=Value.ref a:=rx;exact BZ I2 ea c n l ry fun s3 I3=>⟨σ,_,I3,q2⟩
theorem Pm{m:Str}{args:List Expr}{σ:St}{H:Hp}{te:TE}(he:PE X e te)(I:Inv X pins σ H s)(h:te σ H fun x H1=>∃a C dx fs g,x=.ref a∧H1 a=some (.ins C dx fs)∧vX X.K C∧Meth X.K C m g∧fs.lookup m=none∧∀s1,Inv X pins σ H1 s1→wpAny (model X.prog X.w) X.A (callWith pos (.ref g) [.ref a] (backTo pos (starEach args X.env)) (backToKw pos (keywordEach [] X.env))) Q X.xe s1)(ht:eval (.Call (.Attribute e m apos) args [] pos) X.env=(do
      let ov ←eval e X.env
      standAt apos.atName
      let (f,first) ←holding [ov] (getMethod ov m pl)
      callWith pos f first (backTo pos (starEach args X.env)) (backToKw pos (keywordEach [] X.env)))):wpAny (model X.prog X.w) X.A (eval (.Call (.Attribute e m apos) args [] pos) X.env) Q X.xe s:=by
  refine methodCall_KW (pl:=pl) (cN (he pins s σ H _ I h) fun u s1 hh=>?_) ht;obtain⟨x,H1,I1,rx,a,C,dx,fs,g,ex,ea,c,k,l,q⟩:=hh;subst ex;obtain rfl:u=Value.ref a:=rx;exact oG I1 ea c k l (q s1 I1)
end
section
variable {X:Cx} {pins:gw} {σ:St} {H:Hp} {s:Shared} {A:Around} {E:ic} {Q:ic} {c:Value} {b:Bool}
inductive oH (K:PySem.W.Frag) (H:Hp):V→Value→Prop where
  |non:oH K H .non (.type "NoneType")
  |bl (x:Bool):oH K H (.bl x) (.type "bool")
  |int (i:Int):oH K H (.int i) (.type "int")
  |str (x:Str):oH K H (.str x) (.type "str")
  |Qd (x:UInt64):oH K H (.Qd x) (.type "float")
  |lst {a:Addr} {xs:List V} (e:H a=some (.lst xs)):oH K H (.ref a) (.type "list")
  |gM {a:Addr} {o:Obj} {xs:List V} (e:H a=some (.gM o (.lst xs))):oH K H (.ref a) (.type "list")
  |kl {a:Addr} {o:Obj} (hk:K.lookup a=some o) (hc:o.cls=.type "list"):oH K H (.ref a) (.type "list")
  |tup {a:Addr} {xs:List V} (e:H a=some (.tup xs)):oH K H (.ref a) (.type "tuple")
  |dK {a:Addr} {ao:List (Key×V)} (e:H a=some (.dK ao)):oH K H (.ref a) (.type "dict")
  |dT {a:Addr} {ao:List (List Key×V)} (e:H a=some (.dT ao)):oH K H (.ref a) (.type "dict")
  |ins {a C dx:Addr} {fs:List (Str×V)} (e:H a=some (.ins C dx fs)) (cl:vX K C) (ha:PySem.W.findIn K (.ref C) "__class__"=some (some (.builtin "object.__class__")))
      (hn:PySem.W.specialIn K (.builtin "object.__class__") "__get__"=some (some (.builtin "getset_descriptor.__get__"))) (Wh:PySem.W.takesIn K (.builtin "object.__class__")=some true)
      (hm:PySem.W.mroIn K C (.type "object")=some true):oH K H (.ref a) (.ref C)
theorem Gj{x:V}{t:Value}(I:Inv X pins σ H s)(rx:RelV x u)(ty:oH X.K H x t)(e:kitOne X.K t c=some b)(h:∀tk,Q (.bool b) { s with toks:=tk }):wpAny (model X.prog X.w) A (call (.builtin "isinstance") [u,c]) Q E s:=by
  cases ty with
  |non=>cases(show u=Value.none from rx);exact tm PySem.W.kitx_none I.qZ True.intro e (fun z=>nomatch z) h
  |bl y=>cases(show u=Value.bool y from rx);exact tm PySem.W.kitx_bool I.qZ True.intro e (fun z=>nomatch z) h
  |int i=>obtain⟨t,q⟩:=(show ∃t,u=Value.int i t from rx);cases q;exact tm PySem.W.kitx_int I.qZ True.intro e (fun z=>nomatch z) h
  |str y=>obtain⟨t,q⟩:=(show ∃t,u=Value.str y t from rx);cases q;exact tm PySem.W.kitx_str I.qZ True.intro e (fun z=>nomatch z) h
  |Qd y=>obtain⟨t,q⟩:=(show ∃t,u=Value.float y t from rx);cases q;exact tm PySem.W.kitx_float I.qZ True.intro e (fun z=>nomatch z) h
  |@lst a xs ea =>
   cases(show u=Value.ref a from rx);obtain⟨_,_,n,_,h1⟩:=(show bS X.prog X.w H s.heap a (.lst xs) from I.bV a _ ea)
   exact tm kitx_list I.qZ ⟨_,h1,rfl⟩ e (fun z=>nomatch z) h
  |@gM a ob xs ea =>
   cases(show u=Value.ref a from rx);obtain⟨_,_,_,n,_,h1⟩:=(show bS X.prog X.w H s.heap a (.gM ob (.lst xs)) from I.bV a _ ea)
   exact tm kitx_list I.qZ ⟨_,h1,rfl⟩ e (fun z=>nomatch z) h
  |@kl a o hk hc=>cases(show u=Value.ref a from rx);exact tm kitx_list I.qZ ⟨o,I.qZ a o hk,hc⟩ e (fun z=>nomatch z) h
  |@tup a xs ea =>
   cases(show u=Value.ref a from rx);obtain⟨_,_,_,p⟩:=(show bS X.prog X.w H s.heap a (.tup xs) from I.bV a _ ea)
   obtain⟨o,h1,h2,_⟩:=p;exact tm PySem.W.kitx_tuple I.qZ ⟨o,h1,h2⟩ e (fun z=>nomatch z) h
  |@dK a ao ea =>
   cases(show u=Value.ref a from rx);obtain⟨_,_,vs,_,p⟩:=(show bS X.prog X.w H s.heap a (.dK ao) from I.bV a _ ea)
   obtain⟨o,es,ep,h1,h2,_⟩:=p;exact tm kitx_dict I.qZ ⟨o,h1,h2.1⟩ e (fun z=>nomatch z) h
  |@dT a ao ea =>
   cases(show u=Value.ref a from rx);obtain⟨_,_,xs,_,o,es,ep,h1,h2,_⟩:=(show bS X.prog X.w H s.heap a (.dT ao) from I.bV a _ ea)
   exact tm kitx_dict I.qZ ⟨o,h1,h2.1⟩ e (fun z=>nomatch z) h
  |@ins a C dx fs ea cl ha hn Wh hm=>cases(show u=Value.ref a from rx);obtain⟨mA,O,_⟩:=tS I.bV ea;obtain⟨od,J,_⟩:=O.look;exact tm (PySem.W.kitx_own (cl.get _) cl.hd ha hn Wh hm) I.qZ J e (fun z=>nomatch z) h
end
structure cW (k:Nat) (A:Around):Prop where
  hd:A.handled=none
  dp:A.depth+3*k+5<recursionLimit
  un:A.units+16*k+200<cLine
theorem cW.mono(r:cW k A)(h:j≤k):cW j A:=⟨r.hd,by have:=r.dp;omega,by have:=r.un;omega⟩
theorem cW.deeper(r:cW (k+1) A)(env:Env):cW k (A.deeper env) :=
  ⟨r.hd,by have:=r.dp;show A.depth+1+3*k+5<_;omega,by have:=r.un;show A.units+3+16*k+200<_;omega⟩
theorem cW.in1(r:cW (k+1) A):cW k A.in1 :=
  ⟨r.hd,by have:=r.dp;show A.depth+3*k+5<_;omega,by have:=r.un;show A.units+1+16*k+200<_;omega⟩
theorem B1:(A.under (.builtin "type.__call__" ⟨.ref C::us,kw⟩)).depth=A.depth+1:=by
  first|rfl|simp[Around.under,Code.weight,Code.isCreation,Code.isGuard,Code.isCaller,Code.frames,Code.isFrame,guardIds]
theorem B2:(A.under (.builtin "type.__call__" ⟨.ref C::us,kw⟩)).units=A.units+1:=by
  first|rfl|simp[Around.under,Code.cUnits,Code.frames,Code.isFrame]
theorem cW.make(r:cW (k+1) A)(C:Addr)(us:cA)(kw:List (Str×Value)):cW k (A.under (.builtin "type.__call__" ⟨.ref C::us,kw⟩)) :=
  ⟨r.hd,by have:=r.dp;rw[B1];omega,by have:=r.un;rw[B2];omega⟩
theorem cW.depth(r:cW k A):A.depth<recursionLimit:=by have:=r.dp;omega
theorem cW.units(r:cW k A):A.units+64<cLine:=by have:=r.un;omega
def zK:TA:=fun _ H Q=>Q [] H
def jh(ta:TE)(tr:TA):TA:=fun σ H Q=>ta σ H fun x H1=>tr σ H1 fun xs H2=>Q (x::xs) H2
section
variable {X:Cx} {e:Expr} {es:List Expr} {te:TE} {t:TA} {pos:Pos}
theorem cP:PA X [] zK:=fun _ _ _ _ H Q I h=>xJ ⟨[],H,I,.nil,h⟩
theorem aW(ha:PE X e te)(hr:PA X es t)(hs:starEach (e::es) X.env=(false,eval e X.env)::starEach es X.env:=by rfl):PA X (e::es) (jh te t):=by intro pos pins s σ H Q I h;rw[hs];show wpAny _ _ (spliced ((false,eval e X.env)::backTo pos (starEach es X.env))) _ _ s;refine wa (cN (ha pins s σ H _ I h) fun u s1 ⟨x,H1,I1,r1,q1⟩=>?_);exact cN (hr pos pins s1 σ H1 _ I1 q1) fun us s2 ⟨xs,H2,I2,r2,q2⟩=>⟨x::xs,H2,I2,.cons r1 r2,q2⟩
def Xh(t:TA):TE:=fun σ H Q=>t σ H fun xs H1=>xs.length≤sizeLine∧∀p,H1 p=none→Q (.ref p) (upd H1 p (.tup xs))
def Ud(t:TA):TE:=fun σ H Q=>t σ H fun xs H1=>xs.length≤sizeLine∧∀p,H1 p=none→Q (.ref p) (upd H1 p (.lst xs))
theorem Qz{x1}(h:PA X es t):PE X (.Tuple es x1 pos) (Xh t):=by intro pins s σ H Q I hq;refine wpAny_Tuple_spliced (cN (h pos pins s σ H _ I hq) fun us s1 ⟨xs,H1,I1,r,z,q⟩=>⟨by rw[←r.length];exact z,?_⟩);have hf:H1 s1.heap.objs.size=none:=I1.bV.fresh (bJ _);refine⟨.ref s1.heap.objs.size,upd H1 s1.heap.objs.size (.tup xs),I1.laid (t':=s1.toks) (fun b u e=>dC _ e) (bJ _) ?_,rfl,q _ hf⟩;exact⟨z,us,r,⟨_,iE _ rfl,rfl,_,rfl⟩⟩
theorem xY(h:PA X es t):PE X (.List es pos) (Ud t):=by intro pins s σ H Q I hq;refine wpAny_List_spliced (cN (h pos pins s σ H _ I hq) fun us s1 ⟨xs,H1,I1,r,z,q⟩=>⟨by rw[←r.length];exact z,?_⟩);have hf:H1 s1.heap.objs.size=none:=I1.bV.fresh (bJ _);refine⟨.ref s1.heap.objs.size,upd H1 s1.heap.objs.size (.lst xs),I1.laid (t':=s1.toks) (fun b u e=>dC _ e) (bJ _) ?_,rfl,q _ hf⟩;exact⟨z,us,0,r,iE _ rfl⟩
end
abbrev Sp:=List V→Hp→VK→XK→Prop
abbrev HF:=List Env→Hp→Shared→XK→ic
structure zL (P:Program) (w:World) (K:PySem.W.Frag) (mg:Str→fQ) (base:Heap) (A:Around) (outer:List Env) (s:Shared) (H:Hp):Prop where
  frames:A.frames=some outer
  mod:Mod K mg base
  bs:∀b o,base.get? b=some o→s.heap.get? b=some o∧H b=none
  L8:base.objs.size≤s.heap.objs.size
  rC:s.heap.FunFrames base outer
  Pa:∀b∈FZ outer,H b=none
  bV:oC P w H s.heap
  bare:AllBare s.gens
def CE(outer:List Env)(P:Program)(w:World)(H:Hp)(s:Shared)(Q:VK)(u:Value)(s':Shared):Prop :=
  ∃v H',s'.os=s.os∧AllBare s'.gens∧Un (FZ outer) [] H H' s.heap s'.heap∧oC P w H' s'.heap∧RelV v u∧Q v H'
def CR(CX:HF)(outer:List Env)(P:Program)(w:World)(H:Hp)(s:Shared)(Q:VK)(E:XK)(r:Result)(s':Shared):Prop :=
  match r with
  |.ok (.ret u)=>CE outer P w H s Q u s'
  |.ok _=>False
  |.error e=>CX outer H s E e s'
structure cE (P:Program) (w:World) (K:PySem.W.Frag) (mg:Str→fQ) (base:Heap) (CX:HF) (k:Nat) (f:Addr) (fd:FuncData) (ps:dB) (sp:Sp):Prop where
  len:∀vs H Q E,sp vs H Q E→vs.length=ps.length
  run:∀(A:Around) (outer:List Env) (s:Shared) (H:Hp) (args:Args) (us:cA) (vs:List V) (Q:VK) (E:XK),cW k A→zL P w K mg base A outer s H→BindsTo s fd args (ps.zip us)→Vals vs us→sp vs H Q E →
    codeAny (model P w) A (.call (.ref f) args) (CR CX outer P w H s Q E) s
theorem zL.make{K:PySem.W.Frag}{base:Heap}{outer:List Env}{H:Hp}(e:zL P w K mg base A outer s H)(C:Addr)(us:cA)(kw:List (Str×Value)):zL P w K mg base (A.under (.builtin "type.__call__" ⟨.ref C::us,kw⟩)) outer s H:=⟨by first|exact e.frames|(simpa[Around.under,Code.envs,Code.isFrame,pushEnvs] using e.frames),e.mod,e.bs,e.L8,e.rC,e.Pa,e.bV,e.bare⟩
section
variable {X:Cx} {pins:gw} {σ:St} {H:Hp} {s s':Shared}
theorem Inv.Mp(I:Inv X pins σ H s):zL X.prog X.w X.K X.mg X.base X.A X.stack s H :=
  ⟨I.ok.frames,I.ok.mod,I.bs,fR I.ok.L8 I.sz,I.stack,I.D7,I.bV,I.bare⟩
theorem Inv.after{Q:VK}(I:Inv X pins σ H s)(h:CE X.stack X.prog X.w H s Q u s'):EP X pins σ Q u s':=by obtain⟨v,H',os,bare,un,bV,r,q⟩:=h;obtain⟨hh,g,d,t,Xi⟩:=s';obtain rfl:Xi=s.os:=os;exact⟨v,H',I.call (h':=hh) (g':=g) (d':=d) (t':=t) (ch:=[]) un bV bare (fun b z=>absurd z (by simp)),r,q⟩
end
def uo(sp:Sp)(dvs:List V)(E:XK)(t:TA):TE:=fun σ H Q=>t σ H fun vs H1=>sp (vs++dvs) H1 Q E
def Iu(C:Addr)(m:Str)(sp:Sp)(dvs:List V)(E:XK)(ta:TE)(t:TA):TE:=fun σ H Q=>ta σ H fun x H1=>∃a dx fs,x=.ref a∧H1 a=some (.ins C dx fs)∧fs.lookup m=none ∧
  t σ H1 fun vs H2=>sp (x::(vs++dvs)) H2 Q E
def zM(C:Addr)(sp:Sp)(dvs:List V)(E:XK)(t:TA):TE:=fun σ H Q=>t σ H fun vs H1=>∀x dx,H1 x=none→H1 dx=none→dx≠x →
  sp (.ref x::(vs++dvs)) (upd (upd H1 dx (.own x)) x (.ins C dx [])) (fun v H2=>v=.non∧Q (.ref x) H2) E
def Binds(K:PySem.W.Frag)(fd:FuncData)(ps:dB)(ds:cA):Prop :=
  ∀(s:Shared) (us:cA),K.In s.heap→(us++ds).length=ps.length→BindsTo s fd ⟨us,[]⟩ (ps.zip (us++ds))
theorem Binds.all{K:PySem.W.Frag}{ps:dB}(h:∀us:cA,us.length=ps.length→bindArgs fd ⟨us,[]⟩=pure (ps.zip us)):Binds K fd ps []:=fun s us _ hl=>by rw[xK] at hl⊢;exact .of_eq (h us hl)
def Passes(CX:HF)(X:Cx)(E:XK):Prop:=∀(pins:gw) (σ:St) (H:Hp) (s:Shared) (e:Value) (s':Shared),Inv X pins σ H s→CX X.stack H s E e s'→X.xe e s'
section
variable {X:Cx} {CX:HF} {k:Nat} {f C:Addr} {fd:FuncData} {ps:dB} {sp:Sp} {dvs:List V} {ds:cA} {E:XK} {x m:Str} {p pos apos:Pos} {e o:Expr} {es:List Expr} {ta:TE} {t:TA}
theorem B3{σ:St}{H:Hp}{Q:VK}{vs:List V}(F:cE X.prog X.w X.K X.mg X.base CX k f fd ps sp)(hr:cW k X.A)(hb:Binds X.K fd ps ds)(hd:Vals dvs ds)(hx:Passes CX X E)(I:Inv X pins σ H s)(r:Vals vs us)(h:sp (vs++dvs) H Q E):wpAny (model X.prog X.w) X.A (call (.ref f) us) (EP X pins σ Q) X.xe s:=by
  have r2:Vals (vs++dvs) (us++ds):=r.append hd;have hl:(us++ds).length=ps.length:=by rw[←r2.length];exact F.len _ _ _ _ h
  refine wpAny_call (codeAny_mono (F.run X.A X.stack s H ⟨us,[]⟩ (us++ds) (vs++dvs) Q E hr I.Mp (hb s us I.qZ hl) r2 h) fun r s' hq=>?_);cases r with
  |error e=>exact hx pins σ H s e s' I hq
  |ok fl =>
   cases fl with
   |ret u=>exact I.after hq
   |next=>exact False.elim hq
   |brk=>exact False.elim hq
   |cont=>exact False.elim hq
theorem pN(F:cE X.prog X.w X.K X.mg X.base CX k f fd ps sp)(hr:cW k X.A)(hg:Gl X x)(hm:X.mg x=some (.ref f))(hk:keepIn X.K (.ref f)=true)(hb:Binds X.K fd ps ds)(hd:Vals dvs ds)(hx:Passes CX X E)(ha:PA X (e::es) t)(iG:(x==("__debug__":Str))=false:=by decide)(he:starEach (e::es) X.env=(false,eval e X.env)::starEach es X.env:=by rfl)(m7:(backTo pos (starEach es X.env)).any (·.1)=false:=by rfl):PE X (.Call (.Name x p) (e::es) [] pos) (uo sp dvs E t):=by
  intro pins s σ H Q I h;refine tj (pM I hg hm ?_ iG);refine callWith_K (h₀:=X.base) I.ok.mod.TJ hk (cN (ha pos pins s σ H _ I h) fun us s1 ⟨vs,H1,I1,r,q⟩=>⟨I1.qZ,?_⟩) he m7;exact B3 F hr hb hd hx I1 r q
theorem Mq(he:PE X o ta)(c:vX X.K C)(hm:Meth X.K C m f)(F:cE X.prog X.w X.K X.mg X.base CX k f fd ps sp)(hr:cW k X.A)(hb:Binds X.K fd ps ds)(hd:Vals dvs ds)(hx:Passes CX X E)(ha:PA X (e::es) t)(xS:starEach (e::es) X.env=(false,eval e X.env)::starEach es X.env:=by rfl)(m7:(backTo pos (starEach es X.env)).any (·.1)=false:=by rfl)(ht:eval (.Call (.Attribute o m apos) (e::es) [] pos) X.env=(do
      let ov ←eval o X.env
      standAt apos.atName
      let (f,first) ←holding [ov] (getMethod ov m pl)
      callWith pos f first (backTo pos (starEach (e::es) X.env)) (backToKw pos (keywordEach [] X.env))):=by rfl):PE X (.Call (.Attribute o m apos) (e::es) [] pos) (Iu C m sp dvs E ta t):=by
  intro pins s σ H Q I h;refine methodCall_KW (pl:=pl) (cN (he pins s σ H _ I h) fun u s1 ⟨x,H1,I1,rx,a,dx,fs,ex,ea,l,q⟩=>?_) ht;subst ex;obtain rfl:u=Value.ref a:=rx;refine oG I1 ea c hm l ?_;refine callWith_K (first:=[.ref a]) (h₀:=X.base) I.ok.mod.TJ hm.kp (cN (ha pos pins s1 σ H1 _ I1 q) fun us s2 ⟨vs,H2,I2,r,q2⟩=>⟨I2.qZ,?_⟩) xS m7;exact B3 (us:=.ref a::us) (vs:=.ref a::vs) F hr hb hd hx I2 (.cons rfl r) q2
theorem zN(he:PE X o ta)(c:vX X.K C)(hm:Meth X.K C m f)(F:cE X.prog X.w X.K X.mg X.base CX k f fd ps sp)(hr:cW k X.A)(hb:Binds X.K fd ps ds)(hd:Vals dvs ds)(hx:Passes CX X E)(ht:eval (.Call (.Attribute o m apos) [] [] pos) X.env=(do
      let ov ←eval o X.env
      standAt apos.atName
      let (f,first) ←holding [ov] (getMethod ov m pl)
      callWith pos f first (backTo pos (starEach [] X.env)) (backToKw pos (keywordEach [] X.env))):=by rfl):PE X (.Call (.Attribute o m apos) [] [] pos) (Iu C m sp dvs E ta zK):=by
  intro pins s σ H Q I h;refine methodCall_KW (pl:=pl) (cN (he pins s σ H _ I h) fun u s1 ⟨x,H1,I1,rx,a,dx,fs,ex,ea,l,q⟩=>?_) ht;subst ex;obtain rfl:u=Value.ref a:=rx;refine oG I1 ea c hm l ?_;exact PySem.W.callWith_K0 (first:=[.ref a]) I1.qZ hm.kp (B3 (us:=[.ref a]) (vs:=[.ref a]) F hr hb hd hx I1 (.cons rfl .nil) q)
structure Mk (K:PySem.W.Frag) (C f:Addr):Prop where
  makes:makesIn K C=true
  init:PySem.W.findIn K (.ref C) "__init__"=some (some (.ref f))
  fn:isFn K (.ref f)=true
  kp:keepIn K (.ref C)=true
theorem Iv{σ:St}{H:Hp}{Q:VK}{vs:List V}(M:Mk X.K C f)(F:cE X.prog X.w X.K X.mg X.base CX k f fd ps sp)(hr:cW (k+1) X.A)(hb:Binds X.K fd ps ds)(hd:Vals dvs ds)(hx:Passes CX X E)(I:Inv X pins σ H s)(r:Vals vs us)(h:∀x dx,H x=none→H dx=none→dx≠x→sp (.ref x::(vs++dvs)) (upd (upd H dx (.own x)) x (.ins C dx [])) (fun v H2=>v=.non∧Q (.ref x) H2) E):wpAny (model X.prog X.w) X.A (call (.ref C) us) (EP X pins σ Q) X.xe s:=by
  have hq:=h (s.heap.objs.size+1) s.heap.objs.size (I.bV.fresh (Nat.le_succ _)) (I.bV.fresh (bJ _)) (dP (Nat.lt_succ_self _));have I2:=Inv.made (C:=C) I;have r2:Vals (V.ref (s.heap.objs.size+1)::(vs++dvs)) (Value.ref (s.heap.objs.size+1)::(us++ds)):=.cons rfl (r.append hd);have hl:(Value.ref (s.heap.objs.size+1)::us++ds).length=ps.length:=by have e:=r2.length;rw[F.len _ _ _ _ hq] at e;exact e.symm
  refine wpAny_call (Iq (f:=f) I.qZ M.makes M.init (beq_iff_eq.mp M.fn) (codeAny_mono (F.run _ X.stack _ _ ⟨Value.ref (s.heap.objs.size+1)::us,[]⟩ (Value.ref (s.heap.objs.size+1)::(us++ds)) _ _ E (hr.make C us [])
    (I2.Mp.make C us []) (hb _ (Value.ref (s.heap.objs.size+1)::us) I2.qZ hl) r2 hq) fun r s' Eh=>?_))
  cases r with
  |error e=>exact hx pins σ _ _ e s' I2 Eh
  |ok fl =>
   cases fl with
   |ret u=>obtain⟨v,H',I3,rv,ev,q3⟩:=I2.after Eh;subst ev;exact⟨rv,⟨V.ref (s.heap.objs.size+1),H',I3,rfl,q3⟩⟩
   |next=>exact False.elim Eh
   |brk=>exact False.elim Eh
   |cont=>exact False.elim Eh
theorem Ei(M:Mk X.K C f)(F:cE X.prog X.w X.K X.mg X.base CX k f fd ps sp)(hr:cW (k+1) X.A)(hg:Gl X x)(hm:X.mg x=some (.ref C))(hb:Binds X.K fd ps ds)(hd:Vals dvs ds)(hx:Passes CX X E)(ha:PA X (e::es) t)(iG:(x==("__debug__":Str))=false:=by decide)(he:starEach (e::es) X.env=(false,eval e X.env)::starEach es X.env:=by rfl)(m7:(backTo pos (starEach es X.env)).any (·.1)=false:=by rfl):PE X (.Call (.Name x p) (e::es) [] pos) (zM C sp dvs E t):=by
  intro pins s σ H Q I h;refine tj (pM I hg hm ?_ iG);refine callWith_K (h₀:=X.base) I.ok.mod.TJ M.kp (cN (ha pos pins s σ H _ I h) fun us s1 ⟨vs,H1,I1,r,q⟩=>⟨I1.qZ,?_⟩) he m7;exact Iv M F hr hb hd hx I1 r q
end
section
variable {X:Cx} {CX:HF} {k:Nat} {f C:Addr} {fd:FuncData} {ps ks:dB} {sp:Sp} {E:XK} {x m:Str} {p pos apos acp:Pos} {e o:Expr} {es:List Expr} {kws:List Keyword} {te ta:TE} {t tk:TA} {nm:Option Str}
structure Xj (K:PySem.W.Frag) (fd:FuncData) (ps ks:dB) (g:cA→cA→cA) (gV:List V→List V→List V):Prop where
  to:∀(s:Shared) (us ws:cA),K.In s.heap→(g us ws).length=ps.length→BindsTo s fd ⟨us,ks.zip ws⟩ (ps.zip (g us ws))
  rel:∀{vs:List V} {us:cA} {zs:List V} {ws:cA},Vals vs us→Vals zs ws→Vals (gV vs zs) (g us ws)
variable {g:cA→cA→cA} {gV:List V→List V→List V}
end
structure bq (N P:dB) (sc:Scope):Prop where
  kind:sc.kind=.function
  co:sc.isCoroutine=false
  gen:sc.isGenerator=false
  nd:N.Nodup
  pre:N.take P.length=P
  par:∀x∈P,sc.names.lookup x=some .local∨sc.names.lookup x=some .cell
  QB:∀y∈sc.names,y.2≠.free
theorem wW{kindOf:Str→Option NameKind}{x:Str}:∀{binds:List (Str×Value)} {m:Str→fQ},(∀v,(x,v)∉binds)→bindL kindOf binds m x=m x
  |[],_,_=>rfl
  |(n,v)::r,m,h=>by
   unfold bindL;rw[wW fun w hw=>h w (ef _ hw)];split
   · have:x≠n:=by rintro rfl;exact h v eR
     simp[this]
   ·rfl
theorem wX{kindOf:Str→Option NameKind}{x:Str}:∀{binds:List (Str×Value)} {m:Str→fQ},(∀v,(x,v)∉binds)→bindC kindOf binds m x=m x
  |[],_,_=>rfl
  |(n,v)::r,m,h=>by
   unfold bindC;rw[wX fun w hw=>h w (ef _ hw)];split
   ·rfl
   · have:x≠n:=by rintro rfl;exact h v eR
     simp[this]
theorem wY{kindOf:Str→Option NameKind}{x:Str}{v:Value}:∀{P:dB} {vs:cA} {i:Nat} {m:Str→fQ},P.Nodup→P[i]?=some x→vs[i]?=some v→kindOf x=some .local→bindL kindOf (P.zip vs) m x=some v
  |[],_,_,_,_,h,_,_=>by simp at h
  |_::_,[],_,_,_,_,h,_=>by simp at h
  |p::P,w::vs,0,m,nd,h1,h2,hk=>by simp at h1 h2;subst h1;subst h2;show bindL kindOf ((p,w)::P.zip vs) m p=_;unfold bindL;rw[wW fun v hv=>(List.nodup_cons.mp nd).1 (List.of_mem_zip hv).1,az hk];simp
  |p::P,w::vs,i+1,m,nd,h1,h2,hk=>by show bindL kindOf ((p,w)::P.zip vs) m x=_;unfold bindL;exact wY (i:=i) (List.nodup_cons.mp nd).2 (by simpa using h1) (by simpa using h2) hk
theorem wZ{kindOf:Str→Option NameKind}{x:Str}{v:Value}:∀{P:dB} {vs:cA} {i:Nat} {m:Str→fQ},P.Nodup→P[i]?=some x→vs[i]?=some v→kindOf x≠some .local→bindC kindOf (P.zip vs) m x=some v
  |[],_,_,_,_,h,_,_=>by simp at h
  |_::_,[],_,_,_,_,h,_=>by simp at h
  |p::P,w::vs,0,m,nd,h1,h2,hk=>by simp at h1 h2;subst h1;subst h2;show bindC kindOf ((p,w)::P.zip vs) m p=_;unfold bindC;rw[wX fun v hv=>(List.nodup_cons.mp nd).1 (List.of_mem_zip hv).1,ax hk];simp
  |p::P,w::vs,i+1,m,nd,h1,h2,hk=>by show bindC kindOf ((p,w)::P.zip vs) m x=_;unfold bindC;exact wZ (i:=i) (List.nodup_cons.mp nd).2 (by simpa using h1) (by simpa using h2) hk
def start(N:dB)(vs:List V):St:=vs.map some++List.replicate (N.length-vs.length) none
def wm(CX:HF)(P:Program)(w:World)(K:PySem.W.Frag)(mg:Str→fQ)(base:Heap)(N:dB)(qual:Str)(scope:Scope)(f:Addr)(cd:Value)(A:Around)(outer:List Env)(s:Shared)(H:Hp)(E:XK):Cx where
  prog:=P
  w:=w
  K:=K
  mg:=mg
  base:=base
  A:=A.deeper (envOfC qual scope s.heap.objs.size f cd)
  N:=N
  s₀:=s
  H₀:=H
  env:=envOfC qual scope s.heap.objs.size f cd
  outer:=outer
  stack:=envOfC qual scope s.heap.objs.size f cd::outer
  ex:=[]
  calm:=true
  fn:=fun _=>true
  pn:=[]
  xe:=fun e s'=>wpAny (model P w) (A.deeper (envOfC qual scope s.heap.objs.size f cd)) (leaving (envOfC qual scope s.heap.objs.size f cd) e) (fun _ tD=>CX outer H s E e tD) (fun e' tD=>CX outer H s E e' tD) s'
theorem zO{sc:Scope}(h:sc.names.lookup x=some .cell):∃c,(cellsFrom n sc.names []).lookup x=some c:=by have q:=cellsFrom_some sc.names n [] (.inl h);exact Option.isSome_iff_exists.mp q
theorem Gk{CX:HF}{K:PySem.W.Frag}{base:Heap}{ps:dB}{f:Addr}{cd:Value}{outer:List Env}{s1:Shared}{H:Hp}{E:XK}{vs:List V}(S:bq N ps scope)(hd:A.handled=none)(e0:zL P w K mg base A outer s H)(hl:vs.length=ps.length)(r:Vals vs us)(x:InCallC s s.heap.objs.size (bindL (envOfC qual scope s.heap.objs.size f cd).kindOf (ps.zip us) fun _=>none) (cellsFrom (s.heap.objs.size+1) scope.names []) (bindC (envOfC qual scope s.heap.objs.size f cd).kindOf (ps.zip us) fun _=>none) s1):Inv (wm CX P w K mg base N qual scope f cd A outer s H E) [] (start N vs) H s1:=by
  have m7:ps.length≤N.length:=by have:=gG List.length S.pre;rw[List.length_take] at this;omega
  obtain⟨h1,tk,rfl,hk⟩:=x.done;have Ue:∀b:Addr,b∉(wm CX P w K mg base N qual scope f cd A outer s H E).ex:=fun b z=>absurd (show b∈([]:List Addr) from z) (by simp);refine⟨⟨e0.mod,S.kind,rfl,rfl,bJ _,fun y z c h1 h2=>?_,fun y hy=>?_,fun y c _ h=>?_,fun _=>hd,Around.frames_deeper e0.frames,.inr ⟨rfl,rfl⟩,fun b z=>absurd z (Ue b),e0.bs,e0.L8,fun b _ _=>Ue b,fun b z=>absurd z (Ue b),e0.rC,e0.Pa⟩,
    rfl,e0.bare,Un.kept hk,⟨_,x.toInCall.ns,fun i y v h1 h2 h3=>?_⟩,fun y c h=>⟨_,x.cell y c h⟩,e0.bV.fresh (bJ _),fun y c h=>?_,fun p hp=>absurd (show p∈([]:gw) from hp) (by simp),e0.bV.kept hk,?_⟩
  ·exact name_of_addr x.apart (PySem.mem_of_lookup h1) (PySem.mem_of_lookup h2)
  · have hy:scope.names.lookup y=some .cell∨scope.names.lookup y=some .free:=hy;rcases hy with hy|hy
    ·exact zO hy
    ·exact absurd rfl (S.QB _ (PySem.mem_of_lookup hy))
  ·exact nO (x.above y c (PySem.mem_of_lookup h))
  · have hi:i<vs.length:=by
      unfold start at h2;by_cases hi:i<vs.length
      ·exact hi
      ·rw[xD (by simpa using hi)] at h2;rw[List.getElem?_replicate] at h2;split at h2<;>cases h2
    have ha:vs[i]?=some v:=by
      unfold start at h2;rw[xE (by simpa using hi),eU] at h2;cases e:vs[i]? with
      |none=>rw[e] at h2;cases h2
      |some a=>rw[e] at h2;cases h2;rfl
    obtain⟨u,hu,rv⟩:=r.get ha;have hp:ps[i]?=some y:=by rw[←S.pre,List.getElem?_take_of_lt (by omega)];exact h1
    have ndP:ps.Nodup:=by rw[←S.pre];exact S.nd.sublist (List.take_sublist _ _)
    refine⟨u,rv,?_⟩;rcases S.par y (zC hp) with k|k
    ·exact .inl ⟨k,wY ndP hp hu k⟩
    ·obtain⟨c,e⟩:=zO (n:=s.heap.objs.size+1) k;refine .inr ⟨.inl k,c,e,?_⟩;have q:=x.cell y c e;rw[wZ ndP hp hu (by show scope.names.lookup y≠_;rw[k];decide)] at q;exact q
  ·exact e0.bV.fresh (nO (x.above y c (PySem.mem_of_lookup h)))
  ·unfold start;show _=N.length;rw[lZ,bY,List.length_replicate];omega
theorem Iw{CX:HF}{K:PySem.W.Frag}{base:Heap}{f:Addr}{name:Str}{params:Arguments}{dV kV doc pm dk ct oc:Value}{ps:dB}{sp:Sp}(lk:K.lookup f=some ⟨oc,od,.func (fnOf name qual params body scope dV kV doc pm an dk ct),xM⟩)(dU:codeIn K dk qual=true)(S:bq N ps scope)(len:∀vs H Q E,sp vs H Q E→vs.length=ps.length)(Iz:∀(A:Around) (outer:List Env) (s:Shared) (H:Hp) (vs:List V) (Q:VK) (E:XK),cW k (A.deeper (envOfC qual scope s.heap.objs.size f dk))→sp vs H Q E→∃t,xQ (wm CX P w K mg base N qual scope f dk A outer s H E) body t∧t { nx:=fun _ H'=>Q .non H',rt:=Q } (start N vs) H):cE P w K mg base CX (k+1) f (fnOf name qual params body scope dV kV doc pm an dk ct) ps sp:=by
  refine⟨len,fun A outer s H args us vs Q E hr e0 hb r B4=>?_⟩;have hl:=len _ _ _ _ B4;have KX:K.In s.heap:=e0.mod.TJ.keeps fun b o e=>(e0.bs b o e).1;have lim:s.heap.NoLimit:=e0.mod.nolimit.keeps fun b o e=>(e0.bs b o e).1;have Ug:∀y∈ps.zip us,scope.names.lookup y.1=some .local∨(scope.names.lookup y.1=some .cell∧((cellsFrom (s.heap.objs.size+1) scope.names []).lookup y.1).isSome=true):=fun⟨n,v⟩ hy=>by
    rcases S.par n (List.of_mem_zip hy).1 with q|q
    ·exact .inl q
    ·exact .inr ⟨q,cellsFrom_some _ _ _ (.inl q)⟩
  refine codeAny_call_function hr.depth (KX _ _ lk) rfl S.co S.gen rfl (PySem.W.codeRec_of KX dU) (hb _ _ _ _ ?_);refine wpAny_newFunctionEnv_cells S.kind Ug fun env he s1 x=>?_;subst he;refine⟨lim.keeps x.toInCall.keep,codeAny_func ?_⟩;obtain⟨t,ht,hq⟩:=Iz A outer s H vs Q E (hr.deeper _) B4;have I:Inv (wm CX P w K mg base N qual scope f dk A outer s H E) [] (start N vs) H s1:=Gk S hr.hd e0 hl r x;refine jK (ht [] s1 (start N vs) H _ I hq) (fun fl s' hs=>?_) fun e s' hs=>hs;have fin:∀{σ':St} {H':Hp} {v:V} {u:Value},Inv (wm CX P w K mg base N qual scope f dk A outer s H E) [] σ' H' s'→RelV v u→Q v H'→CE outer P w H s Q u s' :=
    fun {σ' H' v u} J rv q=>⟨v,H',J.os,J.bare,J.base,J.bV,rv,q⟩
  cases fl with
  |ret u=>obtain⟨v,σ',H',J,rv,q⟩:=hs;exact fin J rv q
  |next=>obtain⟨σ',H',J,q⟩:=hs;exact fin (v:=V.non) (u:=Value.none) J rfl q
  |brk=>obtain⟨_,_,_,q⟩:=hs;exact False.elim q
  |cont=>obtain⟨_,_,_,q⟩:=hs;exact False.elim q
section
variable {X:Cx} {x:Str} {p pos:Pos} {e:Expr} {es:List Expr} {t:TA} {id T:String} {r:List V→Hp→VK→Prop}
def tCB(r:List V→Hp→VK→Prop)(t:TA):TE:=fun σ H Q=>t σ H fun vs H1=>r vs H1 Q
theorem zP(hc:mw X (.builtin id) r)(hg:Gl X x)(hm:X.mg x=none)(hv:bootBuiltins x=some (.builtin id))(ha:PA X (e::es) t)(hn:x≠"__name__":=by decide)(iG:(x==("__debug__":Str))=false:=by decide)(he:starEach (e::es) X.env=(false,eval e X.env)::starEach es X.env:=by rfl)(m7:(backTo pos (starEach es X.env)).any (·.1)=false:=by rfl):PE X (.Call (.Name x p) (e::es) [] pos) (tCB r t):=by
  intro pins s σ H Q I h;refine tj (gT I hg hm hv ?_ hn iG);exact PyProof.Rows.callWith_builtin1 (cN (ha pos pins s σ H _ I h) fun us s1 ⟨vs,H1,I1,r1,q1⟩=>hc pins s1 σ H1 vs us Q I1 r1 q1) he m7
theorem rG(hc:mw X (.type T) r)(hg:Gl X x)(hm:X.mg x=none)(hv:bootBuiltins x=some (.type T))(ha:PA X (e::es) t)(hn:x≠"__name__":=by decide)(iG:(x==("__debug__":Str))=false:=by decide)(he:starEach (e::es) X.env=(false,eval e X.env)::starEach es X.env:=by rfl)(m7:(backTo pos (starEach es X.env)).any (·.1)=false:=by rfl):PE X (.Call (.Name x p) (e::es) [] pos) (tCB r t):=by
  intro pins s σ H Q I h;refine tj (gT I hg hm hv ?_ hn iG);exact BL (cN (ha pos pins s σ H _ I h) fun us s1 ⟨vs,H1,I1,r1,q1⟩=>hc pins s1 σ H1 vs us Q I1 r1 q1) he m7
end
end L2
variable {xs:List (List L2.Key×PySem.Addr×PySem.Value)} {F F' H H':L2.Hp} {o:L2.HO} {v y:L2.V} {X:L2.Cx} {σ:L2.St} {vs:List L2.V} {r:L2.R2} {ao:List (List L2.Key×L2.V)}
namespace HT
open PySem PyProof.Rows
def lexLt:bL→bL→Bool
  |[],[]=>false
  |[],_::_=>true
  |_::_,[]=>false
  |x::xs,y::ys=>if x=y then lexLt xs ys else decide (x<y)
theorem gU(x y:Int)(xs ys:bL):lexLt (x::xs) (y::ys)=if x=y then lexLt xs ys else decide (x<y):=rfl
theorem nU:lexLt [] []=false:=rfl
theorem mx(y:Int)(ys:bL):lexLt [] (y::ys)=true:=rfl
theorem fV(x:Int)(xs:bL):lexLt (x::xs) []=false:=rfl
theorem IA(A:Around)(s:Shared)(a:Int)(t:Tok)(c:Int)(u:Tok):∃e,SeqAt.EqAt A s (.int a t) (.int c u) e∧(e=true↔a=c) :=
  ⟨(a==c),SeqAt.EqAt.int_int a t c u,by simp⟩
theorem IB(A:Around)(s:Shared)(a:Int)(t:Tok)(c:Int)(u:Tok)(prog:Program)(w:World)(E:ic)(Q:ic)(h:Q (.bool (decide (a<c))) s):wpAny (model prog w) A (richCompare .Lt (.int a t) (.int c u)) Q E s :=
  (PyProof.Rows.lt_int h:wpAny (model prog w) A (compareOp .Lt (.int a t) (.int c u)) Q E s)
section
open PySem.SeqAt
open PySem.AutoSeq1 (wpAny_loadPart')
open PySem.MeetsSeq PySem.MeetsSeq2 PySem.MeetsSeq3
theorem wo(l b:Addr)(items j5:Array Value)(n n2:Nat)(dd Xk:Option Addr)(sl Xl:Array fQ)(ns ms:bL)(hi:IntsAre items.toList ns)(hj:IntsAre j5.toList ms):Meets (Builtin.«tuple.__lt__» ⟨[.ref l,.ref b],[]⟩) (fun _ R s=>s.heap.get? l=some { cls:=.type "tuple",dict:=dd,data:=.seq items n,slots:=sl }∧s.heap.get? b=some { cls:=.type "tuple",dict:=Xk,data:=.seq j5 n2,slots:=Xl }∧R (.ok (.ret (.bool (lexLt ns ms)))) s) :=
  .of_wp fun prog w A R s h=>by
    obtain⟨hp,g,d,tk,os⟩:=s;obtain⟨hl,hb,h⟩:=h;have f2:=AutoSeq1.sub_tuple_tuple;have z1:items.size=ns.length:=by rw[←hi.length];simp
    have z2:j5.size=ms.length:=by rw[←hj.length];simp
    wp_walk using wpAny_loadPart' hl,wpAny_loadPart' hb,wpAny_forIn_list _ (fun rest b s'=>b.1=none∧s'=⟨hp,g,d,tk,os⟩∧∃(vs ws:cA) (Pn S1:bL),rest=vs.zip ws ∧
      IntsAre vs Pn∧IntsAre ws S1∧Pn.length+j5.size=S1.length+items.size∧R (.ok (.ret (.bool (lexLt Pn S1)))) ⟨hp,g,d,tk,os⟩) _
    case turn =>
      rintro⟨y,x⟩ rest b s' ⟨Bz,rfl,vs,ws,Pn,S1,hz,Xm,Wi,hlen,hR⟩;cases Xm with
      |nil=>rw[List.zip_nil_left] at hz;cases hz
      |cons a t Xn =>
       cases Wi with
       |nil=>rw[List.zip_nil_right] at hz;cases hz
       |cons c u Xo =>
        rw[List.zip_cons_cons] at hz;injection hz with hyx Uh;injection hyx with hy hx;subst hy hx;rw[gU] at hR;simp only[eW] at hlen;obtain⟨e,he,Ui⟩:=IA A.in1 ⟨hp,g,d,tk,os⟩ a t c u;refine aE (he prog w _ _ ?_);cases e with
        |true =>
         rw[az (Ui.mp rfl)] at hR
         wp_walk
         exact⟨rfl,rfl,_,_,_,_,Uh,Xn,Xo,by omega,hR⟩
        |false =>
         rw[ax (fun q=>absurd (Ui.mpr q) eT)] at hR;have hri:=IB A.in1 ⟨hp,g,d,tk,os⟩ a t c u prog w
         wp_walk using hri
         exact⟨_,rfl,by simpa using hR⟩
    case fin =>
      rintro⟨b1,b2⟩ s' ⟨Bz,rfl,vs,ws,Pn,S1,hz,Xm,Wi,hlen,hR⟩;simp only at Bz;subst Bz;have hv:lexLt Pn S1=decide (items.size<j5.size):=by
        cases Xm with
        |nil =>
         cases Wi with
         |nil=>simp only[List.length_nil] at hlen;rw[nU];exact(gQ (by omega)).symm
         |cons c u hw=>simp only[List.length_nil,eW] at hlen;rw[mx];exact(mj (by omega)).symm
        |cons a t hv =>
         cases Wi with
         |nil=>simp only[List.length_nil,eW] at hlen;rw[fV];exact(gQ (by omega)).symm
         |cons c u hw=>rw[List.zip_cons_cons] at hz;cases hz
      rw[hv] at hR
      wp_walk
      exact⟨_,rfl,by simpa[Builtin.Tuple.tupleCompareSizes] using hR⟩
    case h =>
      exact⟨rfl,rfl,items.toList,j5.toList,ns,ms,rfl,hi,hj,by omega,h⟩
end
section
variable {prog:Program} {w:World} {A:Around} {E:ic} {s:Shared}
theorem B5{l:Addr}{j5:Array Value}{ms:bL}(hl:IsTup s.heap l items)(hb:IsTup s.heap b j5)(hi:IntsAre items.toList ns)(hj:IntsAre j5.toList ms)(hu:A.units<cLine)(h:Q (.bool (lexLt ns ms)) s):wpAny (model prog w) A (compareOp .Lt (.ref l) (.ref b)) Q E s:=by
  obtain⟨⟨cls,dd,data,sl⟩,ho,hc,n,hd⟩:=id hl;obtain⟨⟨acs,Xk,data2,Xl⟩,ho2,S2,n2,hd2⟩:=id hb;simp only at hc hd S2 hd2;subst hc hd S2 hd2;exact richCompare_meets_room (op:=.Lt) ⟨_,ho,rfl⟩ ⟨_,ho2,rfl⟩ PySem.F.slot_tuple_lt PySem.F.entry_tuple_lt (PySem.F.args_tuple_lt_2 _ _) (wo l b items j5 n n2 dd Xk sl Xl ns ms hi hj)
    ⟨ho,ho2,show Value.bool (lexLt ns ms)≠Value.notImplemented∧Q (.bool (lexLt ns ms)) s from⟨(fun x=>nomatch x),h⟩⟩ hu
def rg(n d:Nat):Option Int→Nat
  |none=>d
  |some v=>if v<0 then(v+(n:Int)).toNat else min v.toNat n
theorem tT(n d k:Nat):rg n d (some (k:Int))=min k n:=by show(if (k:Int)<0 then((k:Int)+(n:Int)).toNat else min (k:Int).toNat n)=min k n;rw[ax (by omega),nM]
end
end HT
namespace L2
open PySem PySem.Spec PyProof.Rows
abbrev TO:=St→Hp→(Option Int→Hp→Prop)→Prop
def PO(X:Cx)(e:Option Expr)(t:TO):Prop :=
  ∀(pins:gw) (s:Shared) (σ:St) (H:Hp) (Q:Option Int→Hp→Prop),Inv X pins σ H s→t σ H Q →
   wpAny (model X.prog X.w) X.A (evalPart e X.env) (fun u s'=>∃o H',Inv X pins σ H' s'∧IsPart u o∧Q o H') X.xe s
def Mr:TO:=fun _ H Q=>Q none H
def Uj(t:TE):TO:=fun σ H Q=>t σ H fun x H1=>∃i,x=.int i∧Q (some i) H1
theorem intsAre_of:∀{us:cA},Vals (ns.map V.int) us→IntsAre us ns:=by
  induction ns with
  |nil=>intro us r;rw[rq] at r;cases r;exact .nil
  |cons n ns ih =>
   intro us r;rw[cD] at r;cases r with
   |cons r1 r2=>obtain⟨t,e⟩:=r1;subst e;exact .cons n t (ih r2)
section
variable {X:Cx} {e:Expr} {te:TE} {lo hi:Option Expr} {tl th:TO} {pos p2:Pos}
theorem xZ:PO X none Mr:=by intro pins s σ H Q I h;rw[evalPart_none];exact bP ⟨none,H,I,.none,h⟩
theorem Ej(h:PE X e te):PO X (some e) (Uj te):=by intro pins s σ H Q I hw;rw[evalPart_some];refine cN (h pins s σ H _ I hw) fun u s1 ⟨x,H1,I1,r1,q1⟩=>?_;obtain⟨i,rfl,q⟩:=q1;obtain⟨t,rfl⟩:=r1;exact⟨some i,H1,I1,.int i t,q⟩
def Xp(X:Cx)(r:V→Option Int→Option Int→Hp→VK→Prop):Prop :=
  ∀(pins:gw) (s:Shared) (σ:St) (H:Hp) (x:V) (v vl vu:Value) (lo hi:Option Int) (sl:Addr) (Q:VK),Inv X pins σ H s→RelV x v→s.heap.IsSliceOf sl vl vu .none→IsPart vl lo→IsPart vu hi→r x lo hi H Q →
   ∃T id,typeLookup (.type T) "__getitem__"=pure (some (.builtin id))∧s.TypeIs v T∧wpAny (model X.prog X.w) X.A (getItem v (.ref sl)) (EP X pins σ Q) X.xe s
def tSl(r:V→Option Int→Option Int→Hp→VK→Prop)(te:TE)(tl th:TO):TE:=fun σ H Q=>te σ H fun x H1=>tl σ H1 fun l H2=>th σ H2 fun u H3=>r x l u H3 Q
theorem zQ{r:V→Option Int→Option Int→Hp→VK→Prop}(hr:Xp X r)(he:PE X e te)(hl:PO X lo tl)(hu:PO X hi th):PE X (.Subscript e (.Slice lo hi none p2) pos) (tSl r te tl th):=by intro pins s σ H Q I h;refine Subscript_ (cN (he pins s σ H _ I h) fun v s1 ⟨x,H1,I1,r1,q1⟩=>?_);refine wpAny_Slice (cN (hl pins s1 σ H1 _ I1 q1) fun vl s2 ⟨l,H2,I2,pl,q2⟩=>cN (hu pins s2 σ H2 _ I2 q2) fun vu s3 ⟨u,H3,I3,pu,q3⟩=>?_);rw[evalPart_none];refine bP ?_;have I4:Inv X pins σ H3 { s3 with heap:=s3.heap.push { cls:=.type "slice",data:=.fields #[vl,vu,.none] } }:=I3.kept (t':=s3.toks) fun b ob q=>dC _ q;obtain⟨T,id,hT,ht,hg⟩:=hr pins { s3 with heap:=s3.heap.push { cls:=.type "slice",data:=.fields #[vl,vu,.none] } } σ H3 x v vl vu l u s3.heap.objs.size Q I4 r1 (Heap.IsSliceOf.new ..) pl pu q3;show wpAny (model X.prog X.w) X.A (subscriptTail e (.Slice lo hi none p2) v (.ref s3.heap.objs.size)) (EP X pins σ Q) X.xe { s3 with heap:=s3.heap.push { cls:=.type "slice",data:=.fields #[vl,vu,.none] } };exact tail_any (ops:=[.ref s3.heap.objs.size,v]) ht hT hg (by with_unfolding_all rfl)
def B6(xs:List V)(lo hi:Option Int):List V:=(xs.drop (HT.rg xs.length 0 lo)).take (HT.rg xs.length xs.length hi-HT.rg xs.length 0 lo)
theorem sP(xs:List V)(lo hi:Option Int):(B6 xs lo hi).length≤xs.length:=by unfold B6;rw[List.length_take,List.length_drop];omega
end
def L3(n:Nat)(i:Int):Option Nat:=if 0≤i then(if i<n then some i.toNat else none) else if -(n:Int)≤i then some (i+n).toNat else none
def rJ{α:Type}(xs:List α)(i:Int):Option α:=(L3 xs.length i).bind fun j=>xs[j]?
theorem Ek{i:Int}(h:L3 n i=some j):seqIndex? i n=some j∧j<n∧-(n:Int)≤i∧i<n:=by
  unfold L3 at h;by_cases h0:0≤i
  · rw[az h0] at h;by_cases h1:i<n
    ·rw[az h1] at h;have e:i.toNat=j:=jJ h;exact⟨by rw[seqIndex_of h0 h1,e],by omega,by omega,h1⟩
    ·rw[ax h1] at h;cases h
  · rw[ax h0] at h;by_cases h1:-(n:Int)≤i
    ·rw[az h1] at h;have e:(i+n).toNat=j:=jJ h;exact⟨by rw[seqIndex_neg (by omega) h1,e],by omega,h1,by omega⟩
    ·rw[ax h1] at h;cases h
theorem x5{α:Type}{xs:List α}{i:Int}{v:α}(h:rJ xs i=some v):∃j,seqIndex? i xs.length=some j∧xs[j]?=some v∧j<xs.length∧-(xs.length:Int)≤i∧i<xs.length:=by
  unfold rJ at h;cases e:L3 xs.length i with
  |none=>rw[e] at h;cases h
  |some j=>rw[e] at h;obtain⟨h1,h2,h3,h4⟩:=Ek e;exact⟨j,h1,h,h2,h3,h4⟩
theorem kP{α:Type}{xs:List α}{v:α}(h:xs[j]?=some v):rJ xs (j:Int)=some v:=by
  have hj:j<xs.length:=(lR.mp h).1;have e:L3 xs.length (j:Int)=some j:=by unfold L3;rw[az (by omega),az (by omega)];simp
  unfold rJ;rw[e];exact h
def tU(b:Expr):Prop:=∀o i,subscripted b false o i=operate [o,i] (getItem o i)
def Pp(X:Cx)(r:R2):Prop :=
  ∀(value slice:Expr) (pins:gw) (s:Shared) (σ:St) (H:Hp) (x y:V) (v u:Value) (Q:VK),Inv X pins σ H s→RelV x v→RelV y u→r x y H Q →
   subscripted slice false v u=operate [v,u] (getItem v u)→wpAny (model X.prog X.w) X.A (subscriptTail value slice v u) (EP X pins σ Q) X.xe s
def S3(X:Cx)(id:String)(r:V→List V→Hp→VK→Prop):Prop :=
  ∀(pins:gw) (s:Shared) (σ:St) (H:Hp) (x:V) (xs:List V) (v:Value) (us:cA) (Q:VK),Inv X pins σ H s→RelV x v→Vals xs us→r x xs H Q →
   wpAny (model X.prog X.w) X.A (call (.builtin id) (v::us)) (EP X pins σ Q) X.xe s
section
variable {X:Cx} {a b:Expr} {ta tb:TE} {pos:Pos}
theorem Pp.or{r':R2}(h:Pp X r)(h':Pp X r'):Pp X (fun x y H Q=>r x y H Q∨r' x y H Q):=by
  intro value slice pins s σ H x y v u Q I rx ry q hs;rcases q with q|q
  ·exact h value slice pins s σ H x y v u Q I rx ry q hs
  ·exact h' value slice pins s σ H x y v u Q I rx ry q hs
theorem ip(hr:Pp X r)(ha:PE X a ta)(hb:PE X b tb)(hs:tU b):PE X (.Subscript a b pos) (Ed r ta tb):=by intro pins s σ H Q I h;exact Subscript_ (Qq ha hb I h fun v u s2 x y H2 I2 rx ry q=>hr a b pins s2 σ H2 x y v u Q I2 rx ry q (hs _ _))
def B7(K:PySem.W.Frag):R2:=fun x y H Q=>∃p xs i v,x=.ref p∧y=.int i∧eY K H p xs∧rJ xs i=some v∧Q v H
def Xq(K:PySem.W.Frag):R2:=fun x y H Q=>∃p xs i v,x=.ref p∧y=.int i∧gy K H p xs∧rJ xs i=some v∧Q v H
def Uk:R2:=fun x y H Q=>∃z i c,x=.str z∧y=.int i∧z.length≤sizeLine∧rJ z.cps.toList i=some c∧Q (.str ⟨#[c]⟩) H
theorem du:Pp X (B7 X.K):=by
  intro value slice pins s σ H x y v u Q I rx ry h hs;obtain⟨p,xs,i,z,rfl,rfl,hq,he,q⟩:=h;cases rx;obtain⟨t,rfl⟩:=ry;obtain⟨its,r,pl,hz⟩:=I.list hq;obtain⟨j,h1,h2,h3,h4,h5⟩:=x5 he;obtain⟨w,ew,IC⟩:=r.get h2;have hl:=r.length;have hn:=rE;have fin:EP X pins σ Q w s:=⟨z,H,I,IC,q⟩
  by_cases h0:0≤i
  · have hj:i.toNat=j:=by
      rw[seqIndex_of h0 h5] at h1;exact jJ h1
    exact item_listR pl.isList h0 (by omega) (by rw[hj];simpa using ew) fin hs
  · have hj:(i+(its.toArray.size:Int)).toNat=j:=by
      rw[seqIndex_neg (by omega) h4] at h1;rw[eA,←hl];exact jJ h1
    exact subscriptTail_builtinR (x:=w) pl.isList.typeIs slot_list_getitem.lookup
      (wpAny_getItem_list_neg (Q:=fun r s'=>r=w∧EP X pins σ Q r s') pl.isList (by omega) (by rw[eA]<;>omega) (by omega) (by rw[hj];simpa using ew) ⟨rfl,fin⟩) hs
theorem IE:Pp X (Xq X.K):=by
  intro value slice pins s σ H x y v u Q I rx ry h hs;obtain⟨p,xs,i,z,rfl,rfl,hq,he,q⟩:=h;cases rx;obtain⟨t,rfl⟩:=ry;obtain⟨its,r,pl,hz⟩:=I.tuple hq;obtain⟨j,h1,h2,h3,h4,h5⟩:=x5 he;obtain⟨w,ew,IC⟩:=r.get h2;have hl:=r.length;have hn:=rE;have fin:EP X pins σ Q w s:=⟨z,H,I,IC,q⟩
  exact subscriptTail_builtinR (x:=w) pl.typeIs slot_tuple_getitem.lookup
    (getItem_tuple (j:=j) (Q:=fun r s'=>r=w∧EP X pins σ Q r s') pl (by omega) (by omega) (by rw[eA,←hl];exact h1) (by simpa using ew) ⟨rfl,fin⟩) hs
theorem QC:Pp X Uk:=by
  intro value slice pins s σ H x y v u Q I rx ry h hs;obtain⟨z,i,c,rfl,rfl,hz,he,q⟩:=h;obtain⟨t,rfl⟩:=rx;obtain⟨t',rfl⟩:=ry;obtain⟨j,h1,h2,h3,h4,h5⟩:=x5 he;have hl:z.cps.toList.length=z.length:=by simp[Str.length]
  rw[hl] at h1 h4 h5;have hn:=rE;exact tail_any (typeIs_str s z t) slot_str_getitem.lookup (getItem_str (c:=c) (by
    have e1:decide (i< -(2^63:Int))=false:=gQ (by omega);have e2:decide (i≥2^63)=false:=gQ (by omega);rw[e1,e2,Bool.or_false]) (by rw[h1];simpa using h2) ⟨.str ⟨#[c]⟩,H,I.tok _,⟨_,rfl⟩,q⟩) hs
theorem B8(its:cA)(n j:Nat)(u:Value):Obj.mapSeq (·.setIfInBounds j u) { cls:=.type "list",data:=.seq its.toArray n }={ cls:=.type "list",data:=.seq (its.set j u).toArray n }:=by simp[Obj.mapSeq]
theorem Inv.lst{pins:gw}{σ:St}{H:Hp}{s:Shared}{p:Addr}{xs:List V}(I:Inv X pins σ H s)(h:H p=some (.lst xs)):∃(its:cA) (n:Nat),Vals xs its∧s.heap.get? p=some { cls:=.type "list",data:=.seq its.toArray n }∧xs.length≤sizeLine:=by
  obtain⟨z,its,n,r,e⟩:=I.bV p _ h;exact⟨its,n,r,e,z⟩
theorem Inv.QD{xs ys:List V}{its its':cA}{n':Nat}{f:Obj→Obj}(I:Inv X pins σ H s)(h:H p=some (.lst xs))(ho:s.heap.get? p=some { cls:=.type "list",data:=.seq its.toArray n })(hf:f { cls:=.type "list",data:=.seq its.toArray n }={ cls:=.type "list",data:=.seq its'.toArray n' })(r:Vals ys its')(hz:ys.length≤sizeLine)(t:Nat):Inv X pins σ (upd H p (.lst ys)) { s with heap:=s.heap.update p f,toks:=t }:=by
  have e:(s.heap.update p f).get? p=some { cls:=.type "list",data:=.seq its'.toArray n' }:=by rw[sZ f ho (by rw[hf]<;>rfl),hf]
  refine I.write (x:=p) (e:=p) (by rw[h];trivial) (.inl rfl) (fun b u hb q=>(Heap.get?_update_other _ _ (cT hb)).trans q) ⟨_,e⟩ ?_;exact⟨hz,its',n',r,e⟩
def Ul:V→V→V→Hp→(Hp→Prop)→Prop:=fun o i v H Q=>∃p xs k j,o=.ref p∧i=.int k∧H p=some (.lst xs)∧L3 xs.length k=some j∧Q (upd H p (.lst (xs.set j v)))
theorem set_list:TX X Ul:=by
  intro pins s σ H o i v ov iv u Q I ro ri rv h;obtain⟨p,xs,k,j,rfl,rfl,hp,hj,q⟩:=h;cases ro;obtain⟨t,rfl⟩:=ri;obtain⟨its,n,r,ho,hz⟩:=I.lst hp;obtain⟨h1,h2,h3,h4⟩:=Ek hj;have hl:=r.length;have hn:=rE;have I':Inv X pins σ (upd H p (.lst (xs.set j v))) { s with heap:=s.heap.update p (Obj.mapSeq (·.setIfInBounds j u)) } :=
    I.QD hp ho (B8 its n j u) (r.set rv j) (by rw[List.length_set];exact hz) s.toks
  by_cases h0:0≤k
  · have hk:k.toNat=j:=by
      rw[seqIndex_of h0 h4] at h1;exact jJ h1
    exact PySem.W.ki_setAt ho h0 (by omega) (by rw[eA,←hl];exact h4) (by rw[hk];exact⟨_,I',q⟩)
  · have hk:(k+(its.toArray.size:Int)).toNat=j:=by
      rw[seqIndex_neg (by omega) h3] at h1;rw[eA,←hl];exact jJ h1
    exact PySem.W.ki_setBack ho (by omega) (by rw[eA,←hl];exact h3) (by omega) (by rw[hk];exact⟨_,I',q⟩)
theorem x6(lo hi:Option Int)(n:Nat):(sliceBounds lo hi none n).1=((HT.rg n 0 lo:Nat):Int)∧(sliceBounds lo hi none n).2.1=((HT.rg n n hi:Nat):Int)∧(sliceBounds lo hi none n).2.2=1:=by
  refine⟨?_,?_,rfl⟩
  · cases lo with
    |none=>simp[sliceBounds,HT.rg]
    |some i =>
     simp only[sliceBounds,HT.rg,Option.getD_none,show(1:Int)>0 by decide,cw];by_cases h:i<0
     ·simp only[h,cw]<;>omega
     ·simp only[h,il]<;>omega
  · cases hi with
    |none=>simp[sliceBounds,HT.rg]
    |some i =>
     simp only[sliceBounds,HT.rg,Option.getD_none,show(1:Int)>0 by decide,cw];by_cases h:i<0
     ·simp only[h,cw]<;>omega
     ·simp only[h,il]<;>omega
theorem wq(its:cA)(lo hi:Option Int):slicePick its.toArray lo hi none=((its.drop (HT.rg its.length 0 lo)).take (HT.rg its.length its.length hi-HT.rg its.length 0 lo)).toArray:=by obtain⟨h1,h2,h3⟩:=x6 lo hi its.toArray.size;unfold slicePick;rw[h1,h2,h3];simp only[sliceRange_one,pick_run,eA]<;>rfl
def Xr(K:PySem.W.Frag):V→Option Int→Option Int→Hp→VK→Prop:=fun x lo hi H Q=>∃a xs,x=.ref a∧eY K H a xs∧∀p,H p=none→Q (.ref p) (upd H p (.lst (B6 xs lo hi)))
theorem Ms:Xp X (Xr X.K):=by intro pins s σ H x v vl vu lo hi sl Q I rx hs pl pu h;obtain⟨a,xs,rfl,hx,q⟩:=h;cases rx;obtain⟨its,r,ht,hz⟩:=I.list hx;have hlen:=r.length;refine⟨"list",_,slot_list_getitem.lookup,ht.isList.typeIs,?_⟩;refine wpAny_getItem_list_slice ht.isList hs pl pu .none (by simp) ?_ (by rw[eA]<;>omega);rw[wq,←hlen];refine⟨.ref s.heap.objs.size,_,I.laid (t':=s.toks) (o:=.lst (B6 xs lo hi)) (fun b ob q=>dC _ q) (bJ _) ?_,rfl,q _ (I.bV.fresh (bJ _))⟩;exact⟨fR (sP xs lo hi) hz,_,0,(r.drop (HT.rg xs.length 0 lo)).take (HT.rg xs.length xs.length hi-HT.rg xs.length 0 lo),iE _ rfl⟩
def my:V→Bool
  |.non=>true
  |.bl _=>true
  |.int _=>true
  |.str _=>true
  |_=>false
def IG:V→V→Bool
  |.non,.non=>true
  |.bl a,.bl b=>a==b
  |.bl a,.int b=>(if a then 1 else 0)==b
  |.int a,.bl b=>a==(if b then 1 else 0)
  |.int a,.int b=>a==b
  |.str a,.str b=>a==b
  |_,_=>false
theorem QF{x:V}{v:Value}(ry:RelV y u)(rx:RelV x v)(fy:my y=true)(fx:my x=true):SeqAt.EqAt A s u v (IG y x):=by
  cases y with
  |non =>
   cases ry;cases x with
   |non=>cases rx;exact SeqAt.EqAt.same _
   |bl b=>cases rx;exact SeqAt.EqAt.none_bool b
   |int b=>obtain⟨t,rfl⟩:=rx;exact SeqAt.EqAt.none_int b t
   |str b=>obtain⟨t,rfl⟩:=rx;exact SeqAt.EqAt.none_str b t
   |_=>exact absurd (show false=true from fx) eT
  |bl a =>
   cases ry;cases x with
   |non=>cases rx;exact SeqAt.EqAt.bool_none a
   |bl b=>cases rx;exact SeqAt.EqAt.bool_bool a b
   |int b=>obtain⟨t,rfl⟩:=rx;exact SeqAt.EqAt.bool_int a b t
   |str b=>obtain⟨t,rfl⟩:=rx;exact SeqAt.EqAt.bool_str a b t
   |_=>exact absurd (show false=true from fx) eT
  |int a =>
   obtain⟨t',rfl⟩:=ry;cases x with
   |non=>cases rx;exact SeqAt.EqAt.int_none a t'
   |bl b=>cases rx;exact SeqAt.EqAt.int_bool a t' b
   |int b=>obtain⟨t,rfl⟩:=rx;exact SeqAt.EqAt.int_int a t' b t
   |str b=>obtain⟨t,rfl⟩:=rx;exact SeqAt.EqAt.int_str a t' b t
   |_=>exact absurd (show false=true from fx) eT
  |str a =>
   obtain⟨t',rfl⟩:=ry;cases x with
   |non=>cases rx;exact SeqAt.EqAt.str_none a t'
   |bl b=>cases rx;exact SeqAt.EqAt.str_bool a t' b
   |int b=>obtain⟨t,rfl⟩:=rx;exact SeqAt.EqAt.str_int a t' b t
   |str b=>obtain⟨t,rfl⟩:=rx;exact SeqAt.EqAt.str_str a t' b t
   |_=>exact absurd (show false=true from fx) eT
  |_=>exact absurd (show false=true from fy) eT
def zR(x:V)(u:Value):Bool:=match u with
  |.none=>IG .non x
  |.bool b=>IG (.bl b) x
  |.int i _=>IG (.int i) x
  |.str z _=>IG (.str z) x
  |_=>false
theorem B9{x:V}(r:RelV y u)(f:my y=true):zR x u=IG y x:=by
  cases y with
  |non=>cases r;rfl
  |bl b=>cases r;rfl
  |int i=>obtain⟨t,rfl⟩:=r;rfl
  |str z=>obtain⟨t,rfl⟩:=r;rfl
  |_=>exact absurd (show false=true from f) eT
theorem pO{x:V}:∀{xs:List V} {us:cA},Vals xs us→xs.all my=true→us.any (zR x)=xs.any fun y=>IG y x
  |_,_,.nil,_=>rfl
  |y::xs,u::us,.cons r t,f=>by rw[List.all_cons,oA] at f;rw[List.any_cons,List.any_cons,B9 r f.1,pO t f.2]
theorem kC{A:Around}{s:Shared}{x:V}{v:Value}(rx:RelV x v)(fx:my x=true):∀{xs:List V} {us:cA},Vals xs us→xs.all my=true→∀u∈us,SeqAt.EqAt A s u v (zR x u)
  |_,_,.nil,_=>fun u hu=>by cases hu
  |y::xs,u::us,.cons r t,f=>fun u' hu=>by
   rw[List.all_cons,oA] at f;rcases dc.mp hu with rfl|hu
   ·rw[B9 r f.1];exact QF r rx f.1 fx
   ·exact kC rx fx t f.2 u' hu
def Pq(x:V)(xs:List V):Bool:=xs.any fun y=>IG y x
def Xs(K:PySem.W.Frag)(neg:Bool):R2:=fun x y H Q=>∃p xs,y=.ref p∧(eY K H p xs∨gy K H p xs)∧my x=true∧xs.all my=true∧Q (.bl (if neg then !Pq x xs else Pq x xs)) H
theorem Gn:nT X (compareOp .In) (Xs X.K false):=by
  intro pins s σ H x y v u Q I rx ry h;obtain⟨p,xs,rfl,hq,fx,fs,q⟩:=h;cases ry;rcases hq with hq|hq
  ·obtain⟨its,r,pl,hz⟩:=I.list hq;refine SeqAt.in_listAt (zR x) pl.isList (fun w hw=>kC rx fx r fs w (by simpa using hw)) ⟨.bl _,H,I,rfl,?_⟩;rw[show its.toArray.any (zR x)=its.any (zR x) by simp,pO r fs];exact q
  ·obtain⟨its,r,pl,hz⟩:=I.tuple hq;refine SeqAt.in_tupleAt (zR x) pl (fun w hw=>kC rx fx r fs w (by simpa using hw)) ⟨.bl _,H,I,rfl,?_⟩;rw[show its.toArray.any (zR x)=its.any (zR x) by simp,pO r fs];exact q
theorem x8:nT X (compareOp .NotIn) (Xs X.K true):=by
  intro pins s σ H x y v u Q I rx ry h;obtain⟨p,xs,rfl,hq,fx,fs,q⟩:=h;cases ry;rcases hq with hq|hq
  ·obtain⟨its,r,pl,hz⟩:=I.list hq;refine SeqAt.notIn_listAt (zR x) pl.isList (fun w hw=>kC rx fx r fs w (by simpa using hw)) ⟨.bl _,H,I,rfl,?_⟩;rw[show its.toArray.any (zR x)=its.any (zR x) by simp,pO r fs];exact q
  ·obtain⟨its,r,pl,hz⟩:=I.tuple hq;refine SeqAt.notIn_tupleAt (zR x) pl (fun w hw=>kC rx fx r fs w (by simpa using hw)) ⟨.bl _,H,I,rfl,?_⟩;rw[show its.toArray.any (zR x)=its.any (zR x) by simp,pO r fs];exact q
theorem bt:mw X (.builtin "len") (fun xs H Q=>∃p ys,xs=[.ref p]∧(eY X.K H p ys∨gy X.K H p ys)∧Q (.int ys.length) H):=by
  intro pins s σ H xs us Q I r h;obtain⟨p,ys,rfl,hq,q⟩:=h;obtain⟨u,rfl,rx⟩:=vals1 r;cases rx;have hn:=rE;rcases hq with hq|hq
  ·obtain⟨its,r',pl,hz⟩:=I.list hq;have hlen:=r'.length;exact Calls.call_len_list pl.isList (by simp only[eA]<;>omega) ⟨.int ys.length,H,I.tok _,⟨s.toks+1,by rw[eA,hlen]⟩,q⟩
  ·obtain⟨its,r',pl,hz⟩:=I.tuple hq;have hlen:=r'.length;exact len_tuple pl (by simp only[eA]<;>omega) ⟨.int ys.length,H,I.tok _,⟨s.toks+1,by rw[eA,hlen]⟩,q⟩
theorem pP:mw X (.builtin "len") (fun xs H Q=>∃z,xs=[.str z]∧z.length≤sizeLine∧Q (.int z.length) H):=by intro pins s σ H xs us Q I r h;obtain⟨z,rfl,hz,q⟩:=h;obtain⟨u,rfl,t,rfl⟩:=vals1 r;have hn:=rE;exact len_str (by omega) ⟨.int z.length,H,I.tok _,⟨_,rfl⟩,q⟩
theorem pQ:mw X (.type "list") (fun xs H Q=>∃p ys,xs=[.ref p]∧(eY X.K H p ys∨gy X.K H p ys)∧∀l,H l=none→Q (.ref l) (upd H l (.lst ys))):=by
  intro pins s σ H xs us Q I r h;obtain⟨p,ys,rfl,hq,q⟩:=h;obtain⟨u,rfl,rx⟩:=vals1 r;cases rx;have fin:∀(its:cA),Vals ys its→ys.length≤sizeLine→∀(h':Heap) (c':Nat),(∀b o',s.heap.get? b=some o'→h'.get? b=some o') →
      h'.get? s.heap.objs.size=some { cls:=.type "list",dict:=none,data:=.seq its.toArray c',slots:=#[] }→EP X pins σ Q (.ref s.heap.objs.size) { s with heap:=h' }:=fun its r' hz h' c' kp e =>
    ⟨.ref s.heap.objs.size,_,I.laid (t':=s.toks) kp (bJ _) (show bS X.prog X.w _ h' _ (.lst ys) from⟨hz,its,c',r',e⟩),rfl,q _ (I.bV.fresh (bJ _))⟩
  rcases hq with hq|hq
  ·obtain⟨its,r',pl,hz⟩:=I.list hq;have hlen:=r'.length;obtain⟨o,ho,hc,n,hd⟩:=pl.isList;exact call_list_seq p (.inl rfl) ho hc hd (fun h' c' kp e=>fin its r' hz h' c' kp e) (by simp only[eA]<;>omega)
  ·obtain⟨its,r',pl,hz⟩:=I.tuple hq;have hlen:=r'.length;obtain⟨o,ho,hc,n,hd⟩:=pl;exact call_list_seq p (.inr rfl) ho hc hd (fun h' c' kp e=>fin its r' hz h' c' kp e) (by simp only[eA]<;>omega)
theorem wt:mw X (.type "tuple") (fun xs H Q=>∃p ys,xs=[.ref p]∧((eY X.K H p ys∧∀l,H l=none→Q (.ref l) (upd H l (.tup ys)))∨(gy X.K H p ys∧Q (.ref p) H))):=by
  intro pins s σ H xs us Q I r h;obtain⟨p,ys,rfl,h⟩:=h;obtain⟨u,rfl,rx⟩:=vals1 r;cases rx;rcases h with⟨hq,q⟩|⟨hq,q⟩
  · obtain⟨its,r',pl,hz⟩:=I.list hq;have hlen:=r'.length;refine call_tuple_list pl.isList (fun h' kp=>?_) (by simp only[eA]<;>omega);have I1:Inv X pins σ H { s with heap:=h' }:=I.kept (t':=s.toks) kp;have I2:Inv X pins σ (upd H h'.objs.size (.tup ys)) { s with heap:=h'.push { cls:=.type "tuple",data:=.seq its.toArray } } :=
      I1.laid (t':=s.toks) (fun b o e=>dC _ e) (bJ _) (show bS X.prog X.w _ _ _ (.tup ys) from⟨hz,its,r',IsTup.new _ _⟩)
    exact⟨.ref h'.objs.size,_,I2,rfl,q _ (I1.bV.fresh (bJ _))⟩
  ·obtain⟨its,r',pl,hz⟩:=I.tuple hq;exact call_tuple_same pl ⟨.ref p,H,I,rfl,q⟩
def Xu(K:PySem.W.Frag)(T:String)(x:V)(H:Hp):Prop:=match x with
  |.str _=>T="str"
  |.int _=>T="int"
  |.ref p=>(T="list"∧∃xs,eY K H p xs)∨(T="tuple"∧∃o,K.lookup p=some o∧o.cls=.type "tuple"∧o.dict=none) ∨
      (T="dict"∧((∃ao,H p=some (.dK ao))∨∃ao,H p=some (.dT ao)))∨(T="set"∧∃S n,H p=some (.set S n))
  |_=>False
theorem II{T:String}{x:V}{v:Value}(I:Inv X pins σ H s)(r:RelV x v)(ty:Xu X.K T x H):s.TypeIs v T∧∀a,v=.ref a→∃ob,s.heap.get? a=some ob∧ob.dict=none:=by
  cases x with
  |str z=>obtain⟨t,rfl⟩:=r;cases(show T="str" from ty);exact⟨typeIs_str s z t,fun _ e=>nomatch e⟩
  |int i=>obtain⟨t,rfl⟩:=r;cases(show T="int" from ty);exact⟨typeIs_int s i t,fun _ e=>nomatch e⟩
  |ref p =>
   cases r;rcases ty with⟨rfl,xs,hq⟩|⟨rfl,o,hk,hc,hd⟩|⟨rfl,hk⟩|⟨rfl,S,n,hk⟩
   ·obtain⟨its,_,pl,_⟩:=I.list hq;refine⟨pl.isList.typeIs,fun a e=>?_⟩;cases e;obtain⟨o,n,e,c,hd,_⟩:=pl;exact⟨o,e,hd⟩
   ·refine⟨⟨o,I.qZ p o hk,hc⟩,fun a e=>?_⟩;cases e;exact⟨o,I.qZ _ o hk,hd⟩
   · have z:∃o,s.heap.get? p=some o∧o.ExactDict:=by
       rcases hk with⟨ao,hk⟩|⟨ao,hk⟩
       ·obtain⟨_,_,_,_,o,_,_,e,ex,_⟩:=I.bV p _ hk;exact⟨o,e,ex⟩
       ·obtain⟨_,_,_,_,o,_,_,e,ex,_⟩:=I.bV p _ hk;exact⟨o,e,ex⟩
     obtain⟨o,e,ex⟩:=z;refine⟨⟨o,e,ex.1⟩,fun a e2=>?_⟩;cases e2;exact⟨o,e,ex.2.1⟩
   ·obtain⟨o,_,_,_,e,ex,_⟩:=I.bV p _ hk;refine⟨⟨o,e,ex.1⟩,fun a e2=>?_⟩;cases e2;exact⟨o,e,ex.2.1⟩
  |_=>exact False.elim ty
def Xv(K:PySem.W.Frag)(T:String)(r:V→List V→Hp→VK→Prop)(to:TE):TE:=fun σ H Q=>to σ H fun x H1=>Xu K T x H1∧r x [] H1 Q
def tBM(K:PySem.W.Frag)(T:String)(r:V→List V→Hp→VK→Prop)(to:TE)(t:TA):TE:=fun σ H Q=>to σ H fun x H1=>Xu K T x H1∧t σ H1 fun xs H2=>r x xs H2 Q
variable {o e:Expr} {es:List Expr} {to:TE} {t:TA} {name:Str} {apos aX:Pos} {T id:String} {r:V→List V→Hp→VK→Prop}
theorem Ca(pa:PlainAttrs T)(slot:Slot T name id)(S4:typeOf (.builtin id)=pure (.type "method_descriptor"))(hm:S3 X id r)(ho:PE X o to)(cI:attributeBase o name X.env (eval o X.env)=eval o X.env:=by rfl)(hline:(apos.endLine==aX.line)=true:=by rfl):PE X (.Call (.Attribute o name apos) [] [] aX) (Xv X.K T r to):=by
  intro pins s σ H Q I h;refine wpAny_Call_method0_late cI hline (cN (ho pins s σ H _ I h) fun v s1 ⟨x,H1,I1,r1,ty,q1⟩=>?_);obtain⟨h1,h2⟩:=II I1 r1 ty;exact⟨T,id,pa,slot,S4,h1,h2,Calls.callWith_builtin rfl (PySem.evalArgs_none (hm pins s1 σ H1 x [] v [] Q I1 r1 .nil q1))⟩
theorem w5(pa:PlainAttrs T)(slot:Slot T name id)(S4:typeOf (.builtin id)=pure (.type "method_descriptor"))(hm:S3 X id r)(ho:PE X o to)(ha:PA X (e::es) t)(cI:attributeBase o name X.env (eval o X.env)=eval o X.env:=by rfl)(rK:((backTo aX (starEach (e::es) X.env)).all (fun x=>!x.1)&&(backToKw aX (keywordEach [] X.env)).all (fun x=>x.1.isSome)
      && decide ((e::es).length+([]:List Keyword).length+(if ([]:List Keyword).isEmpty then 0 else 1)<30))=true:=by rfl)(hline:(apos.endLine==aX.line)=true:=by rfl)(hs:starEach (e::es) X.env=(false,eval e X.env)::starEach es X.env:=by rfl)(QG:(backTo aX (starEach es X.env)).any (·.1)=false:=by rfl):PE X (.Call (.Attribute o name apos) (e::es) [] aX) (tBM X.K T r to t):=by
  intro pins s σ H Q I h;refine wpAny_Call_method_late cI rK hline rfl (cN (ho pins s σ H _ I h) fun v s1 ⟨x,H1,I1,r1,ty,q1⟩=>?_);obtain⟨h1,h2⟩:=II I1 r1 ty;refine⟨T,id,pa,slot,S4,h1,h2,?_⟩;have hA:=ha aX pins s1 σ H1 _ I1 q1;rw[hs] at hA⊢;refine Calls.callWith_builtin (by show(false||(backTo aX (starEach es X.env)).any (·.1))=false;rw[QG]<;>rfl) (Calls.evalArgs_plain ?_);exact cN hA fun us s2 ⟨vs,H2,I2,r2,q2⟩=>hm pins s2 σ H2 x vs v us Q I2 r1 r2 q2
end
def Wj(X:Cx)(id:String)(r:V→List V→Hp→VK→Prop):Prop :=
  ∀(pins:gw) (s:Shared) (σ:St) (H:Hp) (x:V) (xs:List V) (v:Value) (us:cA) (Q:VK),Inv X pins σ H s→RelV x v→Vals xs us→r x xs H Q →
   wpAny (model X.prog X.w) X.A (call (.builtin id) (v::us)) (EP X pins σ Q) X.xe s
theorem Vals.one:∀{x:V} {us:cA},Vals [x] us→∃u,us=[u]∧RelV x u
  |_,_,.cons r .nil=>⟨_,rfl,r⟩
theorem Vals.zero:∀{us:cA},Vals [] us→us=[]
  |_,.nil=>rfl
theorem Vals.reverse{xs:List V}(h:Vals xs us):Vals xs.reverse us.reverse:=by
  induction h with
  |nil=>exact .nil
  |cons r t ih=>rw[List.reverse_cons,List.reverse_cons];exact Vals.append ih (.cons r .nil)
section
variable {X:Cx} {pins:gw} {σ:St} {H:Hp} {s:Shared} {l b:Addr} {xs ys zs:List V}
theorem Inv.Mt{its its':cA}{f:Array Value→Array Value}(I:Inv X pins σ H s)(hH:H l=some (.lst xs))(e:s.heap.get? l=some { cls:=.type "list",data:=.seq its.toArray n })(hf:f its.toArray=its'.toArray)(hv:Vals ys its')(hz:ys.length≤sizeLine):Inv X pins σ (upd H l (.lst ys)) { s with heap:=s.heap.update l (Obj.mapSeq f),toks:=t' }:=by
  have q:=PySem.IsL.update e f;rw[hf] at q;refine I.write (x:=l) (e:=l) (by rw[hH];exact trivial) (.inl rfl) (fun b' u hb hu=>(Heap.get?_update_other s.heap (Obj.mapSeq f) (cT hb)).trans hu) ⟨_,q⟩ ?_;exact⟨hz,its',_,hv,q⟩
theorem Inv.Mu(I:Inv X pins σ H s)(hH:H l=some (.lst xs)):xs.length≤sizeLine∧∃(its:cA) (n:Nat),Vals xs its∧xs.length=its.length∧s.heap.get? l=some { cls:=.type "list",data:=.seq its.toArray n }:=by obtain⟨z,its,n,r,e⟩:=I.bV l _ hH;exact⟨z,its,n,r,r.length,e⟩
end
section
variable {X:Cx}
def Mv:V→List V→Hp→VK→Prop:=fun x vs H Q=>∃l xs y,x=.ref l∧vs=[y]∧H l=some (.lst xs)∧xs.length<sizeLine∧Q .non (upd H l (.lst (xs++[y])))
theorem Gp:Wj X "list.append" Mv:=by intro pins s σ H x vs v us Q I rx rv h;obtain⟨l,xs,y,rfl,rfl,hH,hz,q⟩:=h;cases rx;obtain⟨u,rfl,ru⟩:=rv.one;obtain⟨z,its,n,r,hl,e⟩:=I.Mu hH;refine call_meets F.slot_list_append ⟨_,e,rfl⟩ F.entry_list_append (F.args_list_append_2 _ _) (PySem.list_append l its.toArray n u (by rw[eA];omega)) ⟨e,?_⟩;refine⟨.non,_,I.Mt (its':=its++[u]) hH e (by simp) (r.append (.cons ru .nil)) ?_,rfl,q⟩;rw[lZ,List.length_singleton];omega
def IJ:V→List V→Hp→VK→Prop:=fun x vs H Q=>∃l xs,x=.ref l∧vs=[]∧H l=some (.lst xs)∧Q .non (upd H l (.lst xs.reverse))
theorem Cb:Wj X "list.reverse" IJ:=by intro pins s σ H x vs v us Q I rx rv h;obtain⟨l,xs,rfl,rfl,hH,q⟩:=h;cases rx;have Xw:=rv.zero;subst Xw;obtain⟨z,its,n,r,hl,e⟩:=I.Mu hH;refine call_meets F.slot_list_reverse ⟨_,e,rfl⟩ F.entry_list_reverse (F.args_list_reverse_1 _) (AutoSeq1.list_reverse_list_0 l its.toArray n (by rw[eA];omega)) ⟨e,?_⟩;refine⟨.non,_,I.Mt (its':=its.reverse) hH e (by simp) r.reverse ?_,rfl,q⟩;rw[List.length_reverse];omega
def QH:V→List V→Hp→VK→Prop:=fun x vs H Q=>∃l xs,x=.ref l∧vs=[]∧H l=some (.lst xs)∧Q .non (upd H l (.lst []))
theorem zS:Wj X "list.clear" QH:=by intro pins s σ H x vs v us Q I rx rv h;obtain⟨l,xs,rfl,rfl,hH,q⟩:=h;cases rx;have Xw:=rv.zero;subst Xw;obtain⟨z,its,n,r,hl,e⟩:=I.Mu hH;refine call_meets F.slot_list_clear ⟨_,e,rfl⟩ F.entry_list_clear (F.args_list_clear_1 _) (AutoSeq1.list_clear_list_0 l its.toArray n (by rw[eA];omega)) ⟨e,?_⟩;exact⟨.non,_,I.Mt (its':=[]) (ys:=[]) hH e rfl .nil (ik _),rfl,q⟩
end
section
variable {κ:Type} [DecidableEq κ]
def nP(ao:List (κ×V))(k:κ):Option V:=(ao.find? fun kv=>decide (kv.1=k)).map (·.2)
def putK(ao:List (κ×V))(k:κ)(v:V):List (κ×V) :=
  if (ao.any fun kv=>decide (kv.1=k))=true then ao.map (fun kv=>if kv.1=k then(kv.1,v) else kv) else ao++[(k,v)]
theorem pR{p:κ×V}{r:List (κ×V)}{k:κ}(e:p.1=k):nP (p::r) k=some p.2:=by simp[nP,rm,e]
theorem pS{p:κ×V}{r:List (κ×V)}{k:κ}(e:¬ p.1=k):nP (p::r) k=nP r k:=by simp[nP,rm,e]
theorem zT(k:κ):∀ao:List (κ×V),(ao.any fun kv=>decide (kv.1=k))=(nP ao k).isSome
  |[]=>rfl
  |p::r=>by
   rw[List.any_cons];by_cases e:p.1=k
   ·simp only[pR e,mj e,Bool.true_or,Option.isSome_some]
   ·rw[pS e,gQ e,Bool.false_or];exact zT k r
theorem jL(ao:List (κ×V))(k:κ)(v:V):(putK ao k v).length≤ao.length+1:=by
  unfold putK;split
  ·rw[bY];omega
  ·rw[lZ,eW,List.length_nil];omega
theorem lS.Gq{o:Option V}{u:fQ}(r:lS o u):o.isSome=u.isSome:=by
  cases o with
  |none=>cases u with
   |none=>rfl
   |some _=>exact(show False from r).elim
  |some _=>cases u with
   |none=>exact(show False from r).elim
   |some _=>rfl
theorem lS.getD{o:Option V}{u:fQ}{d:V}{d':Value}(r:lS o u)(rd:RelV d d'):RelV (o.getD d) (u.getD d'):=by
  cases o with
  |none=>cases u with
   |none=>exact rd
   |some _=>exact(show False from r).elim
  |some _=>cases u with
   |none=>exact(show False from r).elim
   |some _=>exact r
theorem KV.val{ao:List (κ×V)}{vs:List (κ×Value)}(r:KV ao vs)(k:κ):lS (nP ao k) (valueAt vs k):=by
  unfold KV at r;induction r with
  |nil=>exact True.intro
  |@cons p q ps qs h t ih =>
   obtain⟨h1,h2⟩:=h;by_cases e:p.1=k
   · have e':q.1=k:=h1.symm.trans e;have b:valueAt (q::qs) k=some q.2:=by simp[valueAt,rm,e']
     rw[pR e,b];exact h2
   · have e':¬ q.1=k:=fun z=>e (h1.trans z);have b:valueAt (q::qs) k=valueAt qs k:=by simp[valueAt,rm,e']
     rw[pS e,b];exact ih
theorem KV.any{ao:List (κ×V)}{vs:List (κ×Value)}(r:KV ao vs)(k:κ):(ao.any fun kv=>decide (kv.1=k))=vs.any fun kv=>decide (kv.1=k):=by
  unfold KV at r;induction r with
  |nil=>rfl
  |cons h t ih=>rw[List.any_cons,List.any_cons,ih,h.1]
theorem KV.QI{ao:List (κ×V)}{vs:List (κ×Value)}(r:KV ao vs)(k:κ)(ry:RelV y u):KV (ao.map fun kv=>if kv.1=k then(kv.1,y) else kv) (vs.map fun kv=>if kv.1=k then(kv.1,u) else kv):=by
  unfold KV at r⊢;induction r with
  |nil=>exact .nil
  |@cons p q ps qs h t ih =>
   rw[cD,cD];refine .cons ?_ ih;obtain⟨h1,h2⟩:=h;by_cases e:p.1=k
   ·rw[az e,az (h1.symm.trans e)];exact⟨h1,ry⟩
   ·rw[ax e,ax (fun z=>e (h1.trans z))];exact⟨h1,h2⟩
theorem KV.put{ao:List (κ×V)}{vs:List (κ×Value)}(r:KV ao vs)(k:κ)(ry:RelV y u):KV (putK ao k y) (stored vs k u):=by
  unfold putK stored;rw[r.any k];by_cases e:(vs.any fun kv=>decide (kv.1=k))=true
  ·rw[az e,az e];exact r.QI k ry
  ·rw[ax e,ax e];exact Paired.snoc r ⟨rfl,ry⟩
theorem KV.length{ao:List (κ×V)}{vs:List (κ×Value)}(r:KV ao vs):ao.length=vs.length:=pK r
end
theorem El{k:Key}(r:RelV (kV k) u):(cJ P w).is k u=true:=by
  cases k with
  |inl i=>obtain⟨t,e⟩:=(show ∃t,u=Value.int i t from r);subst e;exact zD P w i t
  |inr x=>obtain⟨t,e⟩:=(show ∃t,u=Value.str x t from r);subst e;exact zF P w x t
theorem w6{P:Program}{w:World}:∀{ks:List Key} {us:cA},Vals (ks.map kV) us→ItemsAre (cJ P w) ks us
  |[],_,r=>by rw[rq] at r;cases r;exact .nil
  |k::ks,_,r=>by
   rw[cD] at r;cases r with
   |cons h t=>exact .cons (El h) (w6 t)
abbrev KT(H:Hp):List (List Key×V)→List (List Key×Addr×Value)→Prop:=Paired fun p q=>p.1=q.1∧H q.2.1=some (.tup (p.1.map kV))∧RelV p.2 q.2.2
theorem KT.val(r:KT H ao xs)(k:List Key):lS (nP ao k) ((atKey xs k).map (·.2)):=by
  induction r with
  |nil=>exact True.intro
  |@cons p q ps qs h t ih =>
   obtain⟨h1,_,h2⟩:=h;by_cases e:p.1=k
   · have e':q.1=k:=h1.symm.trans e;have b:atKey (q::qs) k=some q.2:=by simp[atKey,rm,e']
     rw[pR e,b];exact h2
   · have e':¬ q.1=k:=fun z=>e (h1.trans z);have b:atKey (q::qs) k=atKey qs k:=by simp[atKey,rm,e']
     rw[pS e,b];exact ih
theorem KT.QI(r:KT H ao xs)(k:List Key)(ry:RelV y u):KT H (ao.map fun kv=>if kv.1=k then(kv.1,y) else kv) (xs.map (putAt k u)):=by
  induction r with
  |nil=>exact .nil
  |@cons p q ps qs h t ih =>
   rw[cD,cD];refine .cons ?_ ih;obtain⟨h1,h2,h3⟩:=h;unfold putAt;by_cases e:p.1=k
   ·rw[az e,az (h1.symm.trans e)];exact⟨h1,h2,ry⟩
   ·rw[ax e,ax (fun z=>e (h1.trans z))];exact⟨h1,h2,h3⟩
theorem KT.put(r:KT H ao xs)(k:List Key)(hb:H b=some (.tup (k.map kV)))(ry:RelV y u):KT H (putK ao k y) (storedH xs k b u):=by
  have e:(ao.any fun kv=>decide (kv.1=k))=(atKey xs k).isSome:=by rw[zT,(r.val k).Gq,Option.isSome_map]
  unfold putK storedH;rw[e];by_cases q:(atKey xs k).isSome=true
  ·rw[az q,az q];exact r.QI k ry
  ·rw[ax q,ax q];exact Paired.snoc r ⟨rfl,hb,ry⟩
theorem KT.keeps(r:KT H ao xs)(ht:∀b ys,H b=some (.tup ys)→H' b=some (.tup ys)):KT H' ao xs :=
  Paired.HQ r fun _ _ z=>⟨z.1,ht _ _ z.2.1,z.2.2⟩
section
variable {P:Program} {w:World} {H:Hp} {h:Heap} {a:Addr}
theorem IK{u:HO}(ok:oC P w H h)(e:Rd H a u):bS P w H h a u:=e.ok ok
theorem zU{ao:List (Key×V)}(ok:oC P w H h)(e:Rd H a (.dK ao)):ao.length≤sizeLine∧(a==sysModules)=false∧∃vs,KV ao vs∧h.DictOf (cJ P w) a vs :=
  show bS P w H h a (.dK ao) from IK ok e
theorem Um{ao:List (Key×V)}(ok:oC P w H h)(e:H a=some (.dK ao)):ao.length≤sizeLine∧(a==sysModules)=false∧∃vs,KV ao vs∧h.DictOf (cJ P w) a vs:=zU ok (.inl e)
theorem ya{ks:List Key}(ok:oC P w H h)(e:H a=some (.tup (ks.map kV))):(tupleKind (cJ P w)).is h ks a:=by
  obtain⟨_,its,r,o,h1,h2,n,h3⟩:=(show bS P w H h a (.tup (ks.map kV)) from ok a _ e)
  exact⟨o,its.toArray,n,h1,h2,h3,by simpa using w6 r⟩
theorem zV(ok:oC P w H h)(e:Rd H a (.dT ao)):ao.length≤sizeLine∧(a==sysModules)=false∧∃xs,KT H ao xs∧h.DictOfH (tupleKind (cJ P w)) a xs:=by
  obtain⟨z,y,xs,r,o,es,ep,h1,h2,h3,h4,h5⟩:=(show bS P w H h a (.dT ao) from IK ok e)
  refine⟨z,y,xs,r,o,es,ep,h1,h2,h3,h4,fun x hx=>?_,h5⟩;have all:∀{l:List (List Key×V)} {m:List (List Key×Addr×Value)},KT H l m→∀x∈m,(tupleKind (cJ P w)).is h x.1 x.2.1:=by
    intro l m q;induction q with
    |nil=>intro x hx;exact nomatch hx
    |@cons p q ps qs hq t ih =>
     intro x hx;rcases dc.mp hx with e|hx
     ·subst e;exact ya ok (by rw[←hq.1];exact hq.2.1)
     ·exact ih x hx
  exact all r x hx
theorem Uo(ok:oC P w H h)(e:H a=some (.dT ao)):ao.length≤sizeLine∧(a==sysModules)=false∧∃xs,KT H ao xs∧h.DictOfH (tupleKind (cJ P w)) a xs:=zV ok (.inl e)
end
def Gs(H:Hp)(a:Addr)(y:V)(r:Option V):Prop :=
  (∃ao k,Rd H a (.dK ao)∧y=kV k∧r=nP ao k)∨∃ao k b,Rd H a (.dT ao)∧y=.ref b∧H b=some (.tup (k.map kV))∧r=nP ao k
def Gu(H:Hp)(a:Addr)(y v:V)(H':Hp):Prop :=
  (∃ao k,H a=some (.dK ao)∧y=kV k∧ao.length<sizeLine∧H'=upd H a (.dK (putK ao k v))) ∨
  ∃ao k b,H a=some (.dT ao)∧y=.ref b∧H b=some (.tup (k.map kV))∧ao.length<sizeLine∧H'=upd H a (.dT (putK ao k v))
theorem Gu.t{k:List Key}(e:H a=some (.dT ao))(eb:H b=some (.tup (k.map kV)))(hl:ao.length<sizeLine):Gu H a (.ref b) v (upd H a (.dT (putK ao k v))):=.inr ⟨ao,k,b,e,rfl,eb,hl,rfl⟩
section
variable {X:Cx} {pins:gw} {σ:St} {H:Hp} {s:Shared} {a:Addr} {y v:V} {u r:Value} {o:Option V} {A:Around} {E:ic}
theorem Inv.big(I:Inv X pins σ H s):sysModules<s.heap.objs.size:=by have h:mainGlobals<s.heap.objs.size:=(I.mod.glob.keeps I.bk).lt;exact Nat.lt_trans (by decide) h
theorem Gv(hu:A.units+1<cLine)(I:Inv X pins σ H s)(g:Gs H a y (some v))(ry:RelV y u)(h:∀w' s',Inv X pins σ H s'→RelV v w'→Q w' s'):wpAny (model X.prog X.w) A (getItem (.ref a) u) Q E s:=by
  rcases g with⟨ao,k,e,ey,l⟩|⟨ao,k,b,e,ey,eb,l⟩
  ·subst ey;obtain⟨z,hd,vs,rel,dd⟩:=zU I.bV e;obtain⟨w',hw,IC⟩:=lS.some_of (v:=v) (o:=valueAt vs k) (by rw[l];exact rel.val k);exact wpAny_getItem_of (El ry) dd.mapOf hw (h w' _ (I.tok _) IC)
  ·subst ey;cases(show u=Value.ref b from ry);obtain⟨z,hd,xs,rel,dd⟩:=zV I.bV e;obtain⟨w',hw,IC⟩:=lS.some_of (v:=v) (o:=(atKey xs k).map (·.2)) (by rw[l];exact rel.val k);obtain⟨p,hp,S5⟩:=iD.mp hw;refine wpAny_getItem_heap (tupleKind_room_in1 hu) (ya I.bV eb) dd hp ?_;rw[S5];exact h w' _ (I.tok _) IC
theorem Em{ob:HO}(I:Inv X pins σ H s)(mu:SX (H a))(hs:Heap.SameBut a s.heap h')(he:∃q,h'.get? a=some q)(new:bS X.prog X.w (upd H a ob) h' a ob):Inv X pins σ (upd H a ob) { s with heap:=h',toks:=t' } :=
  I.write (x:=a) (e:=a) mu (.inl rfl) (fun b q hb z=>(hs.2 b hb).trans z) he new
theorem QJ{ao:List (Key×V)}{vs:List (Key×Value)}(z:ao.length≤sizeLine)(hd:(a==sysModules)=false)(rel:KV ao vs)(dd:h'.DictOf (cJ P w) a vs):bS P w H' h' a (.dK ao):=⟨z,hd,vs,rel,dd⟩
theorem Gw{Q:Unit→Shared→Prop}(hu:A.units+1<cLine)(I:Inv X pins σ H s)(g:Gu H a y v H')(ry:RelV y u)(rv:RelV v r)(h:∀s',Inv X pins σ H' s'→Q () s'):wpAny (model X.prog X.w) A (setItem (.ref a) u r) Q E s:=by
  rcases g with⟨ao,k,e,ey,l,eH⟩|⟨ao,k,b,e,ey,eb,l,eH⟩
  · subst ey eH;obtain⟨z,hd,vs,rel,dd⟩:=Um I.bV e;have hz:vs.length≤sizeLine:=by rw[←rel.length];exact z
    have hl:(putK ao k v).length≤sizeLine:=by have:=jL ao k v;omega
    refine wpAny_setItem_pairs (hsz:=hz) (El ry) dd fun h' Wk hs=>h _ ?_;have he:∃q,h'.get? a=some q:=let ⟨q,_,_,hq,_⟩:=Wk;⟨q,hq⟩
    exact Em I (by rw[e];exact True.intro) hs he (QJ hl hd (rel.put k rv) Wk)
  · subst ey eH;cases(show u=Value.ref b from ry);obtain⟨z,hd,xs,rel,dd⟩:=Uo I.bV e;have hz:xs.length≤sizeLine:=by rw[←pK rel];exact z
    have hl:(putK ao k v).length≤sizeLine:=by have:=jL ao k v;omega
    refine wpAny_setItem_heap (hsz:=hz) (tupleKind_room_in1 hu) (ya I.bV eb) dd fun h' Wk hs=>h _ ?_;obtain⟨q,es,ep,hq,h2,h3,h4,_,h5⟩:=Wk;refine Em I (by rw[e];exact True.intro) hs ⟨q,hq⟩ ⟨hl,hd,_,(rel.put k eb rv).keeps fun c ys ec=>?_,q,es,ep,hq,h2,h3,h4,h5⟩;rw[ai (mr ec e (fun z=>nomatch z))];exact ec
end
def QK(i:Expr):Prop:=∀ov iv,subscripted i false ov iv=operate [ov,iv] (getItem ov iv)
theorem Mw{prog:Program}{env:Env}{value slice:Expr}{T id:String}(hl:typeLookup (.type T) "__getitem__"=pure (some (.builtin id)))(hs:QK slice)(h:wpAny (model prog w) A (eval value env) (fun o s₁=>wpAny (model prog w) A (eval slice env) (fun i s₂=>s₂.TypeIs o T∧wpAny (model prog w) A (getItem o i) Q E s₂) E s₁) E s):wpAny (model prog w) A (eval (.Subscript value slice pos) env) Q E s:=by
  refine Subscript_ (jK h (fun o s₁ h₁=>jK h₁ (fun i s₂ h₂=>?_) fun _ _ x=>x) fun _ _ x=>x);obtain⟨hT,h₂⟩:=h₂;unfold subscriptTail;refine aE ?_;rw[getitemInPython_of_ne hT.not_modules];refine aE (wpAny_specialOf hT hl ?_);have fin:wpAny (model prog w) A (subscripted slice false o i) (fun r s₃=>wpAny (model prog w) A (letTemporaryGo value o r>>=fun _=>pure r) Q E s₃) E s₂:=by rw[hs o i];exact wpAny_operating (jK h₂ (fun r s₃ h₃=>aE (wpAny_letTemporaryGo (bP h₃))) fun _ _ x=>x)
  first
    |exact bP (aE fin)
    |exact aE (bP (aE fin))
    |exact aE fin
theorem zW{o:Option V}(I:Inv X pins σ H s)(g:Gs H a y o):s.TypeIs (.ref a) "dict":=by
  rcases g with⟨ao,k,e,_,_⟩|⟨ao,k,b,e,_,_,_⟩
  ·obtain⟨_,_,vs,_,dd⟩:=zU I.bV e;exact dd.typeIs
  ·obtain⟨_,_,xs,_,dd⟩:=zV I.bV e;exact dd.typeIs
def Uq(td ty:TE):TE:=fun σ H Q=>td σ H fun x H1=>ty σ H1 fun y H2=>∃a v,x=.ref a∧Gs H2 a y (some v)∧Q v H2
def Ur(td ty tv:TE):TS:=fun D σ H=>tv σ H fun v H1=>td σ H1 fun x H2=>ty σ H2 fun y H3=>∃a H4,x=.ref a∧Gu H3 a y v H4∧D.nx σ H4
section
variable {X:Cx} {o i e value:Expr} {pos pos' um:Pos} {td ty tv:TE}
theorem Mx(hu:X.A.units+1<cLine)(ho:PE X o td)(hi:PE X i ty)(hs:QK i):PE X (.Subscript o i pos) (Uq td ty):=by intro pins s σ H Q I h;refine Mw PySem.F.slot_dict_getitem.lookup hs (cN (ho pins s σ H _ I h) fun u s1 ⟨x,H1,I1,rx,q1⟩=>cN (hi pins s1 σ H1 _ I1 q1) fun iv s2 ⟨y,H2,I2,ry,a,v,ex,g,q2⟩=>?_);subst ex;obtain rfl:u=Value.ref a:=rx;exact⟨zW I2 g,Gv hu I2 g ry fun w' s3 I3 IC=>⟨v,H2,I3,IC,q2⟩⟩
theorem En(hu:X.A.units+1<cLine)(ho:PE X o td)(hi:PE X i ty)(hv:PE X value tv)(hs:swapsWith value (some (.Subscript o i pos')) pos.line X.env=pure false):PS X (.Assign [.Subscript o i pos'] value pos) (Ur td ty tv):=by
  intro pins s σ H D I h;refine wpAny_Assign_Subscript (cN (hv pins s σ H _ I h) fun r s1 ⟨v,H1,I1,rv,q1⟩=>cN (ho pins s1 σ H1 _ I1 q1) fun u s2 ⟨x,H2,I2,rx,q2⟩=>cN (hi pins s2 σ H2 _ I2 q2) fun iv s3 ⟨y,H3,I3,ry,a,H4,ex,g,q3⟩=>?_) hs;subst ex;obtain rfl:u=Value.ref a:=rx;exact Gw hu I3 g ry rv fun s4 I4=>⟨σ,H4,I4,q3⟩
end
theorem IL(h:Heap)(hb:sysModules<h.objs.size):bS P w H (h.push { cls:=.type "dict",data:=.dict #[] }) h.objs.size (.dT []) :=
  ⟨ik _,beq_eq_false_iff_ne.mpr (cT (dP hb)),[],.nil,_,#[],0,iE _ rfl,⟨rfl,rfl,rfl⟩,rfl,rfl,List.nodup_nil⟩
def QL:TE:=fun _ H Q=>∀p,H p=none→Q (.ref p) (upd H p (.dT []))
section
variable {X:Cx} {pos:Pos}
theorem pT:PE X (.Dict [] [] pos) QL:=fun pins s σ H Q I h =>
  wpAny_Dict_empty ⟨.ref s.heap.objs.size,_,I.laid (a:=s.heap.objs.size) (o:=.dT []) (t':=s.toks) (fun _ _ q=>dC _ q) (bJ _) (IL s.heap I.big),rfl,h _ (I.bV.fresh (bJ _))⟩
end
structure M1 (X:Cx) (o:Expr) (m:Str) (apos:Pos) (e:Expr) (aX:Pos):Prop where
  base:attributeBase o m X.env (eval o X.env)=eval o X.env
  few:((backTo aX (starEach [e] X.env)).all (fun x=>!x.1)&&(backToKw aX (keywordEach [] X.env)).all (fun x=>x.1.isSome)
    && decide (([e]:List Expr).length+([]:List Keyword).length+(if ([]:List Keyword).isEmpty then 0 else 1)<30))=true
  line:(apos.endLine==aX.line)=true
  trees:backTo aX (starEach [e] X.env)=[(false,eval e X.env)]
structure M2 (X:Cx) (o:Expr) (m:Str) (apos:Pos) (e f:Expr) (aX:Pos):Prop where
  base:attributeBase o m X.env (eval o X.env)=eval o X.env
  few:((backTo aX (starEach [e,f] X.env)).all (fun x=>!x.1)&&(backToKw aX (keywordEach [] X.env)).all (fun x=>x.1.isSome)
    && decide (([e,f]:List Expr).length+([]:List Keyword).length+(if ([]:List Keyword).isEmpty then 0 else 1)<30))=true
  line:(apos.endLine==aX.line)=true
  trees:backTo aX (starEach [e,f] X.env)=[(false,eval e X.env),(false,eval f X.env)]
def IsD(H:Hp)(a:Addr):Prop:=(∃ao,Rd H a (.dK ao))∨∃ao,Rd H a (.dT ao)
theorem QM(I:Inv X pins σ H s)(d:IsD H a):s.TypeIs (.ref a) "dict"∧(∀b,Value.ref a=.ref b→∃ob,s.heap.get? b=some ob∧ob.dict=none)∧(a==sysModules)=false:=by
  rcases d with⟨ao,e⟩|⟨ao,e⟩
  ·obtain⟨_,hd,vs,_,dd⟩:=zU I.bV e;refine⟨dd.typeIs,fun b q=>?_,hd⟩;cases q;obtain⟨ob,_,_,h1,h2,_⟩:=dd;exact⟨ob,h1,h2.2.1⟩
  ·obtain⟨_,hd,xs,_,dd⟩:=zV I.bV e;refine⟨dd.typeIs,fun b q=>?_,hd⟩;cases q;obtain⟨ob,_,_,h1,h2,_⟩:=dd;exact⟨ob,h1,h2.2.1⟩
section
variable {X:Cx} {pins:gw} {σ:St} {H:Hp} {s:Shared} {a:Addr} {y d:V} {u r:Value} {o:Option V} {A:Around} {E:ic}
theorem QN(hu:A.units+1<cLine)(I:Inv X pins σ H s)(g:Gs H a y o)(ry:RelV y u)(rd:RelV d r)(h:∀w' s',Inv X pins σ H s'→RelV (o.getD d) w'→Q w' s'):wpAny (model X.prog X.w) A (call (.builtin "dict.get") [.ref a,u,r]) Q E s:=by
  rcases g with⟨ao,k,e,ey,l⟩|⟨ao,k,b,e,ey,eb,l⟩
  ·subst ey;obtain⟨z,hd,vs,rel,dd⟩:=zU I.bV e;refine call_meetsIn PySem.F.slot_dict_get dd.typeIs PySem.F.entry_dict_get (PySem.F.args_dict_get_3 _ _ _) (meets_dict_get_default (cJ X.prog X.w) a (El ry) hd r) ⟨_,dd.mapOf,h _ _ (I.tok _) ?_⟩;rw[l];exact(rel.val k).getD rd
  ·subst ey;cases(show u=Value.ref b from ry);obtain⟨z,hd,xs,rel,dd⟩:=zV I.bV e;refine call_meetsIn PySem.F.slot_dict_get dd.typeIs PySem.F.entry_dict_get (PySem.F.args_dict_get_3 _ _ _) (meetsH_dict_get_default (tupleKind (cJ X.prog X.w)) a b hd r) ⟨tupleKind_room_in1 hu,k,xs,ya I.bV eb,dd,h _ _ (I.tok _) ?_⟩;rw[l];exact(rel.val k).getD rd
end
def QO(td ty tx:TE):TE:=fun σ H Q=>td σ H fun x H1=>∃a,x=.ref a∧IsD H1 a∧ty σ H1 fun y H2=>tx σ H2 fun z H3=>∃o,Gs H3 a y o∧Q (o.getD z) H3
section
variable {X:Cx} {o e f:Expr} {apos aX:Pos} {td ty tx:TE}
theorem zY(hu:X.A.units+1<cLine)(ho:PE X o td)(he:PE X e ty)(hf:PE X f tx)(m:M2 X o "get" apos e f aX):PE X (.Call (.Attribute o "get" apos) [e,f] [] aX) (QO td ty tx):=by
  intro pins s σ H Q I h;refine wpAny_Call_method m.base m.few m.line PySem.F.plainAttrs_dict PySem.F.slot_dict_get PySem.F.type_dict_get (cN (ho pins s σ H _ I h) fun u s1 ⟨x,H1,I1,rx,a,ex,d,q1⟩=>?_);subst ex;obtain rfl:u=Value.ref a:=rx;obtain⟨t1,t2,_⟩:=QM I1 d;refine⟨t1,t2,?_⟩;rw[m.trees];refine Calls.callWith_builtin rfl (Calls.evalArgs_plain (wa (cN (he pins s1 σ H1 _ I1 q1) fun iv s2 ⟨y,H2,I2,ry,q2⟩ =>
    wa (cN (hf pins s2 σ H2 _ I2 q2) fun fv s3 ⟨z,H3,I3,rz,ov,g,q3⟩=>xJ ?_))))
  exact QN hu I3 g ry rz fun w' s4 I4 IC=>⟨_,H3,I4,IC,q3⟩
end
end L2
namespace Att
open PySem PySem.W PySem.Calls PyProof.Rows
theorem tF{P:Params}:∀(ns:bL) (vs:cA),WellAll P h vs (ns.map WData.int)→IntsAre vs ns:=by
  intro ns;induction ns with
  |nil=>intro vs w;rw[rq] at w;cases w;exact .nil
  |cons n ns ih =>
   intro vs w;rw[cD] at w;cases w with
   |cons a b=>cases a;exact .cons _ _ (ih _ b)
theorem Gx{l:OpenLaw}(hn:l.most=some n){P:Params}{args:List WData}{vals:cA}(My:l.row.toRowW.claim.pre args=true)(Xx:WellAll P h vals args):∃a vs ns,vals=[Value.ref a]∧args=[WData.list (ns.map WData.int)]∧h.get? a=some { cls:=.type "list",data:=.seq vs.toArray }∧IntsAre vs ns∧ns.length≤n:=by
  have hsh:WShape.hasAll [] args [.list .int]=true:=(pre_splitW My).1;have hc:l.pre.holds [] { args:=args }=true:=(pre_splitW My).2;obtain⟨d,r,rfl,h1,h2⟩:=hasAllW_cons hsh;obtain rfl:=hasAllW_nil h2;obtain⟨xs,rfl,h3⟩:=hasW_list h1;obtain⟨ns,rfl⟩:=items_int h3;have hlen:ns.length≤n:=by
    unfold OpenLaw.pre at hc;have h4:(WTm.not (.lt (.lit (.int (n:Int))) (.len (.arg 0)))).holds [] { args:=[.list (ns.map .int)] }=true:=by have h4:=(holds_andW hc).1;rw[hn] at h4;exact h4
    have h5:=condW_of h4 (w_not (w_lt w_lit (w_len_list (w_arg rfl))));rw[bY] at h5;refine Nat.le_of_not_lt fun q=>?_;have q':(n:Int)<((ns.length:Nat):Int):=by omega
    first
      |(rw[mj q'] at h5;exact absurd h5 (by decide))
      |(simp at h5;omega)
  cases Xx with
  |cons w1 w2 =>
   cases w2;cases w1 with
   |list ho oJ=>exact⟨_,_,ns,rfl,rfl,ho,tF ns _ oJ,hlen⟩
theorem Gy(l:OpenLaw)(args:List WData):l.row.toRowW.claim.post args (.bool true) args=true :=
  postW_of (r:=l.row.toRowW) (X:=(true==true))
    (show WShape.has [] (.bool true) .bool=true by first|rfl|decide|simp[WShape.has,WShape.arms,WShape.armsAll])
    (show(WTm.eq .res (.lit (.bool true))).value [] { args:=args,res:=some (.bool true),after:=args }=some (.bool (true==true)) from w_eq_bool (w_res rfl) w_lit) rfl
theorem zZ{l:OpenLaw}{q:Program}{loose:dB}{d:DefRec}(hn:l.most=some n)(Us:d.params.defaults=[])(call:∀(w:World) (s₀ s₁:Shared) (mg mb:Str→fQ) (fa:Addr) (o:Obj) (pm cd doc:Value) (a:Addr) (vs:cA) (ns:bL),Ground q loose [] XP w s₀ mg mb s₁.heap→YP w s₁.heap→s₁.heap.get? fa=some o→o.data=.func (docDef d.name d.params d.body d.scope pm cd doc)→s₁.heap.CodeRec cd d.name→mg d.name=some (.ref fa)→s₁.heap.get? a=some { cls:=.type "list",data:=.seq vs.toArray }→IntsAre vs ns→ns.length≤n→s₁.gens=#[]→codeAny (model l.prog w) callerA (.call (.ref fa) ⟨[.ref a],[]⟩) (fun r s'=>r=.ok (.ret (.bool true))∧OldK s₁.heap s'.heap∧s'.os=s₁.os∧AllBare s'.gens) s₁):WalkO q loose XP YP l.row.toRowW d [] (fun f vs=>PySem.call f vs):=by
  intro w s₀ s₁ mg mb G Y fa o pm cd doc dV kV ho hd dU hD Ut hg args vals as My hlay hrd Xx hlo;obtain rfl:dV=.none:=Dflts.none hD Us;obtain rfl:kV=.none:=Dflts.noKw hD;obtain⟨a,vs,ns,rfl,rfl,QP,hints,hlen⟩:=Gx hn My Xx;refine enter_call (codeAny_mono (call w s₀ s₁ mg mb fa o pm cd doc a vs ns G Y ho (fd_plain hd) dU Ut QP hints hlen hg) fun r s' hq=>?_);obtain⟨rfl,h2,h3,h4⟩:=hq;exact⟨.inl ⟨.bool true,.bool true,[],rfl,fun _=>rfl,.bool true,Gy l _,fun _=>⟨List.Pairwise.nil,fun _ hm=>(nomatch hm)⟩⟩,h2,h3,h4⟩
end Att
namespace L2
open PySem PySem.Spec PyProof.Rows
theorem rL:∀{vs:cA} {ns:bL},IntsAre vs ns→Vals (ns.map V.int) vs
  |_,_,.nil=>.nil
  |_,_,.cons n t h=>.cons ⟨t,rfl⟩ (rL h)
def Mz(H:Hp):Prop:=∀b,H b=none∨(∃o xs,H b=some (.gM o (.lst xs))∧xs.length≤sizeLine)∨∃ps,H b=some (.LY ps)
theorem IQ{K:PySem.W.Frag}{mb:Str→fQ}{CX:HF}{fa:Addr}{sp:Sp}{s₁:Shared}{vs:cA}(KX:K.In s₁.heap)(QQ:s₁.heap.Ns mainGlobals mg)(hb:s₁.heap.Ns builtinsNs mb)(hbb:∀x:Str,x≠"__name__"→mb x=bootBuiltins x)(Xy:s₁.heap.NoLimit)(hg:s₁.gens=#[])(ha:s₁.heap.get? a=some { cls:=.type "list",data:=.seq vs.toArray })(hi:IntsAre vs ns)(hl:ns.length≤sizeLine)(hr:cW k callerA)(F:∀base:Heap,K.In base→base.Ns mainGlobals mg→cE P w K mg base CX k fa fd [x] sp)(Uu:∀(s:Shared) (u:Value),BindsTo s fd ⟨[u],[]⟩ [(x,u)])(B4:∀H:Hp,Mz H→eY K H a (ns.map V.int)→sp [.ref a] H (fun v _=>v=.bl true) fun _ _ _=>False)(Xz:∀H e s',CX [] H s₁ (fun _ _ _=>False) e s'→False):codeAny (model P w) callerA (.call (.ref fa) ⟨[.ref a],[]⟩) (fun r s'=>r=.ok (.ret (.bool true))∧OldK s₁.heap s'.heap∧s'.os=s₁.os∧AllBare s'.gens) s₁:=by
  have rv:=rL hi;have XA:=hi.length
  -- from an abstract heap in which nothing but the script may be tracked
  have core:∀H:Hp,Mz H→eY K H a (ns.map V.int)→oC P w H s₁.heap→(∀b,H b≠none→b=a)→(H a≠none→K.lookup a=none) →
      codeAny (model P w) callerA (.call (.ref fa) ⟨[.ref a],[]⟩) (fun r s'=>r=.ok (.ret (.bool true))∧OldK s₁.heap s'.heap∧s'.os=s₁.os∧AllBare s'.gens) s₁:=by
    intro H hO hS bV hA hK;have Eo:∀{b:Addr} {o:Obj},s₁.heap.get? b=some o→H b=none→(xO s₁.heap H).get? b=some o:=fun e n=>HR e n;have Ue:∀{b:Addr} {o:Obj} {es:Array DictEntry} {ep:Nat},s₁.heap.get? b=some o→o.data=.dict es ep→H b=none:=fun {b o es ep} e d=>by
      cases q:H b with
      |none=>rfl
      |some u=>have e':b=a:=hA b (by rw[q];simp);subst e';rw[ha] at e;cases e;have d':Data.seq vs.toArray _=Data.dict es ep:=d;cases d'
    have Wl:∀{b:Addr} {m:Str→fQ},s₁.heap.Ns b m→(xO s₁.heap H).Ns b m:=fun {b m} ⟨o,es,ep,e,d,r⟩=>⟨o,es,ep,Eo e (Ue e d),d,r⟩
    have hKb:K.In (xO s₁.heap H):=fun b o e=>Eo (KX b o e) (by
      cases q:H b with
      |none=>rfl
      |some u =>
       have e':b=a:=hA b (by rw[q];simp);subst e';rw[hK (by rw[q];simp)] at e;cases e)
    have hM:Mod K mg (xO s₁.heap H):=⟨hKb,Wl QQ,⟨mb,Wl hb,hbb⟩,let ⟨mc,h1,h2⟩:=Xy;⟨mc,Wl h1,h2⟩⟩
    have e0:zL P w K mg (xO s₁.heap H) callerA [] s₁ H:=⟨rfl,hM,fun b o e=>L7 e,Nat.le_of_eq (FY _ _),trivial,fun b hb=>absurd (show b∈([]:List Addr) from hb) (by simp),bV,.of_eq hg⟩
    refine codeAny_mono ((F _ hKb (Wl QQ)).run callerA [] s₁ H ⟨[.ref a],[]⟩ [.ref a] [.ref a] _ _ hr e0 (Uu s₁ (.ref a)) (.cons rfl .nil) (B4 H hO hS)) fun r s' h=>?_;cases r with
    |error e=>exact(Xz H e s' h).elim
    |ok fl =>
     cases fl with
     |next=>exact False.elim h
     |brk=>exact False.elim h
     |cont=>exact False.elim h
     |ret u =>
      obtain⟨v,H',os,bare,un,XB,r',q⟩:=h;have q':v=.bl true:=q;subst q';obtain rfl:u=Value.bool true:=r';refine⟨rfl,OldK.of_keep fun b o e=>?_,os,bare⟩;cases q:H b with
      |none=>exact un.keep b o e q (by intro z;exact absurd (show b∈([]:List Addr) from z) (by simp)) (by simp)
      |some u =>
       rcases hO b with z|⟨ob,xs,z,_⟩|⟨ps,z⟩
       ·rw[q] at z;cases z
       rotate_left
       · exfalso;have e':b=a:=hA b (by rw[q];simp);subst e';obtain⟨_,_,_,e1,_⟩:=(show bS P w H s₁.heap b (.LY ps) from bV b _ z)
         rw[ha] at e1;cases e1
       ·have z2:=un.oF b ob _ z;obtain⟨e1,_⟩:=bV b _ z;obtain⟨e2,_⟩:=XB b _ z2;rw[e] at e1;cases e1;exact e2
  cases hk:K.lookup a with
  |some o =>
   -- the script is one of the module's own objects
   have e:=KX a o hk;rw[ha] at e;cases e;refine core (fun _=>none) (fun _=>.inl rfl) (.inr ⟨_,vs.toArray,_,hk,rfl,rfl,rfl,by rw[eA,XA];exact hl,by simpa using rv⟩) (fun b u z=>by have z':(none:Option HO)=some u:=z;cases z') (fun b z=>absurd rfl z) fun z=>absurd rfl z
  |none =>
   refine core (fun b=>if b=a then some (.gM { cls:=.type "list",data:=.seq vs.toArray } (.lst (ns.map V.int))) else none) (fun b=>?_) (.inl (.inr ⟨{ cls:=.type "list",data:=.seq vs.toArray },az rfl⟩)) (fun b u z=>?_) (fun b z=>?_) fun _=>hk
   · by_cases hb:b=a
     ·exact .inr (.inl ⟨_,_,az hb,by rw[bY];exact hl⟩)
     ·exact .inl (ax hb)
   · by_cases hb:b=a
     ·have z':=(az hb).symm.trans z;cases z';subst hb;exact⟨ha,by rw[bY];exact hl,vs,_,rv,ha⟩
     ·have z':=(ax hb).symm.trans z;cases z'
   · by_cases hb:b=a
     ·exact hb
     ·exact absurd (ax hb) z
theorem MA{l:PySem.W.OpenLaw}{q:Program}{loose:dB}{d:DefRec}{K:Params→PySem.W.Frag}{CX:World→HF}{sp:World→Sp}(hn:l.most=some n)(Wg:n≤sizeLine)(Us:d.params.defaults=[])(hr:cW k callerA)(hY:∀(w:World) (h:Heap),YP w h→(K w.params).In h)(F:∀(w:World) (mg:Str→fQ) (fa:Addr) (h:Heap),(K w.params).In h→h.Ns mainGlobals mg→mg d.name=some (.ref fa)→∃fd:FuncData,(∀(s:Shared) (u:Value),BindsTo s fd ⟨[u],[]⟩ [(x,u)])∧∀base:Heap,(K w.params).In base→base.Ns mainGlobals mg→cE l.prog w (K w.params) mg base (CX w) k fa fd [x] (sp w))(B4:∀(w:World) (H:Hp) (a:Addr) (ns:bL),ns.length≤n→Mz H→eY (K w.params) H a (ns.map V.int)→sp w [.ref a] H (fun v _=>v=.bl true) fun _ _ _=>False)(Xz:∀(w:World) (H:Hp) (s:Shared) (e:Value) (s':Shared),CX w [] H s (fun _ _ _=>False) e s'→False):PySem.W.WalkO q loose XP YP l.row.toRowW d [] (fun f vs=>PySem.call f vs):=by
  refine Att.zZ hn Us fun w s₀ s₁ mg mb fa o pm cd doc a vs ns G Y ho hd dU Ut QP hints hlen hg=>?_;have KX:=hY w _ Y;obtain⟨fd,hb,hF⟩:=F w mg fa _ KX G.T.g Ut;exact IQ KX G.T.g G.T.b G.T.builtins G.T.nolimit hg QP hints (fR hlen Wg) hr hF hb (fun H hO hS=>B4 w H a ns hlen hO hS) fun H e s'=>Xz w H s₁ e s'
abbrev mz:HF:=fun _ _ _ _ _ _=>False
abbrev E0:XK:=fun _ _ _=>False
theorem IU:Passes mz X E0:=fun _ _ _ _ _ _ _ h=>h.elim
structure lX (K:PySem.W.Frag) (x qual:Str) (st:Stmt) (f:Addr) (fd:FuncData):Prop where
  ex:∃(oc:Value) (od:Option Addr) (kV doc pm:Value) (an:Option Addr) (dk ct:Value) (xM:Array fQ),
    fd=fnOf x qual (bM st) (bA st) (aj st) .none kV doc pm an dk ct∧K.lookup f=some ⟨oc,od,.func fd,xM⟩∧codeIn K dk qual=true
  kp:keepIn K (.ref f)=true
section
variable {P:Program} {w:World} {K:PySem.W.Frag} {mg:Str→fQ} {base:Heap}
theorem lX.ok{st:Stmt}{f:Addr}{ps:dB}{sp:Sp}(F:lX K x qual st f fd)(S:bq N ps (aj st))(len:∀vs H Q E,sp vs H Q E→vs.length=ps.length)(Iz:∀(dk:Value) (A:Around) (outer:List Env) (s:Shared) (H:Hp) (vs:List V) (Q:VK) (E:XK),cW k (A.deeper (envOfC qual (aj st) s.heap.objs.size f dk))→sp vs H Q E→∃t,xQ (wm mz P w K mg base N qual (aj st) f dk A outer s H E).L0 (bA st) t∧t { nx:=fun _ H'=>Q .non H',rt:=Q } (start N vs) H):cE P w K mg base mz (k+1) f fd ps sp:=by
  obtain⟨oc,od,kV,doc,pm,an,dk,ct,xM,rfl,lk,dU⟩:=F.ex;refine Iw lk dU S len fun A outer s H vs Q E hr B4=>?_;obtain⟨t,h,q⟩:=Iz dk A outer s H vs Q E hr B4;exact⟨t,h.L0,q⟩
theorem lX.binds{st:Stmt}{f:Addr}{ps:dB}(F:lX K x qual st f fd)(h:∀(kV doc pm:Value) (an:Option Addr) (dk ct:Value) (us:cA),us.length=ps.length→bindArgs (fnOf x qual (bM st) (bA st) (aj st) .none kV doc pm an dk ct) ⟨us,[]⟩=pure (ps.zip us)):Binds K fd ps []:=by
  obtain⟨oc,od,kV,doc,pm,an,dk,ct,xM,rfl,lk,dU⟩:=F.ex;exact .all (h kV doc pm an dk ct)
theorem yb{st:Stmt}{f:Addr}{oc:Value}{kV doc pm dk ct:Value}(l:K.lookup f=some ⟨oc,od,.func (fnOf x qual (bM st) (bA st) (aj st) .none kV doc pm an dk ct),xM⟩)(c:codeIn K dk qual=true)(k:keepIn K (.ref f)=true):lX K x qual st f (fnOf x qual (bM st) (bA st) (aj st) .none kV doc pm an dk ct):=⟨⟨oc,od,kV,doc,pm,an,dk,ct,xM,rfl,l,c⟩,k⟩
end
theorem nV(hr:cW k A):A.units+1<cLine:=Nat.lt_of_le_of_lt (Nat.add_le_add_left (by decide:1≤64) _) hr.units
theorem eG(h:n≤1000):n<sizeLine:=Nat.lt_of_le_of_lt h (by decide)
section
variable {X:Cx}
theorem pv(i:Nat)(hN:X.N[i]?=some x:=by rfl)(hv:pL X.env.scope x:=by first|exact Or.inl rfl|exact Or.inr (Or.inl rfl)|exact Or.inr (Or.inr rfl))(hd:(x==("__debug__":Str))=false:=by decide)(dU:(x==("__classdict__":Str))=false:=by decide):PE X (.Name x pos) (jZ i):=cO hN hv hd dU
end
theorem QR{A B:Prop}(h:B):if false=true then A else B:=by rw[ax eT];exact h
theorem Uv{A B:Prop}(h:A):if true=true then A else B:=by rw[az rfl];exact h
def bH(H H':Hp):Prop:=∀b o,H b=some o→H' b=some o
theorem bH.refl(H:Hp):bH H H:=fun _ _ h=>h
theorem bH.trans{H1 H2:Hp}(a:bH H H1)(b:bH H1 H2):bH H H2:=fun c o h=>b c o (a c o h)
theorem bH.free(e:bH H H'){l:Addr}(h:H' l=Option.none):H l=Option.none:=by
  cases q:H l with
  |none=>rfl
  |some o=>rw[e l o q] at h;cases h
theorem bH.seq{K:PySem.W.Frag}{xs:List V}(e:bH H H')(h:eY K H a xs):eY K H' a xs:=by
  rcases h with(h|⟨o,h⟩)|h
  ·exact .inl (.inl (e _ _ h))
  ·exact .inl (.inr ⟨o,e _ _ h⟩)
  ·exact .inr h
section
variable {κ:Type} [DecidableEq κ]
theorem yc:∀{l:List κ} {k:κ},l.Nodup→¬ k∈l→(l++[k]).Nodup
  |[],k,_,_=>by simp
  |a::r,k,h,hk=>by
   obtain⟨h1,h2⟩:=List.nodup_cons.mp h;show(a::(r++[k])).Nodup;refine List.nodup_cons.mpr ⟨fun m=>?_,yc h2 fun m=>hk (dc.mpr (Or.inr m))⟩;rcases mh.mp m with q|q
   ·exact h1 q
   ·exact hk (dc.mpr (Or.inl (xH.mp q).symm))
end
def iH(cells:List (Str×Addr)):List (Str×NameKind)→List (Str×Addr)→List (Str×Addr)
  |[],acc=>acc
  |(n,k)::r,acc=>iH cells r (match k,cells.lookup n with|.free,some c=>(n,c)::acc|_,_=>acc)
theorem wu{env:Env}(h:∀x∈scope.names,x.2=.free→∃c,env.cells.lookup x.1=some c):closureFor scope env=pure (iH env.cells scope.names []):=by
  have go:∀(names:List (Str×NameKind)) (acc:List (Str×Addr)),(∀x∈names,x.2=.free→∃c,env.cells.lookup x.1=some c) →
      (forIn names acc (fun(x:Str×NameKind) (cs:List (Str×Addr))=>if (x.2==NameKind.free)=true then(do let c ←cellOf env x.1;pure (ForInStep.yield ((x.1,c)::cs)):Sem _) else pure (ForInStep.yield cs)):Sem (List (Str×Addr)))=pure (iH env.cells names acc):=by
    intro names;induction names with
    |nil=>intro acc _;rfl
    |cons x r ih =>
     intro acc hx;obtain⟨n,k⟩:=x;rw[List.forIn_cons];by_cases hk:k=.free
     · subst hk;obtain⟨c,hc⟩:=hx (n,.free) eR rfl;have e:cellOf env n=pure c:=by unfold cellOf;rw[hc]
       simp only[beq_self_eq_true,cw,e,pure_bind];rw[ih _ fun y hy=>hx y (ef _ hy)];simp[iH,hc]
     · have hb:(k==NameKind.free)=false:=by simpa using hk
       simp only[hb,rh,il,pure_bind];rw[ih _ fun y hy=>hx y (ef _ hy)]
       congr 1
       cases k<;>first|exact absurd rfl hk|rfl
  have g:=go scope.names [] h;unfold closureFor;rw[show(fun(x:Str×NameKind) (r:List (Str×Addr))=>_)=_ from rfl] at g;refine Eq.trans ?_ g
  first|rfl|exact bind_pure _|(simp only[bind_pure];rfl)
theorem uq(cells:List (Str×Addr)):∀(names:List (Str×NameKind)) (acc:List (Str×Addr)) (x:Str) (c:Addr),(∀y d,acc.lookup y=some d→cells.lookup y=some d)→(iH cells names acc).lookup x=some c→cells.lookup x=some c
  |[],acc,x,c,ha,h=>ha x c h
  |(n,k)::r,acc,x,c,ha,h=>by
   refine uq cells r _ x c (fun y d hy=>?_) h;split at hy
   · rename_i e1 e2;rw[wd] at hy;cases hb:y==n with
     |true=>rw[hb] at hy;cases hy;have:y=n:=by simpa using hb
            rw[this];exact e2
     |false=>rw[hb] at hy;exact ha y d hy
   ·exact ha y d hy
theorem sQ(cells:List (Str×Addr)):∀(names:List (Str×NameKind)) (acc:List (Str×Addr)) (x:Str) (c:Addr),(∀y d,acc.lookup y=some d→cells.lookup y=some d)→cells.lookup x=some c→acc.lookup x=some c→(iH cells names acc).lookup x=some c
  |[],acc,x,c,ha,hc,h=>h
  |(n,k)::r,acc,x,c,ha,hc,h=>by
   refine sQ cells r _ x c (fun y d hy=>?_) hc ?_
   · split at hy
     · rename_i e1 e2;rw[wd] at hy;cases hb:y==n with
       |true=>rw[hb] at hy;cases hy;have:y=n:=by simpa using hb
              rw[this];exact e2
       |false=>rw[hb] at hy;exact ha y d hy
     ·exact ha y d hy
   · split
     · rename_i e1 e2;rw[wd];cases hb:x==n with
       |true=>have:x=n:=by simpa using hb
              rw[this,e2] at hc;rw[hc]
       |false=>exact h
     ·exact h
theorem oK(cells:List (Str×Addr)):∀(names:List (Str×NameKind)) (acc:List (Str×Addr)) (x:Str) (c:Addr),(∀y d,acc.lookup y=some d→cells.lookup y=some d)→cells.lookup x=some c→(x,NameKind.free)∈names→(iH cells names acc).lookup x=some c
  |[],acc,x,c,ha,hc,h=>nomatch h
  |(n,k)::r,acc,x,c,ha,hc,h=>by
   have L4:∀y d,(match k,cells.lookup n with|.free,some c=>(n,c)::acc|_,_=>acc:List (Str×Addr)).lookup y=some d→cells.lookup y=some d:=fun y d hy=>by
     split at hy
     · rename_i e1 e2;rw[wd] at hy;cases hb:y==n with
       |true=>rw[hb] at hy;cases hy;have:y=n:=by simpa using hb
              rw[this];exact e2
       |false=>rw[hb] at hy;exact ha y d hy
     ·exact ha y d hy
   rcases dc.mp h with e|h
   ·injection e with e1 e2;subst e1 e2;refine sQ cells r _ _ c L4 hc ?_;rw[hc];simp[wd]
   ·exact oK cells r _ x c L4 hc h
theorem Uw{a b c:Nat}(h:a<b)(e:c=b+1):a≠c:=by omega
theorem XC{a b c:Nat}(h:a<b)(e:c=b+1):a<c:=by omega
theorem IV{x d a:Nat}(h:x<d)(h2:d≤a)(e:x=a):False:=by omega
theorem lookup_mem{α:Type}:∀{l:List (Str×α)} {x:Str} {k:α},l.lookup x=some k→(x,k)∈l
  |[],_,_,h=>by simp at h
  |(n,j)::r,x,k,h=>by
   rw[wd] at h;cases hb:x==n with
   |true =>
    rw[hb] at h;have e:x=n:=by simpa using hb
    cases h;rw[e];exact eR
   |false=>rw[hb] at h;exact ef _ (lookup_mem h)
theorem ji{env:Env}:∀(names:List (Str×NameKind)) (x:Str),(names.map fun(n,k)=>if (k==NameKind.free&&env.scope.kind==.function&&env.kindOf n==some .cell) then(n,NameKind.cell) else(n,k)).lookup x=(names.lookup x).map fun k=>if (k==NameKind.free&&env.scope.kind==.function&&env.kindOf x==some .cell) then NameKind.cell else k
  |[],_=>rfl
  |(n,k)::r,x=>by
   have ih:=ji (env:=env) r x;show List.lookup x ((if (k==NameKind.free&&env.scope.kind==.function&&env.kindOf n==some .cell)=true then(n,NameKind.cell) else(n,k))::_)=_;cases hx:x==n with
   |true =>
    have e:x=n:=by simpa using hx
    subst e;by_cases hc:(k==NameKind.free&&env.scope.kind==.function&&env.kindOf x==some .cell)=true
    ·rw[az hc];simp only[wd,hx,eF,az hc]
    ·rw[ax hc];simp only[wd,hx,eF,ax hc]
   |false =>
    by_cases hc:(k==NameKind.free&&env.scope.kind==.function&&env.kindOf n==some .cell)=true
    ·rw[az hc];simp only[wd,hx];exact ih
    ·rw[ax hc];simp only[wd,hx];exact ih
def Ce(N tgs:dB)(fi:List Nat):dB:=tgs++fi.map fun j=>N.getD j Str.empty
def mB(nt:Nat)(fi:List Nat)(σ:St):St:=List.replicate nt none++fi.map fun j=>(σ[j]?).getD none
def iQ(X:Cx)(tgs:dB)(fi:List Nat)(scope:Scope)(C:Addr)(ex:List Addr)(s:Shared)(H:Hp):Cx :=
  { X with N:=Ce X.N tgs fi,s₀:=s,H₀:=H,env:=compEnvC scope (iH X.env.cells scope.names []) C X.env,outer:=X.stack,stack:=X.stack,ex:=ex,fn:=fun _=>false,xe:=fun _ _=>False }
structure fJ (X:Cx) (tgs:dB) (fi:List Nat) (scope:Scope):Prop where
  kind:scope.kind=.function
  cell:∀y∈scope.names,y.2≠.cell
  names:∀y∈scope.names,y.2=.local→scope.names.lookup y.1=some .local
  free:∀y∈scope.names,y.2=.free→X.env.kindOf y.1=some .cell∨X.env.kindOf y.1=some .free
  slots:∀j∈fi,∃x,X.N[j]?=some x∧scope.names.lookup x=some .free
def Ux(osc:Scope)(N:dB)(fi:List Nat)(scope:Scope):Bool :=
  (match scope.kind with|.function=>true|_=>false) &&
  (scope.names.all fun y=>match y.2 with
    |.cell=>false
    |.local=>scope.names.lookup y.1==some NameKind.local
    |.free=>(osc.names.lookup y.1==some NameKind.cell)||(osc.names.lookup y.1==some NameKind.free)
    |_=>true) &&
  (fi.all fun j=>match N[j]? with|some x=>scope.names.lookup x==some NameKind.free|none=>false)
theorem fJ.of{tgs:dB}(h:Ux X.env.scope X.N fi scope=true):fJ X tgs fi scope:=by
  unfold Ux at h;simp only[oA,eX] at h;obtain⟨⟨h1,h2⟩,h3⟩:=h;refine⟨?_,fun y hy e=>?_,fun y hy e=>?_,fun y hy e=>?_,fun j hj=>?_⟩
  ·cases hk:scope.kind<;>rw[hk] at h1<;>first|rfl|cases h1
  ·have q:=h2 y hy;rw[e] at q;cases q
  ·have q:=h2 y hy;rw[e] at q;simpa using q
  ·have q:=h2 y hy;rw[e] at q;simp only[Bool.or_eq_true,beq_iff_eq] at q;exact q
  · have q:=h3 j hj;cases e:X.N[j]? with
    |none=>rw[e] at q;cases q
    |some x=>rw[e] at q;exact⟨x,rfl,by simpa using q⟩
section
variable {X:Cx} {pins:gw} {σ:St} {H:Hp} {s:Shared} {tgs:dB} {fi:List Nat} {scope:Scope}
theorem fJ.Uy(B:fJ X tgs fi scope)(ok:X.Ok):closureFor scope X.env=pure (iH X.env.cells scope.names []) :=
  wu fun y hy hf=>ok.has y.1 (B.free y hy hf)
theorem jj{c:Addr}(h:(iH X.env.cells scope.names []).lookup x=some c):X.env.cells.lookup x=some c :=
  uq _ _ _ _ _ (fun _ _ z=>by simp at z) h
theorem QS(B:fJ X tgs fi scope)(I:Inv X pins σ H s)(hC:s.heap.objs.size≤C)(hex:∀b∈ex,fS X pins H b)(dQ:∀b∈ex,b<C):(iQ X tgs fi scope C ex s H).Ok where
  mod:=I.ok.mod
  kind:=B.kind
  glob:=I.ok.glob
  blt:=I.ok.blt
  above:=hC
  inj:=fun x y c h1 h2=>I.ok.inj x y c (jj h1) (jj h2)
  has:=fun x h=>by
    have e:∀k,(relabel scope X.env).names.lookup x=some k→(k=.cell∨k=.free)→(x,NameKind.free)∈scope.names:=fun k hk Uz=>by
      have e1:(scope.names.lookup x).map (fun k=>if (k==NameKind.free&&X.env.scope.kind==.function&&X.env.kindOf x==some .cell) then NameKind.cell else k)=some k:=by rw[←ji];exact hk
      cases hl:scope.names.lookup x with
      |none=>rw[hl] at e1;cases e1
      |some j =>
       rw[hl] at e1;have hm:=lookup_mem hl;have e2:(if (j==NameKind.free&&X.env.scope.kind==.function&&X.env.kindOf x==some .cell) then NameKind.cell else j)=k:=jJ e1;by_cases hj:j=.free
       ·rw[hj] at hm;exact hm
       · have hb:(j==NameKind.free)=false:=by simpa using hj
         rw[hb] at e2;simp only[Bool.false_and,rh,il] at e2;rcases Uz with z|z
         ·exact absurd (e2.trans z) (B.cell _ hm)
         ·exact absurd (e2.trans z) hj
    have hm:(x,NameKind.free)∈scope.names:=by
      rcases h with h|h
      ·exact e _ h (.inl rfl)
      ·exact e _ h (.inr rfl)
    obtain⟨c,hc⟩:=I.ok.has x (B.free _ hm rfl);exact⟨c,oK _ _ _ _ _ (fun _ _ z=>by simp at z) hc hm⟩
  S0:=fun x c h _=>by cases h
  hd:=I.ok.hd
  frames:=I.ok.frames
  TK:=.inl rfl
  WY:=fun b hb=>⟨dP (dQ b hb),fun x c e=>(hex b hb).2.2.2.2.1 x c (jj e)⟩
  bs:=I.bs
  L8:=fR I.ok.L8 I.sz
  F5:=fun b o e hb=>by
    rcases(hex b hb).2.2.2.1 with z|z
    ·exact I.ok.F5 b o e z
    ·exact absurd (jX (bG (I.ok.bs b o e).1) z) (rn _)
  HS:=fun b hb z=>by
    rcases dc.mp (I.rD b z) with e|e
    ·exact(hex b hb).2.1 e
    ·exact(hex b hb).2.2.1 e
  rC:=I.stack
  Pa:=I.D7
theorem IW(h:(Ce N tgs fi)[i]?=some x)(hi:tgs.length≤i):∃j,fi[i-tgs.length]?=some j∧x=N.getD j Str.empty:=by
  unfold Ce at h;rw[xD hi,eU] at h;cases e:fi[i-tgs.length]? with
  |none=>rw[e] at h;cases h
  |some j=>rw[e] at h;exact⟨j,rfl,(jJ h).symm⟩
theorem Ep{m:Str→fQ}(B:fJ X tgs fi scope)(I:Inv X pins σ H s)(D8:∀x c,X.env.cells.lookup x=some c→∀v,s.heap.IsCell c v→h'.IsCell c v)(QQ:h'.Ns C m):∃m,h'.Ns (iQ X tgs fi scope C ex s H).env.locals m∧∀(i:Nat) (x:Str) (v:V),(iQ X tgs fi scope C ex s H).N[i]?=some x→(mB tgs.length fi σ)[i]?=some (some v)→pL (iQ X tgs fi scope C ex s H).env.scope x→∃u,RelV v u∧Look (iQ X tgs fi scope C ex s H).env h' m x u:=by
  refine⟨m,QQ,fun i x v e1 e2 e3=>?_⟩;by_cases hi:i<tgs.length
  · exfalso;have e:(mB tgs.length fi σ)[i]?=some none:=by
      unfold mB;rw[xE (by simpa using hi)];simp[hi]
    rw[e] at e2;cases e2
  · have HG:tgs.length≤i:=Nat.le_of_not_lt hi;obtain⟨j,hj,hx⟩:=IW e1 HG;obtain⟨y,hy,hf⟩:=B.slots j (zC hj);have exy:x=y:=by
      rw[hx,jd,hy];rfl
    subst exy;have eσ:σ[j]?=some (some v):=by
      unfold mB at e2;rw[xD (by simpa using HG),List.length_replicate,eU,hj] at e2;have Wm:(σ[j]?).getD none=some v:=jJ e2;cases q:σ[j]? with
      |none=>rw[q] at Wm;cases Wm
      |some w'=>rw[q] at Wm;exact gG some Wm
    have hkf:=B.free _ (lookup_mem hf) rfl;obtain⟨mm,hn,hl⟩:=I.loc;have vis:pL X.env.scope x:=by
      rcases hkf with z|z
      ·exact .inr (.inl z)
      ·exact .inr (.inr z)
    obtain⟨u,r,l⟩:=hl j x v hy eσ vis;refine⟨u,r,.inr ⟨?_,?_⟩⟩
    · show(relabel scope X.env).names.lookup x=some .cell∨(relabel scope X.env).names.lookup x=some .free;have e:=ji (env:=X.env) scope.names x;rw[hf] at e;have e':(relabel scope X.env).names.lookup x=some (if (NameKind.free==NameKind.free&&X.env.scope.kind==.function&&X.env.kindOf x==some .cell) then NameKind.cell else NameKind.free):=e;rw[e'];split
      ·exact .inl rfl
      ·exact .inr rfl
    · rcases l with⟨z,_⟩|⟨_,c,hc,Wn⟩
      · rcases hkf with q|q
        ·rw[z] at q;cases q
        ·rw[z] at q;cases q
      ·exact⟨c,oK _ _ _ _ _ (fun _ _ z=>by simp at z) hc (lookup_mem hf),D8 x c hc _ Wn⟩
theorem Inv.block{m:Str→fQ}{more:gw}(B:fJ X tgs fi scope)(I:Inv X pins σ H s)(hC:s.heap.objs.size≤C)(hex:∀b∈ex,fS X pins H b)(dQ:∀b∈ex,b<C)(k:∀b o,s.heap.get? b=some o→h'.get? b=some o)(QQ:h'.Ns C m)(UA:∀p∈more,h'.get? p.1=some p.2∧H p.1=none∧p.1≠C∧s.heap.objs.size≤p.1∧∀v,p.2.data≠.cell v) :
    Inv (iQ X tgs fi scope C ex s H) (pins++more) (mB tgs.length fi σ) H { s with heap:=h',toks:=t' } where
  ok:=QS B I hC hex dQ
  os:=rfl
  bare:=I.bare
  base:=Un.kept k
  loc:=Ep B I (fun x c _ v ⟨o,ho,hd⟩=>⟨o,k c o ho,hd⟩) QQ
  cell:=fun x c e=>by obtain⟨v,o,ho,hd⟩:=I.cell x c (jj e);exact⟨v,o,k c o ho,hd⟩
  free:=I.bV.fresh hC
  fI:=fun x c e=>I.fI x c (jj e)
  pin:=fun p hp=>by
    have z0:p∈X.pn++(pins++more):=hp;rw[←List.append_assoc] at z0;rcases mh.mp z0 with hp|hp
    · obtain⟨e,n,ne,nf,d⟩:=I.pin p hp;refine⟨k _ _ e,n,dP (jX (bG e) hC),fun z=>?_,d⟩;rcases dc.mp (I.rD _ z) with q|q
      ·exact ne q
      ·exact nf q
    · obtain⟨e,n,ne,sz,d⟩:=UA p hp;refine⟨e,n,ne,fun z=>?_,d⟩;rcases dc.mp (I.rD _ z) with q|q
      ·exact absurd (q▸I.lt) (Nat.not_lt.mpr sz)
      ·exact I.Qf sz q
  bV:=I.bV.kept k
  len:=by show(mB tgs.length fi σ).length=(Ce X.N tgs fi).length;simp[mB,Ce]
theorem Inv.forget{pl:gw}{σ9:St}{H9:Hp}{s9:Shared}(B:fJ X tgs fi scope)(I:Inv X pins σ H s)(hex:∀b∈ex,fS X pins H b)(I9:Inv (iQ X tgs fi scope C ex s H) pl σ9 H9 s9):Inv (iQ X tgs fi scope C ex s H) pl (mB tgs.length fi σ) H9 s9:=by
  obtain⟨m,hn,_⟩:=I9.loc;refine⟨I9.ok,I9.os,I9.bare,I9.base,Ep (ex:=ex) B I (fun x c e v ⟨o,ho,hd⟩=>?_) hn,I9.cell,I9.free,I9.fI,I9.pin,I9.bV,?_⟩
  ·have hx:c∉ex:=fun z=>(hex c z).2.2.2.2.1 x c e rfl;obtain⟨sl,q⟩:=I9.base.any ho (I.fI x c e) hx;exact⟨_,q,hd⟩
  ·show(mB tgs.length fi σ).length=(Ce X.N tgs fi).length;simp[mB,Ce]
theorem Inv.UB(I:Inv X pins σ H s)(hf:fS X pins H a)(h0:X.s₀.heap.objs.size≤a)(new:bS X.prog X.w (upd H a o) s.heap a o):Inv X pins σ (upd H a o) s:=by
  obtain⟨hn,hL,QT,_,hC,hp⟩:=hf;refine⟨I.ok,I.os,I.bare,⟨I.base.keep,I.base.slot,fun b u e n hx=>?_,I.base.there,fun b xs e=>?_,fun b u xs e=>?_,fun b ps e=>?_⟩,I.loc,I.cell,?_,fun x c e=>?_,fun p z0=>?_,fun b u e=>?_,I.len⟩
  ·rw[ai (dP (jX (bG e) h0))];exact I.base.free b u e n hx
  ·have q:=I.base.oE b xs e;rw[ai (aQ q hn)];exact q
  ·have q:=I.base.oF b u xs e;rw[ai (aQ q hn)];exact q
  ·obtain⟨m,q⟩:=I.base.rA b ps e;exact⟨m,by rw[ai (aQ q hn)];exact q⟩
  ·rw[ai (cT hL)];exact I.free
  ·rw[ai (hC x c e)];exact I.fI x c e
  ·obtain⟨e,n,r⟩:=I.pin p z0;exact⟨e,by rw[ai (hp p z0)];exact n,r⟩
  · by_cases hb:b=a
    ·subst hb;rw[ay] at e;cases e;exact new
    ·rw[ai hb] at e;exact(I.bV b u e).jY (fun _ _ _ q=>q) (fun c q=>by rw[ai (aQ q hn)];exact q) fun c xs q=>by rw[ai (aQ q hn)];exact q
end
def Gz(X:Cx)(ifs:List Expr)(t:TT):Prop :=
  ∀(pins:gw) (s:Shared) (σ:St) (H:Hp) (Q:Bool→Hp→Prop),Inv X pins σ H s→t σ H Q →
   wpAny (model X.prog X.w) X.A (forIn ifs true fun c r=>if r=true then do let ok ←isTrue c X.env (eval c X.env);pure (ForInStep.yield ok) else pure (ForInStep.yield r)) (TP X pins σ Q) X.xe s
def XD:TT:=fun _ H Q=>Q true H
theorem IX:Gz X [] XD:=fun _ _ _ H _ I h=>wpAny_tests_nil ⟨H,I,h⟩
theorem IY{c:Expr}{t:TT}(h:PT X c t):Gz X [c] t:=fun pins s σ H Q I hw=>wpAny_tests_one (h pins s σ H Q I hw)
section
variable {prog:Program} {w:World} {A:Around} {R:Result→Shared→Prop} {s:Shared}
theorem z6{elt target iter:Expr}{ifs:List Expr}{it acc:Value}{env:Env}(I:Nat→Shared→Prop)(turn:∀n s,I n s→wpAny (model prog w) A (pyNext it) (fun r s₁=>match r with
      |none=>R (.ok .next) s₁
      |some v=>wpAny (model prog w) A (letOwnedTupleGo target it v) (fun _ s₁'=>wpAny (model prog w) A (assign target env v) (fun _ s₂ =>
          wpAny (model prog w) A (forIn ifs true fun c r=>if r=true then do let ok ←isTrue c env (eval c env);pure (ForInStep.yield ok) else pure (ForInStep.yield r)) (fun ok s₃ =>
            if ok=true then wpAny (model prog w) A (eval elt env) (fun x s₄ =>
              wpAny (model prog w) A (call (.builtin "list.append") [acc,x]) (fun _ s₅=>∃m,m<n∧I m s₅) (fun _ _=>False) s₄) (fun _ _=>False) s₃
            else ∃m,m<n∧I m s₃) (fun _ _=>False) s₂) (fun _ _=>False) s₁') (fun _ _=>False) s₁) (fun _ _=>False) s)(n:Nat)(h:I n s):codeAny (model prog w) A (.compLoop (.ListComp elt [⟨target,iter,ifs,0⟩] scope pos) 0 it acc env) R s:=by
  refine codeAny_loop rfl I (fun n s hI=>?_) n h;show wpAny _ A ((compTurn (.ListComp elt [⟨target,iter,ifs,0⟩] scope pos) 0 it acc env).onRaise (fun x=>do noteFrame x env;theTreesLotGoes x)) _ _ s;refine wpAny_noted ?_;rw[compTurn_list];refine aE (wpAny_standAt (aE (jK (turn n s hI) (fun r s₁ h₁=>?_) fun _ _ h'=>h'.elim)));cases r with
  |none=>exact bP h₁
  |some v =>
   refine aE (jK h₁ (fun _ s₁' h₁'=>?_) fun _ _ h'=>h'.elim);refine aE (jK h₁' (fun _ s₂ h₂=>aE (jK h₂ (fun ok s₃ h₃=>?_) fun _ _ h'=>h'.elim)) fun _ _ h'=>h'.elim);cases ok with
   |false=>exact bP ⟨rfl,h₃⟩
   |true=>exact aE (aE (jK h₃ (fun x s₄ h₄=>aE (jK h₄ (fun _ s₅ h₅=>bP (bP ⟨rfl,h₅⟩)) fun _ _ h'=>h'.elim)) fun _ _ h'=>h'.elim))
end
def Pr(J:It)(σ0:St)(g:TG)(tt:TT)(te:TE)(W:Nat→Nat→List V→Hp→Prop)(Fin:List V→Hp→Prop):Prop :=
  ∀i m ys H,W i m ys H→(J.stop i H∧ys.length≤sizeLine∧Fin ys H) ∨
   (J.go i H∧ys.length<sizeLine∧∃(N:V→Hp→Prop) (N0:Hp→Prop),(∀y H4,N y H4→∃m',m'<m∧W (i+1) m' (ys++[y]) H4)∧(∀H3,N0 H3→∃m',m'<m∧W (i+1) m' ys H3) ∧
     ∀x H',J.BP i H x H'→g x σ0 H' fun σ2 H2=>tt σ2 H2 fun b H3=>if b=true then te σ2 H3 N else N0 H3)
section
variable {X:Cx} {tg elt iter:Expr} {ifs:List Expr} {tgs:dB} {fi:List Nat} {scope:Scope} {pos:Pos} {g:TG} {tt:TT} {te:TE}
def lobj(its:cA)(n:Nat):Obj:={ cls:=.type "list",data:=.seq its.toArray n }
theorem z7{H2:Hp}{s2:Shared}{J:It}{tn:Nat→Heap→Prop}{Fin:List V→Hp→Prop}{RR:Value→Addr→Result→Shared→Prop}(hc:X.calm=true)(B:fJ X tgs fi scope)(hg:∀C ex s H,PG (iQ X tgs fi scope C ex s H) tg g)(ht:∀C ex s H,Gz (iQ X tgs fi scope C ex s H) ifs tt)(he:∀C ex s H,PE (iQ X tgs fi scope C ex s H) elt te)(I2:Inv X pins σ H2 s2)(T:Turn X.prog X.w X.K tg J fp it tn)(st:tn 0 s2.heap)(hf:∀b∈fp,fS X pins H2 b)(W:Nat→Nat→List V→Hp→Prop)(m0:Nat)(w0:W 0 m0 [] H2)(turn:Pr J (mB tgs.length fi σ) g tt te W Fin)(hRR:∀D C H' ys s' m',Inv X pins σ (upd H' D (.lst ys)) s'→H' D=none→s'.heap.Ns C m'→fS X pins (upd H' D (.lst ys)) C→Fin ys H'→RR (.ref D) C (.ok .next) s'):wpAny (model X.prog X.w) X.A (newList []) (fun acc s₃=>wpAny (model X.prog X.w) X.A (newFunctionEnv scope X.env.globals (iH X.env.cells scope.names []) [] X.env.qual none .none (some X.env)) (fun UC s₄=>codeAny (model X.prog X.w) X.A (.compStart (.ListComp elt [⟨tg,iter,ifs,0⟩] scope pos) 0 (.ref it) acc { UC with scope:=relabel scope X.env }) (RR acc UC.locals) s₄) E s₃) E s2:=by
  refine uj (wpAny_newFunctionEnv B.cell (by intro y hy;simp at hy) (fun h₁ IZ GA=>?_) B.kind);dsimp only at IZ GA⊢;generalize XE:s2.heap.push { cls:=.type "list",dict:=none,data:=.seq ([]:cA).toArray }=hp at IZ GA⊢;generalize hD:s2.heap.objs.size=D at IZ GA⊢;have Wo:hp.objs.size=D+1:=by rw[←XE,kz,hD]
  generalize hCe:hp.objs.size=C at IZ GA Wo⊢;have UD:D≠C:=by omega
  have old:∀b o,s2.heap.get? b=some o→h₁.get? b=some o:=fun b o e=>by have hb:b<D:=hD▸bG e;refine GA.extBut b o (Uw hb Wo) (dC _ ?_);rw[←XE];exact dC _ e
  have hDo:h₁.get? D=some (lobj [] 0):=by refine GA.extBut D _ UD (dC _ ?_);rw[←XE,←hD];exact iE _ rfl
  have QV:∀b∈fp,b<D:=fun b hb=>by obtain⟨o,e,_⟩:=T.obj 0 _ st b hb;rw[←hD];exact bG e
  have UE:D∉fp:=fun z=>rn _ (QV D z);have XF:H2 D=none:=I2.bV.fresh (by rw[hD];exact bJ _);have ge0:X.s₀.heap.objs.size≤D:=by rw[←hD];exact I2.sz
  have Cg:∀(a:Addr),D≤a→∀x c,X.env.cells.lookup x=some c→c≠a:=fun a ha x c e z=>by obtain⟨v,q⟩:=I2.cell x c e;have:=q.lt;rw[hD] at this;exact IV this ha z
  have Ja:∀(a:Addr),D≤a→∀p∈X.pn++pins,p.1≠a:=fun a ha p z0 z=>by have:=bG (I2.pin p z0).1;rw[hD] at this;exact IV this ha z
  have UG:∀(a:Addr),D≤a→a≠X.env.locals:=fun a ha z=>by have:=I2.lt;rw[hD] at this;exact IV this ha z.symm
  have fsD:∀(a:Addr),D≤a→a∉X.fs:=fun a ha=>I2.Qf (by rw[hD];exact ha)
  -- the word of the loop
  let Y:Cx:=iQ X tgs fi scope C fp s2 H2
  have stF:∀{H:Hp} {pl:gw},(∀b∈fp,H b=none)→(∀p∈pl,p.1∉fp)→∀b∈fp,fS Y (pins++pl) H b:=fun {H pl} hn m7 b hb=>by
    obtain⟨f0,f1,f2,f3,f4,f5⟩:=hf b hb;refine⟨hn b hb,Uw (QV b hb) Wo,fun z=>?_,.inl hb,fun x c e=>f4 x c (jj e),fun p z0 z=>?_⟩
    · rcases dc.mp (I2.rD b z) with e|e
      ·exact f1 e
      ·exact f2 e
    · have S5:p∈X.pn++(pins++pl):=z0;rw[←List.append_assoc] at S5;rcases mh.mp S5 with q|q
      ·exact f5 p q z
      ·exact m7 p q (z▸hb)
  have loop:∀s₃:Shared,s₃={ s2 with heap:=h₁,toks:=s2.toks+([]:List (Str×Value)).length } →
      codeAny (model X.prog X.w) X.A (.compLoop (.ListComp elt [⟨tg,iter,ifs,0⟩] scope pos) 0 (.ref it) (.ref D) (compEnvC scope (iH X.env.cells scope.names []) C X.env)) (RR (.ref D) C) s₃:=by
    intro s₃ es₃;subst es₃;refine z6 (fun n s'=>∃i H' ys its e,Inv Y (pins++[(D,lobj its e)]) (mB tgs.length fi σ) H' s'∧Vals ys its∧tn i s'.heap∧(∀b∈fp,H' b=none)∧W i n ys H') ?_ m0 ⟨0,H2,[],[],0,?_,.nil,?_,fun b hb=>(hf b hb).1,w0⟩
    rotate_left
    · refine Inv.block (C:=C) B I2 (by omega) hf (fun b hb=>XC (QV b hb) Wo) old IZ fun p z0=>?_;have e:p=(D,lobj [] 0):=by simpa using z0
      subst e;exact⟨hDo,XF,UD,Nat.le_of_eq hD,fun v z=>by cases z⟩
    ·exact T.keep _ _ _ st fun b hb o e=>old b o e
    rintro n s4 ⟨i,H4,ys,its,e4,I4,rv,st4,fr4,w4⟩;have m7:∀p∈[(D,lobj its e4)],p.1∉fp:=fun p z0=>by
      have e:p=(D,lobj its e4):=by simpa using z0
      subst e;exact UE
    have f4:=stF (pl:=[(D,lobj its e4)]) fr4 m7;rcases turn i n ys H4 w4 with⟨stop,hz,fin⟩|⟨go,hz,N,N0,hN,hN0,step⟩
    · -- the end
      refine cN (T.done Y rfl rfl rfl hc i _ s4 _ H4 _ I4 f4 st4 stop) fun r s5 ⟨hr,I5⟩=>?_;subst hr;have XG:=(I5.pin (D,lobj its e4) (by simp)).1;have UH:H4 D=none:=(I5.pin (D,lobj its e4) (by simp)).2.1;have UI:Inv X pins σ H4 s5:=I2.TN I5.os I5.base I5.bV I5.bare fun b hb=>by obtain⟨f0,f1,f2,f3,f4,f5⟩:=hf b hb;exact⟨f3,f1,f4,f5⟩
      have fpD:fS X pins H4 D:=⟨UH,UG D (bJ _),fsD D (bJ _),.inr ge0,Cg D (bJ _),Ja D (bJ _)⟩
      have It:=UI.UB (o:=.lst ys) fpD ge0 ⟨hz,its,e4,rv,XG⟩;obtain⟨m',W2,_⟩:=I5.loc;refine hRR D C H4 ys s5 m' It UH W2 ⟨?_,UG C (by omega),fsD C (by omega),.inr (by omega),Cg C (by omega),Ja C (by omega)⟩ fin;rw[ai (cT UD)];exact I5.free
    · -- a turn
      refine cN (T.item Y rfl rfl rfl hc i _ s4 _ H4 _ I4 f4 st4 go) fun r s5 ⟨u,hr,h5⟩=>?_;subst hr;refine cN h5 fun _ s6 ⟨x,H6,I6,r6,y6,XH,fr6⟩=>?_;have I6':=I6.pinned (stF (pl:=[(D,lobj its e4)]) fr6 m7) (T.obj _ _ XH);refine cN (hg C fp s2 H2 _ s6 _ H6 x u _ I6' r6 (step x H6 y6)) fun _ s7 ⟨σ7,H7,I7,q7⟩=>?_;refine cN (ht C fp s2 H2 _ s7 σ7 H7 _ I7 q7) fun b s8 ⟨H8,I8,q8⟩=>?_;have again:∀{σ9:St} {H9:Hp} {s9:Shared},Inv Y ((pins++[(D,lobj its e4)])++uk fp s6.heap) σ9 H9 s9→tn (i+1) s9.heap∧(∀b∈fp,H9 b=none):=fun {σ9 H9 s9} I9=>by refine⟨T.keep _ _ _ XH fun b hb o e=>(I9.pin (b,o) (ky _ (ky _ (kO hb e)))).1,fun b hb=>?_⟩;obtain⟨o,e,d⟩:=T.obj _ _ XH b hb;exact(I9.pin (b,o) (ky _ (ky _ (kO hb e)))).2.1
      cases b with
      |false=>obtain⟨m',hm,w8⟩:=hN0 _ q8;obtain⟨a1,a2⟩:=again I8;exact⟨m',hm,i+1,H8,ys,its,e4,Inv.forget B I2 hf I8.kB,rv,a1,a2,w8⟩
      |true =>
       rw[az rfl] at q8⊢;refine cN (he C fp s2 H2 _ s8 σ7 H8 _ I8 q8) fun y s9 ⟨yv,H9,I9,r9,q9⟩=>?_;obtain⟨m',hm,w9⟩:=hN yv H9 q9;obtain⟨a1,a2⟩:=again I9;obtain⟨p1,p2,p3,p4,p5⟩:=I9.pin (D,lobj its e4) (by simp);have hsz:its.toArray.size≤sizeLine:=by have:=rv.length;simp only[eA];omega
       refine wpAny_list_append_plain (hsz:=hsz) ⟨e4,p1⟩ fun h₅ hl₅ Jb=>?_;obtain⟨e5,XG⟩:=hl₅;have XI:h₅.get? D=some (lobj (its++[y]) e5):=by rw[XG];simp[lobj]
       have I10:Inv Y pins (mB tgs.length fi σ) H9 { s9 with heap:=h₅ }:=by refine Inv.turned (t':=s9.toks) (it:=D) ((Inv.forget B I2 hf I9.kB).kB) (fun b o hb e=>(Jb.2 b hb).trans e) p2 UD (.inr (Nat.le_of_eq hD)) (fun x c e=>Cg D (bJ _) x c (jj e)) (Ja D (bJ _))
       refine⟨m',hm,i+1,H9,ys++[yv],its++[y],e5,I10.xP fun p z0=>?_,Vals.append rv (.cons r9 .nil),T.keep _ _ _ a1 fun b hb o e=>(Jb.2 b (fun z=>UE (z▸hb))).trans e,a2,w9⟩;rcases mh.mp z0 with q|q
       ·exact I10.pin p (ky _ q)
       · have e:p=(D,lobj (its++[y]) e5):=by simpa using q
         subst e;exact⟨XI,p2,UD,p4,fun v z=>by cases z⟩
  exact codeAny_compStart_list (loop _ rfl) (T.self _ 0 _ _ _ (T.keep _ _ _ st fun b hb o e=>old b o e) (loop _ rfl))
def Jc(wi:TI)(nt:Nat)(fi:List Nat)(g:TG)(tt:TT)(te:TE):TE:=fun σ H Q=>wi σ H fun J H1=>∃W:Nat→Nat→List V→Hp→Prop,(∃m,W 0 m [] H1) ∧
  Pr J (mB nt fi σ) g tt te W fun ys H2=>∀p,H2 p=none→Q (.ref p) (upd H2 p (.lst ys))
theorem MB{wi:TI}(hc:X.calm=true)(B:fJ X tgs fi scope)(hi:PI X tg iter wi)(hg:∀C ex s H,PG (iQ X tgs fi scope C ex s H) tg g)(ht:∀C ex s H,Gz (iQ X tgs fi scope C ex s H) ifs tt)(he:∀C ex s H,PE (iQ X tgs fi scope C ex s H) elt te)(hs:∀x,foldedSetIterable iter X.env x=pure x:=by intro _;rfl):PE X (.ListComp elt [⟨tg,iter,ifs,0⟩] scope pos) (Jc wi tgs.length fi g tt te):=by
  intro pins s σ H Q I h;rw[eval_ListComp];refine wpAny_comprehension_free (use:=none) rfl hs (B.Uy I.ok) B.kind B.names (cN (hi pins s σ H _ I h) fun xv s1 h1=>cN h1 fun Wb s2 h2=>?_);obtain⟨it,fp,tn,J,H2,e,I2,T,T3,f2,W,⟨m0,w0⟩,turn⟩:=h2;subst e;refine z7 (RR:=fun acc C=>compPost (model X.prog X.w) X.A X.xe none (EP X pins σ Q) acc C) hc B hg ht he I2 T T3 f2 W m0 w0 turn ?_;intro D C H' ys s' m' I' hD hn hC fin;obtain⟨c0,c1,c2,c3,c4,c5⟩:=hC;exact⟨m',hn,fun h' sb=>⟨.ref D,_,I'.turned (t':=s'.toks) (fun b o hb e=>(sb.2 b hb).trans e) c0 c1 c3 c4 c5,rfl,fin D hD⟩⟩
theorem Ci{wi:TI}{Jd:Pos}(hc:X.calm=true)(hN:X.N.Nodup)(hx:X.N[i]?=some x)(hl:X.env.scope.names.lookup x=some .local)(B:fJ X tgs fi scope)(hi:PI X tg iter wi)(hg:∀C ex s H,PG (iQ X tgs fi scope C ex s H) tg g)(ht:∀C ex s H,Gz (iQ X tgs fi scope C ex s H) ifs tt)(he:∀C ex s H,PE (iQ X tgs fi scope C ex s H) elt te)(Je:swapsWith (.ListComp elt [⟨tg,iter,ifs,0⟩] scope pos) (some (.Name x pos')) Jd.line X.env=pure true)(hs:∀x,foldedSetIterable iter X.env x=pure x:=by intro _;rfl):PS X (.Assign [.Name x pos'] (.ListComp elt [⟨tg,iter,ifs,0⟩] scope pos) Jd) (xT (Jc wi tgs.length fi g tt te) (nS i)):=by
  intro pins s σ H D I h;rw[exec_Assign_Name_used _ _ _ _ Je];refine aE (wpAny_standAt (aE ?_));show wpAny _ _ (do let _ ←comprehension (.ListComp elt [⟨tg,iter,ifs,0⟩] scope pos) scope X.env _ (newList []) false (eval iter X.env) (some (assign (.Name x pos') X.env))) _ _ s;refine aE (jK (wpAny_comprehension_free (use:=some (assign (.Name x pos') X.env)) (Q:=fun _ s'=>SP X pins D .next s') rfl hs (B.Uy I.ok) B.kind B.names
    (cN (hi pins s σ H _ I h) fun xv s1 h1=>cN h1 fun Wb s2 h2=>?_)) (fun _ s' hq=>bP (bP hq)) fun _ _ e=>e)
  obtain⟨it,fp,tn,J,H2,e,I2,T,T3,f2,W,⟨m0,w0⟩,turn⟩:=h2;subst e;refine z7 (RR:=fun acc C=>compPost (model X.prog X.w) X.A X.xe (some (assign (.Name x pos') X.env)) (fun _ s'=>SP X pins D .next s') acc C) hc B hg ht he I2 T T3 f2 W m0 w0 turn ?_;intro a C H' ys s' m' I' hD hn hC fin;obtain⟨c0,c1,c2,c3,c4,c5⟩:=hC;refine wpAny_assign_Name (wV (v:=.ref a) I' hN hx (.inl hl) rfl (fun tD I'' ⟨b,sb,hb⟩=>?_) (.inr hl));have hCb:C≠b:=by
    rcases hb with z|z
    ·rw[z];exact c1
    ·exact fun q=>c4 x b z q.symm
  exact⟨m',hn.sameBut sb hCb,fun h' sb'=>⟨_,_,I''.turned (t':=tD.toks) (fun b o hb e=>(sb'.2 b hb).trans e) c0 c1 c3 c4 c5,fin a hD⟩⟩
end
end L2
namespace L2
open PySem PySem.Calls
section
variable {prog:Program} {w:World} {A:Around} {E:ic} {s:Shared}
theorem kQ{l:Addr}{items}{x:Value}(hit:s.heap.IsTupleIter it l i)(hl:s.heap.IsTuple l items)(hx:items[i]?=some x)(hQ:∀h',h'.IsTupleIter it l (i+1)→Heap.SameBut it s.heap h'→Q x { s with heap:=h' }):wpAny (model prog w) A (Builtin.SmallTypes.nextOf (.ref it)) Q E s:=by
  obtain⟨o,ho,hc,hd⟩:=id hit;obtain⟨ol,S6,_,nl,MC⟩:=hl;unfold Builtin.SmallTypes.nextOf;refine aE (ui (name:=Str.ofString "__next__") hit.typeIs F.slot_tuple_iterator_next
    (md F.slot_tuple_iterator_next hit.typeIs F.entry_tuple_iterator_next ?_ (F.args_tuple_iterator_next_1 _)))
  show wpAny _ _ (field (.ref it) 0>>=_) _ _ s;refine aE (kA ho hd (x:=.ref l) rfl ?_);show wpAny _ _ (if (Value.ref l==Value.none)=true then _ else _) _ _ s;rw[ax (show ¬ ((Value.ref l==Value.none)=true) from eT)];show wpAny _ _ (field (.ref it) 1>>=_) _ _ s;refine aE (kA ho hd (x:=.int i 0) rfl ?_);show wpAny _ _ (seqItems? (.ref l)>>=_) _ _ s;refine aE (wpAny_seqItems S6 MC ?_);simp only[nM,hx];refine aE (wpAny_setField ho hd (by simp) (bP ⟨x,rfl,bP (hQ _ ?_ (pG ..))⟩));exact⟨_,sZ _ ho (Obj.isFreed_of_fields (v9 hd _)),(Obj.cls_mapFields ..).trans hc,by
    rw[v9 hd];simp[rawInt]⟩
theorem sR{l:Addr}{items}(hh:A.handled=none)(hit:s.heap.IsTupleIter it l i)(hl:s.heap.IsTuple l items)(hx:items[i]?=none)(hE:∀h' e,Heap.ExtBut it s.heap h'→(∃o,h'.get? e=some o∧o.cls=.type "StopIteration")→E (.ref e) { s with heap:=h' }):wpAny (model prog w) A (Builtin.SmallTypes.nextOf (.ref it)) Q E s:=by
  obtain⟨o,ho,hc,hd⟩:=id hit;obtain⟨ol,S6,_,nl,MC⟩:=hl;unfold Builtin.SmallTypes.nextOf;refine aE (ui (name:=Str.ofString "__next__") hit.typeIs F.slot_tuple_iterator_next
    (md F.slot_tuple_iterator_next hit.typeIs F.entry_tuple_iterator_next ?_ (F.args_tuple_iterator_next_1 _)))
  show wpAny _ _ (field (.ref it) 0>>=_) _ _ s;refine aE (kA ho hd (x:=.ref l) rfl ?_);show wpAny _ _ (if (Value.ref l==Value.none)=true then _ else _) _ _ s;rw[ax (show ¬ ((Value.ref l==Value.none)=true) from eT)];show wpAny _ _ (field (.ref it) 1>>=_) _ _ s;refine aE (kA ho hd (x:=.int i 0) rfl ?_);show wpAny _ _ (seqItems? (.ref l)>>=_) _ _ s;refine aE (wpAny_seqItems S6 MC ?_);simp only[nM,hx];refine aE (wpAny_rule (aE (wpAny_setField ho hd (by simp) ?_)));show wpAny _ _ (newExc (.type "StopIteration") []>>=_) _ _ _;refine aE ?_;simp only[newExc,newTuple];refine aE (uj ?_ (by size_fits));refine aE (m:=firstArgMember _ _) (wpAny_of_eq (a:=Value.none) (by first|rfl|(simp only[firstArgMember];rfl)) ?_);refine uj ?_ (by size_fits);simp only[raiseNew];refine aE (wpAny_handled ?_)
  first|rw[show A.in1.handled=none from hh]|rw[hh]
  refine aE (bP (wpAny_throw ?_));exact hE _ _ (((pG ..).extBut.push _).push _) ⟨_,iE _ rfl,rfl⟩
theorem z8{z TI TO i1 i2 l2:Addr}{k1 k2:Nat}{xs:Array Value}{x y a b:Value}(D:ZipApart z TI TO i1 i2 l1 l2)(hz:IsZip s.heap z TI TO .none)(MD:IsPair s.heap TI (.ref i1) (.ref i2))(MF:IsPair s.heap TO a b)(h1:s.heap.IsTupleIter i1 l1 k1)(h2:s.heap.IsTupleIter i2 l2 k2)(oM:s.heap.IsTuple l1 xs)(sS:s.heap.IsTuple l2 ys)(hx:xs[k1]?=some x)(hy:ys[k2]?=some y)(hQ:∀h',IsZip h' z TI TO (rawInt s.heap.objs.size)→IsPair h' TO x y→h'.IsTupleIter i1 l1 (k1+1)→h'.IsTupleIter i2 l2 (k2+1)→IsPair h' s.heap.objs.size x y→h'.objs.size=s.heap.objs.size+1→(∀c o,c≠z→c≠TO→c≠i1→c≠i2→s.heap.get? c=some o→h'.get? c=some o)→Q (.ref s.heap.objs.size) { s with heap:=h' }):wpAny (model prog w) A (Builtin.«zip.__next__» ⟨[.ref z],[]⟩) (fun fin s'=>∃v,fin=.done (.ret v)∧Q v s') E s:=by
  show wpAny _ _ (field (.ref z) 2>>=_) _ _ _;refine aE (kA hz rfl (x:=.bool false) rfl ?_);show wpAny _ _ (field (.ref z) 3>>=_) _ _ _;refine aE (kA hz rfl (x:=.ref TI) rfl ?_);refine aE (wpAny_seqItems MD rfl ?_);show wpAny _ _ (Builtin.SmallTypes.ownedTupleIsFree (.ref z)>>=_) _ _ _;refine aE ?_;unfold Builtin.SmallTypes.ownedTupleIsFree;refine aE (kA hz rfl (x:=.none) rfl (bP ?_));simp only[cw];refine aE (wpAny_rule ?_);refine aE (kA hz rfl (x:=.ref TO) rfl ?_);refine aE (rj hz (by simp) fun h₁ Pt z9=>?_);replace Pt:IsZip h₁ z TI TO .ellipsis:=Pt;refine aE ?_;simp only[List.zipIdx_cons,List.zipIdx_nil,List.forIn_cons,List.forIn_nil];refine aE (aE (wpAny_onRaise ?_));show wpAny _ _ (Builtin.SmallTypes.nextOf (.ref i1)>>=_) _ _ _;refine aE (kQ (h1.extBut z9.extBut D.i1z) (oM.extBut z9.extBut D.l1z) hx fun h₂ h1₂ Cj=>bP ?_);have Jf:IsPair h₂ TO a b:=Cj.extBut _ _ D.TOi1 (z9.extBut _ _ D.TOz MF);refine aE (wpAny_seqItems Jf rfl ?_);refine aE (wpAny_updateSeq_pair Jf fun h₃ MG Er=>?_);replace MG:IsPair h₃ TO x b:=MG;refine aE (wpAny_letGo (bP ?_));refine aE (aE (wpAny_onRaise ?_));show wpAny _ _ (Builtin.SmallTypes.nextOf (.ref i2)>>=_) _ _ _;refine aE (kQ (((h2.extBut z9.extBut D.i2z).extBut Cj.extBut D.i12.symm).extBut Er.extBut D.TOi2.symm)
    (((sS.extBut z9.extBut D.l2z).extBut Cj.extBut D.l2i1).extBut Er.extBut D.l2TO) hy fun h₄ h2₄ Pu=>bP ?_)
  have UJ:IsPair h₄ TO x b:=Pu.extBut _ _ D.TOi2 MG;refine aE (wpAny_seqItems UJ rfl ?_);refine aE (wpAny_updateSeq_pair UJ fun h₅ Jg Jb=>?_);replace Jg:IsPair h₅ TO x y:=Jg;refine aE (wpAny_letGo (bP (bP ?_)));refine aE (wpAny_seqItems Jg rfl ?_);refine aE (wpAny_newTuple ?_);have hsz:h₅.objs.size=s.heap.objs.size:=by rw[Jb.1,Pu.1,Er.1,Cj.1,z9.1]
  have hz₅:IsZip h₅ z TI TO .ellipsis:=Jb.extBut _ _ D.TOz.symm (Pu.extBut _ _ D.i2z.symm (Er.extBut _ _ D.TOz.symm (Cj.extBut _ _ D.i1z.symm Pt)));have hk₅:∀c o,c≠z→c≠TO→c≠i1→c≠i2→s.heap.get? c=some o→h₅.get? c=some o:=fun c o c1 c2 c3 c4 e =>
    Jb.extBut _ _ c2 (Pu.extBut _ _ c4 (Er.extBut _ _ c2 (Cj.extBut _ _ c3 (z9.extBut _ _ c1 e))))
  have h1₅:h₅.IsTupleIter i1 l1 (k1+1):=((h1₂.extBut Er.extBut D.TOi1.symm).extBut Pu.extBut D.i12).extBut Jb.extBut D.TOi1.symm;have h2₅:h₅.IsTupleIter i2 l2 (k2+1):=h2₄.extBut Jb.extBut D.TOi2.symm;have UK:z<h₅.objs.size:=bG hz₅;have aaN:TO<h₅.objs.size:=bG Jg;have aaO:i1<h₅.objs.size:=by obtain⟨_,e,_⟩:=h1₅;exact bG e
  have aaP:i2<h₅.objs.size:=by obtain⟨_,e,_⟩:=h2₅;exact bG e
  show wpAny _ _ (Builtin.SmallTypes.ownedTupleHandOut (.ref z) (.ref h₅.objs.size)>>=_) _ _ _;refine aE ?_;unfold Builtin.SmallTypes.ownedTupleHandOut;have hz₆:IsZip (h₅.push { cls:=.type "tuple",data:=.seq #[x,y] }) z TI TO .ellipsis:=dC _ hz₅;refine aE (rj hz₆ (by simp) fun h₇ XJ XM=>?_);replace XJ:IsZip h₇ z TI TO (rawInt h₅.objs.size):=XJ;refine rj XJ (by simp) fun h₈ Wq XO=>?_;replace Wq:IsZip h₈ z TI TO (rawInt h₅.objs.size):=Wq;have up:∀c o,c≠z→h₅.get? c=some o→h₈.get? c=some o:=fun c o c1 e=>XO.extBut _ _ c1 (XM.extBut _ _ c1 (dC _ e));have hT₈:IsPair h₈ h₅.objs.size x y:=XO.extBut _ _ (mq UK) (XM.extBut _ _ (mq UK) (iE _ rfl));have hz8:h₈.objs.size=h₅.objs.size+1:=by rw[XO.1,XM.1,kz]
  rw[hsz] at Wq hT₈ hz8;refine bP ⟨_,rfl,?_⟩;show Q (.ref h₅.objs.size) _;rw[hsz];exact hQ h₈ Wq (up _ _ D.TOz Jg) (let ⟨o,e,r⟩:=h1₅;⟨o,up _ o D.i1z e,r⟩) (let ⟨o,e,r⟩:=h2₅;⟨o,up _ o D.i2z e,r⟩) hT₈ hz8 fun c o c1 c2 c3 c4 e=>up c o c1 (hk₅ c o c1 c2 c3 c4 e)
theorem Ck{z TI TO i1 i2 l2:Addr}{k1 k2:Nat}{xs:Array Value}{a b:Value}{Q:Fin→Shared→Prop}(hh:A.handled=none)(D:ZipApart z TI TO i1 i2 l1 l2)(hz:IsZip s.heap z TI TO .none)(MD:IsPair s.heap TI (.ref i1) (.ref i2))(MF:IsPair s.heap TO a b)(h1:s.heap.IsTupleIter i1 l1 k1)(h2:s.heap.IsTupleIter i2 l2 k2)(oM:s.heap.IsTuple l1 xs)(sS:s.heap.IsTuple l2 ys)(QW:xs[k1]?=none∨ys[k2]?=none)(hE:∀h' e,(∀c o,c≠z→c≠TO→c≠i1→c≠i2→s.heap.get? c=some o→h'.get? c=some o)→(∃o,h'.get? e=some o∧o.cls=.type "StopIteration")→E (.ref e) { s with heap:=h' }):wpAny (model prog w) A (Builtin.«zip.__next__» ⟨[.ref z],[]⟩) Q E s:=by
  show wpAny _ _ (field (.ref z) 2>>=_) _ _ _;refine aE (kA hz rfl (x:=.bool false) rfl ?_);show wpAny _ _ (field (.ref z) 3>>=_) _ _ _;refine aE (kA hz rfl (x:=.ref TI) rfl ?_);refine aE (wpAny_seqItems MD rfl ?_);show wpAny _ _ (Builtin.SmallTypes.ownedTupleIsFree (.ref z)>>=_) _ _ _;refine aE ?_;unfold Builtin.SmallTypes.ownedTupleIsFree;refine aE (kA hz rfl (x:=.none) rfl (bP ?_));simp only[cw];refine aE (wpAny_rule ?_);refine aE (kA hz rfl (x:=.ref TO) rfl ?_);refine aE (rj hz (by simp) fun h₁ Pt z9=>?_);replace Pt:IsZip h₁ z TI TO .ellipsis:=Pt;refine aE ?_;simp only[List.zipIdx_cons,List.zipIdx_nil,List.forIn_cons,List.forIn_nil];refine aE (aE (wpAny_onRaise ?_));show wpAny _ _ (Builtin.SmallTypes.nextOf (.ref i1)>>=_) _ _ _;cases hx:xs[k1]? with
  |none =>
   refine aE (sR hh (h1.extBut z9.extBut D.i1z) (oM.extBut z9.extBut D.l1z) hx fun h₂ e Cj he=>?_);obtain⟨oe,QX,UL⟩:=he;have hz₂:IsZip h₂ z TI TO .ellipsis:=Cj _ _ D.i1z.symm Pt;have XQ:e≠z:=fun x=>by subst x;rw[hz₂] at QX;cases QX;simp at UL
   refine rj hz₂ (by simp) fun h₃ _ Er=>hE h₃ e (fun c o c1 _ c3 _ x=>Er.extBut _ _ c1 (Cj _ _ c3 (z9.extBut _ _ c1 x))) ⟨oe,Er.extBut _ _ XQ QX,UL⟩
  |some x =>
   have hy:ys[k2]?=none:=by rcases QW with h|h;rw[hx] at h;cases h;exact h
   refine aE (kQ (h1.extBut z9.extBut D.i1z) (oM.extBut z9.extBut D.l1z) hx fun h₂ h1₂ Cj=>bP ?_);have Jf:IsPair h₂ TO a b:=Cj.extBut _ _ D.TOi1 (z9.extBut _ _ D.TOz MF);refine aE (wpAny_seqItems Jf rfl ?_);refine aE (wpAny_updateSeq_pair Jf fun h₃ MG Er=>?_);refine aE (wpAny_letGo (bP ?_));refine aE (aE (wpAny_onRaise ?_));show wpAny _ _ (Builtin.SmallTypes.nextOf (.ref i2)>>=_) _ _ _;refine aE (sR hh (((h2.extBut z9.extBut D.i2z).extBut Cj.extBut D.i12.symm).extBut Er.extBut D.TOi2.symm)
     (((sS.extBut z9.extBut D.l2z).extBut Cj.extBut D.l2i1).extBut Er.extBut D.l2TO) hy fun h₄ e Pu he=>?_)
   obtain⟨oe,QX,UL⟩:=he;have hz₄:IsZip h₄ z TI TO .ellipsis:=Pu _ _ D.i2z.symm (Er.extBut _ _ D.TOz.symm (Cj.extBut _ _ D.i1z.symm Pt));have XQ:e≠z:=fun x=>by subst x;rw[hz₄] at QX;cases QX;simp at UL
   refine rj hz₄ (by simp) fun h₅ _ Jb=>hE h₅ e (fun c o c1 c2 c3 c4 x=>Jb.extBut _ _ c1 (Pu _ _ c4 (Er.extBut _ _ c2 (Cj.extBut _ _ c3 (z9.extBut _ _ c1 x))))) ⟨oe,Jb.extBut _ _ XQ QX,UL⟩
theorem ur{z TI TO i1 i2 l2:Addr}{k1 k2:Nat}{xs:Array Value}{x y a b:Value}{Q:fQ→Shared→Prop}(D:ZipApart z TI TO i1 i2 l1 l2)(hz:IsZip s.heap z TI TO .none)(MD:IsPair s.heap TI (.ref i1) (.ref i2))(MF:IsPair s.heap TO a b)(h1:s.heap.IsTupleIter i1 l1 k1)(h2:s.heap.IsTupleIter i2 l2 k2)(oM:s.heap.IsTuple l1 xs)(sS:s.heap.IsTuple l2 ys)(hx:xs[k1]?=some x)(hy:ys[k2]?=some y)(hQ:∀h',IsZip h' z TI TO (rawInt s.heap.objs.size)→IsPair h' TO x y→h'.IsTupleIter i1 l1 (k1+1)→h'.IsTupleIter i2 l2 (k2+1)→IsPair h' s.heap.objs.size x y→h'.objs.size=s.heap.objs.size+1→(∀c o,c≠z→c≠TO→c≠i1→c≠i2→s.heap.get? c=some o→h'.get? c=some o)→Q (some (.ref s.heap.objs.size)) { s with heap:=h' }):wpAny (model prog w) A (pyNext (.ref z)) Q E s:=by
  have hT:s.TypeIs (.ref z) "zip":=⟨_,hz,rfl⟩
  unfold pyNext;exact aE (wpAny_attempt (ui (name:=Str.ofString "__next__") hT F.slot_zip_next
    (md F.slot_zip_next hT F.entry_zip_next
      (z8 D hz MD MF h1 h2 oM sS hx hy fun h' a1 a2 a3 a4 a5 a6 a7=>bP (hQ h' a1 a2 a3 a4 a5 a6 a7)) (F.args_zip_next_1 _))))
theorem wx{z TI TO i1 i2 l2:Addr}{k1 k2:Nat}{xs:Array Value}{a b:Value}{Q:fQ→Shared→Prop}(hh:A.handled=none)(D:ZipApart z TI TO i1 i2 l1 l2)(hz:IsZip s.heap z TI TO .none)(MD:IsPair s.heap TI (.ref i1) (.ref i2))(MF:IsPair s.heap TO a b)(h1:s.heap.IsTupleIter i1 l1 k1)(h2:s.heap.IsTupleIter i2 l2 k2)(oM:s.heap.IsTuple l1 xs)(sS:s.heap.IsTuple l2 ys)(QW:xs[k1]?=none∨ys[k2]?=none)(hQ:∀h',(∀c o,c≠z→c≠TO→c≠i1→c≠i2→s.heap.get? c=some o→h'.get? c=some o)→Q none { s with heap:=h' }):wpAny (model prog w) A (pyNext (.ref z)) Q E s:=by
  have hT:s.TypeIs (.ref z) "zip":=⟨_,hz,rfl⟩
  unfold pyNext;refine aE (wpAny_attempt (ui (name:=Str.ofString "__next__") hT F.slot_zip_next
    (md F.slot_zip_next hT F.entry_zip_next (Ck hh D hz MD MF h1 h2 oM sS QW fun h' e hk he=>?_) (F.args_zip_next_1 _))))
  obtain⟨o,ho,hc⟩:=he;refine aE (wpAny_isInstance (T:="StopIteration") (b:=true) ⟨o,ho,hc⟩ isSubtype_stop ?_);exact bP (hQ _ hk)
end
abbrev MH(h:Heap)(l1:Addr):Heap:=h.push { cls:=.type "tuple_iterator",data:=.fields #[.ref l1,.int 0 0] }
abbrev MJ(h:Heap)(l1 l2:Addr):Heap:=(MH h l1).push { cls:=.type "tuple_iterator",data:=.fields #[.ref l2,.int 0 0] }
abbrev MK(h:Heap)(l1 l2:Addr):Heap:=(MJ h l1 l2).push { cls:=.type "tuple",data:=.seq #[.ref h.objs.size,.ref (MH h l1).objs.size] }
abbrev ML(h:Heap)(l1 l2:Addr):Heap:=(MK h l1 l2).push { cls:=.type "tuple",data:=.seq #[.none,.none] }
abbrev Cm(h:Heap)(l1 l2:Addr):Heap:=(ML h l1 l2).push { cls:=.type "zip",data:=.fields #[.none,.bool false,.bool false,.ref (MJ h l1 l2).objs.size,.ref (MK h l1 l2).objs.size] }
theorem yd(l1 l2:Addr)(xs ys:Array Value):Meets (Builtin.«zip.__new__» ⟨[.type "zip",.ref l1,.ref l2],[]⟩) (fun _ R s=>s.heap.IsTuple l1 xs∧s.heap.IsTuple l2 ys∧R (.ok (.ret (.ref (ML s.heap l1 l2).objs.size))) { s with heap:=Cm s.heap l1 l2 }) :=
  .of_wp fun prog w A R s h=>by
    obtain⟨hp,g,d,tk,os⟩:=s;obtain⟨oM,sS,h⟩:=h;have Aa:=sub_zip;have hL1:Heap.IsTuple (Shared.heap ⟨hp,g,d,tk,os⟩) l1 xs:=oM;have hL2:Heap.IsTuple (Shared.heap ⟨hp.push { cls:=.type "tuple_iterator",data:=.fields #[.ref l1,.int 0 0] },g,d,tk,os⟩) l2 ys:=Heap.IsTuple.push sS _
    wp_walk using wpAny_pyIter_tuple hL1,wpAny_pyIter_tuple hL2
    exact⟨_,rfl,h⟩
section
variable {prog:Program} {w:World} {A:Around} {E:ic} {s:Shared}
theorem MN{l2:Addr}{xs:Array Value}(oM:s.heap.IsTuple l1 xs)(sS:s.heap.IsTuple l2 ys)(h:∀h',IsZip h' (s.heap.objs.size+4) (s.heap.objs.size+2) (s.heap.objs.size+3) .none→IsPair h' (s.heap.objs.size+2) (.ref s.heap.objs.size) (.ref (s.heap.objs.size+1))→IsPair h' (s.heap.objs.size+3) .none .none→h'.IsTupleIter s.heap.objs.size l1 0→h'.IsTupleIter (s.heap.objs.size+1) l2 0→h'.objs.size=s.heap.objs.size+5→(∀c o,s.heap.get? c=some o→h'.get? c=some o)→Q (.ref (s.heap.objs.size+4)) { s with heap:=h' }):wpAny (model prog w) A (call (.type "zip") [.ref l1,.ref l2]) Q E s:=by
  refine callType_new F.called_zip (by decide) (F.typeCall_zip_2 _ _) (F.newCall_zip_2 _ _) (fun obj=>F.args_object_init_3 obj _ _) F.entry_zip_new
    (yd l1 l2 xs ys) ⟨oM,sS,?_⟩
  have z1:(MH s.heap l1).objs.size=s.heap.objs.size+1:=kz ..;have z2:(MJ s.heap l1 l2).objs.size=s.heap.objs.size+2:=by rw[kz,z1]
  have z3:(MK s.heap l1 l2).objs.size=s.heap.objs.size+3:=by rw[kz,z2]
  have z4:(ML s.heap l1 l2).objs.size=s.heap.objs.size+4:=by rw[kz,z3]
  have z5:(Cm s.heap l1 l2).objs.size=s.heap.objs.size+5:=by rw[kz,z4]
  have g5:(Cm s.heap l1 l2).get? (ML s.heap l1 l2).objs.size=some _:=iE _ rfl;have g4:(Cm s.heap l1 l2).get? (MK s.heap l1 l2).objs.size=some _:=dC _ (iE _ rfl);have g3:(Cm s.heap l1 l2).get? (MJ s.heap l1 l2).objs.size=some _:=dC _ (dC _ (iE _ rfl));have g2:(Cm s.heap l1 l2).get? (MH s.heap l1).objs.size=some _:=dC _ (dC _ (dC _ (iE _ rfl)));have g1:(Cm s.heap l1 l2).get? s.heap.objs.size=some _:=dC _ (dC _ (dC _ (dC _ (iE _ rfl))));show _∧_;rw[z2,z3,z4] at g5;rw[z1,z2] at g3;rw[z3] at g4;rw[z1] at g2;rw[z4];exact⟨⟨_,g5,rfl⟩,h _ g5 g3 g4 ⟨_,g1,rfl,rfl⟩ ⟨_,g2,rfl,rfl⟩ z5 fun c o x =>
    dC _ (dC _ (dC _ (dC _ (dC _ x))))⟩
end
end L2
namespace L2
open PySem PySem.Spec PyProof.Rows
def XR(K:PySem.W.Frag)(a b:Addr)(xs ys:List V):It :=
  ⟨fun i H=>gy K H a xs∧gy K H b ys∧i<xs.length∧i<ys.length,fun i H x H'=>∃p u v,x=.ref p∧H p=none∧H'=upd H p (.tup [u,v])∧xs[i]?=some u∧ys[i]?=some v,
    fun i H=>gy K H a xs∧gy K H b ys∧(xs.length≤i∨ys.length≤i)⟩
theorem Jh{K:PySem.W.Frag}(a b z TI TO i1 i2:Addr)(D:ZipApart z TI TO i1 i2 a b)(xs ys:List V) :
    Turn P w K (.Tuple elts k pos) (XR K a b xs ys) [z,TI,TO,i1,i2] z (fun i h=>IsZip h z TI TO .none∧IsPair h TI (.ref i1) (.ref i2)∧(∃u v,IsPair h TO u v)∧h.IsTupleIter i1 a i∧h.IsTupleIter i2 b i) where
  mem:=by simp
  obj:=fun i h st c hc=>by
    obtain⟨h1,h2,⟨u,v,h3⟩,⟨o1,h4,_,d1⟩,⟨o2,h5,_,d2⟩⟩:=st;simp only[dc,wc,or_false] at hc;rcases hc with rfl|rfl|rfl|rfl|rfl
    ·exact⟨_,h1,fun v z=>by cases z⟩
    ·exact⟨_,h2,fun v z=>by cases z⟩
    ·exact⟨_,h3,fun v z=>by cases z⟩
    ·exact⟨_,h4,fun v z=>by rw[d1] at z;cases z⟩
    ·exact⟨_,h5,fun v z=>by rw[d2] at z;cases z⟩
  keep:=fun i h h' st kk=>by obtain⟨h1,h2,⟨u,v,h3⟩,⟨o1,h4,r1⟩,⟨o2,h5,r2⟩⟩:=st;exact⟨kk z (by simp) _ h1,kk TI (by simp) _ h2,⟨u,v,kk TO (by simp) _ h3⟩,⟨o1,kk i1 (by simp) _ h4,r1⟩,⟨o2,kk i2 (by simp) _ h5,r2⟩⟩
  item:=by
    intro X hP hw hK hc i pins s σ H E I hf st hg;subst hP hw hK;obtain⟨qa,qb,la,lb⟩:=hg;obtain⟨pU,vY,p1,_⟩:=I.tuple qa;obtain⟨cX,vZ,p2,_⟩:=I.tuple qb;obtain⟨u,hu,ru⟩:=vY.get (x:=xs[i]) (i:=i) (by simp[la]);obtain⟨v,hv,rv⟩:=vZ.get (x:=ys[i]) (i:=i) (by simp[lb]);obtain⟨h1,h2,⟨u0,v0,h3⟩,h4,h5⟩:=st;refine ur D h1 h2 h3 h4 h5 (show s.heap.IsTuple a pU.toArray from p1) (show s.heap.IsTuple b cX.toArray from p2) (x:=u) (y:=v) (by simpa using hu) (by simpa using hv) fun h' a1 a2 a3 a4 a5 a6 a7=>?_;refine⟨_,rfl,wpAny_letOwnedTupleGo_zip (s:={ s with heap:=h' }) a1 fun S7 b1 sb=>?_⟩;have fz:=hf z (by simp);have fT:=hf TO (by simp);have f1:=hf i1 (by simp);have f2:=hf i2 (by simp);have S8:H s.heap.objs.size=none:=I.bV.fresh (bJ _);have hzl:z<s.heap.objs.size:=bG h1;have kept:∀c o,c≠z→c≠TO→c≠i1→c≠i2→s.heap.get? c=some o→S7.get? c=some o:=fun c o c1 c2 c3 c4 e=>(sb.2 c c1).trans (a7 c o c1 c2 c3 c4 e);have kT:∀c o,H c≠none→s.heap.get? c=some o→S7.get? c=some o:=fun c o hn e =>
      kept c o (fun q=>hn (q▸fz.1)) (fun q=>hn (q▸fT.1)) (fun q=>hn (q▸f1.1)) (fun q=>hn (q▸f2.1)) e
    have hTp:S7.get? s.heap.objs.size=some { cls:=.type "tuple",data:=.seq #[u,v] }:=(sb.2 _ (mq hzl)).trans a5;refine⟨.ref s.heap.objs.size,upd H s.heap.objs.size (.tup [xs[i],ys[i]]),?_,rfl,⟨_,xs[i],ys[i],rfl,S8,rfl,by simp[la],by simp[lb]⟩,?_,fun c hc=>?_⟩
    · show Inv X pins σ _ { s with heap:=S7,gens:=s.gens,drawn:=s.drawn,toks:=s.toks };refine I.step (g':=s.gens) (d':=s.drawn) (t':=s.toks) (ch:=[z,TO,i1,i2]) (fun c hc=>?_) (fun c o _ _ hc e _=>?_) (fun c o _ _ hc e _=>⟨o.slots,?_⟩) (fun c o hc e n=>?_) (fun c o hc e=>⟨o,?_⟩) (fun c zs e=>?_) (fun c o zs e=>?_) (fun c ps e=>⟨#[],?_⟩) (fun m hm=>?_) (fun c o e=>?_) I.bare
      · simp only[dc,wc,or_false] at hc;have g:fS X pins H c:=by
          rcases hc with rfl|rfl|rfl|rfl
          ·exact fz
          ·exact fT
          ·exact f1
          ·exact f2
        exact⟨g.2.2.2.1,g.2.1,g.2.2.2.2.1,g.2.2.2.2.2⟩
      all_goals try simp only[dc,wc,or_false,not_or] at hc
      ·exact kept c o hc.1 hc.2.1 hc.2.2.1 hc.2.2.2 e
      ·exact kept c o hc.1 hc.2.1 hc.2.2.1 hc.2.2.2 e
      ·rw[ai (dP (bG e))];exact n
      ·exact kept c o hc.1 hc.2.1 hc.2.2.1 hc.2.2.2 e
      ·rw[ai (aQ e S8)];exact e
      ·rw[ai (aQ e S8)];exact e
      ·rw[ai (aQ e S8),e];simp
      ·obtain⟨o,es,ep,ho,r⟩:=hm;exact⟨o,es,ep,kept _ o (cT fz.2.1) (cT fT.2.1) (cT f1.2.1) (cT f2.2.1) ho,r⟩
      · by_cases XS:c=s.heap.objs.size
        ·subst XS;rw[ay] at e;cases e;exact⟨by show 2≤sizeLine;decide,[u,v],.cons ru (.cons rv .nil),⟨_,hTp,rfl,_,rfl⟩⟩
        · rw[ai XS] at e;refine(I.bV c o e).jY (fun d q hd z'=>kT d q ?_ z') (fun d q=>by rw[ai (aQ q S8)];exact q) fun d zs q=>by rw[ai (aQ q S8)];exact q
          rcases hd with rfl|hd
          ·rw[e];exact fun q=>nomatch q
          ·rw[hd];exact fun q=>nomatch q
    · refine⟨b1,?_,⟨u,v,?_⟩,?_,?_⟩
      ·exact(sb.2 _ D.TIz).trans (a7 TI _ D.TIz D.TITO D.TIi1 D.TIi2 h2)
      ·exact(sb.2 _ D.TOz).trans a2
      ·obtain⟨o,e,r⟩:=a3;exact⟨o,(sb.2 _ D.i1z).trans e,r⟩
      ·obtain⟨o,e,r⟩:=a4;exact⟨o,(sb.2 _ D.i2z).trans e,r⟩
    · have hn:=(hf c hc).1;obtain⟨o,e,_⟩:∃o,s.heap.get? c=some o∧True:=by
        simp only[dc,wc,or_false] at hc;rcases hc with rfl|rfl|rfl|rfl|rfl
        ·exact⟨_,h1,trivial⟩
        ·exact⟨_,h2,trivial⟩
        ·exact⟨_,h3,trivial⟩
        ·obtain⟨o,e,_⟩:=h4;exact⟨o,e,trivial⟩
        ·obtain⟨o,e,_⟩:=h5;exact⟨o,e,trivial⟩
      rw[ai (dP (bG e))];exact hn
  done:=by
    intro X hP hw hK hc i pins s σ H E I hf st hg;subst hP hw hK;obtain⟨qa,qb,Uz⟩:=hg;obtain⟨pU,vY,p1,_⟩:=I.tuple qa;obtain⟨cX,vZ,p2,_⟩:=I.tuple qb;have l1:=vY.length;have l2:=vZ.length;obtain⟨h1,h2,⟨u0,v0,h3⟩,h4,h5⟩:=st;have fz:=hf z (by simp);have fT:=hf TO (by simp);have f1:=hf i1 (by simp);have f2:=hf i2 (by simp);refine wx (I.ok.hd hc) D h1 h2 h3 h4 h5 (show s.heap.IsTuple a pU.toArray from p1) (show s.heap.IsTuple b cX.toArray from p2) (by
      rcases Uz with q|q
      ·exact .inl (by simp;omega)
      ·exact .inr (by simp;omega)) fun h' kk=>⟨rfl,?_⟩
    refine I.step (g':=s.gens) (d':=s.drawn) (t':=s.toks) (ch:=[z,TO,i1,i2]) (fun c hc=>?_) (fun c o _ _ hc e _=>?_) (fun c o _ _ hc e _=>⟨o.slots,?_⟩) (fun c o hc e n=>n) (fun c o hc e=>⟨o,?_⟩) (fun c zs e=>e) (fun c o zs e=>e) (fun c ps e=>⟨#[],by rw[e];simp⟩) (fun m hm=>?_) (fun c o e=>?_) I.bare
    · simp only[dc,wc,or_false] at hc;have g:fS X pins H c:=by
        rcases hc with rfl|rfl|rfl|rfl
        ·exact fz
        ·exact fT
        ·exact f1
        ·exact f2
      exact⟨g.2.2.2.1,g.2.1,g.2.2.2.2.1,g.2.2.2.2.2⟩
    all_goals try simp only[dc,wc,or_false,not_or] at hc
    ·exact kk c o hc.1 hc.2.1 hc.2.2.1 hc.2.2.2 e
    ·exact kk c o hc.1 hc.2.1 hc.2.2.1 hc.2.2.2 e
    ·exact kk c o hc.1 hc.2.1 hc.2.2.1 hc.2.2.2 e
    ·obtain⟨o,es,ep,ho,r⟩:=hm;exact⟨o,es,ep,kk _ o (cT fz.2.1) (cT fT.2.1) (cT f1.2.1) (cT f2.2.1) ho,r⟩
    · refine(I.bV c o e).jY (fun d q hd z'=>?_) (fun _ q=>q) fun _ _ q=>q;have hn:H d≠none:=by
        rcases hd with rfl|hd
        ·rw[e];exact fun q=>nomatch q
        ·rw[hd];exact fun q=>nomatch q
      exact kk d q (fun q=>hn (q▸fz.1)) (fun q=>hn (q▸fT.1)) (fun q=>hn (q▸f1.1)) (fun q=>hn (q▸f2.1)) z'
  self:=fun _ _ _ _ _ st h=>wpAny_pyIter_zip st.1 h
section
variable {X:Cx}
def XT(K:PySem.W.Frag)(ta:TA):TI:=fun σ H R=>ta σ H fun vs H1=>∃a b xs ys,vs=[.ref a,.ref b]∧gy K H1 a xs∧gy K H1 b ys∧R (XR K a b xs ys) H1
theorem QY{a b:Expr}{um:Pos}{ta:TA}{p:Pos}(hg:Gl X "zip")(hm:X.mg "zip"=none)(ha:PA X [a,b] ta)(hs:starEach [a,b] X.env=[(false,eval a X.env),(false,eval b X.env)]:=by rfl)(kx:starEach [b] X.env=[(false,eval b X.env)]:=by rfl):PI X (.Tuple elts k um) (.Call (.Name "zip" p) [a,b] [] pos) (XT X.K ta):=by
  intro pins s σ H R I h;refine Call_ (gT I hg hm (by decide +kernel:bootBuiltins "zip"=some (.type "zip")) (BL (cN (ha pos pins s σ H _ I h) fun us s1 ⟨vs,H1,I1,r1,q1⟩=>?_) (by rw[hs,kx]) (by rw[kx];rfl)));obtain⟨a,b,xs,ys,e,qa,qb,q⟩:=q1;subst e;obtain⟨u,v,rfl,ru,rv⟩:=vals2 r1;cases ru;cases rv;obtain⟨pU,vY,p1,_⟩:=I1.tuple qa;obtain⟨cX,vZ,p2,_⟩:=I1.tuple qb;have la:a<s1.heap.objs.size:=by obtain⟨o,e,_⟩:=p1;exact bG e
  have lb:b<s1.heap.objs.size:=by obtain⟨o,e,_⟩:=p2;exact bG e
  refine MN (show s1.heap.IsTuple a pU.toArray from p1) (show s1.heap.IsTuple b cX.toArray from p2) fun h' hz MD MF hi1 QZ hsz kk=>?_;refine wpAny_pyIter_zip (s:={ s1 with heap:=h' }) hz ?_;have I2:Inv X pins σ H1 { s1 with heap:=h' }:=I1.kept (t':=s1.toks) kk;refine⟨_,[_,_,_,_,_],_,_,H1,rfl,I2,Jh a b _ _ _ _ _ (PySem.W.ktu_apart _ a b la lb) xs ys,⟨hz,MD,⟨_,_,MF⟩,hi1,QZ⟩,fun c hc=>?_,q⟩;have BD:s1.heap.objs.size≤c:=by simp only[dc,wc,or_false] at hc;rcases hc with rfl|rfl|rfl|rfl|rfl<;>first|exact bJ _|exact Nat.le_add_right _ _
  exact I1.tu BD (I1.bV.fresh BD)
end
theorem Ab:bootBuiltins "tuple"=some (.type "tuple"):=by decide +kernel
theorem ye:bootBuiltins "list"=some (.type "list"):=by decide +kernel
theorem Q0:bootBuiltins "int"=some (.type "int"):=by decide +kernel
theorem MP:bootBuiltins "bool"=some (.type "bool"):=by decide +kernel
theorem Q5:bootBuiltins "str"=some (.type "str"):=by decide +kernel
theorem Ji:bootBuiltins "set"=some (.type "set"):=by decide +kernel
theorem dw:bootBuiltins "len"=some (.builtin "len"):=by decide +kernel
theorem Cp:bootBuiltins "sum"=some (.builtin "sum"):=by decide +kernel
theorem xa:bootBuiltins "sorted"=some (.builtin "sorted"):=by decide +kernel
theorem wy:bootBuiltins "isinstance"=some (.builtin "isinstance"):=by decide +kernel
theorem in1_units:A.in1.units=A.units+1:=rfl
theorem all_eq{ms:bL}:((List.range (min ns.length ms.length)).all (fun j=>decide (ns[j]?=ms[j]?))&&(ns.length==ms.length))=decide (ns=ms):=by
  rw[pJ];simp only[oA,eX,ml,decide_eq_true_eq,beq_iff_eq];constructor
  · rintro⟨h,hl⟩;refine List.ext_getElem? fun i=>?_;by_cases hi:i<min ns.length ms.length
    ·exact h i hi
    ·rw[zB (by omega),zB (by omega)]
  ·rintro rfl;exact⟨fun _ _=>rfl,rfl⟩
theorem GB{q:Addr}{pU cX:cA}{ms:bL}(h1:IsTup s.heap p pU.toArray)(h2:IsTup s.heap q cX.toArray)(r1:Vals (ns.map V.int) pU)(r2:Vals (ms.map V.int) cX)(hu:A.units<cLine):SeqAt.EqAt A s (.ref p) (.ref q) (decide (ns=ms)):=by
  by_cases e:p=q
  · subst e;obtain⟨o,e1,_,n,d1⟩:=h1;obtain⟨o',e2,_,n',d2⟩:=h2;rw[e1] at e2;cases e2;rw[d1] at d2;injection d2 with d3 _;have e3:pU=cX:=by simpa using gG Array.toList d3
    subst e3;have e4:=r1.inj r2;have e5:ns=ms:=by have:=gG (List.map fun v=>match v with|V.int i=>i|_=>0) e4;simpa[fB,Function.comp_def] using this
    rw[mj e5];exact SeqAt.EqAt.same _
  · have l1:pU.length=ns.length:=by have:=r1.length;simpa using this.symm
    have l2:cX.length=ms.length:=by have:=r2.length;simpa using this.symm
    have key:=SeqAt.RcAt.tuples (A:=A) (e:=fun j=>decide (ns[j]?=ms[j]?)) (show s.heap.IsTuple p pU.toArray from h1) (show s.heap.IsTuple q cX.toArray from h2) hu (fun j q1 q2=>by
      have Wr:j<ns.length:=by simpa[l1] using q1
      have q2':j<ms.length:=by simpa[l2] using q2
      obtain⟨u,Ws,ru⟩:=r1.get (i:=j) (x:=.int ns[j]) (by simp[Wr]);obtain⟨v,hv1,rv⟩:=r2.get (i:=j) (x:=.int ms[j]) (by simp[q2']);obtain⟨t,rfl⟩:=ru;obtain⟨t',rfl⟩:=rv;have a1:pU.toArray[j]=.int ns[j] t:=by
        have:pU.toArray[j]?=some (.int ns[j] t):=by simpa using Ws
        rw[uh q1] at this;exact jJ this
      have a2:cX.toArray[j]=.int ms[j] t':=by
        have:cX.toArray[j]?=some (.int ms[j] t'):=by simpa using hv1
        rw[uh q2] at this;exact jJ this
      rw[a1,a2];have e:decide (ns[j]?=ms[j]?)=(ns[j]==ms[j]):=by rw[eQ Wr,eQ q2',pJ];simp
      rw[e];exact SeqAt.EqAt.int_int _ _ _ _)
    rw[show pU.toArray.size=ns.length by simpa using l1,show cX.toArray.size=ms.length by simpa using l2,all_eq] at key;exact SeqAt.EqAt.of_refs e key
section
variable {X:Cx}
theorem kR:∀ns:bL,HT.lexLt ns ns=false
  |[]=>rfl
  |x::r=>by rw[HT.gU,az rfl];exact kR r
theorem MQ{i:Int}(I:Inv X pins σ H s)(h:gy X.K H a [.int i,.ref p]):∃t,IsTup s.heap a [Value.int i t,Value.ref p].toArray:=by obtain⟨its,rv,ht,_⟩:=I.tuple h;obtain⟨u,v,rfl,ru,rv'⟩:=vals2 rv;obtain⟨t,rfl⟩:=ru;cases rv';exact⟨t,ht⟩
theorem Ac:mw X (.builtin "isinstance") (fun xs H Q=>∃x T t b,xs=[x,.ty T]∧oH X.K H x t∧kitOne X.K t (.type T)=some b∧Q (.bl b) H):=by intro pins s σ H xs us Q I r h;obtain⟨x,T,t,b,rfl,ty,e,q⟩:=h;obtain⟨u,v,rfl,ru,rv⟩:=vals2 r;cases rv;exact Gj I ru ty e fun tk=>⟨.bl b,H,I.tok tk,rfl,q⟩
end
end L2
namespace MR
open PySem PySem.W PyProof.Rows
variable {α β:Type}
def dR(lt:Nat→Nat→Bool):KasT α→α
  |.ret a=>a
  |.ask i j k=>dR lt (k (lt i j))
theorem i6(lt:Nat→Nat→Bool)(f:α→KasT β):∀t:KasT α,dR lt (t.bind f)=dR lt (f (dR lt t))
  |.ret _=>rfl
  |.ask i j k=>i6 lt f (k (lt i j))
def kD(n:Nat)(P:α→Prop):KasT α→Prop
  |.ret a=>P a
  |.ask i j k=>i<n∧j<n∧∀b,kD n P (k b)
theorem kD.bind{P:α→Prop}{R:β→Prop}{f:α→KasT β}:∀{t:KasT α},kD n P t→(∀a,P a→kD n R (f a))→kD n R (t.bind f)
  |.ret a,h,hf=>hf a h
  |.ask _ _ _,h,hf=>⟨h.1,h.2.1,fun b=>kD.bind (h.2.2 b) hf⟩
theorem Pw{cmp:Nat→Nat→(Bool→Shared→Prop)→Shared→Prop}{S:Shared→Prop}{lt:Nat→Nat→Bool}{n:Nat}{P:α→Prop}{Q:α→Shared→Prop}(MS:∀i j C s,i<n→j<n→S s→(∀s',S s'→C (lt i j) s')→cmp i j C s):∀(t:KasT α) (s:Shared),kD n P t→S s→(∀s',S s'→P (dR lt t)→Q (dR lt t) s')→t.kasWp cmp Q s
  |.ret a,s,h,hs,hq=>hq s hs h
  |.ask i j k,s,h,hs,hq=>MS i j _ s h.1 h.2.1 hs fun s' HJ=>Pw MS (k (lt i j)) s' (h.2.2 _) HJ hq
structure bC (n:Nat) (p:Array Nat):Prop where
  perm:p.Perm (List.range n).toArray
theorem bC.size{p:Array Nat}(h:bC n p):p.size=n:=by rw[h.perm.size_eq];simp
theorem bC.lt{p:Array Nat}(h:bC n p)(hn:0<n)(x:Nat):p.getD x 0<n:=by
  by_cases hx:x<p.size
  · have e:p.getD x 0=p[x]:=by simp[Array.getD,hx]
    rw[e];have hm:p[x]∈(List.range n):=by have:=(Array.perm_iff_toList_perm.mp h.perm).mem_iff (a:=p[x]);simp only[Array.mem_toList_iff] at this;exact this.mp (by simp)
    exact ml.mp hm
  · have e:p.getD x 0=0:=by simp[Array.getD,hx]
    rw[e];exact hn
theorem bC.inj{p:Array Nat}(h:bC n p)(hi:i<n)(hj:j<n)(e:p.getD i 0=p.getD j 0):i=j:=by
  have nd:p.toList.Nodup:=(Array.perm_iff_toList_perm.mp h.perm).nodup_iff.mpr (by simpa using List.nodup_range);have HG:i<p.toList.length:=by simpa[h.size] using hi
  have Jj:j<p.toList.length:=by simpa[h.size] using hj
  have QZ:i<p.size:=by simpa using HG
  have hj2:j<p.size:=by simpa using Jj
  simp only[Array.getD,QZ,hj2,dif_pos] at e;exact(List.getElem_inj (h₀:=HG) (h₁:=Jj) nd).mp (by rw[Array.getElem_toList,Array.getElem_toList];exact e)
theorem bC.rev{p:Array Nat}(h:bC n p):bC n (kas_rev p i j):=⟨(mirror_perm _ _ _ _).trans h.perm⟩
theorem bC.bub{p:Array Nat}(h:bC n p):bC n (bubble p i j):=⟨(bubble_perm _ _ _).trans h.perm⟩
theorem bC.id(n:Nat):bC n (List.toArray (List.range n)):=⟨Array.Perm.refl _⟩
theorem pV{p q:Array Nat}(h:p[i]?=q[j]?):p.getD i 0=q.getD j 0:=by rw[Array.getD_eq_getD_getElem?,Array.getD_eq_getD_getElem?,h]
theorem Es{p:Array Nat}(hj:j≤p.size)(k:Nat):(kas_rev p i j).getD k 0=if i≤k∧k<j then p.getD (i+j-1-k) 0 else p.getD k 0:=by
  have e:=getElem?_mirror_all (xs:=p) (i:=i) hj k;unfold kas_rev;by_cases h:i≤k∧k<j
  ·rw[az h] at e⊢;exact pV e
  ·rw[ax h] at e⊢;exact pV e
theorem Et{p:Array Nat}{src d:Nat}(hs:src<p.size)(hd:d≤src)(k:Nat):(bubble p src d).getD k 0=if k=src-d then p.getD src 0 else if src-d<k∧k≤src then p.getD (k-1) 0 else p.getD k 0:=by
  have e:=getElem?_bubble hs d hd k;by_cases h1:k=src-d
  ·rw[az h1] at e⊢;exact pV e
  · rw[ax h1] at e⊢;by_cases h2:src-d<k∧k≤src
    ·rw[az h2] at e⊢;exact pV e
    ·rw[ax h2] at e⊢;exact pV e
structure j6 (n:Nat) (lt:Nat→Nat→Bool):Prop where
  tr:∀i j k,i<n→j<n→k<n→lt i j=true→lt j k=true→lt i k=true
  Wt:∀i j,i<n→j<n→i≠j→lt i j=false→lt j i=true
def Up(lt:Nat→Nat→Bool)(p:Array Nat)(k:Nat):Prop:=∀i j,i<j→j<k→lt (p.getD i 0) (p.getD j 0)=true
def Down(lt:Nat→Nat→Bool)(p:Array Nat)(k:Nat):Prop:=∀i j,i<j→j<k→lt (p.getD j 0) (p.getD i 0)=true
section
variable {n:Nat} {lt:Nat→Nat→Bool} {p:Array Nat}
theorem Up.snoc(S:j6 n lt)(P:bC n p)(hk:1≤k)(hkn:k<n)(h:Up lt p k)(e:lt (p.getD (k-1) 0) (p.getD k 0)=true):Up lt p (k+1):=fun i j pE hj=>by
  have l:=P.lt (by omega:0<n);by_cases Eu:j<k
  ·exact h i j pE Eu
  · have ej:j=k:=by omega
    subst ej;by_cases hi:i=j-1
    ·rw[hi];exact e
    ·exact S.tr _ _ _ (l _) (l _) (l _) (h i (j-1) (by omega) (by omega)) e
theorem Down.snoc(S:j6 n lt)(P:bC n p)(hk:1≤k)(hkn:k<n)(h:Down lt p k)(e:lt (p.getD k 0) (p.getD (k-1) 0)=true):Down lt p (k+1):=fun i j pE hj=>by
  have l:=P.lt (by omega:0<n);by_cases Eu:j<k
  ·exact h i j pE Eu
  · have ej:j=k:=by omega
    subst ej;by_cases hi:i=j-1
    ·rw[hi];exact e
    ·exact S.tr _ _ _ (l _) (l _) (l _) e (h i (j-1) (by omega) (by omega))
theorem Cq(S:j6 n lt)(P:bC n p):∀(f k:Nat),1≤k→k+f=n→Up lt p k→k≤dR lt (kas_asc p f k)∧dR lt (kas_asc p f k)≤n∧Up lt p (dR lt (kas_asc p f k))∧(dR lt (kas_asc p f k)<n→lt (p.getD (dR lt (kas_asc p f k)) 0) (p.getD (dR lt (kas_asc p f k)-1) 0)=true)
  |0,k,h1,h2,h=>⟨bJ _,by show k≤n;omega,h,fun z=>absurd (show k<n from z) (by omega)⟩
  |f+1,k,h1,h2,h=>by
   show k≤dR lt (if lt (p.getD k 0) (p.getD (k-1) 0)=true then _ else _)∧_;by_cases c:lt (p.getD k 0) (p.getD (k-1) 0)=true
   · simp only[kas_asc,dR,c,cw];refine⟨bJ _,by omega,h,fun _=>?_⟩
     first|exact c|trivial
   · have c':lt (p.getD k 0) (p.getD (k-1) 0)=false:=by simpa using c
     have l:=P.lt (by omega:0<n);have e:lt (p.getD (k-1) 0) (p.getD k 0)=true:=S.Wt _ _ (l _) (l _) (fun z=>by have:=P.inj (by omega) (by omega) z;omega) c';have ih:=Cq S P f (k+1) (by omega) (by omega) (h.snoc S P h1 (by omega) e);simp only[kas_asc,dR,c',rh,il];exact⟨by omega,ih.2⟩
theorem Ew(S:j6 n lt)(P:bC n p):∀(f k:Nat),1≤k→k+f=n→Down lt p k→∃m,dR lt (kas_desc f p k 0)=(p,m,0)∧k≤m∧m≤n∧Down lt p m
  |0,k,h1,h2,h=>⟨k,rfl,bJ _,by omega,h⟩
  |f+1,k,h1,h2,h=>by
   have l:=P.lt (by omega:0<n);by_cases c:lt (p.getD k 0) (p.getD (k-1) 0)=true
   ·obtain⟨m,e,h3,h4,h5⟩:=Ew S P f (k+1) (by omega) (by omega) (h.snoc S P h1 (by omega) c);refine⟨m,?_,by omega,h4,h5⟩;simp only[kas_desc,dR,c,cw,rn,gt_iff_lt,il];exact e
   · have c':lt (p.getD k 0) (p.getD (k-1) 0)=false:=by simpa using c
     have e:lt (p.getD (k-1) 0) (p.getD k 0)=true:=S.Wt _ _ (l _) (l _) (fun z=>by have:=P.inj (by omega) (by omega) z;omega) c';refine⟨k,?_,bJ _,by omega,h⟩;simp only[kas_desc,dR,c',rh,il,e,cw]
theorem Down.rev(P:bC n p)(hk:k≤n)(h:Down lt p k):Up lt (kas_rev p 0 k) k:=fun i j pE hj=>by
  have hz:k≤p.size:=by rw[P.size];exact hk
  rw[Es hz,Es hz,az (by omega),az (by omega)];exact h _ _ (by omega) (by omega)
theorem Jk(S:j6 n lt)(P:bC n p)(h2:2≤n):∃m q,dR lt (kas_count n p)=(m,q)∧1≤m∧m≤n∧bC n q∧Up lt q m:=by
  have l:=P.lt (by omega:0<n);have a:=Cq S P (n-1) 1 (bJ _) (by omega) (fun i j pE hj=>by omega);unfold kas_count;rw[i6];generalize hm:dR lt (kas_asc p (n-1) 1)=m at a;obtain⟨a1,a2,a3,a4⟩:=a;by_cases hn:m=n
  ·subst hn;refine⟨m,p,?_,by omega,bJ _,P,a3⟩;simp[dR]
  · have hb:(m==n)=false:=by simpa using hn
    simp only[hb,rh,il];by_cases h1:m>1
    ·have e:=a3 0 (m-1) (by omega) (by omega);refine⟨m,p,?_,by omega,a2,P,a3⟩;simp only[h1,cw,dR,e]
    · have em:m=1:=by omega
      subst em;simp only[gt_iff_lt,rn,il];have d0:Down lt p 2:=fun i j pE hj=>by
        have ei:i=0:=by omega
        have ej:j=1:=by omega
        subst ei ej;exact a4 (by omega)
      obtain⟨m,e,h3,h4,h5⟩:=Ew S P (n-2) 2 (by omega) (by omega) d0;unfold kas_descPart;rw[i6];have e':dR lt (kas_desc (n-(1+1)) p (1+1) 0)=(p,m,0):=e;rw[e'];simp only[gt_iff_lt,rn,il];unfold kas_tail3;rw[i6];have P':bC n (kas_rev p 0 m):=P.rev;have b:=Cq S P' (n-m) m (by omega) (by omega) (h5.rev P h4);exact⟨_,_,rfl,by show 1≤dR lt (kas_asc (kas_rev p 0 m) (n-m) m);omega,b.2.1,P',b.2.2.1⟩
theorem uv(S:j6 n lt)(P:bC n p){k:Nat}(hk:k<n)(hU:Up lt p k):∀(f a b:Nat),a≤b→b≤k→b-a≤f→(∀i,i<a→lt (p.getD i 0) (p.getD k 0)=true)→(∀i,b≤i→i<k→lt (p.getD k 0) (p.getD i 0)=true)→dR lt (kas_place p k f a b)≤k∧(∀i,i<dR lt (kas_place p k f a b)→lt (p.getD i 0) (p.getD k 0)=true)∧(∀i,dR lt (kas_place p k f a b)≤i→i<k→lt (p.getD k 0) (p.getD i 0)=true)
  |0,a,b,m8,Wu,hf,hl,hh=>by
   have e:a=b:=by omega
   subst e;exact⟨Wu,hl,hh⟩
  |f+1,a,b,m8,Wu,hf,hl,hh=>by
   have l:=P.lt (by omega:0<n);by_cases BD:a≥b
   · have e:a=b:=by omega
     subst e;simp only[kas_place,ge_iff_le,bJ,cw,dR];exact⟨Wu,hl,hh⟩
   · have dQ:a<b:=by omega
     by_cases c:lt (p.getD k 0) (p.getD ((a+b) / 2) 0)=true
     · have ih:=uv S P hk hU f a ((a+b) / 2) (by omega) (by omega) (by omega) hl (fun i h1 h2=>by
         by_cases e:i=(a+b) / 2
         ·rw[e];exact c
         ·exact S.tr _ _ _ (l _) (l _) (l _) c (hU _ _ (by omega) h2))
       simp only[kas_place,BD,il,dR,c,cw];exact ih
     · have c':lt (p.getD k 0) (p.getD ((a+b) / 2) 0)=false:=by simpa using c
       have e:lt (p.getD ((a+b) / 2) 0) (p.getD k 0)=true:=S.Wt _ _ (l _) (l _) (fun z=>by have:=P.inj (by omega) (by omega) z;omega) c';have ih:=uv S P hk hU f ((a+b) / 2+1) b (by omega) Wu (by omega) (fun i h1=>by
         by_cases e':i=(a+b) / 2
         ·rw[e'];exact e
         ·exact S.tr _ _ _ (l _) (l _) (l _) (hU i ((a+b) / 2) (by omega) (by omega)) e) hh
       simp only[kas_place,BD,il,dR,c',rh];exact ih
theorem Jl(S:j6 n lt):∀(f:Nat) (p:Array Nat) (k:Nat),bC n p→k+f=n→Up lt p k→bC n (dR lt (kas_bin f p k))∧Up lt (dR lt (kas_bin f p k)) n
  |0,p,k,P,e,h=>by
   have ek:k=n:=by omega
   subst ek;exact⟨P,h⟩
  |f+1,p,k,P,e,h=>by
   have hk:k<n:=by omega
   obtain⟨h1,h2,h3⟩:=uv S P hk h k 0 k (by omega) (bJ _) (by omega) (fun i hi=>by omega) (fun i h1 h2=>by omega);show bC n (dR lt ((kas_place p k k 0 k).bind _))∧Up lt (dR lt ((kas_place p k k 0 k).bind _)) n;rw[i6];generalize dR lt (kas_place p k k 0 k)=l at h1 h2 h3;refine Jl S f (bubble p k (k-l)) (k+1) P.bub (by omega) fun i j pE hj=>?_;have hs:k<p.size:=by rw[P.size];exact hk
   rw[Et hs (by omega),Et hs (by omega),show k-(k-l)=l by omega];by_cases c1:i=l
   ·rw[az c1,ax (show ¬ j=l by omega),az (show l<j∧j≤k by omega)];exact h3 _ (by omega) (by omega)
   · rw[ax c1];by_cases c2:l<i∧i≤k
     ·rw[az c2,ax (show ¬ j=l by omega),az (show l<j∧j≤k by omega)];exact h _ _ (by omega) (by omega)
     · rw[ax c2];by_cases c3:j=l
       ·rw[az c3];exact h2 _ (by omega)
       · rw[ax c3];by_cases c4:l<j∧j≤k
         ·rw[az c4];exact h _ _ (by omega) (by omega)
         ·rw[ax c4];exact h _ _ (by omega) (by omega)
theorem MT(S:j6 n lt)(h2:2≤n):bC n (dR lt (kas_sort n))∧Up lt (dR lt (kas_sort n)) n:=by
  obtain⟨m,q,e,h1,h3,P,U⟩:=Jk S (bC.id n) h2;unfold kas_sort;rw[i6,e];by_cases hm:m<n
  · simp only[hm,cw];have em:max m 1=m:=by omega
    rw[em];exact Jl S (n-m) q m P (by omega) U
  · simp only[hm,il,dR];have em:m=n:=by omega
    subst em;exact⟨P,U⟩
end
section
variable {n:Nat}
theorem yf{p:Array Nat}(hn:0<n)(P:bC n p):∀(f k:Nat),kD n (fun _=>True) (kas_asc p f k)
  |0,_=>True.intro
  |f+1,k=>⟨P.lt hn _,P.lt hn _,fun b=>by
   cases b with
   |true=>exact True.intro
   |false=>exact yf hn P f (k+1)⟩
theorem pW(hn:0<n):∀(f:Nat) (p:Array Nat) (k q:Nat),bC n p→kD n (fun r=>bC n r.1) (kas_desc f p k q)
  |0,_,_,_,P=>P
  |f+1,p,k,q,P=>⟨P.lt hn _,P.lt hn _,fun b=>by
   cases b with
   |true =>
    simp only[cw];split
    ·exact pW hn f _ _ _ P.rev
    ·exact pW hn f _ _ _ P
   |false =>
    simp only[rh,il];refine⟨P.lt hn _,P.lt hn _,fun d=>?_⟩;cases d with
    |true=>exact P
    |false=>exact pW hn f _ _ _ P⟩
theorem Ad{p:Array Nat}(hn:0<n)(P:bC n p)(k m:Nat):kD n (fun r=>bC n r.2) (kas_tail3 k m p):=by unfold kas_tail3;exact kD.bind (yf hn (P.rev (i:=0) (j:=k)) _ _) fun a _=>(P.rev (i:=0) (j:=k))
theorem Ae{p:Array Nat}(hn:0<n)(P:bC n p)(k m:Nat):kD n (fun r=>bC n r.2) (kas_descPart k m p):=by
  unfold kas_descPart;refine kD.bind (pW hn _ _ _ _ P) fun r hr=>?_;split
  ·exact Ad hn hr.rev _ _
  ·exact Ad hn hr _ _
theorem GC{p:Array Nat}(hn:0<n)(P:bC n p)(m:Nat):kD n (fun r=>bC n r.2) (kas_count m p):=by
  unfold kas_count;refine kD.bind (yf hn P _ _) fun r _=>?_;split
  ·exact P
  · split
    · refine⟨P.lt hn _,P.lt hn _,fun b=>?_⟩;cases b with
      |true=>exact P
      |false=>exact Ae hn P.rev _ _
    ·exact Ae hn P _ _
theorem rM{p:Array Nat}(hn:0<n)(P:bC n p)(k:Nat):∀(f a b:Nat),kD n (fun _=>True) (kas_place p k f a b)
  |0,_,_=>True.intro
  |f+1,a,b=>by
   unfold kas_place;split
   ·exact True.intro
   · refine⟨P.lt hn _,P.lt hn _,fun c=>?_⟩;cases c with
     |true=>exact rM hn P k f _ _
     |false=>exact rM hn P k f _ _
theorem Ex(hn:0<n):∀(f:Nat) (p:Array Nat) (k:Nat),bC n p→kD n (bC n) (kas_bin f p k)
  |0,_,_,P=>P
  |f+1,p,k,P=>kD.bind (rM hn P k _ _ _) fun l _=>Ex hn f _ _ P.bub
theorem Jm(hn:0<n):kD n (bC n) (kas_sort n):=by
  unfold kas_sort;refine kD.bind (GC hn (bC.id n) n) fun r hr=>?_;split
  ·exact Ex hn _ _ _ hr
  ·exact hr
end
end MR
namespace L2
open PySem
def fC(h:Heap)(d:Addr)(es:Array DictEntry)(ep:Nat):Prop:=∃o,h.get? d=some o∧o.ExactDict∧o.data=.dict es ep
section
variable {prog:Program} {w:World} {A:Around} {E:ic} {s:Shared}
theorem tG(hd:(d==sysModules)=false)(hm:fC s.heap d es ep)(hQ:Q (.ref s.heap.objs.size) { s with heap:=s.heap.push { cls:=.type "dict_keyiterator",data:=.fields #[.ref d,.int 0 0,.int es.size 0,.int ep 0] } }):wpAny (model prog w) A (pyIter (.ref d)) Q E s:=by
  obtain⟨o,ho,hc,Af⟩:=id hm;have hT:s.TypeIs (.ref d) "dict":=⟨o,ho,hc.1⟩
  refine wpAny_pyIter_slot hT F.slot_dict_iter (md F.slot_dict_iter hT F.entry_dict_iter ?_ (F.args_dict_iter_1 _));unfold Builtin.«dict.__iter__»;refine aE ?_;unfold Builtin.Dict.dictSlotNone;refine aE (wpAny_notOrdered_dict hT ?_);show wpAny _ _ (pure (Value.ref d)) _ _ s;refine bP ?_;show wpAny _ _ (Builtin.Dict.showsAll d>>=_) _ _ s;unfold Builtin.Dict.showsAll;rw[ax (by rw[hd];exact eT)];refine aE (bP ?_);refine aE (xI ho Af ?_);refine aE (wpAny_dictEpoch ho Af ?_);have hsz:es.size=es.size:=rfl;refine aE (uj (bP ⟨_,rfl,"dict_keyiterator",_,⟨_,iE _ rfl,rfl⟩,F.slot_dict_keyiterator_next.lookup,?_⟩));simpa[rawInt,hsz] using hQ
theorem mC{Q:fQ→Shared→Prop}(hit:s.heap.IsKeyIter it d i es.size ep)(hm:fC s.heap d es ep)(dQ:i<es.size)(hQ:∀h',h'.IsKeyIter it d (i+1) es.size ep→Heap.SameBut it s.heap h'→Q (some es[i].key) { s with heap:=h' }):wpAny (model prog w) A (pyNext (.ref it)) Q E s:=by
  obtain⟨o,ho,hc,hd⟩:=id hit;obtain⟨od,Ag,dU,Ah⟩:=id hm;unfold pyNext;refine aE (wpAny_attempt (ui (name:=Str.ofString "__next__") hit.typeIs F.slot_dict_keyiterator_next
    (md F.slot_dict_keyiterator_next hit.typeIs F.entry_dict_keyiterator_next ?_ (F.args_dict_keyiterator_next_1 _))))
  refine aE (bP ?_);refine aE ?_;refine aE ?_
  first|refine aE (wpAny_typeNameOfWhole_keyiter hit.typeIs (bP ?_))|refine aE (wpAny_typeNameOf_keyiter hit.typeIs (bP ?_))
  refine aE (wpAny_fieldsOf ho hd ?_);have Q6:Builtin.Dict_items.ownsTuple "dict_keyiterator"=false:=by decide
  simp only[Q6,rh,il];show wpAny _ _ (if (Value.ref d==Value.none)=true then _ else _) _ _ s;rw[ax (show ¬ ((Value.ref d==Value.none)=true) from eT)];refine aE (bP ?_);refine aE (xI Ag Ah ?_);have hsz:es.size=es.size:=rfl;rw[ax (by rw[hsz];simp)];refine aE (bP ?_);refine aE (wpAny_dictEpoch Ag Ah ?_);rw[ax (by simp)];refine bP ?_;have Q7:i<es.size:=dQ;simp only[show ¬ ((i:Int)<0) from by omega,il,nM,uh Q7];refine aE ?_
  first|refine aE (wpAny_typeNameOfWhole_keyiter hit.typeIs (bP ?_))|refine aE (wpAny_typeNameOf_keyiter hit.typeIs (bP ?_))
  refine aE (wpAny_isOneOf_keyiter hit.typeIs ?_);show wpAny _ _ (setField (.ref it) 1 (rawInt ((i:Int)+1))>>=_) _ _ s;refine aE (wpAny_setField ho hd (by simp) ?_);have uw:(s.heap.update it (Obj.mapFields (·.setIfInBounds 1 (rawInt ((i:Int)+1))))).IsKeyIter it d (i+1) es.size ep :=
    ⟨_,sZ _ ho (Obj.isFreed_of_fields (v9 hd _)),(Obj.cls_mapFields ..).trans hc,by rw[v9 hd];simp[rawInt]⟩
  refine aE (oB ?_);refine aE (wpAny_isOneOf_keyiter (s:={ s with heap:=s.heap.update it (Obj.mapFields (·.setIfInBounds 1 (rawInt ((i:Int)+1)))) }) uw.typeIs ?_);show wpAny _ _ (pure es[i].key) _ _ _;exact bP (bP ⟨_,rfl,bP (hQ _ uw (pG ..))⟩)
theorem nQ{Q:fQ→Shared→Prop}(hh:A.handled=none)(hit:s.heap.IsKeyIter it d i es.size ep)(hm:fC s.heap d es ep)(hx:es.size≤i)(hQ:∀h',Heap.ExtBut it s.heap h'→Q none { s with heap:=h' }):wpAny (model prog w) A (pyNext (.ref it)) Q E s:=by
  obtain⟨o,ho,hc,hd⟩:=id hit;obtain⟨od,Ag,dU,Ah⟩:=id hm;unfold pyNext;refine aE (wpAny_attempt (ui (name:=Str.ofString "__next__") hit.typeIs F.slot_dict_keyiterator_next
    (md F.slot_dict_keyiterator_next hit.typeIs F.entry_dict_keyiterator_next ?_ (F.args_dict_keyiterator_next_1 _))))
  refine aE (bP ?_);refine aE ?_;refine aE ?_
  first|refine aE (wpAny_typeNameOfWhole_keyiter hit.typeIs (bP ?_))|refine aE (wpAny_typeNameOf_keyiter hit.typeIs (bP ?_))
  refine aE (wpAny_fieldsOf ho hd ?_);have Q6:Builtin.Dict_items.ownsTuple "dict_keyiterator"=false:=by decide
  simp only[Q6,rh,il];show wpAny _ _ (if (Value.ref d==Value.none)=true then _ else _) _ _ s;rw[ax (show ¬ ((Value.ref d==Value.none)=true) from eT)];refine aE (bP ?_);refine aE (xI Ag Ah ?_);have hsz:es.size=es.size:=rfl;rw[ax (by rw[hsz];simp)];refine aE (bP ?_);refine aE (wpAny_dictEpoch Ag Ah ?_);rw[ax (by simp)];refine bP ?_;have BD:es.size≤i:=hx;simp only[show ¬ ((i:Int)<0) from by omega,il,nM,BM BD];refine aE ?_
  first|refine aE (wpAny_typeNameOfWhole_keyiter hit.typeIs (bP ?_))|refine aE (wpAny_typeNameOf_keyiter hit.typeIs (bP ?_))
  show wpAny _ _ (setField (.ref it) 0 .none>>=_) _ _ s;refine aE (wpAny_setField ho hd (by simp) ?_);show wpAny _ _ (newExc (.type "StopIteration") []>>=_) _ _ _;refine aE ?_;simp only[newExc,newTuple];refine aE (uj ?_ (by size_fits));refine aE (m:=firstArgMember _ _) (wpAny_of_eq (a:=Value.none) (by first|rfl|(simp only[firstArgMember];rfl)) ?_);refine uj ?_ (by size_fits);simp only[raiseNew];refine aE (wpAny_handled ?_);rw[show A.in1.handled=none from hh];refine aE (bP (wpAny_throw ?_));refine aE (wpAny_isInstance (T:="StopIteration") (b:=true) ⟨_,iE _ rfl,rfl⟩ isSubtype_stop ?_);exact bP (hQ _ (((pG ..).extBut.push _).push _))
end
end L2
namespace L2
open PySem PySem.Spec PyProof.Rows
section
variable {X:Cx} {pins:gw} {σ:St} {H:Hp} {s:Shared}
theorem Inv.freeze(I:Inv X pins σ H s)(h:H d=some (.dT ao)):∃o,s.heap.get? d=some o∧Inv X pins σ (upd H d (.gM o (.dT ao))) s:=by
  obtain⟨z,y,xs,r,o,es,ep,h1,h2,h3,h4,h5⟩:=(show bS X.prog X.w H s.heap d (.dT ao) from I.bV d _ h)
  refine⟨o,h1,⟨I.ok,I.os,I.bare,⟨I.base.keep,I.base.slot,fun b u e n hx=>?_,I.base.there,fun b xs e=>?_,fun b u xs e=>?_,fun b ps e=>?_⟩,I.loc,I.cell,?_,fun x c e=>?_,fun p hp=>?_,fun b u e=>?_,I.len⟩⟩
  ·have q:=I.base.free b u e n hx;rw[ai (fun z=>by rw[z,h] at q;cases q)];exact q
  ·have q:=I.base.oE b xs e;rw[ai (mr q h (fun z=>nomatch z))];exact q
  ·have q:=I.base.oF b u xs e;rw[ai (mr q h (fun z=>nomatch z))];exact q
  ·obtain⟨m,q⟩:=I.base.rA b ps e;exact⟨m,by rw[ai (mr q h (fun z=>nomatch z))];exact q⟩
  ·have q:=I.free;rw[ai (fun z=>by rw[z,h] at q;cases q)];exact q
  ·have q:=I.fI x c e;rw[ai (fun z=>by rw[z,h] at q;cases q)];exact q
  ·obtain⟨e,n,rr⟩:=I.pin p hp;exact⟨e,by rw[ai (fun z=>by rw[z,h] at n;cases n)];exact n,rr⟩
  · have ho:∀c,H c=some (.own b)→upd H d (.gM o (.dT ao)) c=some (.own b):=fun c q=>by
      rw[ai (mr q h (fun z=>nomatch z))];exact q
    have ht:∀c ys,H c=some (.tup ys)→upd H d (.gM o (.dT ao)) c=some (.tup ys):=fun c ys q=>by rw[ai (mr q h (fun z=>nomatch z))];exact q
    by_cases hb:b=d
    ·subst hb;rw[ay] at e;cases e;exact⟨h1,(I.bV b _ h).jY (fun _ _ _ q=>q) ho ht⟩
    ·rw[ai hb] at e;exact(I.bV b u e).jY (fun _ _ _ q=>q) ho ht
end
theorem nc{α β:Type}{F:α→β→Prop}:∀{l:List α} {m:List β} {i:Nat} {x:α},Paired F l m→l[i]?=some x→∃y,m[i]?=some y∧F x y
  |_,_,_,_,.nil,e=>by simp at e
  |_,_,0,_,.cons r _,e=>by simp at e;subst e;exact⟨_,rfl,r⟩
  |_,_,i+1,x,.cons _ t,e=>by obtain⟨y,h1,h2⟩:=nc (i:=i) (x:=x) t (by simpa using e);exact⟨y,by simpa using h1,h2⟩
end L2
namespace L2
open PySem PySem.Spec PyProof.Rows PySem.W MR
def kE(d e:Int×bL):Bool:=if d.1=e.1 then HT.lexLt d.2 e.2 else decide (d.1<e.1)
theorem Ai:∀{a b c:bL},HT.lexLt a b=true→HT.lexLt b c=true→HT.lexLt a c=true
  |[],[],_,h,_=>by simp[HT.nU] at h
  |[],_::_,[],_,h=>by simp[HT.fV] at h
  |[],_::_,_::_,_,_=>rfl
  |_::_,[],_,h,_=>by simp[HT.fV] at h
  |_::_,_::_,[],_,h=>by simp[HT.fV] at h
  |x::r,y::t,z::u,h1,h2=>by
   rw[HT.gU] at h1 h2⊢;by_cases e1:x=y
   · rw[az e1] at h1;by_cases e2:y=z
     ·rw[az e2] at h2;rw[az (e1.trans e2)];exact Ai h1 h2
     ·rw[ax e2] at h2;rw[ax (fun q=>e2 (e1.symm.trans q)),e1];exact h2
   · rw[ax e1] at h1;have l1:x<y:=by simpa using h1
     by_cases e2:y=z
     ·rw[ax (fun q=>e1 (q.trans e2.symm)),←e2];exact h1
     · rw[ax e2] at h2;have l2:y<z:=by simpa using h2
       rw[ax (by omega)];simp;omega
theorem xc:∀{a b:bL},a≠b→HT.lexLt a b=false→HT.lexLt b a=true
  |[],[],h,_=>absurd rfl h
  |[],_::_,_,h=>by simp[HT.mx] at h
  |_::_,[],_,_=>rfl
  |x::r,y::t,kU,h=>by
   rw[HT.gU] at h⊢;by_cases e:x=y
   ·rw[az e] at h;rw[az e.symm];exact xc (fun q=>kU (by rw[e,q])) h
   · rw[ax e] at h;rw[ax (fun q=>e q.symm)];have:¬ x<y:=by simpa using h
     simp;omega
theorem rN{a b c:Int×bL}(h1:kE a b=true)(h2:kE b c=true):kE a c=true:=by
  unfold kE at *;by_cases e1:a.1=b.1
  · rw[az e1] at h1;by_cases e2:b.1=c.1
    ·rw[az e2] at h2;rw[az (e1.trans e2)];exact Ai h1 h2
    ·rw[ax e2] at h2;rw[ax (fun q=>e2 (e1.symm.trans q)),e1];exact h2
  · rw[ax e1] at h1;have l1:a.1<b.1:=by simpa using h1
    by_cases e2:b.1=c.1
    ·rw[ax (fun q=>e1 (q.trans e2.symm)),←e2];exact h1
    · rw[ax e2] at h2;have l2:b.1<c.1:=by simpa using h2
      rw[ax (by omega)];simp;omega
theorem tV{a b:Int×bL}(kU:a≠b)(h:kE a b=false):kE b a=true:=by
  unfold kE at *;by_cases e:a.1=b.1
  ·rw[az e] at h;rw[az e.symm];exact xc (fun q=>kU (Prod.ext e q)) h
  · rw[ax e] at h;rw[ax (fun q=>e q.symm)];have:¬ a.1<b.1:=by simpa using h
    simp;omega
def pairAt(H:Hp)(v:V)(d:Int×bL):Prop:=∃a p,v=.ref a∧H a=some (.tup [.int d.1,.ref p])∧H p=some (.tup (d.2.map V.int))
theorem pairAt.same{d:Int×bL}(x:pairAt H v d)(s:bH H H'):pairAt H' v d:=by obtain⟨a,p,e,h1,h2⟩:=x;exact⟨a,p,e,s _ _ h1,s _ _ h2⟩
theorem mD{α:Type}(l:List α)(d:α):(List.range l.length).map (fun i=>l.getD i d)=l:=by
  refine List.ext_getElem? fun i=>?_;rw[eU];by_cases h:i<l.length
  ·rw[List.getElem?_range h,eQ h];simp[jd,h]
  ·rw[zB (by simpa using h),zB (by simpa using h)];rfl
theorem MV{α:Type}{p:Array Nat}{l:List α}(d:α)(h:bC l.length p):(p.toList.map fun i=>l.getD i d).Perm l:=by
  have h1:p.toList.Perm (List.range l.length):=by simpa using Array.perm_iff_toList_perm.mp h.perm
  have h2:=h1.map (fun i=>l.getD i d);rw[mD] at h2;exact h2
theorem Aj{α:Type}{p:Array Nat}{l:List α}(d:α)(R:α→α→Bool)(hn:bC l.length p)(h:Up (fun i j=>R (l.getD i d) (l.getD j d)) p l.length):(p.toList.map fun i=>l.getD i d).Pairwise (fun a b=>R a b=true):=by
  rw[List.pairwise_iff_getElem];intro i j hi hj pE;simp only[List.getElem_map,Array.getElem_toList];have hs:=hn.size;have Jj:j<p.size:=by simpa using hj
  have HG:i<p.size:=by simpa using hi
  have q:=h i j pE (by omega);have e1:p.getD i 0=p[i]:=by simp[Array.getD,HG]
  have e2:p.getD j 0=p[j]:=by simp[Array.getD,Jj]
  rw[e1,e2] at q;exact q
theorem cK{α β:Type}{F:α→β→Prop}{l:List α}{m:List β}(h:Paired F l m)(hi:i<l.length)(d:α)(e:β):F (l.getD i d) (m.getD i e):=by obtain⟨y,h1,h2⟩:=nc (i:=i) (x:=l[i]) h (by simp[hi]);rw[jd,jd,h1,eQ hi];exact h2
theorem oN{α β γ:Type}{F:α→β→Prop}(f:γ→α)(g:γ→β):∀{l:List γ},(∀x∈l,F (f x) (g x))→Paired F (l.map f) (l.map g)
  |[],_=>.nil
  |x::r,h=>.cons (h x eR) (oN f g fun y hy=>h y (ef _ hy))
section
variable {X:Cx}
theorem wz{ds:BK}(hd:ds.Nodup):j6 ds.length (fun i j=>kE (ds.getD i (0,[])) (ds.getD j (0,[]))) where
  tr:=fun i j k _ _ _ h1 h2=>rN h1 h2
  Wt:=fun i j hi hj kU h=>tV (fun q=>kU (by
    rw[jd,jd,eQ hi,eQ hj] at q;exact(List.getElem_inj hd).mp q)) h
theorem rO(I:Inv X pins σ H s){d:Int×bL}(r:RelV v u)(h:pairAt H v d):∃a p t its,u=.ref a∧IsTup s.heap a [Value.int d.1 t,Value.ref p].toArray∧IsTup s.heap p its.toArray∧Vals (d.2.map V.int) its:=by
  obtain⟨a,p,rfl,h1,h2⟩:=h;cases r;obtain⟨t,ht⟩:=MQ I (gy.of h1);obtain⟨its,rv,hp,_⟩:=I.tuple (gy.of h2);exact⟨a,p,t,its,rfl,ht,hp,rv⟩
end
end L2
namespace L2
open PySem PySem.Spec PyProof.Rows PySem.W
section
variable {X:Cx}
theorem Ak(hc:X.calm=true):mw X (.builtin "sum") (fun xs H Q=>∃(p:Addr) (ns:bL),xs=[.ref p]∧eY X.K H p (ns.map V.int)∧Q (.int ns.sum) H):=by
  intro pins s σ H xs us Q I r h;obtain⟨p,ns,rfl,hq,q⟩:=h;obtain⟨u,rfl,ru⟩:=vals1 r;cases ru;obtain⟨its,rv,hl,_⟩:=I.list hq;have hi:=intsAre_of rv;obtain⟨zs,ez⟩:=hi.allInts.items;refine sum_intListG (xs:=zs) (I.ok.hd hc) (by rw[←ez];exact hl.isList) fun h' tk t' hk=>?_;have e:preSum (numAt zs) zs.size=ns.sum:=by
    have e1:numsOf its=ns:=hi.numsOf;have e2:numsOf (intItems zs).toList=numsOf its:=by rw[←ez]
    rw[nums_intItems] at e2;rw[preSum_eq,List.take_of_length_le (by simp),e2,e1]
  rw[e];exact⟨.int ns.sum,H,I.kept hk,⟨_,rfl⟩,q⟩
end
end L2
namespace L2
open PySem PySem.Spec PyProof.Rows
structure mE (P:Program) (w:World) (K:PySem.W.Frag) (mg:Str→fQ) (base:Heap) (k:Nat) (f:Addr) (ps:dB) (sp:Sp):Prop where
  ex:∃fd,cE P w K mg base mz k f fd ps sp∧Binds K fd ps []∧keepIn K (.ref f)=true
theorem Ct{f:Addr}{ps:dB}{sp:Sp}{p:Pos}{es:List Expr}{t:TA}(C:mE X.prog X.w X.K X.mg X.base k f ps sp)(hr:cW k X.A)(hg:Gl X x)(hm:X.mg x=some (.ref f))(ha:PA X (e::es) t)(iG:(x==("__debug__":Str))=false:=by decide)(he:starEach (e::es) X.env=(false,eval e X.env)::starEach es X.env:=by rfl)(m7:(backTo pos (starEach es X.env)).any (·.1)=false:=by rfl):PE X (.Call (.Name x p) (e::es) [] pos) (uo sp [] E0 t):=by
  obtain⟨fd,G,b,kp⟩:=C.ex;exact pN G hr hg hm kp b .nil IU ha iG he m7
theorem fW(h:H p=none)(o:HO):bH H (upd H p o):=fun b u q=>by rw[ai (aQ q h)];exact q
theorem Al(n:Int):∀ms:bL,Pq (.int n) (ms.map V.int)=ms.contains n
  |[]=>rfl
  |m::r=>by
   have ih:=Al n r;show(IG (V.int m) (V.int n)||Pq (.int n) (r.map V.int))=_;rw[ih,List.contains_cons]
   congr 1
   show(m==n)=(n==m)
   rw[pJ];simp;exact eq_comm
theorem Ey(h:n≤1000):n≤sizeLine:=nO (eG h)
def nW(count:Int)(ns:bL):Prop:=ns.Pairwise (·<·)∧∀n∈ns,0≤n∧n<count
theorem xf:∀{ns:bL} {lo:Int} {k:Nat},ns.Pairwise (·<·)→(∀n∈ns,lo≤n∧n<lo+k)→ns.length≤k
  |[],_,_,_,_=>ik _
  |x::r,lo,k,hp,hb=>by
   obtain⟨h1,h2⟩:=List.pairwise_cons.mp hp;have hx:=hb x eR;cases k with
   |zero=>omega
   |succ k =>
    have ih:=xf (ns:=r) (lo:=lo+1) (k:=k) h2 fun n hn=>by have a:=h1 n hn;have b:=hb n (ef _ hn);omega
    simp only[eW];omega
theorem nW.le6{count:Int}(h:nW count ns)(hc:count≤6):ns.length≤6 :=
  xf (lo:=0) (k:=6) h.1 fun n hn=>by have:=h.2 n hn;omega
def Jn(k:List Key):bL:=k.map fun x=>match x with|.inl i=>i|.inr _=>0
theorem xg(ns:bL):Jn (ns.map Sum.inl)=ns:=by unfold Jn;rw[fB];exact List.map_id' ns
structure DOk (count:Int) (ao:List (List Key×V)):Prop where
  nd:(ao.map (·.1)).Nodup
  all:∀kv∈ao,∃(ns:bL) (m:Int),kv=(ns.map Sum.inl,.int m)∧nW count ns∧1≤m
structure Wv (count:Int) (hs:dZ):Prop where
  ne:hs≠[]
  all:∀h∈hs,nW count h.1∧1≤h.2
  up:hs.Pairwise (fun a b=>kE ((a.1.length:Int),a.1) ((b.1.length:Int),b.1)=true)
  len:hs.length≤63
end L2
namespace DL
open PySem PySem.Spec PyProof.Rows L2
inductive D where
  |non|bl (b:Bool)|int (i:Int)|str (x:Str)|tup (xs:List D)|lst (xs:List D)|obj (C:Addr)|exc (C:Addr)
def UM(a C:Addr)(h:Heap):Prop:=∃o,h.get? a=some o∧o.cls=.ref C
def UN:Str:="Most.order"
def XU:Str:="Most.order.<locals>.<lambda>"
def Q8(K:PySem.W.Frag):Option (Addr×Addr):=(K.find? fun p=>codeIn K (.ref p.1) UN).bind fun p=>match p.2.data with
  |.fields vs=>(match (vs[11]?:fQ) with|some (.ref P)=>some (p.1,P)|_=>none)
  |_=>none
def ux(K:PySem.W.Frag)(F:Hp):Prop:=∀c P,Q8 K=some (c,P)→F P=some (.LY #[.str XU 0])
theorem ux.mono{K:PySem.W.Frag}(t:ux K F)(s:bH F F'):ux K F':=fun c P e=>s _ _ (t c P e)
mutual
def Den(K:PySem.W.Frag)(F:Hp):D→V→Prop
  |.non,v=>v=.non
  |.bl b,v=>v=.bl b
  |.int i,v=>v=.int i
  |.str x,v=>v=.str x
  |.tup ds,v=>∃a vs,v=.ref a∧F a=some (.tup vs)∧bz K F ds vs
  |.lst ds,v=>∃a vs,v=.ref a∧eY K F a vs∧bz K F ds vs
  |.obj C,v=>∃a dx,v=.ref a∧F a=some (.ins C dx [])∧ux K F
  |.exc C,v=>∃a,v=.ref a∧F a=some (.ext (UM a C))
def bz(K:PySem.W.Frag)(F:Hp):List D→List V→Prop
  |[],vs=>vs=[]
  |d::ds,vs=>∃v r,vs=v::r∧Den K F d v∧bz K F ds r
end
mutual
def D.nR:D→Bool
  |.tup ds=>D.yg ds
  |.lst _=>false
  |.obj _=>false
  |.exc _=>false
  |_=>true
def D.yg:List D→Bool
  |[]=>true
  |d::ds=>D.nR d&&D.yg ds
end
section
variable {K:PySem.W.Frag} {F F' H:Hp}
theorem aJ{ds:List D}:Den K F (.tup ds) v↔∃a vs,v=.ref a∧F a=some (.tup vs)∧bz K F ds vs:=by rw[Den]
theorem aL{ds:List D}:Den K F (.lst ds) v↔∃a vs,v=.ref a∧eY K F a vs∧bz K F ds vs:=by rw[Den]
theorem fX:Den K F (.obj C) v↔∃a dx,v=.ref a∧F a=some (.ins C dx [])∧ux K F:=by rw[Den]
theorem fY:Den K F (.exc C) v↔∃a,v=.ref a∧F a=some (.ext (UM a C)):=by rw[Den]
theorem aD{i:Int}:Den K F (.int i) v↔v=.int i:=by rw[Den]
theorem bu{i:Bool}:Den K F (.bl i) v↔v=.bl i:=by rw[Den]
theorem aR{i:Str}:Den K F (.str i) v↔v=.str i:=by rw[Den]
theorem bI:Den K F .non v↔v=.non:=by rw[Den]
theorem aP:bz K F [] vs↔vs=[]:=by rw[bz]
theorem av{d:D}{ds:List D}:bz K F (d::ds) vs↔∃v r,vs=v::r∧Den K F d v∧bz K F ds r:=by rw[bz]
theorem pX:∀{ds:List D} {vs:List V},bz K F ds vs↔Paired (fun d v=>Den K F d v) ds vs
  |[],vs=>by
   rw[aP];constructor
   ·rintro rfl;exact .nil
   ·intro h;cases h;rfl
  |d::ds,vs=>by
   rw[av];constructor
   ·rintro⟨v,r,rfl,h1,h2⟩;exact .cons h1 (pX.mp h2)
   · intro h;cases h with
     |cons h1 h2=>exact⟨_,_,rfl,h1,pX.mpr h2⟩
theorem aK{ds:List D}(h:bz K F ds vs):ds.length=vs.length:=pK (pX.mp h)
theorem Am:∀{ds:List D} {vs:List V} {i:Nat} {d:D},bz K F ds vs→ds[i]?=some d→∃v,vs[i]?=some v∧Den K F d v
  |[],_,_,_,_,e=>by simp at e
  |x::ds,vs,0,d,h,e=>by obtain⟨v,r,rfl,h1,h2⟩:=av.mp h;simp at e;subst e;exact⟨v,rfl,h1⟩
  |x::ds,vs,i+1,d,h,e=>by obtain⟨v,r,rfl,h1,h2⟩:=av.mp h;obtain⟨w,e1,e2⟩:=Am (i:=i) h2 (by simpa using e);exact⟨w,by simpa using e1,e2⟩
theorem i7:∀{ds:List D} {vs:List V} {i:Nat} {v:V},bz K F ds vs→vs[i]?=some v→∃d,ds[i]?=some d∧Den K F d v
  |[],_,_,_,h,e=>by rw[aP.mp h] at e;simp at e
  |x::ds,vs,0,v,h,e=>by obtain⟨w,r,rfl,h1,h2⟩:=av.mp h;simp at e;subst e;exact⟨x,rfl,h1⟩
  |x::ds,vs,i+1,v,h,e=>by obtain⟨w,r,rfl,h1,h2⟩:=av.mp h;obtain⟨d,e1,e2⟩:=i7 (i:=i) h2 (by simpa using e);exact⟨d,by simpa using e1,e2⟩
theorem jM:∀{ds es:List D} {vs ws:List V},bz K F ds vs→bz K F es ws→bz K F (ds++es) (vs++ws)
  |[],es,vs,ws,h,h'=>by rw[aP.mp h];exact h'
  |x::ds,es,vs,ws,h,h'=>by obtain⟨v,r,rfl,h1,h2⟩:=av.mp h;exact av.mpr ⟨v,r++ws,rfl,h1,jM h2 h'⟩
theorem iq{d:D}(h:Den K F d v):bz K F [d] [v]:=av.mpr ⟨v,[],rfl,h,aP.mpr rfl⟩
theorem rP{ds:List D}{d:D}(h:bz K F ds vs)(h':Den K F d v):bz K F (ds++[d]) (vs++[v]):=jM h (iq h')
theorem rQ:∀{ds:List D} {vs:List V} (n:Nat),bz K F ds vs→bz K F (ds.take n) (vs.take n)
  |_,_,0,_=>aP.mpr rfl
  |[],vs,n+1,h=>by rw[aP.mp h];exact aP.mpr rfl
  |x::ds,vs,n+1,h=>by obtain⟨v,r,rfl,h1,h2⟩:=av.mp h;exact av.mpr ⟨v,r.take n,rfl,h1,rQ n h2⟩
theorem rR:∀{ds:List D} {vs:List V} (n:Nat),bz K F ds vs→bz K F (ds.drop n) (vs.drop n)
  |_,_,0,h=>h
  |[],vs,n+1,h=>by rw[aP.mp h];exact aP.mpr rfl
  |x::ds,vs,n+1,h=>by obtain⟨v,r,rfl,h1,h2⟩:=av.mp h;exact rR n h2
theorem An:∀{ds:List D} {vs:List V} {d:D} {v:V} (n:Nat),bz K F ds vs→Den K F d v→bz K F (ds.set n d) (vs.set n v)
  |[],vs,_,_,n,h,_=>by rw[aP.mp h];exact aP.mpr rfl
  |x::ds,vs,d,v,0,h,h'=>by obtain⟨w,r,rfl,h1,h2⟩:=av.mp h;exact av.mpr ⟨v,r,rfl,h',h2⟩
  |x::ds,vs,d,v,n+1,h,h'=>by obtain⟨w,r,rfl,h1,h2⟩:=av.mp h;exact av.mpr ⟨w,r.set n v,rfl,h1,An n h2 h'⟩
theorem pY:∀{ds:List D} {vs:List V},bz K F ds vs→bz K F ds.reverse vs.reverse
  |[],vs,h=>by rw[aP.mp h];exact aP.mpr rfl
  |x::ds,vs,h=>by obtain⟨v,r,rfl,h1,h2⟩:=av.mp h;rw[List.reverse_cons,List.reverse_cons];exact rP (pY h2) h1
theorem i9:∀(ns:bL),bz K F (ns.map D.int) (ns.map V.int)
  |[]=>aP.mpr rfl
  |n::ns=>av.mpr ⟨_,_,rfl,aD.mpr rfl,i9 ns⟩
theorem jk:∀{ns:bL} {vs:List V},bz K F (ns.map D.int) vs→vs=ns.map V.int
  |[],vs,h=>aP.mp h
  |n::ns,vs,h=>by obtain⟨v,r,rfl,h1,h2⟩:=av.mp h;rw[aD.mp h1,jk h2];rfl
theorem jl{xs:List V}(e:bH F F')(h:gy K F a xs):gy K F' a xs:=by
  rcases h with(h|⟨o,h⟩)|h
  ·exact .inl (.inl (e _ _ h))
  ·exact .inl (.inr ⟨o,e _ _ h⟩)
  ·exact .inr h
mutual
theorem aM(s:bH F F'):∀(d:D) (v:V),Den K F d v→Den K F' d v
  |.non,v,h=>bI.mpr (bI.mp h)
  |.bl b,v,h=>bu.mpr (bu.mp h)
  |.int i,v,h=>aD.mpr (aD.mp h)
  |.str x,v,h=>aR.mpr (aR.mp h)
  |.tup ds,v,h=>by obtain⟨a,vs,e,h1,h2⟩:=aJ.mp h;exact aJ.mpr ⟨a,vs,e,s _ _ h1,bp s ds vs h2⟩
  |.lst ds,v,h=>by obtain⟨a,vs,e,h1,h2⟩:=aL.mp h;exact aL.mpr ⟨a,vs,e,s.seq h1,bp s ds vs h2⟩
  |.obj C,v,h=>by obtain⟨a,dx,e,h1,h2⟩:=fX.mp h;exact fX.mpr ⟨a,dx,e,s _ _ h1,h2.mono s⟩
  |.exc C,v,h=>by obtain⟨a,e,h1⟩:=fY.mp h;exact fY.mpr ⟨a,e,s _ _ h1⟩
theorem bp(s:bH F F'):∀(ds:List D) (vs:List V),bz K F ds vs→bz K F' ds vs
  |[],vs,h=>aP.mpr (aP.mp h)
  |d::ds,vs,h=>by obtain⟨v,r,e,h1,h2⟩:=av.mp h;exact av.mpr ⟨v,r,e,aM s d v h1,bp s ds r h2⟩
end
def BE:HO→Bool
  |.tup _=>true
  |_=>false
mutual
theorem ng(t:∀a o,H a=some o→BE o=true→F a=some o):∀(d:D) (v:V),d.nR=true→Den K H d v→Den K F d v
  |.non,v,_,h=>bI.mpr (bI.mp h)
  |.bl b,v,_,h=>bu.mpr (bu.mp h)
  |.int i,v,_,h=>aD.mpr (aD.mp h)
  |.str x,v,_,h=>aR.mpr (aR.mp h)
  |.tup ds,v,i,h=>by obtain⟨a,vs,e,h1,h2⟩:=aJ.mp h;exact aJ.mpr ⟨a,vs,e,t _ _ h1 rfl,pZ t ds vs (by rw[D.nR] at i;exact i) h2⟩
  |.lst ds,v,i,h=>by rw[D.nR] at i;cases i
  |.obj C,v,i,h=>by rw[D.nR] at i;cases i
  |.exc C,v,i,h=>by rw[D.nR] at i;cases i
theorem pZ(t:∀a o,H a=some o→BE o=true→F a=some o):∀(ds:List D) (vs:List V),D.yg ds=true→bz K H ds vs→bz K F ds vs
  |[],vs,_,h=>aP.mpr (aP.mp h)
  |d::ds,vs,i,h=>by obtain⟨v,r,e,h1,h2⟩:=av.mp h;rw[D.yg,oA] at i;exact av.mpr ⟨v,r,e,ng t d v i.1 h1,pZ t ds r i.2 h2⟩
end
theorem uy:∀(ds:List D),D.yg ds=ds.all D.nR
  |[]=>by rw[D.yg];rfl
  |d::ds=>by rw[D.yg,List.all_cons,uy ds]
theorem EA(ds:List D):(D.tup ds).nR=ds.all D.nR:=by rw[D.nR,uy]
theorem p6(i:Int):(D.int i).nR=true:=by rw[D.nR]<;>intros<;>simp_all
theorem EB(i:Str):(D.str i).nR=true:=by rw[D.nR]<;>intros<;>simp_all
theorem Jo(ns:bL):(ns.map D.int).all D.nR=true:=by rw[eX];intro d hd;obtain⟨n,_,rfl⟩:=gC.mp hd;exact p6 n
end
def nX:HO→Prop
  |.lst xs=>xs.length≤sizeLine
  |.tup xs=>xs.length≤sizeLine
  |.dT ao=>ao.length≤sizeLine
  |.dK ao=>ao.length≤sizeLine
  |.gM _ u=>nX u
  |_=>True
structure Base (F H:Hp):Prop where
  sub:bH F H
  tup:∀a o,H a=some o→BE o=true→F a=some o
  sU:∀a o,H a=some o→nX o
structure aI (F H F' H':Hp):Prop where
  base:Base F' H'
  cz:bH F F'
  ent:bH H H'
  new:∀a o,F' a=some o→F a=some o∨H a=none∨BE o=true
theorem aI.refl(b:Base F H):aI F H F H:=⟨b,bH.refl _,bH.refl _,fun _ _ h=>.inl h⟩
theorem aI.trans{F1 H1 F2 H2:Hp}(a:aI F H F1 H1)(b:aI F1 H1 F2 H2):aI F H F2 H2 :=
  ⟨b.base,a.cz.trans b.cz,a.ent.trans b.ent,fun x o h=>by
    rcases b.new x o h with h|h|h
    ·exact a.new x o h
    ·exact .inr (.inl (a.ent.free h))
    ·exact .inr (.inr h)⟩
theorem aI.put(b:Base F H)(hp:H p=none)(o:HO)(ho:nX o):aI F H (upd F p o) (upd H p o) where
  base:={
    sub:=fun a u h=>by
      by_cases e:a=p
      ·subst e;rw[ay] at h;rw[ay];exact h
      ·rw[ai e] at h;rw[ai e];exact b.sub a u h
    tup:=fun a u h t=>by
      by_cases e:a=p
      ·subst e;rw[ay] at h;rw[ay];exact h
      ·rw[ai e] at h;rw[ai e];exact b.tup a u h t
    sU:=fun a u h=>by
      by_cases e:a=p
      ·subst e;rw[ay] at h;cases h;exact ho
      ·rw[ai e] at h;exact b.sU a u h }
  cz:=fW (b.sub.free hp) o
  ent:=fW hp o
  new:=fun a u h=>by
    by_cases e:a=p
    ·subst e;exact .inr (.inl hp)
    ·rw[ai e] at h;exact .inl h
theorem aI.own(b:Base F H)(hp:H p=none)(o:HO)(ho:nX o)(ht:BE o=false):aI F H F (upd H p o) where
  base:={
    sub:=fun a u h=>by rw[ai (aQ (b.sub a u h) hp)];exact b.sub a u h
    tup:=fun a u h t=>by
      by_cases e:a=p
      ·subst e;rw[ay] at h;cases h;rw[ht] at t;cases t
      ·rw[ai e] at h;exact b.tup a u h t
    sU:=fun a u h=>by
      by_cases e:a=p
      ·subst e;rw[ay] at h;cases h;exact ho
      ·rw[ai e] at h;exact b.sU a u h }
  cz:=bH.refl _
  ent:=fW hp o
  new:=fun a u h=>.inl h
theorem aI.share(b:Base F H){F0 H0:Hp}(g:aI F0 H0 F H)(hp:H p=some o)(h0:H0 p=none):aI F0 H0 (upd F p o) H where
  base:={
    sub:=fun a u h=>by
      by_cases e:a=p
      ·subst e;rw[ay] at h;cases h;exact hp
      ·rw[ai e] at h;exact b.sub a u h
    tup:=fun a u h t=>by
      by_cases e:a=p
      ·subst e;rw[ay];rw[hp] at h;exact h
      ·rw[ai e];exact b.tup a u h t
    sU:=b.sU }
  cz:=fun a u h=>by
    by_cases e:a=p
    ·subst e;rw[ay];rw[b.sub a u (g.cz a u h)] at hp;exact hp.symm
    ·rw[ai e];exact g.cz a u h
  ent:=g.ent
  new:=fun a u h=>by
    by_cases e:a=p
    ·subst e;exact .inr (.inl h0)
    ·rw[ai e] at h;exact g.new a u h
theorem aI.write{F0 H0:Hp}(g:aI F0 H0 F H)(h0:H0 p=none)(hF:F p=none)(ho:nX o)(ht:BE o=false):aI F0 H0 F (upd H p o) where
  base:={
    sub:=fun a u h=>by have e:a≠p:=aQ h hF;rw[ai e];exact g.base.sub a u h
    tup:=fun a u h t=>by
      by_cases e:a=p
      ·subst e;rw[ay] at h;cases h;rw[ht] at t;cases t
      ·rw[ai e] at h;exact g.base.tup a u h t
    sU:=fun a u h=>by
      by_cases e:a=p
      ·subst e;rw[ay] at h;cases h;exact ho
      ·rw[ai e] at h;exact g.base.sU a u h }
  cz:=g.cz
  ent:=fun a u h=>by rw[ai (aQ h h0)];exact g.ent a u h
  new:=g.new
end DL
variable {g:DL.D→DL.D→Option DL.D} {ds:List DL.D}
namespace DL
open PySem PySem.Spec L2
open PyProof.Rows hiding St
inductive Slot where
  |sh (d:D)|br (d:D)|ol (ds:List D)|ot (ao:List (List Key×D))|ft (ao:List (List Key×D))|ok (ao:List (Key×D))|fk (ao:List (Key×D))|pr (ds rest:List D)|pn (a:Addr) (d:D)
  |bx (p C:Addr) (ws:List D) (ao:List (List Key×D))|od (p:Addr) (ao:List (List Key×D))|bb (C:Addr) (ws:List D) (ao:List (List Key×D))|bd (ao:List (List Key×D))|rw(d:D) (l:List (Addr×List (List Key×D)))
abbrev aY:=List (Option Slot)
def Slot.dir:Slot→Bool
  |.ol _=>true
  |.ot _=>true
  |.ok _=>true
  |_=>false
def Slot.own:Slot→Bool
  |.pr _ _=>true
  |.bx _ _ _ _=>true
  |.od _ _=>true
  |s=>s.dir
theorem Slot.EC{s:Slot}(h:s.dir=true):s.own=true:=by cases s<;>first|rfl|cases h
structure Zc where
  F₀:Hp
  H₀:Hp
  E:Addr→Hp→Prop
def bW{κ:Type}(K:PySem.W.Frag)(F:Hp):List (κ×D)→List (κ×V)→Prop:=Paired fun p q=>p.1=q.1∧Den K F p.2 q.2
theorem bW.mono{κ:Type}{K:PySem.W.Frag}(s:bH F F'){ao:List (κ×D)}{ws:List (κ×V)}(h:bW K F ao ws):bW K F' ao ws:=Paired.HQ h fun _ _ q=>⟨q.1,aM s _ _ q.2⟩
def tI(K:PySem.W.Frag)(F:Hp):Slot→HO→Prop
  |.ol ds,o=>∃vs,o=.lst vs∧bz K F ds vs
  |.ot ao,o=>∃ws,o=.dT ws∧bW K F ao ws
  |.ok ao,o=>∃ws,o=.dK ws∧bW K F ao ws
  |.pr ds _,o=>∃vs,o=.lst vs∧bz K F ds vs
  |.bx _ _ _ ao,o=>∃ws,o=.dT ws∧bW K F ao ws
  |.od _ ao,o=>∃ws,o=.dT ws∧bW K F ao ws
  |_,_=>False
theorem tI.Q9{K:PySem.W.Frag}{sl:Slot}(h:tI K F sl o):BE o=false:=by
  cases sl with
  |ol _=>obtain⟨_,rfl,_⟩:=h;rfl
  |ot _=>obtain⟨_,rfl,_⟩:=h;rfl
  |ok _=>obtain⟨_,rfl,_⟩:=h;rfl
  |pr _ _=>obtain⟨_,rfl,_⟩:=h;rfl
  |bx _ _ _ _=>obtain⟨_,rfl,_⟩:=h;rfl
  |od _ _=>obtain⟨_,rfl,_⟩:=h;rfl
  |_=>exact h.elim
theorem tI.own{K:PySem.W.Frag}{sl:Slot}(h:tI K F sl o):sl.own=true:=by
  cases sl with
  |ol _=>rfl
  |ot _=>rfl
  |ok _=>rfl
  |pr _ _=>rfl
  |bx _ _ _ _=>rfl
  |od _ _=>rfl
  |_=>exact h.elim
theorem tI.mono{K:PySem.W.Frag}(s:bH F F'){sl:Slot}(h:tI K F sl o):tI K F' sl o:=by
  cases sl with
  |ol _=>obtain⟨vs,e,q⟩:=h;exact⟨vs,e,bp s _ _ q⟩
  |ot _=>obtain⟨vs,e,q⟩:=h;exact⟨vs,e,q.mono s⟩
  |ok _=>obtain⟨vs,e,q⟩:=h;exact⟨vs,e,q.mono s⟩
  |pr _ _=>obtain⟨vs,e,q⟩:=h;exact⟨vs,e,bp s _ _ q⟩
  |bx _ _ _ _=>obtain⟨vs,e,q⟩:=h;exact⟨vs,e,q.mono s⟩
  |od _ _=>obtain⟨vs,e,q⟩:=h;exact⟨vs,e,q.mono s⟩
  |_=>exact h.elim
def iu(K:PySem.W.Frag)(F:Hp)(v:V)(C:Addr)(ws:List D)(p:Addr):Prop:=∃a dx l vs,v=.ref a∧F a=some (.ins C dx [("words",.ref l),("lying",.ref p)])∧eY K F l vs∧bz K F ws vs
theorem iu.mono{K:PySem.W.Frag}(s:bH F F'){ws:List D}(h:iu K F v C ws p):iu K F' v C ws p:=by obtain⟨a,dx,l,vs,e,h1,h2,h3⟩:=h;exact⟨a,dx,l,vs,e,s _ _ h1,s.seq h2,bp s _ _ h3⟩
def cQ(K:PySem.W.Frag)(F:Hp)(v:V)(sl:Slot)(p:Addr):Prop :=
  match sl with
  |.pr _ rest=>∃a ws,v=.ref a∧F a=some (.tup (.ref p::ws))∧bz K F rest ws
  |.bx q C ws _=>p=q∧iu K F v C ws q
  |.od q _=>p=q∧v=.ref q
  |_=>v=.ref p
theorem cQ.mono{K:PySem.W.Frag}(s:bH F F'){sl:Slot}(h:cQ K F v sl p):cQ K F' v sl p:=by
  cases sl with
  |pr ds rest=>obtain⟨a,ws,e,h1,h2⟩:=h;exact⟨a,ws,e,s _ _ h1,bp s _ _ h2⟩
  |bx q C ws ao=>exact⟨h.1,h.2.mono s⟩
  |_=>exact h
def Slot.kd:Slot→Nat
  |.pr _ _=>1
  |.bx _ _ _ _=>2
  |.od _ _=>3
  |_=>0
theorem Slot.Jp{s:Slot}(h:s.dir=true):s.kd=0:=by cases s<;>first|rfl|cases h
theorem cQ.back{K:PySem.W.Frag}(s:bH F F'){sl wj:Slot}{q:Addr}(hd:sl.kd=wj.kd)(ho:sl.own=true)(BO:wj.own=true)(h:cQ K F v sl p)(h':cQ K F' v wj q):q=p:=by
  have dr:v=.ref p→wj.kd=0→q=p:=fun e1 hk=>by
    have e2:v=.ref q:=by cases wj<;>first|exact h'|cases hk|cases BO
    rw[e1] at e2;cases e2;rfl
  cases sl with
  |ol _=>exact dr h hd.symm
  |ot _=>exact dr h hd.symm
  |ok _=>exact dr h hd.symm
  |pr ds rest =>
   cases wj with
   |pr BG UO=>obtain⟨a,ws,e,h1,_⟩:=h;obtain⟨a',zz,e',Cu,_⟩:=h';rw[e] at e';cases e';rw[s _ _ h1] at Cu;cases Cu;rfl
   |_=>first|cases hd|cases BO
  |bx q0 C0 Px XW =>
   cases wj with
   |bx q' C' zz iw=>obtain⟨rfl,a,dx,l,vs,e,h1,_⟩:=h;obtain⟨rfl,a',XX,l',vs',e',Cu,_⟩:=h';rw[e] at e';cases e';rw[s _ _ h1] at Cu;cases Cu;rfl
   |_=>first|cases hd|cases BO
  |od q0 XW =>
   cases wj with
   |od q' iw=>obtain⟨rfl,e⟩:=h;obtain⟨rfl,e'⟩:=h';rw[e] at e';cases e';rfl
   |_=>first|cases hd|cases BO
  |_=>cases ho
def fE(K:PySem.W.Frag)(z:Zc)(F H:Hp)(v:V)(sl:Slot):Prop :=
  match sl with
  |.sh d=>Den K F d v
  |.br d=>Den K z.H₀ d v
  |.ft ao=>∃p ob ws,v=.ref p∧F p=some (.gM ob (.dT ws))∧bW K F ao ws
  |.fk ao=>∃p ob ws,v=.ref p∧F p=some (.gM ob (.dK ws))∧bW K F ao ws
  |.pn a d=>v=.ref a∧Den K z.H₀ d v
  |.bb C ws ao=>∃p ob wv,iu K z.H₀ v C ws p∧z.H₀ p=some (.gM ob (.dT wv))∧bW K z.H₀ ao wv
  |.bd ao=>∃p ob wv,v=.ref p∧z.H₀ p=some (.gM ob (.dT wv))∧bW K z.H₀ ao wv
  |.rw _ _=>False
  |sl=>∃p o,cQ K F v sl p∧z.H₀ p=none∧F p=none∧H p=some o∧tI K F sl o
theorem bQ{K:PySem.W.Frag}{z:Zc}{sl:Slot}(h:sl.own=true):fE K z F H v sl↔∃p o,cQ K F v sl p∧z.H₀ p=none∧F p=none∧H p=some o∧tI K F sl o:=by
  cases sl with
  |ol _=>exact Iff.rfl
  |ot _=>exact Iff.rfl
  |ok _=>exact Iff.rfl
  |pr _ _=>exact Iff.rfl
  |bx _ _ _ _=>exact Iff.rfl
  |od _ _=>exact Iff.rfl
  |_=>cases h
theorem xh{K:PySem.W.Frag}{z:Zc}{sl:Slot}(h:sl.own=false)(s:bH F F')(q:fE K z F H v sl):fE K z F' H' v sl:=by
  cases sl with
  |sh d=>exact aM s d v q
  |br d=>exact q
  |ft ao=>obtain⟨p,ob,ws,e,h1,h2⟩:=q;exact⟨p,ob,ws,e,s _ _ h1,h2.mono s⟩
  |fk ao=>obtain⟨p,ob,ws,e,h1,h2⟩:=q;exact⟨p,ob,ws,e,s _ _ h1,h2.mono s⟩
  |pn a d=>exact q
  |bb _ _ _=>exact q
  |bd _=>exact q
  |rw _ _=>exact q
  |_=>cases h
theorem ja{K:PySem.W.Frag}(g:aI F H F' H')(hF:F p=none)(hH:H p=some o)(ht:BE o=false):F' p=none:=by
  cases e:F' p with
  |none=>rfl
  |some u =>
   have e2:=g.base.sub p u e;rw[g.ent p o hH] at e2;cases e2;rcases g.new p _ e with q|q|q
   ·rw[hF] at q;cases q
   ·rw[hH] at q;cases q
   ·rw[ht] at q;cases q
theorem fE.grow{K:PySem.W.Frag}{z:Zc}(g:aI F H F' H'){sl:Slot}(h:fE K z F H v sl):fE K z F' H' v sl:=by
  cases ho:sl.own with
  |true=>rw[bQ ho] at h⊢;obtain⟨p,o,e,h0,hF,hH,q⟩:=h;exact⟨p,o,e.mono g.cz,h0,ja (K:=K) g hF hH q.Q9,g.ent _ _ hH,q.mono g.cz⟩
  |false=>exact xh ho g.cz h
structure Rel (K:PySem.W.Frag) (z:Zc) (F H:Hp) (σ:St) (η:aY):Prop where
  mem:aI z.F₀ z.H₀ F H
  len:σ.length=η.length
  at_:∀(i:Nat) sl,η[i]?=some (some sl)→∃v,σ[i]?=some (some v)∧fE K z F H v sl
  apart:∀(i j:Nat) si sj vi vj p,i≠j→η[i]?=some (some si)→η[j]?=some (some sj)→si.own=true→sj.own=true→σ[i]?=some (some vi)→σ[j]?=some (some vj)→cQ K F vi si p→¬ cQ K F vj sj p
section
variable {K:PySem.W.Frag} {z:Zc} {F H F' H':Hp} {σ:St} {η:aY}
theorem Rel.base(r:Rel K z F H σ η):Base F H:=r.mem.base
theorem Rel.XY(r:Rel K z F H σ η)(s:bH F F'){sl:Slot}(hi:η[i]?=some (some sl))(ho:sl.own=true)(hv:σ[i]?=some (some v))(h:cQ K F' v sl p):cQ K F v sl p∧∃o,H p=some o∧F p=none∧BE o=false:=by obtain⟨v',xW,hs⟩:=r.at_ i sl hi;rw[hv] at xW;cases xW;obtain⟨p0,o,e,h0,hF,hH,q⟩:=(bQ ho).mp hs;have e2:=e.back s rfl ho ho h;subst e2;exact⟨e,o,hH,hF,q.Q9⟩
theorem Rel.grow(r:Rel K z F H σ η)(g:aI F H F' H'):Rel K z F' H' σ η :=
  ⟨r.mem.trans g,r.len,fun i sl e=>by obtain⟨v,h1,h2⟩:=r.at_ i sl e;exact⟨v,h1,h2.grow g⟩,fun i j si sj vi vj p pE ei ej oi oj hi hj h1 h2 =>
    r.apart i j si sj vi vj p pE ei ej oi oj hi hj (r.XY g.cz ei oi hi h1).1 (r.XY g.cz ej oj hj h2).1⟩
theorem Rel.idx(r:Rel K z F H σ η)(h:i<η.length):i<σ.length:=by have:=r.len;omega
theorem rS{α:Type}{l:List (Option α)}{x y:α}(h:(l.set i (some x))[j]?=some (some y)):(i=j∧i<l.length∧x=y)∨(i≠j∧l[j]?=some (some y)):=by
  by_cases e:i=j
  · subst e;by_cases hi:i<l.length
    ·rw[xF hi] at h;cases h;exact .inl ⟨rfl,hi,rfl⟩
    ·rw[zB (by rw[List.length_set];omega)] at h;cases h
  ·rw[v5 e] at h;exact .inr ⟨e,h⟩
theorem Rel.Jq(r:Rel K z F H σ η)(i:Nat){sl:Slot}(h:fE K z F H v sl)(hn:sl.own=true→∀p,cQ K F v sl p→∀(j:Nat) s w,η[j]?=some (some s)→s.own=true→σ[j]?=some (some w)→¬ cQ K F w s p):Rel K z F H (σ.set i (some v)) (η.set i (some sl)) where
  mem:=r.mem
  len:=by simp[r.len]
  at_:=fun j s e=>by
    rcases rS e with⟨rfl,hi,rfl⟩|⟨hj,e⟩
    ·exact⟨v,by rw[xF (r.idx hi)],h⟩
    ·rw[v5 hj];exact r.at_ j s e
  apart:=fun j k sj sk vj vk p Eu ej ek oj ok hj hk h1 h2=>by
    rcases rS ej with⟨e1,hi,e2⟩|⟨nj,ej⟩
    · subst e1 e2;rcases rS ek with⟨e3,_,_⟩|⟨nk,ek⟩
      ·exact Eu e3
      ·rw[xF (r.idx hi)] at hj;cases hj;rw[v5 nk] at hk;exact hn oj p h1 k sk vk ek ok hk h2
    · rw[v5 nj] at hj;rcases rS ek with⟨e1,hi,e2⟩|⟨nk,ek⟩
      ·subst e1 e2;rw[xF (r.idx hi)] at hk;cases hk;exact hn ok p h2 j sj vj ej oj hj h1
      ·rw[v5 nk] at hk;exact r.apart j k sj sk vj vk p Eu ej ek oj ok hj hk h1 h2
theorem Rel.set(r:Rel K z F H σ η)(i:Nat){sl:Slot}(ho:sl.own=false)(h:fE K z F H v sl):Rel K z F H (σ.set i (some v)) (η.set i (some sl)) :=
  r.Jq i h (fun z=>by rw[ho] at z;cases z)
theorem Rel.Ra(r:Rel K z F H σ η)(g:aI F H F' H')(hp:H p=none):∀(j:Nat) s w,η[j]?=some (some s)→s.own=true→σ[j]?=some (some w)→¬ cQ K F' w s p:=fun j s w e o hw h=>by obtain⟨_,o',hH,_⟩:=r.XY g.cz e o hw h;rw[hp] at hH;cases hH
theorem Rel.yh(r:Rel K z F H σ η)(g:aI F H F' H')(i:Nat){sl:Slot}(h:fE K z F' H' v sl)(ha:cQ K F' v sl p)(hp:H p=none):Rel K z F' H' (σ.set i (some v)) (η.set i (some sl)) :=
  (r.grow g).Jq i h fun ho q hq=>by have e:q=p:=ha.back (bH.refl _) rfl ho ho hq;subst e;exact r.Ra g hp
theorem Rel.writeAt(r:Rel K z F H σ η){sl wj:Slot}{o':HO}(hi:η[i]?=some (some sl))(ho:sl.own=true)(hd:sl.kd=wj.kd)(hv:σ[i]?=some (some v))(hp:cQ K F v sl p)(z0:cQ K F v wj p)(hq:tI K F wj o')(hl:nX o'):Rel K z F (upd H p o') σ (η.set i (some wj)):=by
  obtain⟨v',xW,hs⟩:=r.at_ i sl hi;rw[hv] at xW;cases xW;obtain⟨p',o,e,h0,hF,hH,_⟩:=(bQ ho).mp hs;have e2:=e.back (bH.refl _) rfl ho ho hp;subst e2;have BO:wj.own=true:=hq.own;refine⟨r.mem.write h0 hF hl hq.Q9,by simp[r.len],fun j s e=>?_,fun j k sj sk vj vk q Eu ej ek oj ok hj hk h1 h2=>?_⟩
  · rcases rS e with⟨rfl,dQ,rfl⟩|⟨nj,ej0⟩
    ·exact⟨_,hv,(bQ BO).mpr ⟨p,o',z0,h0,hF,ay,hq⟩⟩
    · obtain⟨w,hw,HJ⟩:=r.at_ j s ej0;refine⟨w,hw,?_⟩;cases UQ:s.own with
      |false=>exact xh UQ (bH.refl _) HJ
      |true =>
       rw[bQ UQ] at HJ⊢;obtain⟨p2,o2,e2,a0,aF,aH,aq⟩:=HJ;have kU:p2≠p:=fun z=>by subst z;exact r.apart i j sl s v w p2 nj hi ej0 ho UQ hv hw hp e2
       exact⟨p2,o2,e2,a0,aF,by rw[ai kU];exact aH,aq⟩
  · have key:∀(j:Nat) sj vj q,(η.set i (some wj))[j]?=some (some sj)→sj.own=true→σ[j]?=some (some vj)→cQ K F vj sj q→∃s,η[j]?=some (some s)∧s.own=true∧cQ K F vj s q:=fun j sj vj q ej oj hj Eh=>by
      rcases rS ej with⟨e1,dQ,e2⟩|⟨nj,ej⟩
      ·subst e1 e2;rw[hv] at hj;cases hj;have e3:q=p:=hp.back (bH.refl _) hd ho BO Eh;subst e3;exact⟨sl,hi,ho,hp⟩
      ·exact⟨sj,ej,oj,Eh⟩
    obtain⟨s1,e1,o1,q1⟩:=key j sj vj q ej oj hj h1;obtain⟨s2,e2,o2,q2⟩:=key k sk vk q ek ok hk h2;exact r.apart j k s1 s2 vj vk q Eu e1 e2 o1 o2 hj hk q1 q2
theorem p7{sl:Slot}(h:sl.dir=true):cQ K F v sl p↔v=.ref p:=by cases sl<;>first|exact Iff.rfl|cases h
theorem Rel.write(r:Rel K z F H σ η){sl wj:Slot}{o':HO}(hi:η[i]?=some (some sl))(ho:sl.dir=true)(hp:σ[i]?=some (some (.ref p)))(hq:tI K F wj o')(hl:nX o')(HC:wj.dir=true:=by rfl):Rel K z F (upd H p o') σ (η.set i (some wj)) :=
  r.writeAt hi (Slot.EC ho) ((Slot.Jp ho).trans (Slot.Jp HC).symm) hp ((p7 ho).mpr rfl) ((p7 HC).mpr rfl) hq hl
theorem Rel.ownAt(r:Rel K z F H σ η){sl:Slot}(hi:η[i]?=some (some sl))(ho:sl.dir=true):∃p o,σ[i]?=some (some (.ref p))∧z.H₀ p=none∧F p=none∧H p=some o∧tI K F sl o:=by obtain⟨v,hv,hs⟩:=r.at_ i sl hi;obtain⟨p,o,e,a⟩:=(bQ (Slot.EC ho)).mp hs;have e2:=(p7 ho).mp e;subst e2;exact⟨p,o,hv,a⟩
def oO(nt:Nat)(fi:List Nat)(η:aY):aY:=List.replicate nt none++fi.map fun j=>(η[j]?).getD none
theorem p8{α:Type}{nt:Nat}{η:List (Option α)}{s:α}(h:(List.replicate nt none++fi.map fun j=>(η[j]?).getD none)[i]?=some (some s)):∃j,nt≤i∧fi[i-nt]?=some j∧η[j]?=some (some s):=by
  by_cases hi:i<nt
  ·rw[xE (by simpa using hi)] at h;rw[List.getElem?_replicate] at h;split at h<;>cases h
  · rw[xD (by simp;omega),List.length_replicate,eU] at h;cases e:fi[i-nt]? with
    |none=>rw[e] at h;cases h
    |some j =>
     rw[e] at h;refine⟨j,by omega,rfl,?_⟩;have h':(η[j]?).getD none=some s:=jJ h;cases q:η[j]? with
     |none=>rw[q] at h';cases h'
     |some o=>rw[q] at h';rw[show o=some s from h']
theorem Rb{α:Type}{nt:Nat}{η:List (Option α)}{s:α}(hi:nt≤i)(hj:fi[i-nt]?=some j)(h:η[j]?=some (some s)):(List.replicate nt none++fi.map fun j=>(η[j]?).getD none)[i]?=some (some s):=by rw[xD (by simpa using hi),List.length_replicate,eU,hj];show some ((η[j]?).getD none)=_;rw[h];rfl
theorem Rel.block(r:Rel K z F H σ η)(nt:Nat)(hf:fi.Nodup):Rel K z F H (mB nt fi σ) (oO nt fi η) where
  mem:=r.mem
  len:=by simp[mB,oO]
  at_:=fun i sl e=>by obtain⟨j,hi,hj,h⟩:=p8 e;obtain⟨v,hv,hs⟩:=r.at_ j sl h;exact⟨v,Rb hi hj hv,hs⟩
  apart:=fun i j si sj vi vj p pE ei ej oi oj h1 h2 q1 q2=>by obtain⟨a,ha,L4,ha2⟩:=p8 ei;obtain⟨b,hb,Bz,XZ⟩:=p8 ej;obtain⟨a1,ha1,UR,Cu⟩:=p8 h1;obtain⟨b1,hb1,UT,S9⟩:=p8 h2;rw[L4] at UR;cases UR;rw[Bz] at UT;cases UT;refine r.apart a b si sj vi vj p (fun e=>pE ?_) ha2 XZ oi oj Cu S9 q1 q2;subst e;have q:=(List.getElem?_inj (lR.mp L4).1 hf).mp (L4.trans Bz.symm);omega
end
inductive Out where
  |nx (η:aY)|rt (s:Slot)|bk (η:aY)|ct (η:aY)
abbrev EF:=aY→Option D
abbrev LF:=aY→Option (List D)
abbrev TF:=aY→Option Bool
abbrev SF:=aY→Option Out
abbrev BF:=D→aY→Option aY
def vE(K:PySem.W.Frag)(z:Zc)(f:EF):TE:=fun σ H Q=>∃η F d,Rel K z F H σ η∧f η=some d∧∀v H' F',aI F H F' H'→Den K F' d v→Q v H'
def vB(K:PySem.W.Frag)(z:Zc)(f:EF):TE:=fun σ H Q=>∃η F d,Rel K z F H σ η∧f η=some d∧∀v H' F',aI F H F' H'→Den K H' d v→Q v H'
def vO(K:PySem.W.Frag)(z:Zc)(f:LF):TE:=fun σ H Q=>∃η F ds,Rel K z F H σ η∧f η=some ds∧∀p vs H' F',aI F H F' H'→H p=none→F' p=none→H' p=some (.lst vs)→bz K F' ds vs→Q (.ref p) H'
def vT(K:PySem.W.Frag)(z:Zc)(f:TF):TT:=fun σ H Q=>∃η F b,Rel K z F H σ η∧f η=some b∧∀H' F',aI F H F' H'→Q b H'
def kW(K:PySem.W.Frag)(F H:Hp):List Bool→List D→List V→Prop
  |[],[],[]=>True
  |m::ms,d::ds,v::vs=>(match m with|true=>Den K F d v|false=>Den K H d v)∧kW K F H ms ds vs
  |_,_,_=>False
def vM(K:PySem.W.Frag)(z:Zc)(ms:List Bool)(f:LF):TA:=fun σ H Q=>∃η F ds,Rel K z F H σ η∧f η=some ds∧∀vs H' F',aI F H F' H'→kW K F' H' ms ds vs→Q vs H'
def ED(K:PySem.W.Frag)(F H:Hp)(r:Slot)(Q:VK):Prop :=
  match r with
  |.sh d=>∀v H' F',aI F H F' H'→Den K F' d v→Q v H'
  |.ol ds=>∀p vs H' F',aI F H F' H'→H p=none→F' p=none→H' p=some (.lst vs)→bz K F' ds vs→Q (.ref p) H'
  |.pr ds rest=>∀a p vs ws H' F',aI F H F' H'→H p=none→F' p=none→H' p=some (.lst vs)→bz K F' ds vs→F' a=some (.tup (.ref p::ws))→bz K F' rest ws→Q (.ref a) H'
  |.ot ao=>∀p ws H' F',aI F H F' H'→H p=none→F' p=none→H' p=some (.dT ws)→bW K F' ao ws→Q (.ref p) H'
  |.rw d l=>∀v H' F',aI F H F' H'→Den K F' d v→(∀q∈l,H q.1=none∧F' q.1=none∧∃ws,H' q.1=some (.dT ws)∧bW K F' q.2 ws)→Q v H'
  |_=>False
def MX(K:PySem.W.Frag)(z:Zc)(r:Slot)(Q:VK):Prop :=
  match r with
  |.pn C _=>∀H' F',aI z.F₀ z.H₀ F' H'→z.E C H'
  |r=>ED K z.F₀ z.H₀ r Q
theorem MX.of{K:PySem.W.Frag}{z:Zc}{r:Slot}{Q:VK}(h:ED K z.F₀ z.H₀ r Q):MX K z r Q:=by cases r<;>first|exact h|exact False.elim h
def yi(K:PySem.W.Frag)(z:Zc)(F:Hp)(o:Out)(D:Ends):Prop :=
  match o with
  |.nx η'=>∀σ' H' F',Rel K z F' H' σ' η'→bH F F'→D.nx σ' H'
  |.bk η'=>∀σ' H' F',Rel K z F' H' σ' η'→bH F F'→D.bk σ' H'
  |.ct η'=>∀σ' H' F',Rel K z F' H' σ' η'→bH F F'→D.ct σ' H'
  |.rt r=>MX K z r D.rt
def vS(K:PySem.W.Frag)(z:Zc)(g:SF):TS:=fun D σ H=>∃η F o,Rel K z F H σ η∧g η=some o∧yi K z F o D
def DE(X:Cx)(z:Zc)(e:Expr)(f:EF):Prop:=PE X e (vE X.K z f)
def DB(X:Cx)(z:Zc)(e:Expr)(f:EF):Prop:=PE X e (vB X.K z f)
def DO(X:Cx)(z:Zc)(e:Expr)(f:LF):Prop:=PE X e (vO X.K z f)
def DT(X:Cx)(z:Zc)(e:Expr)(f:TF):Prop:=PT X e (vT X.K z f)
def DW(X:Cx)(z:Zc)(e:Expr)(f:TF):Prop:=PW X e (vT X.K z f)
def DM(X:Cx)(z:Zc)(es:List Expr)(ms:List Bool)(f:LF):Prop:=PA X es (vM X.K z ms f)
def DS(X:Cx)(z:Zc)(st:Stmt)(g:SF):Prop:=PS X st (vS X.K z g)
def Jr(X:Cx)(z:Zc)(sts:List Stmt)(g:SF):Prop:=xQ X sts (vS X.K z g)
theorem PE.weak{t t':TE}(h:PE X e t)(k:∀σ H Q,t' σ H Q→t σ H Q):PE X e t':=fun pins s σ H Q I q=>h pins s σ H Q I (k σ H Q q)
theorem PT.weak{t t':TT}(h:PT X e t)(k:∀σ H Q,t' σ H Q→t σ H Q):PT X e t':=fun pins s σ H Q I q=>h pins s σ H Q I (k σ H Q q)
theorem PW.weak{t t':TT}(h:PW X e t)(k:∀σ H Q,t' σ H Q→t σ H Q):PW X e t':=fun wh pins s σ H Q I q=>h wh pins s σ H Q I (k σ H Q q)
theorem PA.weak{e:List Expr}{t t':TA}(h:PA X e t)(k:∀σ H Q,t' σ H Q→t σ H Q):PA X e t':=fun pos pins s σ H Q I q=>h pos pins s σ H Q I (k σ H Q q)
theorem PS.weak{e:Stmt}{t t':TS}(h:PS X e t)(k:∀D σ H,t' D σ H→t D σ H):PS X e t':=fun pins s σ H D I q=>h pins s σ H D I (k D σ H q)
theorem xQ.weak{e:List Stmt}{t t':TS}(h:xQ X e t)(k:∀D σ H,t' D σ H→t D σ H):xQ X e t':=fun pins s σ H D I q=>h pins s σ H D I (k D σ H q)
section
variable {X:Cx} {z:Zc} {e a b:Expr} {f fa fb:EF} {pos:Pos}
theorem DE.bo(h:DE X z e f):DB X z e f:=PE.weak h fun σ H Q ⟨η,F,d,r,e,k⟩=>⟨η,F,d,r,e,fun v H' F' g q=>k v H' F' g (aM g.base.sub d v q)⟩
def eL(f:LF):EF:=fun η=>(f η).map D.lst
theorem DO.sh{f:LF}(h:DO X z e f):DE X z e (eL f):=PE.weak h fun σ H Q ⟨η,F,d,r,e,k⟩=>by
  unfold eL at e;cases q:f η with
  |none=>rw[q] at e;cases e
  |some ds=>rw[q] at e;cases e;refine⟨η,F,ds,r,q,fun p vs H' F' g hp hF hH hd=>?_⟩;have hs:bH F' (upd F' p (.lst vs)):=fW hF _;exact k _ _ _ (g.share g.base hH hp) (aL.mpr ⟨p,vs,rfl,eY.of ay,bp hs _ _ hd⟩)
theorem DO.bo{f:LF}(h:DO X z e f):DB X z e (eL f):=h.sh.bo
def eI(f:EF):EF:=fun η=>(f η).bind fun d=>if d.nR=true then some d else none
theorem DB.im(h:DB X z e f):DE X z e (eI f):=PE.weak h fun σ H Q ⟨η,F,d,r,e,k⟩=>by
  unfold eI at e;cases q:f η with
  |none=>rw[q] at e;cases e
  |some d' =>
   rw[q] at e;have e:(if d'.nR=true then some d' else none)=some d:=e;by_cases hi:d'.nR=true
   ·rw[az hi] at e;cases e;exact⟨η,F,d,r,q,fun v H' F' g hd=>k v H' F' g (ng g.base.tup d v hi hd)⟩
   ·rw[ax hi] at e;cases e
def eV(i:Nat):EF:=fun η=>match η[i]? with
  |some (some (.sh d))=>some d
  |some (some (.br d))=>if d.nR=true then some d else none
  |_=>none
def aB(i:Nat):EF:=fun η=>match η[i]? with
  |some (some (.sh d))=>some d
  |some (some (.br d))=>some d
  |some (some (.ol ds))=>some (.lst ds)
  |some (some (.pr ds rest))=>some (.tup (.lst ds::rest))
  |some (some (.pn _ d))=>some d
  |_=>none
theorem aA(i:Nat)(hN:X.N[i]?=some x:=by rfl)(hv:pL X.env.scope x:=by first|exact Or.inl rfl|exact Or.inr (Or.inl rfl)|exact Or.inr (Or.inr rfl))(hd:(x==("__debug__":Str))=false:=by decide)(dU:(x==("__classdict__":Str))=false:=by decide):DB X z (.Name x pos) (aB i):=PE.weak (cO hN hv hd dU) fun σ H Q ⟨η,F,d,r,e,k⟩=>by
  unfold aB at e;split at e
  ·rename_i d' h;cases e;obtain⟨v,hv,hs⟩:=r.at_ i _ h;exact⟨v,hv,k v H F (aI.refl r.base) (aM r.base.sub _ _ hs)⟩
  ·rename_i d' h;cases e;obtain⟨v,hv,hs⟩:=r.at_ i _ h;exact⟨v,hv,k v H F (aI.refl r.base) (aM r.mem.ent _ _ hs)⟩
  ·rename_i ds h;cases e;obtain⟨p,o,hv,h0,hF,hH,vs,rfl,hq⟩:=r.ownAt h rfl;exact⟨_,hv,k _ H F (aI.refl r.base) (aL.mpr ⟨p,vs,rfl,eY.of hH,bp r.base.sub _ _ hq⟩)⟩
  ·rename_i ds rest h;cases e;obtain⟨v,hv,p,o,⟨a,ws,rfl,ha,hr⟩,h0,hF,hH,vs,rfl,hq⟩:=r.at_ i _ h;refine⟨_,hv,k _ H F (aI.refl r.base) (aJ.mpr ⟨a,_,rfl,r.base.sub _ _ ha,av.mpr ⟨_,_,rfl,aL.mpr ⟨p,vs,rfl,eY.of hH,bp r.base.sub _ _ hq⟩,bp r.base.sub _ _ hr⟩⟩)⟩
  ·rename_i a d' h;cases e;obtain⟨v,hv,_,hs⟩:=r.at_ i _ h;exact⟨v,hv,k v H F (aI.refl r.base) (aM r.mem.ent _ _ hs)⟩
  ·cases e
theorem bZ(i:Nat)(hN:X.N[i]?=some x:=by rfl)(hv:pL X.env.scope x:=by first|exact Or.inl rfl|exact Or.inr (Or.inl rfl)|exact Or.inr (Or.inr rfl))(hd:(x==("__debug__":Str))=false:=by decide)(dU:(x==("__classdict__":Str))=false:=by decide):DE X z (.Name x pos) (eV i):=PE.weak (cO hN hv hd dU) fun σ H Q ⟨η,F,d,r,e,k⟩=>by
  unfold eV at e;split at e
  ·rename_i d' h;cases e;obtain⟨v,hv,hs⟩:=r.at_ i _ h;exact⟨v,hv,k v H F (aI.refl r.base) hs⟩
  · rename_i d' h;by_cases hi:d'.nR=true
    ·rw[az hi] at e;cases e;obtain⟨v,hv,hs⟩:=r.at_ i _ h;exact⟨v,hv,k v H F (aI.refl r.base) (ng r.base.tup _ _ hi (aM r.mem.ent _ _ hs))⟩
    ·rw[ax hi] at e;cases e
  ·cases e
def eC(d:D):EF:=fun _=>some d
theorem ak{i j pos}:DE X z (.Constant (.int i) j pos) (eC (.int i)):=PE.weak gR fun σ H Q ⟨η,F,d,r,e,k⟩=>by cases e;exact k _ H F (aI.refl r.base) (aD.mpr rfl)
theorem sV{i j pos}:DE X z (.Constant (.bool i) j pos) (eC (.bl i)):=PE.weak zI fun σ H Q ⟨η,F,d,r,e,k⟩=>by cases e;exact k _ H F (aI.refl r.base) (bu.mpr rfl)
theorem Js{j pos}:DE X z (.Constant .none j pos) (eC .non):=PE.weak HV fun σ H Q ⟨η,F,d,r,e,k⟩=>by cases e;exact k _ H F (aI.refl r.base) (bI.mpr rfl)
theorem rT{x j pos}:DE X z (.Constant (.str x) j pos) (eC (.str x)):=PE.weak Qh fun σ H Q ⟨η,F,d,r,e,k⟩=>by cases e;exact k _ H F (aI.refl r.base) (aR.mpr rfl)
def ae(g:D→D→Option D)(fa fb:EF):EF:=fun η=>(fa η).bind fun x=>(fb η).bind fun y=>g x y
theorem jb{fa fb:EF}{η:aY}{d:D}(h:ae g fa fb η=some d):∃x y,fa η=some x∧fb η=some y∧g x y=some d:=by unfold ae at h;obtain⟨x,h1,h⟩:=cU.mp h;obtain⟨y,h2,h⟩:=cU.mp h;exact⟨x,y,h1,h2,h⟩
def EE(K:PySem.W.Frag)(g:D→D→Option D)(r:R2):Prop:=∀(F H:Hp) (x y d:D) (v u:V) (Q:VK),Base F H→g x y=some d→Den K H x v→Den K H y u→(∀w,Den K F d w→Q w H)→r v u H Q
theorem p9{K:PySem.W.Frag}(hg:EE K g r):∀σ H Q,vE K z (ae g fa fb) σ H Q→Ed r (vB K z fa) (vB K z fb) σ H Q:=fun σ H Q ⟨η,F,d,rl,e,k⟩=>by obtain⟨x,y,h1,h2,h3⟩:=jb e;refine⟨η,F,x,rl,h1,fun v H1 F1 g1 q1=>⟨η,F1,y,rl.grow g1,h2,fun u H2 F2 g2 q2=>?_⟩⟩;exact hg F2 H2 x y d v u Q g2.base h3 (aM g2.ent _ _ q1) q2 fun w q=>k w H2 F2 (g1.trans g2) q
theorem uz{op:Operator}(ho:nT X (binaryOp op) r)(hg:EE X.K g r)(ha:DB X z a fa)(hb:DB X z b fb):DE X z (.BinOp a op b pos) (ae g fa fb):=PE.weak (Pj ho ha hb) (p9 hg)
theorem yj(ho:nT X (compareOp op) r)(hg:EE X.K g r)(ha:DB X z a fa)(hb:DB X z b fb)(hm:behindInMarks op b=false):DE X z (.Compare a [op] [b] pos) (ae g fa fb):=PE.weak (Ef ho ha hb hm) (p9 hg)
def bF(f:EF):TF:=fun η=>(f η).bind fun d=>match d with|.bl b=>some b|_=>none
theorem qc{f:EF}{η:aY}{b:Bool}(h:bF f η=some b):f η=some (.bl b):=by
  unfold bF at h;obtain⟨d,h1,h2⟩:=cU.mp h;cases d with
  |bl c=>cases h2;exact h1
  |_=>cases h2
theorem fZ(h:DE X z e f)(he:∀whole,isTrue e X.env whole=(do let v ←whole;standAt e.pos;holding [v] (truthy v)):=by intro _;rfl):DT X z e (bF f):=PT.weak (HX h he) fun σ H Q ⟨η,F,b,r,e,k⟩ =>
  ⟨η,F,_,r,qc e,fun v H' F' g q=>⟨b,bu.mp q,k H' F' g⟩⟩
theorem oP(ho:nT X (compareOp op) r)(hg:EE X.K g r)(ha:DB X z a fa)(hb:DB X z b fb)(hm:behindInMarks op b=false):DT X z (.Compare a [op] [b] pos) (bF (ae g fa fb)) :=
  PT.weak (Eg ho ha hb hm) fun σ H Q ⟨η,F,c,r,e,k⟩=>p9 hg σ H _ ⟨η,F,_,r,qc e,fun v H' F' g q=>⟨c,bu.mp q,k H' F' g⟩⟩
variable {ta tb:TF} {rest:List Expr}
def jm(t:TF):TF:=fun η=>(t η).map (!·)
def eZ(t u:TF):TF:=fun η=>(t η).bind fun c=>if c=true then u η else some false
def iR(t u:TF):TF:=fun η=>(t η).bind fun c=>if c=true then some true else u η
theorem rV(ha:DT X z a ta):DT X z (.UnaryOp .Not a pos) (jm ta):=PT.weak (HY ha) fun σ H Q ⟨η,F,c,r,e,k⟩=>by unfold jm at e;obtain⟨b,h1,h2⟩:=iD.mp e;subst h2;exact⟨η,F,b,r,h1,k⟩
theorem Jt{K:PySem.W.Frag}:∀σ H Q,vT K z (eZ ta tb) σ H Q→TQ (vT K z ta) (vT K z tb) σ H Q:=fun σ H Q ⟨η,F,c,r,e,k⟩=>by
  unfold eZ at e;obtain⟨b,h1,h2⟩:=cU.mp e;refine⟨η,F,b,r,h1,fun H1 F1 g1=>?_⟩;cases b with
  |true=>exact⟨η,F1,c,r.grow g1,h2,fun H2 F2 g2=>k H2 F2 (g1.trans g2)⟩
  |false=>have e2:some false=some c:=h2;cases e2;exact k H1 F1 g1
theorem MY{K:PySem.W.Frag}:∀σ H Q,vT K z (iR ta tb) σ H Q→tOr (vT K z ta) (vT K z tb) σ H Q:=fun σ H Q ⟨η,F,c,r,e,k⟩=>by
  unfold iR at e;obtain⟨b,h1,h2⟩:=cU.mp e;refine⟨η,F,b,r,h1,fun H1 F1 g1=>?_⟩;cases b with
  |false=>exact⟨η,F1,c,r.grow g1,h2,fun H2 F2 g2=>k H2 F2 (g1.trans g2)⟩
  |true=>have e2:some true=some c:=h2;cases e2;exact k H1 F1 g1
theorem qd(ha:DT X z a ta):DW X z (.BoolOp .And [a] pos) ta:=pw_and1 ha
theorem mF(ha:DT X z a ta):DW X z (.BoolOp .Or [a] pos) ta:=pw_or1 ha
theorem rW(ha:DT X z a ta)(hb:DW X z (.BoolOp .And (b::rest) pos) tb):DW X z (.BoolOp .And (a::b::rest) pos) (eZ ta tb):=PW.weak (pw_and ha hb) Jt
theorem nY(ha:DT X z a ta)(hb:DW X z (.BoolOp .Or (b::rest) pos) tb):DW X z (.BoolOp .Or (a::b::rest) pos) (iR ta tb):=PW.weak (pw_or ha hb) MY
theorem DW.t(h:DW X z e ta):DT X z e ta:=PW.pt h
def yk(fa fb:EF):EF:=fun η=>(bF fa η).bind fun c=>if c=true then fb η else some (.bl false)
def Ju(fa:EF):EF:=fun η=>(bF fa η).map fun c=>.bl (!c)
theorem uA{op}(h:DE X z a fa):DE X z (.BoolOp op [a] pos) fa:=Ia h
theorem rX(ha:DE X z a fa)(hb:DE X z (.BoolOp .And (b::rest) pos) fb):DE X z (.BoolOp .And (a::b::rest) pos) (yk fa fb):=PE.weak (Ib ha hb) fun σ H Q ⟨η,F,d,r,e,k⟩=>by
  unfold yk at e;obtain⟨c,h1,h2⟩:=cU.mp e;refine⟨η,F,_,r,qc h1,fun v H1 F1 g1 q=>⟨c,bu.mp q,?_⟩⟩;cases c with
  |true=>exact⟨η,F1,d,r.grow g1,h2,fun v H2 F2 g2 q2=>k v H2 F2 (g1.trans g2) q2⟩
  |false=>have e2:some (D.bl false)=some d:=h2;cases e2;exact k _ H1 F1 g1 (bu.mpr rfl)
theorem Jv(ha:DE X z a fa):DE X z (.UnaryOp .Not a pos) (Ju fa):=PE.weak (Qj ha) fun σ H Q ⟨η,F,d,r,e,k⟩=>by unfold Ju at e;obtain⟨c,h1,h2⟩:=iD.mp e;subst h2;exact⟨η,F,_,r,qc h1,fun v H1 F1 g1 q=>⟨c,bu.mp q,k _ H1 F1 g1 (bu.mpr rfl)⟩⟩
variable {es:List Expr} {ms:List Bool} {fs:LF}
def aN:LF:=fun _=>some []
def ag(f:EF)(fs:LF):LF:=fun η=>(f η).bind fun d=>(fs η).map (d::·)
theorem uB{f:EF}{fs:LF}{η:aY}{l:List D}(h:ag f fs η=some l):∃d r,f η=some d∧fs η=some r∧l=d::r:=by unfold ag at h;obtain⟨d,h1,h⟩:=cU.mp h;obtain⟨r,h2,h⟩:=iD.mp h;exact⟨d,r,h1,h2,h.symm⟩
theorem aO:DM X z [] [] aN:=PA.weak cP fun σ H Q ⟨η,F,ds,r,e,k⟩=>by cases e;exact k [] H F (aI.refl r.base) True.intro
theorem bw(ha:DE X z e f)(hr:DM X z es ms fs)(hs:starEach (e::es) X.env=(false,eval e X.env)::starEach es X.env:=by rfl):DM X z (e::es) (true::ms) (ag f fs):=PA.weak (aW ha hr hs) fun σ H Q ⟨η,F,ds,r,e,k⟩=>by obtain⟨d,l,h1,h2,rfl⟩:=uB e;refine⟨η,F,d,r,h1,fun v H1 F1 g1 q1=>⟨η,F1,l,r.grow g1,h2,fun vs H2 F2 g2 q2=>?_⟩⟩;exact k _ H2 F2 (g1.trans g2) ⟨aM g2.cz _ _ q1,q2⟩
theorem cC(ha:DB X z e f)(hr:DM X z es ms fs)(hs:starEach (e::es) X.env=(false,eval e X.env)::starEach es X.env:=by rfl):DM X z (e::es) (false::ms) (ag f fs):=PA.weak (aW ha hr hs) fun σ H Q ⟨η,F,ds,r,e,k⟩=>by obtain⟨d,l,h1,h2,rfl⟩:=uB e;refine⟨η,F,d,r,h1,fun v H1 F1 g1 q1=>⟨η,F1,l,r.grow g1,h2,fun vs H2 F2 g2 q2=>?_⟩⟩;exact k _ H2 F2 (g1.trans g2) ⟨aM g2.ent _ _ q1,q2⟩
theorem rY{K:PySem.W.Frag}{F H:Hp}:∀{n:Nat} {ds:List D} {vs:List V},kW K F H (List.replicate n true) ds vs→bz K F ds vs
  |0,[],[],_=>aP.mpr rfl
  |0,_::_,_,h=>h.elim
  |0,[],_::_,h=>h.elim
  |n+1,d::ds,v::vs,h=>av.mpr ⟨v,vs,rfl,h.1,rY h.2⟩
  |n+1,[],_,h=>h.elim
  |n+1,_::_,[],h=>h.elim
theorem uC{K:PySem.W.Frag}{F H:Hp}(s:bH F H):∀{ms:List Bool} {ds:List D} {vs:List V},kW K F H ms ds vs→bz K H ds vs
  |[],[],[],_=>aP.mpr rfl
  |[],_::_,_,h=>h.elim
  |[],[],_::_,h=>h.elim
  |m :: ms,d::ds,v::vs,h=>av.mpr ⟨v,vs,rfl,by
     cases m with
     |true=>exact aM s _ _ h.1
     |false=>exact h.1,uC s h.2⟩
  |_::_,[],_,h=>h.elim
  |_::_,_::_,[],h=>h.elim
theorem kX{K:PySem.W.Frag}{F H:Hp}:∀{ms:List Bool} {ds:List D} {vs:List V},kW K F H ms ds vs→ms.length=vs.length∧ms.length=ds.length
  |[],[],[],_=>⟨rfl,rfl⟩
  |[],_::_,_,h=>h.elim
  |[],[],_::_,h=>h.elim
  |m::ms,d::ds,v::vs,h=>by have:=kX h.2;simp[this.1,this.2];omega
  |_::_,[],_,h=>h.elim
  |_::_,_::_,[],h=>h.elim
def oQ(fs:LF):EF:=fun η=>(fs η).bind fun ds=>if ds.length≤1000 then some (.tup ds) else none
theorem uD{x1}(h:DM X z es (List.replicate n true) fs):DE X z (.Tuple es x1 pos) (oQ fs):=PE.weak (Qz h) fun σ H Q ⟨η,F,d,r,e,k⟩=>by
  unfold oQ at e;obtain⟨ds,h1,h2⟩:=cU.mp e;by_cases hl:ds.length≤1000
  · rw[az hl] at h2;cases h2;refine⟨η,F,ds,r,h1,fun vs H' F' g q=>?_⟩;have q:=rY q;have hz:vs.length≤sizeLine:=by rw[←aK q];exact Ey hl
    refine⟨hz,fun p hp=>?_⟩;have g2:=aI.put g.base hp (.tup vs) hz;exact k _ _ _ (g.trans g2) (aJ.mpr ⟨p,vs,rfl,ay,bp g2.cz _ _ q⟩)
  ·rw[ax hl] at h2;cases h2
def uE(fs:LF):LF:=fun η=>(fs η).bind fun ds=>if ds.length≤1000 then some ds else none
theorem oR(h:DM X z es (List.replicate n true) fs):DO X z (.List es pos) (uE fs):=PE.weak (xY h) fun σ H Q ⟨η,F,d,r,e,k⟩=>by
  unfold uE at e;obtain⟨ds,h1,h2⟩:=cU.mp e;by_cases hl:ds.length≤1000
  · rw[az hl] at h2;cases h2;refine⟨η,F,_,r,h1,fun vs H' F' g q=>?_⟩;have q:=rY q;have hz:vs.length≤sizeLine:=by rw[←aK q];exact Ey hl
    refine⟨hz,fun p hp=>?_⟩;have g2:=aI.own g.base hp (.lst vs) hz rfl;exact k p vs _ F' (g.trans g2) (g.ent.free hp) (g.base.sub.free hp) ay q
  ·rw[ax hl] at h2;cases h2
end
def gJ(K:PySem.W.Frag)(ms:List Bool)(Fn:List D→Option Slot):Sp:=fun vs H Q _=>∃F ds r,Base F H∧kW K F H ms ds vs∧Fn ds=some r∧ED K F H r Q
def iJ(n:Nat)(ms:List Bool)(ds:List D):aY:=(List.zipWith (fun m d=>some (match m with|true=>Slot.sh d|false=>Slot.br d)) ms ds)++List.replicate (n-ds.length) none
def pF(n:Nat)(ms:List Bool)(g:SF):List D→Option Slot:=fun ds=>match g (iJ n ms ds) with
  |some (.rt r)=>some r
  |some (.nx _)=>some (.sh .non)
  |_=>none
section
variable {K:PySem.W.Frag} {F H:Hp}
theorem EG:∀{ms:List Bool} {ds:List D} {vs:List V},kW K F H ms ds vs→∀(i:Nat) sl,(List.zipWith (fun m d=>some (match m with|true=>Slot.sh d|false=>Slot.br d)) ms ds)[i]?=some (some sl)→sl.own=false∧∃v,(vs.map some)[i]?=some (some v)∧fE K ⟨F,H,Ez⟩ F H v sl
  |[],[],[],_,i,sl,e=>by simp at e
  |[],_::_,_,h,_,_,_=>h.elim
  |[],[],_::_,h,_,_,_=>h.elim
  |_::_,[],_,h,_,_,_=>h.elim
  |_::_,_::_,[],h,_,_,_=>h.elim
  |m::ms,d::ds,v::vs,h,0,sl,e=>by
   simp at e;subst e;cases m with
   |true=>exact⟨rfl,v,rfl,h.1⟩
   |false=>exact⟨rfl,v,rfl,h.1⟩
  |m::ms,d::ds,v::vs,h,i+1,sl,e=>by obtain⟨h1,w,h2,h3⟩:=EG h.2 i sl (by simpa using e);exact⟨h1,w,by simpa using h2,h3⟩
theorem GD{Ez:Addr→Hp→Prop}(b:Base F H)(h:kW K F H ms ds vs):Rel K ⟨F,H,Ez⟩ F H (L2.start N vs) (iJ N.length ms ds):=by
  obtain⟨l1,l2⟩:=kX h;have lz:(List.zipWith (fun m d=>some (match m with|true=>Slot.sh d|false=>Slot.br d)) ms ds).length=ds.length:=by rw[List.length_zipWith];omega
  have key:∀(i:Nat) sl,(iJ N.length ms ds)[i]?=some (some sl)→sl.own=false∧∃v,(L2.start N vs)[i]?=some (some v)∧fE K ⟨F,H,Ez⟩ F H v sl:=fun i sl e=>by
    unfold iJ at e;by_cases hi:i<ds.length
    ·rw[xE (by rw[lz];exact hi)] at e;obtain⟨h1,v,h2,h3⟩:=EG h i sl e;refine⟨h1,v,?_,h3⟩;unfold L2.start;rw[xE (by rw[bY];omega)];exact h2
    ·rw[xD (by rw[lz];omega),List.getElem?_replicate] at e;split at e<;>cases e
  refine⟨aI.refl b,?_,fun i sl e=>(key i sl e).2,fun i j si sj vi vj p _ e _ o _ _ _ _ _=>by rw[(key i si e).1] at o;cases o⟩;unfold L2.start iJ;rw[lZ,lZ,lz,bY,List.length_replicate,List.length_replicate];omega
end
theorem dy{K:PySem.W.Frag}{base:Heap}{st:Stmt}{f:Addr}{ps:dB}{g:SF}(F:lX K x qual st f fd)(S:bq N ps (aj st))(nZ:ms.length=ps.length)(hb:∀(dk:Value) (A:Around) (outer:List Env) (s:Shared) (H:Hp) (E:XK) (z:Zc),cW k (A.deeper (envOfC qual (aj st) s.heap.objs.size f dk))→Jr (wm mz P w K mg base N qual (aj st) f dk A outer s H E).L0 z (bA st) g):cE P w K mg base mz (k+1) f fd ps (gJ K ms (pF N.length ms g)):=by
  refine F.ok S (fun vs H Q E h=>?_) (fun dk A outer s H vs Q E hr h=>?_)
  ·obtain⟨F,ds,r,_,a,_⟩:=h;rw[←nZ,(kX a).1]
  · obtain⟨F,ds,r,b,a,e,q⟩:=h;refine⟨_,hb dk A outer s H E ⟨F,H,fun _ _=>False⟩ hr,?_⟩;have rl:Rel K ⟨F,H,fun _ _=>False⟩ F H (L2.start N vs) (iJ N.length ms ds):=GD b a;unfold pF at e;cases o:g (iJ N.length ms ds) with
    |none=>rw[o] at e;cases e
    |some o' =>
     rw[o] at e;refine⟨_,F,o',rl,o,?_⟩;cases o' with
     |rt r'=>cases e;exact MX.of (z:=⟨F,H,fun _ _=>False⟩) q
     |nx η'=>cases e;exact fun σ' H' F' r' _=>q .non H' F' r'.mem (bI.mpr rfl)
     |bk _=>cases e
     |ct _=>cases e
section
variable {X:Cx} {z:Zc} {e a b:Expr} {f fa fb:EF} {pos p:Pos} {es:List Expr} {ms:List Bool} {fs:LF}
def bD(Fn:List D→Option Slot)(fs:LF):EF:=fun η=>(fs η).bind fun ds=>(Fn ds).bind fun r=>match r with|.sh d=>some d|.ol ds=>some (.lst ds)|.pr ds rest=>some (.tup (.lst ds::rest))|_=>none
def EH(Fn:List D→Option Slot)(fs:LF):LF:=fun η=>(fs η).bind fun ds=>(Fn ds).bind fun r=>match r with|.ol ds=>some ds|_=>none
theorem cn{ps:dB}{Fn:List D→Option Slot}(C:mE X.prog X.w X.K X.mg X.base k fn ps (gJ X.K ms Fn))(hr:cW k X.A)(hg:Gl X x)(hm:X.mg x=some (.ref fn))(ha:DM X z (e::es) ms fs)(iG:(x==("__debug__":Str))=false:=by decide)(he:starEach (e::es) X.env=(false,eval e X.env)::starEach es X.env:=by rfl)(m7:(backTo pos (starEach es X.env)).any (·.1)=false:=by rfl):DE X z (.Call (.Name x p) (e::es) [] pos) (bD Fn fs):=PE.weak (Ct C hr hg hm ha iG he m7) fun σ H Q ⟨η,F,d,r,e,k⟩=>by
  unfold bD at e;obtain⟨ds,h1,h⟩:=cU.mp e;obtain⟨s,h2,h⟩:=cU.mp h;refine⟨η,F,ds,r,h1,fun vs H1 F1 g1 q1=>?_⟩;show gJ X.K ms Fn (vs++[]) H1 Q E0;rw[xK];refine⟨F1,ds,s,g1.base,q1,h2,?_⟩;cases s with
  |sh d'=>cases h;exact fun v H' F' g2 q2=>k v H' F' (g1.trans g2) q2
  |ol BG=>cases h;intro p vs H' F' g2 hp hF hH hd;have hs:bH F' (upd F' p (.lst vs)):=fW hF _;exact k _ _ _ ((g1.trans g2).share g2.base hH (g1.ent.free hp)) (aL.mpr ⟨p,vs,rfl,eY.of ay,bp hs _ _ hd⟩)
  |pr BG UO=>cases h;intro a p vs ws H' F' g2 hp hF hH hd ha hr;have hs:bH F' (upd F' p (.lst vs)):=fW hF _;exact k _ _ _ ((g1.trans g2).share g2.base hH (g1.ent.free hp)) (aJ.mpr ⟨a,_,rfl,hs _ _ ha,av.mpr ⟨_,_,rfl,aL.mpr ⟨p,vs,rfl,eY.of ay,bp hs _ _ hd⟩,bp hs _ _ hr⟩⟩)
  |_=>cases h
theorem MZ{ps:dB}{Fn:List D→Option Slot}(C:mE X.prog X.w X.K X.mg X.base k fn ps (gJ X.K ms Fn))(hr:cW k X.A)(hg:Gl X x)(hm:X.mg x=some (.ref fn))(ha:DM X z (e::es) ms fs)(iG:(x==("__debug__":Str))=false:=by decide)(he:starEach (e::es) X.env=(false,eval e X.env)::starEach es X.env:=by rfl)(m7:(backTo pos (starEach es X.env)).any (·.1)=false:=by rfl):DO X z (.Call (.Name x p) (e::es) [] pos) (EH Fn fs):=PE.weak (Ct C hr hg hm ha iG he m7) fun σ H Q ⟨η,F,d,r,e,k⟩=>by
  unfold EH at e;obtain⟨ds,h1,h⟩:=cU.mp e;obtain⟨s,h2,h⟩:=cU.mp h;refine⟨η,F,ds,r,h1,fun vs H1 F1 g1 q1=>?_⟩;show gJ X.K ms Fn (vs++[]) H1 Q E0;rw[xK];refine⟨F1,ds,s,g1.base,q1,h2,?_⟩;cases s with
  |ol BG=>cases h;exact fun p vs H' F' g2 hp hF hH hd=>k p vs H' F' (g1.trans g2) (g1.ent.free hp) hF hH hd
  |_=>cases h
def xi(K:PySem.W.Frag)(g:List D→Option D)(r:List V→Hp→VK→Prop):Prop:=∀(F H:Hp) (ds:List D) (d:D) (vs:List V) (Q:VK),Base F H→g ds=some d→bz K H ds vs→(∀w,Den K F d w→Q w H)→r vs H Q
def ix(g:List D→Option D)(fs:LF):EF:=fun η=>(fs η).bind g
theorem bK{id:String}{g:List D→Option D}{r:List V→Hp→VK→Prop}(hc:mw X (.builtin id) r)(hgd:xi X.K g r)(hg:Gl X x)(hm:X.mg x=none)(hv:bootBuiltins x=some (.builtin id))(ha:DM X z (e::es) ms fs)(hn:x≠"__name__":=by decide)(iG:(x==("__debug__":Str))=false:=by decide)(he:starEach (e::es) X.env=(false,eval e X.env)::starEach es X.env:=by rfl)(m7:(backTo pos (starEach es X.env)).any (·.1)=false:=by rfl):DE X z (.Call (.Name x p) (e::es) [] pos) (ix g fs):=PE.weak (zP hc hg hm hv ha hn iG he m7) fun σ H Q ⟨η,F,d,r,e,k⟩=>by
  unfold ix at e;obtain⟨ds,h1,h⟩:=cU.mp e;exact⟨η,F,ds,r,h1,fun vs H1 F1 g1 q1=>hgd F1 H1 ds d vs Q g1.base h (uC g1.base.sub q1) fun w q=>k w H1 F1 g1 q⟩
theorem uF{K:PySem.W.Frag}{d:D}(h:bz K F [d] vs):∃v,vs=[v]∧Den K F d v:=by obtain⟨v,r,rfl,h1,h2⟩:=av.mp h;rw[aP.mp h2];exact⟨v,rfl,h1⟩
def dS:List D→Option D
  |[.lst ds]=>some (.int ds.length)
  |[.tup ds]=>some (.int ds.length)
  |_=>none
theorem eB{K:PySem.W.Frag}:xi K dS (fun xs H Q=>∃p ys,xs=[.ref p]∧(eY K H p ys∨gy K H p ys)∧Q (.int ys.length) H):=fun F H ds d vs Q b e h k=>by
  unfold dS at e;split at e
  ·cases e;obtain⟨v,rfl,h'⟩:=uF h;obtain⟨a,ws,rfl,h1,h2⟩:=aL.mp h';exact⟨a,ws,rfl,.inl h1,k _ (aD.mpr (by rw[aK h2]))⟩
  ·cases e;obtain⟨v,rfl,h'⟩:=uF h;obtain⟨a,ws,rfl,h1,h2⟩:=aJ.mp h';exact⟨a,ws,rfl,.inr (gy.of h1),k _ (aD.mpr (by rw[aK h2]))⟩
  ·cases e
def qe:List D→Option bL
  |[]=>some []
  |.int i::ds=>(qe ds).map (i::·)
  |_::_=>none
theorem qf:∀{ds:List D} {ns:bL},qe ds=some ns→ds=ns.map D.int
  |[],ns,h=>by cases h;rfl
  |.int i::ds,ns,h=>by obtain⟨r,h1,h2⟩:=iD.mp h;subst h2;rw[qf h1];rfl
theorem gX:∀(ns:bL),qe (ns.map D.int)=some ns
  |[]=>rfl
  |n::ns=>by show(qe (ns.map D.int)).map (n::·)=_;rw[gX ns];rfl
def Cv:List D→Option D
  |[.lst ds]=>(qe ds).map fun ns=>.int ns.sum
  |_=>none
theorem Jw{K:PySem.W.Frag}:xi K Cv (fun xs H Q=>∃(p:Addr) (ns:bL),xs=[.ref p]∧eY K H p (ns.map V.int)∧Q (.int ns.sum) H):=fun F H ds d vs Q b e h k=>by
  unfold Cv at e;split at e
  ·obtain⟨ns,h1,rfl⟩:=iD.mp e;obtain⟨v,rfl,h'⟩:=uF h;obtain⟨a,ws,rfl,h2,h3⟩:=aL.mp h';rw[qf h1] at h3;rw[jk h3] at h2;exact⟨a,ns,rfl,h2,k _ (aD.mpr rfl)⟩
  ·cases e
def fK:D→Option (List D)
  |.lst ds=>some ds
  |.tup ds=>some ds
  |_=>none
def jo(f:EF):EF:=fun η=>(f η).bind fun d=>(fK d).map D.tup
theorem qg(hx:x="tuple")(hg:Gl X x)(hm:X.mg x=none)(ha:DE X z e f)(hs:starEach [e] X.env=(false,eval e X.env)::starEach [] X.env:=by rfl):DE X z (.Call (.Name x p) [e] [] pos) (jo f):=by
  subst hx;refine PE.weak (rG wt hg hm Ab (aW ha cP hs) (by decide) (by decide) hs rfl) fun σ H Q ⟨η,F,d,r,e,k⟩=>?_;unfold jo at e;obtain⟨d',h1,h⟩:=cU.mp e;obtain⟨ds,h2,rfl⟩:=iD.mp h;refine⟨η,F,d',r,h1,fun v H1 F1 g1 q1=>?_⟩;cases d' with
  |lst BG =>
   cases h2;obtain⟨a,ws,rfl,h3,h4⟩:=aL.mp q1;have hz:ws.length≤sizeLine:=by
     rcases h3 with(h3|⟨o,h3⟩)|⟨o,its,n,_,_,_,_,hz,hv⟩
     ·exact g1.base.sU _ _ (g1.base.sub _ _ h3)
     ·exact g1.base.sU _ _ (g1.base.sub _ _ h3)
     ·rw[hv.length];simpa using hz
   refine⟨a,ws,rfl,.inl ⟨g1.base.sub.seq h3,fun l hl=>?_⟩⟩;have g2:=aI.put g1.base hl (.tup ws) hz;exact k _ _ _ (g1.trans g2) (aJ.mpr ⟨l,ws,rfl,ay,bp g2.cz _ _ h4⟩)
  |tup BG=>cases h2;obtain⟨a,ws,rfl,h3,h4⟩:=aJ.mp q1;exact⟨a,ws,rfl,.inr ⟨gy.of (g1.base.sub _ _ h3),k _ _ _ g1 q1⟩⟩
  |_=>cases h2
def xj(f:EF):LF:=fun η=>(f η).bind fK
theorem nh{K:PySem.W.Frag}(b:Base F H){a:Addr}{ws:List V}(h:eY K H a ws):ws.length≤sizeLine:=by
  rcases h with(h3|⟨o,h3⟩)|⟨o,its,n,_,_,_,_,hz,hv⟩
  ·exact b.sU _ _ h3
  ·exact b.sU _ _ h3
  ·rw[hv.length];simpa using hz
theorem EI(hx:x="list")(hg:Gl X x)(hm:X.mg x=none)(ha:DE X z e f)(hs:starEach [e] X.env=(false,eval e X.env)::starEach [] X.env:=by rfl):DO X z (.Call (.Name x p) [e] [] pos) (xj f):=by
  subst hx;refine PE.weak (rG pQ hg hm ye (aW ha cP hs) (by decide) (by decide) hs rfl) fun σ H Q ⟨η,F,d,r,e,k⟩=>?_;unfold xj at e;obtain⟨d',h1,h2⟩:=cU.mp e;refine⟨η,F,d',r,h1,fun v H1 F1 g1 q1=>?_⟩;cases d' with
  |lst BG=>cases h2;obtain⟨a,ws,rfl,h3,h4⟩:=aL.mp q1;have Py:=g1.base.sub.seq h3;refine⟨a,ws,rfl,.inl Py,fun l hl=>?_⟩;have g2:=aI.own g1.base hl (.lst ws) (nh g1.base Py) rfl;exact k l ws _ F1 (g1.trans g2) (g1.ent.free hl) (g1.base.sub.free hl) ay h4
  |tup BG=>cases h2;obtain⟨a,ws,rfl,h3,h4⟩:=aJ.mp q1;refine⟨a,ws,rfl,.inr (gy.of (g1.base.sub _ _ h3)),fun l hl=>?_⟩;have g2:=aI.own g1.base hl (.lst ws) (show ws.length≤sizeLine from g1.base.sU _ _ (g1.base.sub _ _ h3)) rfl;exact k l ws _ F1 (g1.trans g2) (g1.ent.free hl) (g1.base.sub.free hl) ay h4
  |_=>cases h2
def iS:D→D→Option D
  |.lst ds,.int i=>rJ ds i
  |.tup ds,.int i=>rJ ds i
  |_,_=>none
theorem tW{K:PySem.W.Frag}{i:Int}{d:D}(h:bz K F ds vs)(e:rJ ds i=some d):∃v,rJ vs i=some v∧Den K F d v:=by unfold rJ at e⊢;rw[aK h] at e;obtain⟨j,h1,h2⟩:=cU.mp e;obtain⟨v,h3,h4⟩:=Am h h2;exact⟨v,by rw[h1];exact h3,h4⟩
theorem iN(ha:DB X z a fa)(hb:DB X z b fb)(hs:tU b:=by intro _ _;rfl):DB X z (.Subscript a b pos) (ae iS fa fb):=PE.weak (ip (du.or IE) ha hb hs) fun σ H Q ⟨η,F,d,r,e,k⟩=>by
  obtain⟨x,y,h1,h2,h3⟩:=jb e;refine⟨η,F,x,r,h1,fun v H1 F1 g1 q1=>⟨η,F1,y,r.grow g1,h2,fun u H2 F2 g2 q2=>?_⟩⟩;have q1:=aM g2.ent _ _ q1;unfold iS at h3;split at h3
  ·obtain⟨a,ws,rfl,h4,h5⟩:=aL.mp q1;rw[aD.mp q2];obtain⟨v,h6,h7⟩:=tW h5 h3;exact .inl ⟨a,ws,_,v,rfl,rfl,h4,h6,k v H2 F2 (g1.trans g2) h7⟩
  ·obtain⟨a,ws,rfl,h4,h5⟩:=aJ.mp q1;rw[aD.mp q2];obtain⟨v,h6,h7⟩:=tW h5 h3;exact .inr ⟨a,ws,_,v,rfl,rfl,gy.of h4,h6,k v H2 F2 (g1.trans g2) h7⟩
  ·cases h3
theorem EJ(ha:DE X z a fa)(hb:DB X z b fb)(hs:tU b:=by intro _ _;rfl):DE X z (.Subscript a b pos) (ae iS fa fb):=PE.weak (ip (du.or IE) ha hb hs) fun σ H Q ⟨η,F,d,r,e,k⟩=>by
  obtain⟨x,y,h1,h2,h3⟩:=jb e;refine⟨η,F,x,r,h1,fun v H1 F1 g1 q1=>⟨η,F1,y,r.grow g1,h2,fun u H2 F2 g2 q2=>?_⟩⟩;have q1:=aM g2.cz _ _ q1;unfold iS at h3;split at h3
  ·obtain⟨a,ws,rfl,h4,h5⟩:=aL.mp q1;rw[aD.mp q2];obtain⟨v,h6,h7⟩:=tW h5 h3;exact .inl ⟨a,ws,_,v,rfl,rfl,g2.base.sub.seq h4,h6,k v H2 F2 (g1.trans g2) h7⟩
  ·obtain⟨a,ws,rfl,h4,h5⟩:=aJ.mp q1;rw[aD.mp q2];obtain⟨v,h6,h7⟩:=tW h5 h3;exact .inr ⟨a,ws,_,v,rfl,rfl,gy.of (g2.base.sub _ _ h4),h6,k v H2 F2 (g1.trans g2) h7⟩
  ·cases h3
def ac3(cs:bL)(f:EF):EF:=fun η=>(f η).bind fun d=>match d with|.int i=>(rJ cs i).map D.int|_=>none
abbrev PF:=aY→Option (Option Int)
def vP(K:PySem.W.Frag)(z:Zc)(f:PF):TO:=fun σ H Q=>∃η F o,Rel K z F H σ η∧f η=some o∧∀H' F',aI F H F' H'→Q o H'
def DP(X:Cx)(z:Zc)(e:Option Expr)(f:PF):Prop:=PO X e (vP X.K z f)
def Ao:PF:=fun _=>some none
def gN(f:EF):PF:=fun η=>(f η).bind fun d=>match d with|.int i=>some (some i)|_=>none
theorem PO.weak{e:Option Expr}{t t':TO}(h:PO X e t)(k:∀σ H Q,t' σ H Q→t σ H Q):PO X e t':=fun pins s σ H Q I q=>h pins s σ H Q I (k σ H Q q)
theorem EK:DP X z none Ao:=PO.weak xZ fun σ H Q ⟨η,F,o,r,e,k⟩=>by cases e;exact k H F (aI.refl r.base)
theorem jN(h:DB X z e f):DP X z (some e) (gN f):=PO.weak (Ej h) fun σ H Q ⟨η,F,o,r,e,k⟩=>by
  unfold gN at e;obtain⟨d,h1,h2⟩:=cU.mp e;cases d with
  |int i=>cases h2;exact⟨η,F,_,r,h1,fun v H' F' g q=>⟨i,aD.mp q,k H' F' g⟩⟩
  |_=>cases h2
def cutD(ds:List D)(lo hi:Option Int):List D:=(ds.drop (HT.rg ds.length 0 lo)).take (HT.rg ds.length ds.length hi-HT.rg ds.length 0 lo)
def mG(f:EF)(pl ph:PF):LF:=fun η=>(f η).bind fun d=>(pl η).bind fun l=>(ph η).bind fun h=>match d with|.lst ds=>some (cutD ds l h)|_=>none
theorem Ap{lo hi:Option Expr}{pl ph:PF}(ha:DE X z e f)(hl:DP X z lo pl)(hh:DP X z hi ph):DO X z (.Subscript e (.Slice lo hi none p2) pos) (mG f pl ph):=PE.weak (zQ Ms ha hl hh) fun σ H Q ⟨η,F,d,r,e,k⟩=>by
  unfold mG at e;obtain⟨d',h1,e⟩:=cU.mp e;obtain⟨l,h2,e⟩:=cU.mp e;obtain⟨h,h3,e⟩:=cU.mp e;cases d' with
  |lst ds=>cases e;refine⟨η,F,_,r,h1,fun v H1 F1 g1 q1=>⟨η,F1,l,r.grow g1,h2,fun H2 F2 g2=>⟨η,F2,h,(r.grow g1).grow g2,h3,fun H3 F3 g3=>?_⟩⟩⟩;obtain⟨a,ws,rfl,h4,h5⟩:=aL.mp (aM (g2.cz.trans g3.cz) _ _ q1);refine⟨a,ws,rfl,g3.base.sub.seq h4,fun p hp=>?_⟩;have hz:(B6 ws l h).length≤sizeLine:=fR (sP _ _ _) (nh g3.base (g3.base.sub.seq h4));have g4:=aI.own g3.base hp (.lst (B6 ws l h)) hz rfl;have UU:=(g1.trans g2).trans g3;refine k p _ _ F3 (UU.trans g4) (UU.ent.free hp) (g3.base.sub.free hp) ay ?_;unfold cutD B6;rw[aK h5];exact rQ _ (rR _ h5)
  |_=>cases e
theorem Cw(h:n≤10000):n≤sizeLine:=fR h (by rw[fU];decide)
def GF:D→Option V
  |.non=>some .non
  |.bl b=>some (.bl b)
  |.int i=>some (.int i)
  |.str x=>some (.str x)
  |_=>none
theorem ni{K:PySem.W.Frag}{d:D}{w:V}(h:Den K F d v)(e:GF d=some w):v=w∧my w=true:=by
  cases d with
  |non=>cases e;exact⟨bI.mp h,rfl⟩
  |bl _=>cases e;exact⟨bu.mp h,rfl⟩
  |int _=>cases e;exact⟨aD.mp h,rfl⟩
  |str _=>cases e;exact⟨aR.mp h,rfl⟩
  |_=>cases e
def GH:List D→Option (List V)
  |[]=>some []
  |d::ds=>(GF d).bind fun v=>(GH ds).map (v::·)
theorem uG{K:PySem.W.Frag}{F:Hp}:∀{ds:List D} {vs ws:List V},bz K F ds vs→GH ds=some ws→vs=ws∧ws.all my=true
  |[],vs,ws,h,e=>by cases e;exact⟨aP.mp h,rfl⟩
  |d::ds,vs,ws,h,e=>by obtain⟨v,h1,e⟩:=cU.mp e;obtain⟨r,h2,rfl⟩:=iD.mp e;obtain⟨v',r',rfl,h3,h4⟩:=av.mp h;obtain⟨e1,f1⟩:=ni h3 h1;obtain⟨e2,f2⟩:=uG h4 h2;subst e1 e2;exact⟨rfl,by rw[List.all_cons,f1,f2];rfl⟩
theorem xk:∀(ns:bL),GH (ns.map D.int)=some (ns.map V.int)
  |[]=>rfl
  |n::ns=>by show(some (V.int n)).bind _=_;simp[xk ns]
def inD(neg:Bool):D→D→Option D:=fun x y=>(GF x).bind fun v=>(fK y).bind fun ds=>(GH ds).map fun ws=>.bl (if neg then !Pq v ws else Pq v ws)
theorem Pz{K:PySem.W.Frag}(neg:Bool):EE K (inD neg) (Xs K neg):=fun F H x y d v u Q b e h1 h2 k=>by
  unfold inD at e;obtain⟨v',e1,e⟩:=cU.mp e;obtain⟨ds,e2,e⟩:=cU.mp e;obtain⟨ws,e3,rfl⟩:=iD.mp e;obtain⟨rfl,fv⟩:=ni h1 e1;cases y with
  |lst BG=>cases e2;obtain⟨a,us,rfl,h3,h4⟩:=aL.mp h2;obtain⟨rfl,fw⟩:=uG h4 e3;exact⟨a,us,rfl,.inl h3,fv,fw,k _ (bu.mpr rfl)⟩
  |tup BG=>cases e2;obtain⟨a,us,rfl,h3,h4⟩:=aJ.mp h2;obtain⟨rfl,fw⟩:=uG h4 e3;exact⟨a,us,rfl,.inr (gy.of h3),fv,fw,k _ (bu.mpr rfl)⟩
  |_=>cases e2
def iI(C:Int→Int→Bool)(h:Int→Int→D):D→D→Option D
  |.int i,.int j=>if C i j=true then some (h i j) else none
  |_,_=>none
theorem M0{K:PySem.W.Frag}{C:Int→Int→Bool}{C':Int→Int→Prop}{h:Int→Int→Int}(hc:∀i j,C i j=true→C' i j):EE K (iI C fun i j=>.int (h i j)) (rI C' fun i j=>.int (h i j)):=fun F H x y d v u Q b e h1 h2 k=>by
  unfold iI at e;split at e
  · rename_i i j;by_cases HD:C i j=true
    ·rw[az HD] at e;cases e;exact⟨i,j,aD.mp h1,aD.mp h2,hc i j HD,k _ (aD.mpr rfl)⟩
    ·rw[ax HD] at e;cases e
  ·cases e
theorem PB{K:PySem.W.Frag}{h:Int→Int→Int}:EE K (iI (fun _ _=>true) fun i j=>.int (h i j)) (Mg fun i j=>.int (h i j)):=fun F H x y d v u Q b e h1 h2 k=>by
  unfold iI at e;split at e
  ·rename_i i j;rw[az rfl] at e;cases e;exact⟨i,j,aD.mp h1,aD.mp h2,k _ (aD.mpr rfl)⟩
  ·cases e
theorem EL{K:PySem.W.Frag}{h:Int→Int→Bool}:EE K (iI (fun _ _=>true) fun i j=>.bl (h i j)) (Mg fun i j=>.bl (h i j)):=fun F H x y d v u Q b e h1 h2 k=>by
  unfold iI at e;split at e
  ·rename_i i j;rw[az rfl] at e;cases e;exact⟨i,j,aD.mp h1,aD.mp h2,k _ (bu.mpr rfl)⟩
  ·cases e
def gd:=iI (fun _ _=>true) fun i j=>.int (i+j)
def GJ:=iI (fun _ _=>true) fun i j=>.int (i-j)
def mulC(i j:Int):Bool:=decide ((-(2^64)<i∧i<2^64)∨(-(2^64)<j∧j<2^64))
def wA:=iI mulC fun i j=>.int (i*j)
def divC(_ j:Int):Bool:=decide (0<j∧j<1073741824)
def Aq:=iI divC fun i j=>.int (i / j)
def iy(_ j:Int):Bool:=decide (0<j)
def cM:=iI iy fun i j=>.int (i%j)
def powC(i j:Int):Bool:=decide (0≤j∧j≤1000000∧i.natAbs<2^64)
def M3:=iI powC fun i j=>.int (i^j.toNat)
def yl:=iI (fun _ _=>true) fun i j=>.bl (decide (i<j))
def HK:=iI (fun _ _=>true) fun i j=>.bl (decide (j<i))
def X1:=iI (fun _ _=>true) fun i j=>.bl (decide (j≤i))
theorem M4{i j:Int}(h:mulC i j=true):Mh i j:=by unfold mulC at h;have q:=of_decide_eq_true h;exact q
theorem M5{i j:Int}(h:divC i j=true):T6 i j:=by unfold divC at h;have q:=of_decide_eq_true h;exact q
theorem M6{i j:Int}(h:powC i j=true):T7 i j:=by unfold powC at h;have q:=of_decide_eq_true h;exact q
theorem cY(ha:DB X z a fa)(hb:DB X z b fb):DE X z (.BinOp a .Add b pos) (ae gd fa fb):=uz Qs PB ha hb
theorem Cy(ha:DB X z a fa)(hb:DB X z b fb):DE X z (.BinOp a .Sub b pos) (ae GJ fa fb):=uz Qt PB ha hb
theorem oS(ha:DB X z a fa)(hb:DB X z b fb):DE X z (.BinOp a .Mult b pos) (ae wA fa fb):=uz Qu (M0 fun i j h=>M4 h) ha hb
theorem rZ(ha:DB X z a fa)(hb:DB X z b fb):DE X z (.BinOp a .FloorDiv b pos) (ae Aq fa fb):=uz Mi (M0 fun i j h=>M5 h) ha hb
theorem cx(ha:DB X z a fa)(hb:DB X z b fb):DE X z (.BinOp a .Mod b pos) (ae cM fa fb):=uz Il (M0 fun i j h=>of_decide_eq_true h) ha hb
theorem Rc(ha:DB X z a fa)(hb:DB X z b fb):DE X z (.BinOp a .Pow b pos) (ae M3 fa fb):=uz Qv (M0 fun i j h=>M6 h) ha hb
theorem PD(ha:DB X z a fa)(hb:DB X z b fb):DE X z (.Compare a [.Lt] [b] pos) (ae yl fa fb):=yj Pk EL ha hb (j4 _)
theorem mH(ha:DB X z a fa)(hb:DB X z b fb):DT X z (.Compare a [.Lt] [b] pos) (bF (ae yl fa fb)):=oP Pk EL ha hb (j4 _)
theorem uH(ha:DB X z a fa)(hb:DB X z b fb):DT X z (.Compare a [.Gt] [b] pos) (bF (ae HK fa fb)):=oP T9 EL ha hb (j4 _)
theorem UW(ha:DB X z a fa)(hb:DB X z b fb):DT X z (.Compare a [.GtE] [b] pos) (bF (ae X1 fa fb)):=oP Ua EL ha hb (j4 _)
theorem PH(ha:DB X z a fa)(hb:DB X z b fb)(hm:behindInMarks .In b=false:=by rfl):DT X z (.Compare a [.In] [b] pos) (bF (ae (inD false) fa fb)):=oP Gn (Pz false) ha hb hm
theorem Rf(ha:DB X z a fa)(hb:DB X z b fb)(hm:behindInMarks .NotIn b=false:=by rfl):DT X z (.Compare a [.NotIn] [b] pos) (bF (ae (inD true) fa fb)):=oP x8 (Pz true) ha hb hm
def ER:D→D→Option D
  |.non,.non=>some (.bl true)
  |_,.non=>some (.bl false)
  |_,_=>none
theorem EV{K:PySem.W.Frag}{d:D}(h:Den K F d v):v=.non↔d=.non:=by
  cases d with
  |non=>simp[bI.mp h]
  |bl _=>simp[bu.mp h]
  |int _=>simp[aD.mp h]
  |str _=>simp[aR.mp h]
  |tup _=>obtain⟨a,vs,rfl,_⟩:=aJ.mp h;simp
  |lst _=>obtain⟨a,vs,rfl,_⟩:=aL.mp h;simp
  |obj _=>obtain⟨a,vs,rfl,_⟩:=fX.mp h;simp
  |exc _=>obtain⟨a,rfl,_⟩:=fY.mp h;simp
theorem Rg{K:PySem.W.Frag}:EE K ER (fun x y H Q=>y=.non∧Q (.bl (decide (x=.non))) H):=fun F H x y d v u Q b e h1 h2 k=>by
  have hy:y=.non:=by cases x<;>cases y<;>first|rfl|cases e
  subst hy;refine⟨bI.mp h2,k _ ?_⟩;have hd:d=.bl (decide (v=.non)):=by have q:=EV h1;cases x<;>cases e<;>simp[q]
  rw[hd];exact bu.mpr rfl
theorem Jx(ha:DB X z a fa)(hb:DB X z b fb):DE X z (.Compare a [.Is] [b] pos) (ae ER fa fb):=yj Qx Rg ha hb (j4 _)
end
def Cz(K:PySem.W.Frag)(z:Zc)(F:Hp)(m:Bool)(d:D)(v:V):Prop:=match m with
  |true=>Den K F d v
  |false=>Den K z.H₀ d v
structure Walk (K:PySem.W.Frag) (z:Zc) (F:Hp) (J:It) (m:Bool) (ds:List D):Prop where
  go:∀F' H',bH F F'→aI z.F₀ z.H₀ F' H'→∀i,i<ds.length→J.go i H'
  BP:∀F' H',bH F F'→aI z.F₀ z.H₀ F' H'→∀(i:Nat) d x BH,ds[i]?=some d→J.BP i H' x BH→∃Jy,aI F' H' Jy BH∧Cz K z Jy m d x
  stop:∀F' H',bH F F'→aI z.F₀ z.H₀ F' H'→J.stop ds.length H'
  len:ds.length≤sizeLine
def vI(K:PySem.W.Frag)(z:Zc)(m:Bool)(f:LF):TI:=fun σ H R=>∃η F ds,Rel K z F H σ η∧f η=some ds∧∀J H' F',aI F H F' H'→Walk K z F' J m ds→R J H'
def DI(X:Cx)(z:Zc)(tg iter:Expr)(m:Bool)(f:LF):Prop:=PI X tg iter (vI X.K z m f)
theorem PI.weak{t t':TI}(h:PI X tg e t)(k:∀σ H R,t' σ H R→t σ H R):PI X tg e t':=fun pins s σ H R I q=>h pins s σ H R I (k σ H R q)
section
variable {K:PySem.W.Frag} {z:Zc} {F:Hp}
theorem GK(h:eY K F a vs)(hd:bz K F ds vs)(hl:ds.length≤sizeLine):Walk K z F (Wc K a) true ds where
  go:=fun F' H' s g i hi=>⟨vs,_,(s.trans g.base.sub).seq h,eQ (by rw[←aK hd];exact hi)⟩
  BP:=fun F' H' s g i d x BH e y=>by obtain⟨rfl,y⟩:=y;have e2:=y vs ((s.trans g.base.sub).seq h);obtain⟨d',h1,h2⟩:=i7 hd e2;rw[e] at h1;cases h1;exact⟨F',aI.refl g.base,aM s _ _ h2⟩
  stop:=fun F' H' s g=>⟨vs,(s.trans g.base.sub).seq h,by rw[aK hd];exact bJ _⟩
  len:=hl
theorem Jz(h:gy K F a vs)(hd:bz K F ds vs)(hl:ds.length≤sizeLine):Walk K z F (Xa K a) true ds where
  go:=fun F' H' s g i hi=>⟨vs,_,jl (s.trans g.base.sub) h,eQ (by rw[←aK hd];exact hi)⟩
  BP:=fun F' H' s g i d x BH e y=>by obtain⟨rfl,y⟩:=y;have e2:=y vs (jl (s.trans g.base.sub) h);obtain⟨d',h1,h2⟩:=i7 hd e2;rw[e] at h1;cases h1;exact⟨F',aI.refl g.base,aM s _ _ h2⟩
  stop:=fun F' H' s g=>⟨vs,jl (s.trans g.base.sub) h,by rw[aK hd];exact bJ _⟩
  len:=hl
theorem CB(h:eY K z.H₀ a vs)(hd:bz K z.H₀ ds vs)(hl:ds.length≤sizeLine):Walk K z F (Wc K a) false ds where
  go:=fun F' H' s g i hi=>⟨vs,_,g.ent.seq h,eQ (by rw[←aK hd];exact hi)⟩
  BP:=fun F' H' s g i d x BH e y=>by obtain⟨rfl,y⟩:=y;have e2:=y vs (g.ent.seq h);obtain⟨d',h1,h2⟩:=i7 hd e2;rw[e] at h1;cases h1;exact⟨F',aI.refl g.base,h2⟩
  stop:=fun F' H' s g=>⟨vs,g.ent.seq h,by rw[aK hd];exact bJ _⟩
  len:=hl
def cB(lo:Int)(n:Nat):List D:=(List.range n).map fun(i:Nat)=>D.int (lo+(i:Int))
theorem CC{lo:Int}(hl:n≤sizeLine):Walk K z F (Wd lo n) true (cB lo n) where
  go:=fun F' H' s g i hi=>by
    have q:i<n:=by simpa[cB] using hi
    exact q
  BP:=fun F' H' s g i d x BH e y=>by
    obtain⟨rfl,rfl⟩:=y;refine⟨F',aI.refl g.base,?_⟩;unfold cB at e;rw[eU] at e;obtain⟨j,h1,rfl⟩:=iD.mp e;have h2:j=i:=by have h3:=lR.mp h1;obtain⟨_,h4⟩:=h3;simpa using h4.symm
    subst h2;show Den K F' _ _;exact aD.mpr rfl
  stop:=fun F' H' s g=>by show n≤_;simp[cB]
  len:=by simpa[cB] using hl
end
section
variable {X:Cx} {z:Zc} {tg e a b:Expr} {f fa fb:EF} {pos p:Pos} {m:Bool}
def lU(f:EF):LF:=fun η=>(f η).bind fK
theorem kY(h:DE X z e f):DI X z tg e true (lU f):=fun pins s σ H R I ⟨η,F,ds,r,e,k⟩=>by
  unfold lU at e;obtain⟨d,h1,h2⟩:=cU.mp e;cases d with
  |lst BG=>cases h2;refine Ec h pins s σ H R I ⟨η,F,_,r,h1,fun v H' F' g q=>?_⟩;obtain⟨a,vs,rfl,h3,h4⟩:=aL.mp q;have Py:=g.base.sub.seq h3;exact⟨a,rfl,⟨vs,Py⟩,k _ H' F' g (GK h3 h4 (by rw[aK h4];exact nh g.base Py))⟩
  |tup BG=>cases h2;refine Qp h pins s σ H R I ⟨η,F,_,r,h1,fun v H' F' g q=>?_⟩;obtain⟨a,vs,rfl,h3,h4⟩:=aJ.mp q;have Py:=g.base.sub _ _ h3;exact⟨a,rfl,⟨vs,gy.of Py⟩,k _ H' F' g (Jz (gy.of h3) h4 (by rw[aK h4];exact g.base.sU _ _ Py))⟩
  |_=>cases h2
def JA(i:Nat):LF:=fun η=>match η[i]? with
  |some (some (.br (.lst ds)))=>some ds
  |_=>none
theorem PJ(i:Nat)(hN:X.N[i]?=some x:=by rfl)(hv:pL X.env.scope x:=by first|exact Or.inl rfl|exact Or.inr (Or.inl rfl)|exact Or.inr (Or.inr rfl))(hd:(x==("__debug__":Str))=false:=by decide)(dU:(x==("__classdict__":Str))=false:=by decide):DI X z tg (.Name x pos) false (JA i):=fun pins s σ H R I ⟨η,F,ds,r,e,k⟩=>by
  unfold JA at e;split at e
  ·rename_i BG h;cases e;obtain⟨v,xW,hs⟩:=r.at_ i _ h;obtain⟨a,vs,rfl,h3,h4⟩:=aL.mp (show Den X.K z.H₀ (.lst ds) v from hs);refine Ec (cO hN hv hd dU) pins s σ H R I ⟨_,xW,a,rfl,⟨vs,r.mem.ent.seq h3⟩,?_⟩;exact k _ H F (aI.refl r.base) (CB h3 h4 (by rw[aK h4];exact nh r.base (r.mem.ent.seq h3)))
  ·cases e
def dE(f:EF):LF:=fun η=>(f η).bind fun d=>match d with|.int j=>if j≤10000∧-10000≤j then some (cB 0 j.toNat) else none|_=>none
theorem gY(hg:Gl X "range")(hm:X.mg "range"=none)(ha:DB X z a fa)(hs:starEach [a] X.env=[(false,eval a X.env)]:=by rfl):DI X z tg (.Call (.Name "range" p) [a] [] pos) true (dE fa) :=
  PI.weak (Gb hg hm (aW ha cP hs) hs) fun σ H R ⟨η,F,ds,r,e,k⟩=>by
  unfold dE at e;obtain⟨d,h1,h2⟩:=cU.mp e;cases d with
  |int j =>
   by_cases hj:j≤10000∧-10000≤j
   ·have h2:(if j≤10000∧-10000≤j then some (cB 0 j.toNat) else none)=some ds:=h2;rw[az hj] at h2;cases h2;exact⟨η,F,_,r,h1,fun v H' F' g q=>⟨j,by rw[aD.mp q],by omega,by omega,k _ H' F' g (CC (Cw (by omega)))⟩⟩
   ·have h2:(if j≤10000∧-10000≤j then some (cB 0 j.toNat) else none)=some ds:=h2;rw[ax hj] at h2;cases h2
  |_=>cases h2
end
def vG(K:PySem.W.Frag)(z:Zc)(m:Bool)(b:BF):TG:=fun v σ H Q=>∃η F d η',Rel K z F H σ η∧Cz K z F m d v∧b d η=some η'∧∀σ',Rel K z F H σ' η'→Q σ' H
def DG(X:Cx)(z:Zc)(m:Bool)(tg:Expr)(b:BF):Prop:=PG X tg (vG X.K z m b)
theorem PG.weak{t t':TG}(h:PG X tg t)(k:∀v σ H Q,t' v σ H Q→t v σ H Q):PG X tg t':=fun pins s σ H v u Q I r q=>h pins s σ H v u Q I r (k v σ H Q q)
def X2(m:Bool)(d:D):Slot:=match m with
  |true=>.sh d
  |false=>.br d
theorem M7(m:Bool)(d:D):(X2 m d).own=false:=by cases m<;>rfl
theorem Rh{K:PySem.W.Frag}{z:Zc}{m:Bool}{d:D}(h:Cz K z F m d v):fE K z F H v (X2 m d):=by cases m<;>exact h
def aU(m:Bool)(i:Nat):BF:=fun d η=>some (η.set i (some (X2 m d)))
section
variable {X:Cx} {z:Zc} {m:Bool} {pos:Pos}
theorem bN(i:Nat)(hN:X.N.Nodup)(hi:X.N[i]?=some x:=by rfl)(hx:Loc X.env.scope x:=by first|exact Or.inl rfl|exact Or.inr rfl)(hf:X.fn x=true∨X.env.scope.names.lookup x=some .local:=by first|exact .inl rfl|exact .inr rfl|assumption):DG X z m (.Name x pos) (aU m i) :=
  PG.weak (Ea hN hi hx hf) fun v σ H Q ⟨η,F,d,η',r,h,e,k⟩=>by
  cases e;exact k _ (r.set i (M7 m d) (Rh h))
def vGs(K:PySem.W.Frag)(z:Zc)(m:Bool)(b:List D→aY→Option aY):Md:=fun vs σ H Q=>∃η F ds η',Rel K z F H σ η∧(match m with|true=>bz K F ds vs|false=>bz K z.H₀ ds vs)∧b ds η=some η'∧∀σ',Rel K z F H σ' η'→Q σ' H
def Ww(X:Cx)(z:Zc)(m:Bool)(tgs:List Expr)(b:List D→aY→Option aY):Prop:=L1 X tgs (vGs X.K z m b)
theorem L1.weak{tg:List Expr}{t t':Md}(h:L1 X tg t)(k:∀v σ H Q,t' v σ H Q→t v σ H Q):L1 X tg t':=fun pins s σ H v u Q I r q=>h pins s σ H v u Q I r (k v σ H Q q)
def j7:List D→aY→Option aY:=fun ds η=>match ds with|[]=>some η|_=>none
def cf(b:BF)(bs:List D→aY→Option aY):List D→aY→Option aY:=fun ds η=>match ds with|d::r=>(b d η).bind fun η'=>bs r η'|[]=>none
theorem kZ:Ww X z m [] j7:=L1.weak Mf fun vs σ H Q ⟨η,F,ds,η',r,h,e,k⟩=>by
  unfold j7 at e;split at e
  · cases e;refine⟨?_,k σ r⟩;cases m with
    |true=>exact aP.mp h
    |false=>exact aP.mp h
  ·cases e
theorem dg{es:List Expr}{b:BF}{bs:List D→aY→Option aY}(h1:DG X z m e b)(h2:Ww X z m es bs)(hs:(assignEach (e::es) X.env).map (·.2)=assign e X.env::(assignEach es X.env).map (·.2):=by rfl):Ww X z m (e::es) (cf b bs) :=
  L1.weak (Ih h1 h2 hs) fun vs σ H Q ⟨η,F,ds,η',r,h,e,k⟩=>by
  unfold cf at e;split at e
  · rename_i d rs;obtain⟨η1,e1,e2⟩:=cU.mp e;cases m with
    |true=>obtain⟨v,vr,rfl,q1,q2⟩:=av.mp h;exact⟨v,vr,rfl,η,F,d,η1,r,q1,e1,fun σ' r'=>⟨η1,F,rs,η',r',q2,e2,k⟩⟩
    |false=>obtain⟨v,vr,rfl,q1,q2⟩:=av.mp h;exact⟨v,vr,rfl,η,F,d,η1,r,q1,e1,fun σ' r'=>⟨η1,F,rs,η',r',q2,e2,k⟩⟩
  ·cases e
def j8(n:Nat)(bs:List D→aY→Option aY):BF:=fun d η=>match d with|.tup ds=>if ds.length=n then bs ds η else none|_=>none
theorem oT{es:List Expr}{bs:List D→aY→Option aY}(hc:X.calm=true)(h:Ww X z m es bs)(hn:(assignEach es X.env).length=n:=by rfl)(xS:(assignEach es X.env).findIdx? (·.1)=none:=by rfl):DG X z m (.Tuple es k pos) (j8 n bs):=PG.weak (Ql hc h hn xS) fun v σ H Q ⟨η,F,d,η',r,h,e,k⟩=>by
  unfold j8 at e;split at e
  · rename_i ds;by_cases hl:ds.length=n
    · rw[az hl] at e;cases m with
      |true=>obtain⟨a,vs,rfl,q1,q2⟩:=aJ.mp (show Den X.K F (.tup ds) v from h);exact⟨a,vs,rfl,gy.of (r.base.sub _ _ q1),by rw[←aK q2];exact hl,η,F,ds,η',r,q2,e,k⟩
      |false=>obtain⟨a,vs,rfl,q1,q2⟩:=aJ.mp (show Den X.K z.H₀ (.tup ds) v from h);exact⟨a,vs,rfl,gy.of (r.mem.ent _ _ q1),by rw[←aK q2];exact hl,η,F,ds,η',r,q2,e,k⟩
    ·rw[ax hl] at e;cases e
  ·cases e
end
def fL(b:BF)(t:TF)(f:EF):List D→aY→Option (List D)
  |[],_=>some []
  |d::ds,η=>(b d η).bind fun η1=>(t η1).bind fun c=>if c=true then(f η1).bind fun x=>(fL b t f ds η).map (x::·) else fL b t f ds η
def fM(nt:Nat)(fi:List Nat)(l:LF)(b:BF)(t:TF)(f:EF):LF:=fun η=>(l η).bind fun ds=>fL b t f ds (oO nt fi η)
theorem xl{K:PySem.W.Frag}{z:Zc}{m:Bool}{nt:Nat}{l:LF}{b:BF}{t:TF}{f:EF}(hf:fi.Nodup):∀σ H Q,vO K z (fM nt fi l b t f) σ H Q→Jc (vI K z m l) nt fi (vG K z m b) (vT K z t) (vE K z f) σ H Q:=fun σ H Q ⟨η,F,ds,r,e,k⟩=>by
  unfold fM at e;obtain⟨xs,h1,h2⟩:=cU.mp e;refine⟨η,F,xs,r,h1,fun J H1 F1 g1 wk=>?_⟩;have r1:=r.grow g1
  -- the word: behind i turns,the items so far are those of a beginning of ds
  refine⟨fun i n ys H'=>n=xs.length-i∧i≤xs.length∧∃F' PK Ri,aI F1 H1 F' H'∧ds=PK++Ri∧bz K F' PK ys∧PK.length≤i∧fL b t f (xs.drop i) (oO nt fi η)=some Ri,⟨xs.length,by simp,ik _,F1,[],ds,aI.refl g1.base,rfl,aP.mpr rfl,ik _,by simpa using h2⟩,?_⟩;rintro i n ys H' ⟨rfl,hi,F',PK,Ri,g2,Rj,q,hl,hc⟩;have uI:=(r1.mem.trans g2)
  have hyl:=aK q;by_cases dQ:i<xs.length
  · refine .inr ⟨wk.go F' H' g2.cz uI i dQ,by have:=wk.len;omega,?_⟩;have ed:xs.drop i=xs[i]::xs.drop (i+1):=List.drop_eq_getElem_cons dQ;rw[ed] at hc;unfold fL at hc;obtain⟨η1,c1,hc⟩:=cU.mp hc;obtain⟨c,c2,hc⟩:=cU.mp hc;refine⟨fun y H4=>c=true∧∃F4 x Ta,aI F1 H1 F4 H4∧Den K F4 x y∧bz K F4 PK ys∧fL b t f (xs.drop (i+1)) (oO nt fi η)=some Ta∧Ri=x::Ta,fun H3=>c=false∧∃F3,aI F1 H1 F3 H3∧bz K F3 PK ys,?_,?_,?_⟩
    ·rintro y H4 ⟨_,F4,x,Ta,g4,q1,q2,q3,rfl⟩;exact⟨xs.length-(i+1),by omega,rfl,dQ,F4,PK++[x],Ta,g4,by rw[Rj];simp,rP q2 q1,by simp;omega,q3⟩
    ·rintro H3 ⟨rfl,F3,g3,q2⟩;exact⟨xs.length-(i+1),by omega,rfl,dQ,F3,PK,Ri,g3,Rj,q2,by omega,hc⟩
    · intro x BH y;obtain⟨Jy,g3,it⟩:=wk.BP F' H' g2.cz uI i xs[i] x BH (by simp[dQ]) y;have rb:Rel K z Jy BH (mB nt fi σ) (oO nt fi η):=((r1.grow g2).grow g3).block nt hf;refine⟨oO nt fi η,Jy,xs[i],η1,rb,it,c1,fun σ' r'=>⟨η1,Jy,c,r',c2,fun H3 F3 g4=>?_⟩⟩;cases c with
      |true=>have hc:(f η1).bind (fun x=>(fL b t f (xs.drop (i+1)) (oO nt fi η)).map (x::·))=some Ri:=hc;obtain⟨x',c3,hc⟩:=cU.mp hc;obtain⟨Ta,c4,c5⟩:=iD.mp hc;refine⟨η1,F3,x',r'.grow g4,c3,fun v H4 F4 g5 q5=>⟨rfl,F4,x',Ta,(((g2.trans g3).trans g4).trans g5),q5,bp ((g3.cz.trans g4.cz).trans g5.cz) _ _ q,c4,c5.symm⟩⟩
      |false=>exact⟨rfl,F3,((g2.trans g3).trans g4),bp (g3.cz.trans g4.cz) _ _ q⟩
  · have ei:i=xs.length:=by omega
    subst ei;have X3:Ri=[]:=by rw[List.drop_length] at hc;unfold fL at hc;cases hc;rfl
    subst X3;rw[xK] at Rj;subst Rj;have hz:ys.length≤sizeLine:=by have:=wk.len;omega
    refine .inl ⟨wk.stop F' H' g2.cz uI,hz,fun p hp=>?_⟩;have g3:=aI.own g2.base hp (.lst ys) hz rfl;exact k p ys _ F' ((g1.trans g2).trans g3) ((g1.trans g2).ent.free hp) (g2.base.sub.free hp) ay q
section
variable {X:Cx} {z:Zc} {m:Bool} {pos:Pos} {tg elt iter:Expr} {ifs:List Expr} {tgs:dB} {fi:List Nat} {scope:Scope} {l:LF} {b:BF} {t:TF} {f:EF}
def M8(X:Cx)(z:Zc)(ifs:List Expr)(t:TF):Prop:=Gz X ifs (vT X.K z t)
def jO:TF:=fun _=>some true
theorem qh:M8 X z [] jO:=fun pins s σ H Q I ⟨η,F,c,r,e,k⟩=>by cases e;exact IX pins s σ H Q I (k H F (aI.refl r.base))
theorem EW{c:Expr}(h:DT X z c t):M8 X z [c] t:=IY h
theorem nq(hc:X.calm=true)(B:fJ X tgs fi scope)(hf:fi.Nodup)(hi:DI X z tg iter m l)(hg:∀C ex s H,DG (iQ X tgs fi scope C ex s H) z m tg b)(ht:∀C ex s H,M8 (iQ X tgs fi scope C ex s H) z ifs t)(he:∀C ex s H,DE (iQ X tgs fi scope C ex s H) z elt f)(hs:∀x,foldedSetIterable iter X.env x=pure x:=by intro _;rfl):DO X z (.ListComp elt [⟨tg,iter,ifs,0⟩] scope pos) (fM tgs.length fi l b t f) :=
  PE.weak (MB (g:=vG X.K z m b) (tt:=vT X.K z t) (te:=vE X.K z f) hc B hi (fun C ex s H=>hg C ex s H) (fun C ex s H=>ht C ex s H) (fun C ex s H=>he C ex s H) hs) (xl hf)
end
section
variable {X:Cx} {z:Zc} {e a b:Expr} {f:EF} {fl:LF} {pos:Pos} {st:Stmt} {rest:List Stmt} {g g1 g2:SF}
def bT:SF:=fun η=>some (.nx η)
def bj(g1 g2:SF):SF:=fun η=>(g1 η).bind fun o=>match o with|.nx η'=>g2 η'|o=>some o
theorem aZ:Jr X z [] bT:=xQ.weak xR fun D σ H ⟨η,F,o,r,e,k⟩=>by cases e;exact k σ H F r (bH.refl _)
theorem au(h:DS X z st g):Jr X z [st] g:=m4 h
theorem yi.mono{K:PySem.W.Frag}{o:Out}{D:Ends}(h:yi K z F o D)(s:bH F F'):yi K z F' o D:=by
  cases o with
  |nx η'=>exact fun σ' H' F2 r s2=>h σ' H' F2 r (s.trans s2)
  |bk η'=>exact fun σ' H' F2 r s2=>h σ' H' F2 r (s.trans s2)
  |ct η'=>exact fun σ' H' F2 r s2=>h σ' H' F2 r (s.trans s2)
  |rt r=>exact h
theorem ah(h1:DS X z st g1)(h2:Jr X z rest g2):Jr X z (st::rest) (bj g1 g2):=xQ.weak (df h1 h2) fun D σ H ⟨η,F,o,r,e,k⟩=>by
  unfold bj at e;obtain⟨o1,e1,e2⟩:=cU.mp e;refine⟨η,F,o1,r,e1,?_⟩;cases o1 with
  |nx η'=>exact fun σ' H' F' r' s'=>⟨η',F',o,r',e2,k.mono s'⟩
  |rt r=>cases e2;exact k
  |bk η'=>cases e2;exact k
  |ct η'=>cases e2;exact k
def iO(t:TF)(g1 g2:SF):SF:=fun η=>(t η).bind fun c=>if c=true then g1 η else g2 η
theorem cv{c:Expr}{xs ys:List Stmt}{t:TF}(hc:DT X z c t)(h1:Jr X z xs g1)(h2:Jr X z ys g2):DS X z (.If c xs ys pos) (iO t g1 g2):=PS.weak (Ig hc h1 h2) fun D σ H ⟨η,F,o,r,e,k⟩=>by
  unfold iO at e;obtain⟨c,e1,e2⟩:=cU.mp e;refine⟨η,F,c,r,e1,fun H1 F1 gr=>?_⟩;cases c with
  |true=>exact⟨η,F1,o,r.grow gr,e2,k.mono gr.cz⟩
  |false=>exact⟨η,F1,o,r.grow gr,e2,k.mono gr.cz⟩
def et(f:EF):SF:=fun η=>(f η).map fun d=>.rt (.sh d)
theorem cF(h:DE X z e f):DS X z (.Return (some e) pos) (et f):=PS.weak (mv h) fun D σ H ⟨η,F,o,r,e,k⟩=>by unfold et at e;obtain⟨d,e1,rfl⟩:=iD.mp e;exact⟨η,F,d,r,e1,fun v H' F' gr q=>k v H' F' (r.mem.trans gr) q⟩
def uJ(f:LF):SF:=fun η=>(f η).map fun d=>.rt (.ol d)
theorem ym(h:DO X z e fl):DS X z (.Return (some e) pos) (uJ fl):=PS.weak (mv h) fun D σ H ⟨η,F,o,r,e,k⟩=>by unfold uJ at e;obtain⟨d,e1,rfl⟩:=iD.mp e;exact⟨η,F,d,r,e1,fun p vs H' F' gr h1 h2 h3 h4=>k p vs H' F' (r.mem.trans gr) (r.mem.ent.free h1) h2 h3 h4⟩
def xm(i:Nat):SF:=fun η=>match η[i]? with
  |some (some (.ol ds))=>some (.rt (.ol ds))
  |_=>none
theorem tX(i:Nat)(hN:X.N[i]?=some x:=by rfl)(hv:pL X.env.scope x:=by first|exact Or.inl rfl|exact Or.inr (Or.inl rfl)|exact Or.inr (Or.inr rfl))(hd:(x==("__debug__":Str))=false:=by decide)(dU:(x==("__classdict__":Str))=false:=by decide):DS X z (.Return (some (.Name x px)) pos) (xm i):=PS.weak (mv (cO hN hv hd dU)) fun D σ H ⟨η,F,o,r,e,k⟩=>by
  unfold xm at e;split at e
  ·rename_i ds h;cases e;obtain⟨p,o,h1,h2,h3,h4,vs,rfl,h5⟩:=r.ownAt h rfl;exact⟨_,h1,k p vs H F r.mem h2 h3 h4 h5⟩
  ·cases e
def cy(i:Nat)(f:EF):SF:=fun η=>(f η).map fun d=>.nx (η.set i (some (.sh d)))
def n4(i:Nat)(f:LF):SF:=fun η=>(f η).map fun ds=>.nx (η.set i (some (.ol ds)))
theorem JB{K:PySem.W.Frag}:∀D σ H,vS K z (cy i f) D σ H→xT (vE K z f) (nS i) D σ H:=fun D σ H ⟨η,F,o,r,e,k⟩=>by unfold cy at e;obtain⟨d,e1,rfl⟩:=iD.mp e;exact⟨η,F,d,r,e1,fun v H' F' gr q=>k _ H' F' ((r.grow gr).set i rfl q) gr.cz⟩
theorem GL{K:PySem.W.Frag}:∀D σ H,vS K z (n4 i fl) D σ H→xT (vO K z fl) (nS i) D σ H:=fun D σ H ⟨η,F,o,r,e,k⟩=>by unfold n4 at e;obtain⟨d,e1,rfl⟩:=iD.mp e;refine⟨η,F,d,r,e1,fun p vs H' F' gr h1 h2 h3 h4=>k _ H' F' (r.yh gr i (sl:=.ol d) (p:=p) ⟨p,_,rfl,r.mem.ent.free h1,h2,h3,vs,rfl,h4⟩ rfl h1) gr.cz⟩
theorem bU(hN:X.N.Nodup)(h:DE X z e f)(hi:X.N[i]?=some x:=by rfl)(hx:Loc X.env.scope x:=by first|exact Or.inl rfl|exact Or.inr rfl)(hs:swapsWith e (some (.Name x pos')) pos.line X.env=pure false:=by rfl)(hf:X.fn x=true∨X.env.scope.names.lookup x=some .local:=by first|exact .inl rfl|exact .inr rfl|assumption):DS X z (.Assign [.Name x pos'] e pos) (cy i f):=PS.weak (jg hN hi hx h hs hf) JB
theorem qi(hN:X.N.Nodup)(h:DO X z e fl)(hi:X.N[i]?=some x:=by rfl)(hx:Loc X.env.scope x:=by first|exact Or.inl rfl|exact Or.inr rfl)(hs:swapsWith e (some (.Name x pos')) pos.line X.env=pure false:=by rfl)(hf:X.fn x=true∨X.env.scope.names.lookup x=some .local:=by first|exact .inl rfl|exact .inr rfl|assumption):DS X z (.Assign [.Name x pos'] e pos) (n4 i fl):=PS.weak (jg hN hi hx h hs hf) GL
def j9(b:BF)(g:SF):List D→aY→Option Out
  |[],η=>some (.nx η)
  |d::ds,η=>(b d η).bind fun η1=>(g η1).bind fun o=>match o with
   |.nx η2=>j9 b g ds η2
   |.ct η2=>j9 b g ds η2
   |.bk η2=>some (.nx η2)
   |.rt r=>some (.rt r)
def mI(l:LF)(b:BF)(g:SF):SF:=fun η=>(l η).bind fun ds=>j9 b g ds η
theorem gZ{m:Bool}{iter:Expr}{l:LF}{b:BF}(hc:X.calm=true)(hi:DI X z tg iter m l)(hg:DG X z m tg b)(hb:Jr X z body g)(hp:PassesOwn (model X.prog X.w) X.A X.env X.xe:=by exact PassesOwn.never)(hs:∀x,foldedSetIterable iter X.env x=pure x:=by intro _;rfl):DS X z (.For tg iter body [] pos) (mI l b g):=PS.weak (Ik hp hc hi hg hb hs) fun D σ H ⟨η,F,o,r,e,k⟩=>by
  unfold mI at e;obtain⟨ds,e1,e2⟩:=cU.mp e;refine⟨η,F,ds,r,e1,fun J H1 F1 g1 wk=>?_⟩;have r1:=r.grow g1;have k1:=k.mono g1.cz;refine⟨fun i n σ' H'=>n=ds.length-i∧i≤ds.length∧∃η' F',Rel X.K z F' H' σ' η'∧bH F1 F'∧j9 b g (ds.drop i) η'=some o,⟨ds.length,by simp,ik _,η,F1,r1,bH.refl _,by simpa using e2⟩,?_⟩;rintro i n σ' H' ⟨rfl,hi,η',F',r',s',hf⟩;by_cases dQ:i<ds.length
  · refine .inr ⟨wk.go F' H' s' r'.mem i dQ,fun σ2 H2=>i+1≤ds.length∧∃η2 F2,Rel X.K z F2 H2 σ2 η2∧bH F1 F2∧j9 b g (ds.drop (i+1)) η2=some o,fun σ2 H2 h=>⟨ds.length-(i+1),by omega,rfl,h⟩,fun x BH y=>?_⟩;obtain⟨Jy,g3,it⟩:=wk.BP F' H' s' r'.mem i ds[i] x BH (by simp[dQ]) y;have ed:ds.drop i=ds[i]::ds.drop (i+1):=List.drop_eq_getElem_cons dQ;rw[ed] at hf;unfold j9 at hf;obtain⟨η1,c1,hf⟩:=cU.mp hf;obtain⟨o1,c2,hf⟩:=cU.mp hf;refine⟨η',Jy,ds[i],η1,r'.grow g3,it,c1,fun σ3 r3=>⟨η1,Jy,o1,r3,c2,?_⟩⟩;have s3:=s'.trans g3.cz;cases o1 with
    |nx η2=>exact fun σ4 H4 F4 r4 s4=>⟨dQ,η2,F4,r4,s3.trans s4,hf⟩
    |ct η2=>exact fun σ4 H4 F4 r4 s4=>⟨dQ,η2,F4,r4,s3.trans s4,hf⟩
    |bk η2=>cases hf;exact fun σ4 H4 F4 r4 s4=>k1 σ4 H4 F4 r4 (s3.trans s4)
    |rt rr=>cases hf;exact k1
  · have ei:i=ds.length:=by omega
    subst ei;rw[List.drop_length] at hf;unfold j9 at hf;cases hf;exact .inl ⟨wk.stop F' H' s' r'.mem,k1 σ' H' F' r' s'⟩
def lg(t:TF)(g:SF):Nat→aY→Option Out
  |0,_=>none
  |n+1,η=>(t η).bind fun c=>if c=true then(g η).bind fun o=>(match o with
   |.nx η2=>lg t g n η2
   |.ct η2=>lg t g n η2
   |.bk η2=>some (.nx η2)
   |.rt r=>some (.rt r)) else some (.nx η)
def JC(n:Nat)(t:TF)(g:SF):SF:=lg t g n
theorem JD(n:Nat){c:Expr}{t:TF}(hc:DT X z c t)(hb:Jr X z body g)(hp:PassesOwn (model X.prog X.w) X.A X.env X.xe:=by exact PassesOwn.never):DS X z (.While c body [] pos) (JC n t g):=PS.weak (Ii hp hc hb) fun D σ H ⟨η,F,o,r,e,k⟩=>by
  refine⟨fun m σ' H'=>∃η' F',Rel X.K z F' H' σ' η'∧bH F F'∧lg t g m η'=some o,⟨n,η,F,r,bH.refl _,e⟩,?_⟩;rintro m σ' H' ⟨η',F',r',s',hw⟩;cases m with
  |zero=>cases hw
  |succ m =>
   unfold lg at hw;obtain⟨c,c1,hw⟩:=cU.mp hw;refine⟨η',F',c,r',c1,fun H1 F1 g1=>?_⟩;cases c with
   |true =>
    refine Uv ?_;rw[az rfl] at hw;obtain⟨o1,c2,hw⟩:=cU.mp hw;refine⟨fun σ2 H2=>∃η2 F2,Rel X.K z F2 H2 σ2 η2∧bH F F2∧lg t g m η2=some o,fun σ2 H2 h=>⟨m,by omega,h⟩,η',F1,o1,r'.grow g1,c2,?_⟩;have s3:=s'.trans g1.cz;cases o1 with
    |nx η2=>exact fun σ4 H4 F4 r4 s4=>⟨η2,F4,r4,s3.trans s4,hw⟩
    |ct η2=>exact fun σ4 H4 F4 r4 s4=>⟨η2,F4,r4,s3.trans s4,hw⟩
    |bk η2=>cases hw;exact fun σ4 H4 F4 r4 s4=>k σ4 H4 F4 r4 (s3.trans s4)
    |rt rr=>cases hw;exact k
   |false=>refine QR ?_;rw[ax eT] at hw;cases hw;exact k σ' H1 F1 (r'.grow g1) (s'.trans g1.cz)
def ie(i:Nat)(f:EF):SF:=fun η=>(f η).bind fun d=>match η[i]? with
  |some (some (.ol ds))=>if ds.length<10000 then some (.nx (η.set i (some (.ol (ds++[d]))))) else none
  |_=>none
theorem nr(i:Nat)(h:DE X z e f)(hN:X.N[i]?=some x:=by rfl)(hv:pL X.env.scope x:=by first|exact Or.inl rfl|exact Or.inr (Or.inl rfl)|exact Or.inr (Or.inr rfl))(hd:(x==("__debug__":Str))=false:=by decide)(dU:(x==("__classdict__":Str))=false:=by decide)(cI:attributeBase (.Name x px) "append" X.env (eval (.Name x px) X.env)=eval (.Name x px) X.env:=by rfl)(rK:((backTo aX (starEach [e] X.env)).all (fun x=>!x.1)&&(backToKw aX (keywordEach [] X.env)).all (fun x=>x.1.isSome)
      && decide (([e]:List Expr).length+([]:List Keyword).length+(if ([]:List Keyword).isEmpty then 0 else 1)<30))=true:=by rfl)(hline:(apos.endLine==aX.line)=true:=by rfl)(hs:starEach [e] X.env=(false,eval e X.env)::starEach [] X.env:=by rfl)(Je:swapsWith (.Call (.Attribute (.Name x px) "append" apos) [e] [] aX) none pos.line X.env=pure false:=by rfl):DS X z (.Expr (.Call (.Attribute (.Name x px) "append" apos) [e] [] aX) pos) (ie i f) :=
  PS.weak (kN (w5 PySem.F.plainAttrs_list PySem.F.slot_list_append PySem.F.type_list_append Gp (cO hN hv hd dU) (aW h cP hs) cI rK hline hs (by rfl)) Je) fun D σ H ⟨η,F,o,r,e,k⟩=>by
  unfold ie at e;obtain⟨d,e1,e2⟩:=cU.mp e;split at e2
  · rename_i ds h;by_cases hl:ds.length<10000
    ·rw[az hl] at e2;cases e2;obtain⟨p,o,h1,h2,h3,h4,vs,rfl,h5⟩:=r.ownAt h rfl;refine⟨_,h1,.inl ⟨rfl,vs,eY.of h4⟩,η,F,d,r,e1,fun v H' F' g1 q=>?_⟩;have r1:=r.grow g1;have X4:=g1.ent _ _ h4;have UX:=aK h5;refine⟨p,vs,v,rfl,rfl,X4,jX (by omega) (Cw (bJ _)),k _ _ F' (r1.write h rfl h1 ⟨vs++[v],rfl,rP (bp g1.cz _ _ h5) q⟩ ?_) g1.cz⟩;show(vs++[v]).length≤sizeLine;rw[lZ];exact Cw (by simp;omega)
    ·rw[ax hl] at e2;cases e2
  ·cases e2
def CD(i:Nat):SF:=fun η=>match η[i]? with
  |some (some (.ol _))=>some (.nx (η.set i (some (.ol []))))
  |_=>none
theorem JF(i:Nat)(hN:X.N[i]?=some x:=by rfl)(hv:pL X.env.scope x:=by first|exact Or.inl rfl|exact Or.inr (Or.inl rfl)|exact Or.inr (Or.inr rfl))(hd:(x==("__debug__":Str))=false:=by decide)(dU:(x==("__classdict__":Str))=false:=by decide)(cI:attributeBase (.Name x px) "clear" X.env (eval (.Name x px) X.env)=eval (.Name x px) X.env:=by rfl)(hline:(apos.endLine==aX.line)=true:=by rfl)(Je:swapsWith (.Call (.Attribute (.Name x px) "clear" apos) [] [] aX) none pos.line X.env=pure false:=by rfl):DS X z (.Expr (.Call (.Attribute (.Name x px) "clear" apos) [] [] aX) pos) (CD i) :=
  PS.weak (kN (Ca PySem.F.plainAttrs_list PySem.F.slot_list_clear PySem.F.type_list_clear zS (cO hN hv hd dU) cI hline) Je) fun D σ H ⟨η,F,o,r,e,k⟩=>by
  unfold CD at e;split at e
  ·rename_i ds h;cases e;obtain⟨p,o,h1,h2,h3,h4,vs,rfl,h5⟩:=r.ownAt h rfl;exact⟨_,h1,.inl ⟨rfl,vs,eY.of h4⟩,p,vs,rfl,rfl,h4,k _ _ F (r.write h rfl h1 ⟨[],rfl,aP.mpr rfl⟩ (ik _)) (bH.refl _)⟩
  ·cases e
end
mutual
def D.iP:D→Nat→Bool
  |.tup xs,n+1=>D.JG xs n
  |.tup _,0=>false
  |.lst xs,n+1=>D.JG xs n
  |.lst _,0=>false
  |.obj _,_=>false
  |.exc _,_=>false
  |.non,_=>true
  |.bl _,_=>true
  |.int _,_=>true
  |.str _,_=>true
def D.JG:List D→Nat→Bool
  |[],_=>true
  |d::ds,n=>D.iP d n&&D.JG ds n
end
mutual
def dm:D→D→Bool
  |.non,.non=>true
  |.bl a,.bl b=>a==b
  |.bl a,.int b=>(if a then 1 else 0)==b
  |.int a,.bl b=>a==(if b then 1 else 0)
  |.int a,.int b=>a==b
  |.str a,.str b=>a==b
  |.tup xs,.tup ys=>Ar xs ys
  |.lst xs,.lst ys=>Ar xs ys
  |_,_=>false
def Ar:List D→List D→Bool
  |[],[]=>true
  |x::xs,y::ys=>dm x y&&Ar xs ys
  |_,_=>false
end
theorem lh:∀{xs ys:List D},xs.length≠ys.length→Ar xs ys=false
  |[],[],h=>absurd rfl h
  |[],_::_,_=>by rw[Ar];all_goals (intros;simp_all)
  |_::_,[],_=>by rw[Ar];all_goals (intros;simp_all)
  |x::xs,y::ys,h=>by rw[Ar,lh (xs:=xs) (ys:=ys) (fun e=>h (by simp[e])),Bool.and_false]
theorem qj:∀{xs ys:List D},xs.length=ys.length→Ar xs ys=(List.range xs.length).all fun j=>dm (xs.getD j .non) (ys.getD j .non)
  |[],[],_=>by rw[Ar];rfl
  |[],_::_,h=>by simp at h
  |_::_,[],h=>by simp at h
  |x::xs,y::ys,h=>by rw[Ar,qj (xs:=xs) (ys:=ys) (by simpa using h),eW,List.range_succ_eq_map,List.all_cons,List.all_map];rfl
mutual
theorem uK:∀(d:D) (n:Nat),d.iP n=true→dm d d=true
  |.non,_,_=>by rw[dm]
  |.bl b,_,_=>by rw[dm];simp
  |.int b,_,_=>by rw[dm];simp
  |.str b,_,_=>by rw[dm];simp
  |.tup xs,0,h=>by rw[D.iP] at h;cases h
  |.tup xs,n+1,h=>by rw[D.iP] at h;rw[dm];exact uL xs n h
  |.lst xs,0,h=>by rw[D.iP] at h;cases h
  |.lst xs,n+1,h=>by rw[D.iP] at h;rw[dm];exact uL xs n h
  |.obj _,_,h=>by rw[D.iP] at h;cases h
  |.exc _,_,h=>by rw[D.iP] at h;cases h
theorem uL:∀(ds:List D) (n:Nat),D.JG ds n=true→Ar ds ds=true
  |[],_,_=>by rw[Ar]
  |d::ds,n,h=>by rw[D.JG,oA] at h;rw[Ar,uK d n h.1,uL ds n h.2];rfl
end
section
variable {X:Cx} {pins:gw} {σ:St} {H:Hp} {s:Shared}
mutual
theorem yn(I:Inv X pins σ H s):∀(x y:D) (v:V),Den X.K H x v→Den X.K H y v→x=y
  |.non,y,v,h,q=>by have:=(EV q).mp (bI.mp h);exact this.symm
  |.bl b,y,v,h,q=>by
   rw[bu.mp h] at q;cases y with
   |bl c=>have e:=bu.mp q;injection e with e;rw[e]
   |non=>cases bI.mp q
   |int _=>cases aD.mp q
   |str _=>cases aR.mp q
   |tup _=>obtain⟨_,_,e,_⟩:=aJ.mp q;cases e
   |lst _=>obtain⟨_,_,e,_⟩:=aL.mp q;cases e
   |obj _=>obtain⟨_,_,e,_⟩:=fX.mp q;cases e
   |exc _=>obtain⟨_,e,_⟩:=fY.mp q;cases e
  |.int b,y,v,h,q=>by
   rw[aD.mp h] at q;cases y with
   |int c=>have e:=aD.mp q;injection e with e;rw[e]
   |non=>cases bI.mp q
   |bl _=>cases bu.mp q
   |str _=>cases aR.mp q
   |tup _=>obtain⟨_,_,e,_⟩:=aJ.mp q;cases e
   |lst _=>obtain⟨_,_,e,_⟩:=aL.mp q;cases e
   |obj _=>obtain⟨_,_,e,_⟩:=fX.mp q;cases e
   |exc _=>obtain⟨_,e,_⟩:=fY.mp q;cases e
  |.str b,y,v,h,q=>by
   rw[aR.mp h] at q;cases y with
   |str c=>have e:=aR.mp q;injection e with e;rw[e]
   |non=>cases bI.mp q
   |bl _=>cases bu.mp q
   |int _=>cases aD.mp q
   |tup _=>obtain⟨_,_,e,_⟩:=aJ.mp q;cases e
   |lst _=>obtain⟨_,_,e,_⟩:=aL.mp q;cases e
   |obj _=>obtain⟨_,_,e,_⟩:=fX.mp q;cases e
   |exc _=>obtain⟨_,e,_⟩:=fY.mp q;cases e
  |.tup xs,y,v,h,q=>by
   obtain⟨a,vs,rfl,h1,h2⟩:=aJ.mp h;cases y with
   |tup ys=>obtain⟨b,ws,e,h3,h4⟩:=aJ.mp q;cases e;rw[h1] at h3;cases h3;rw[uM I xs ys vs h2 h4]
   |lst ys=>obtain⟨b,ws,e,h3,h4⟩:=aL.mp q;cases e;obtain⟨its,_,⟨o,n,e1,c1,_⟩,_⟩:=I.list h3;obtain⟨its',_,⟨o',e2,c2,_⟩,_⟩:=I.tuple (gy.of h1);rw[e1] at e2;cases e2;rw[c1] at c2;injection c2 with c3;exact absurd c3 (by decide)
   |obj C=>obtain⟨b,dx,e,h3,_⟩:=fX.mp q;cases e;rw[h1] at h3;cases h3
   |exc C=>obtain⟨b,e,h3⟩:=fY.mp q;cases e;rw[h1] at h3;cases h3
   |non=>cases bI.mp q
   |bl _=>cases bu.mp q
   |int _=>cases aD.mp q
   |str _=>cases aR.mp q
  |.lst xs,y,v,h,q=>by
   obtain⟨a,vs,rfl,h1,h2⟩:=aL.mp h;cases y with
   |lst ys=>obtain⟨b,ws,e,h3,h4⟩:=aL.mp q;cases e;have e:=I.zJ h1 h3;subst e;rw[uM I xs ys vs h2 h4]
   |tup ys=>obtain⟨b,ws,e,h3,h4⟩:=aJ.mp q;cases e;obtain⟨its,_,⟨o,n,e1,c1,_⟩,_⟩:=I.list h1;obtain⟨its',_,⟨o',e2,c2,_⟩,_⟩:=I.tuple (gy.of h3);rw[e1] at e2;cases e2;rw[c1] at c2;injection c2 with c3;exact absurd c3 (by decide)
   |obj C =>
    obtain⟨b,dx,e,h3,_⟩:=fX.mp q;cases e;obtain⟨its,_,⟨o,n,e1,c1,_⟩,_⟩:=I.list h1;obtain⟨_,_,_,e2,_⟩:=(show bS X.prog X.w H s.heap _ (.ins C dx []) from I.bV _ _ h3)
    rw[e1] at e2;cases e2;cases c1
   |exc C =>
    obtain⟨b,e,h3⟩:=fY.mp q;cases e;obtain⟨its,_,⟨o,n,e1,c1,_⟩,_⟩:=I.list h1;obtain⟨⟨o2,e2,c2⟩,_⟩:=(show bS X.prog X.w H s.heap _ (.ext _) from I.bV _ _ h3)
    rw[e1] at e2;cases e2;rw[c1] at c2;cases c2
   |non=>cases bI.mp q
   |bl _=>cases bu.mp q
   |int _=>cases aD.mp q
   |str _=>cases aR.mp q
  |.exc C,y,v,h,q=>by
   obtain⟨a,rfl,h1⟩:=fY.mp h;cases y with
   |exc C' =>
    obtain⟨b,e,h3⟩:=fY.mp q;cases e;obtain⟨⟨o2,e2,c2⟩,_⟩:=(show bS X.prog X.w H s.heap _ (.ext _) from I.bV _ _ h1)
    obtain⟨⟨o3,e3,c3⟩,_⟩:=(show bS X.prog X.w H s.heap _ (.ext _) from I.bV _ _ h3)
    rw[e2] at e3;cases e3;rw[c2] at c3;cases c3;rfl
   |obj C'=>obtain⟨b,XX,e,h3,_⟩:=fX.mp q;cases e;rw[h1] at h3;cases h3
   |tup ys=>obtain⟨b,ws,e,h3,h4⟩:=aJ.mp q;cases e;rw[h1] at h3;cases h3
   |lst ys =>
    obtain⟨b,ws,e,h3,h4⟩:=aL.mp q;cases e;obtain⟨its,_,⟨o,n,e1,c1,_⟩,_⟩:=I.list h3;obtain⟨⟨o2,e2,c2⟩,_⟩:=(show bS X.prog X.w H s.heap _ (.ext _) from I.bV _ _ h1)
    rw[e1] at e2;cases e2;rw[c1] at c2;cases c2
   |non=>cases bI.mp q
   |bl _=>cases bu.mp q
   |int _=>cases aD.mp q
   |str _=>cases aR.mp q
  |.obj C,y,v,h,q=>by
   obtain⟨a,dx,rfl,h1,_⟩:=fX.mp h;cases y with
   |obj C'=>obtain⟨b,XX,e,h3,_⟩:=fX.mp q;cases e;rw[h1] at h3;cases h3;rfl
   |exc C'=>obtain⟨b,e,h3⟩:=fY.mp q;cases e;rw[h1] at h3;cases h3
   |tup ys=>obtain⟨b,ws,e,h3,h4⟩:=aJ.mp q;cases e;rw[h1] at h3;cases h3
   |lst ys =>
    obtain⟨b,ws,e,h3,h4⟩:=aL.mp q;cases e;obtain⟨its,_,⟨o,n,e1,c1,_⟩,_⟩:=I.list h3;obtain⟨_,_,_,e2,_⟩:=(show bS X.prog X.w H s.heap _ (.ins C dx []) from I.bV _ _ h1)
    rw[e1] at e2;cases e2;cases c1
   |non=>cases bI.mp q
   |bl _=>cases bu.mp q
   |int _=>cases aD.mp q
   |str _=>cases aR.mp q
theorem uM(I:Inv X pins σ H s):∀(xs ys:List D) (vs:List V),bz X.K H xs vs→bz X.K H ys vs→xs=ys
  |[],ys,vs,h,q=>by
   rw[aP.mp h] at q;cases ys with
   |nil=>rfl
   |cons y ys=>obtain⟨_,_,e,_⟩:=av.mp q;cases e
  |x::xs,ys,vs,h,q=>by
   obtain⟨v,r,rfl,h1,h2⟩:=av.mp h;cases ys with
   |nil=>cases aP.mp q
   |cons y ys=>obtain⟨v',r',e,h3,h4⟩:=av.mp q;cases e;rw[yn I x y v h1 h3,uM I xs ys r h2 h4]
end
inductive At (H:Hp) (s:Shared):D→Value→Prop where
  |non:At H s .non .none
  |bl (b:Bool):At H s (.bl b) (.bool b)
  |int (i:Int) (t:Tok):At H s (.int i) (.int i t)
  |str (x:Str) (t:Tok):At H s (.str x) (.str x t)
  |tup {xs:List D} {a:Addr} {vs:List V} {its:cA} (h:s.heap.IsTuple a its.toArray) (hv:Vals vs its):At H s (.tup xs) (.ref a)
  |lst {xs:List D} {a:Addr} {vs:List V} {its:cA} (h:s.heap.IsList a its.toArray) (hv:Vals vs its):At H s (.lst xs) (.ref a)
theorem yo{xs ys:List D}{m:Nat}(h1:xs.length=n)(h2:ys.length=m):((List.range (min n m)).all (fun j=>dm (xs.getD j .non) (ys.getD j .non))&&n==m)=Ar xs ys:=by
  subst h1 h2;by_cases e:xs.length=ys.length
  ·rw[qj e,e,Nat.min_self];simp
  ·rw[lh e];simp[e]
mutual
theorem Rk(I:Inv X pins σ H s):∀(x y:D) (n:Nat) (A:Around) (u v:V) (uu vv:Value),x.iP n=true→y.iP n=true→Den X.K H x u→Den X.K H y v→RelV u uu→RelV v vv→A.units+n<cLine→SeqAt.EqAt A s uu vv (dm x y)
  |x,y,n,A,u,v,uu,vv,ox,oy,hx,hy,ru,rv,hu=>by
   have qk:A.units<cLine:=by omega
   cases x with
   |obj C=>rw[D.iP] at ox;cases ox
   |exc C=>rw[D.iP] at ox;cases ox
   |non =>
    rw[bI.mp hx] at ru;cases ru;cases y with
    |obj C=>rw[D.iP] at oy;cases oy
    |exc C=>rw[D.iP] at oy;cases oy
    |non=>rw[bI.mp hy] at rv;cases rv;rw[dm];exact SeqAt.EqAt.same _
    |bl b=>rw[bu.mp hy] at rv;cases rv;rw[dm];exact SeqAt.EqAt.none_bool b;all_goals (intros;simp_all)
    |int b=>rw[aD.mp hy] at rv;obtain⟨t,rfl⟩:=rv;rw[dm];exact SeqAt.EqAt.none_int b t;all_goals (intros;simp_all)
    |str b=>rw[aR.mp hy] at rv;obtain⟨t,rfl⟩:=rv;rw[dm];exact SeqAt.EqAt.none_str b t;all_goals (intros;simp_all)
    |tup ys=>obtain⟨b,ws,rfl,h3,h4⟩:=aJ.mp hy;cases rv;obtain⟨its,_,p,_⟩:=I.tuple (gy.of h3);rw[dm];exact SeqAt.EqAt.none_tuple p qk;all_goals (intros;simp_all)
    |lst ys=>obtain⟨b,ws,rfl,h3,h4⟩:=aL.mp hy;cases rv;obtain⟨its,_,p,_⟩:=I.list h3;rw[dm];exact SeqAt.EqAt.none_list p.isList qk;all_goals (intros;simp_all)
   |bl a =>
    rw[bu.mp hx] at ru;cases ru;cases y with
    |obj C=>rw[D.iP] at oy;cases oy
    |exc C=>rw[D.iP] at oy;cases oy
    |non=>rw[bI.mp hy] at rv;cases rv;rw[dm];exact SeqAt.EqAt.bool_none a;all_goals (intros;simp_all)
    |bl b=>rw[bu.mp hy] at rv;cases rv;rw[dm];exact SeqAt.EqAt.bool_bool a b
    |int b=>rw[aD.mp hy] at rv;obtain⟨t,rfl⟩:=rv;rw[dm];exact SeqAt.EqAt.bool_int a b t
    |str b=>rw[aR.mp hy] at rv;obtain⟨t,rfl⟩:=rv;rw[dm];exact SeqAt.EqAt.bool_str a b t;all_goals (intros;simp_all)
    |tup ys=>obtain⟨b,ws,rfl,h3,h4⟩:=aJ.mp hy;cases rv;obtain⟨its,_,p,_⟩:=I.tuple (gy.of h3);rw[dm];exact SeqAt.EqAt.bool_tuple a p qk;all_goals (intros;simp_all)
    |lst ys=>obtain⟨b,ws,rfl,h3,h4⟩:=aL.mp hy;cases rv;obtain⟨its,_,p,_⟩:=I.list h3;rw[dm];exact SeqAt.EqAt.bool_list a p.isList qk;all_goals (intros;simp_all)
   |int a =>
    rw[aD.mp hx] at ru;obtain⟨t0,rfl⟩:=ru;cases y with
    |obj C=>rw[D.iP] at oy;cases oy
    |exc C=>rw[D.iP] at oy;cases oy
    |non=>rw[bI.mp hy] at rv;cases rv;rw[dm];exact SeqAt.EqAt.int_none a t0;all_goals (intros;simp_all)
    |bl b=>rw[bu.mp hy] at rv;cases rv;rw[dm];exact SeqAt.EqAt.int_bool a t0 b
    |int b=>rw[aD.mp hy] at rv;obtain⟨t,rfl⟩:=rv;rw[dm];exact SeqAt.EqAt.int_int a t0 b t
    |str b=>rw[aR.mp hy] at rv;obtain⟨t,rfl⟩:=rv;rw[dm];exact SeqAt.EqAt.int_str a t0 b t;all_goals (intros;simp_all)
    |tup ys=>obtain⟨b,ws,rfl,h3,h4⟩:=aJ.mp hy;cases rv;obtain⟨its,_,p,_⟩:=I.tuple (gy.of h3);rw[dm];exact SeqAt.EqAt.int_tuple a t0 p qk;all_goals (intros;simp_all)
    |lst ys=>obtain⟨b,ws,rfl,h3,h4⟩:=aL.mp hy;cases rv;obtain⟨its,_,p,_⟩:=I.list h3;rw[dm];exact SeqAt.EqAt.int_list a t0 p.isList qk;all_goals (intros;simp_all)
   |str a =>
    rw[aR.mp hx] at ru;obtain⟨t0,rfl⟩:=ru;cases y with
    |obj C=>rw[D.iP] at oy;cases oy
    |exc C=>rw[D.iP] at oy;cases oy
    |non=>rw[bI.mp hy] at rv;cases rv;rw[dm];exact SeqAt.EqAt.str_none a t0;all_goals (intros;simp_all)
    |bl b=>rw[bu.mp hy] at rv;cases rv;rw[dm];exact SeqAt.EqAt.str_bool a t0 b;all_goals (intros;simp_all)
    |int b=>rw[aD.mp hy] at rv;obtain⟨t,rfl⟩:=rv;rw[dm];exact SeqAt.EqAt.str_int a t0 b t;all_goals (intros;simp_all)
    |str b=>rw[aR.mp hy] at rv;obtain⟨t,rfl⟩:=rv;rw[dm];exact SeqAt.EqAt.str_str a t0 b t
    |tup ys=>obtain⟨b,ws,rfl,h3,h4⟩:=aJ.mp hy;cases rv;obtain⟨its,_,p,_⟩:=I.tuple (gy.of h3);rw[dm];exact SeqAt.EqAt.str_tuple a t0 p qk;all_goals (intros;simp_all)
    |lst ys=>obtain⟨b,ws,rfl,h3,h4⟩:=aL.mp hy;cases rv;obtain⟨its,_,p,_⟩:=I.list h3;rw[dm];exact SeqAt.EqAt.str_list a t0 p.isList qk;all_goals (intros;simp_all)
   |tup xs =>
    obtain⟨a,vs,rfl,h1,h2⟩:=aJ.mp hx;cases ru;obtain⟨its,vY,p1,_⟩:=I.tuple (gy.of h1);have p1:s.heap.IsTuple a its.toArray:=p1;cases y with
    |obj C=>rw[D.iP] at oy;cases oy
    |exc C=>rw[D.iP] at oy;cases oy
    |non=>rw[bI.mp hy] at rv;cases rv;rw[dm];exact SeqAt.EqAt.tuple_none p1 qk;all_goals (intros;simp_all)
    |bl b=>rw[bu.mp hy] at rv;cases rv;rw[dm];exact SeqAt.EqAt.tuple_bool b p1 qk;all_goals (intros;simp_all)
    |int b=>rw[aD.mp hy] at rv;obtain⟨t,rfl⟩:=rv;rw[dm];exact SeqAt.EqAt.tuple_int b t p1 qk;all_goals (intros;simp_all)
    |str b=>rw[aR.mp hy] at rv;obtain⟨t,rfl⟩:=rv;rw[dm];exact SeqAt.EqAt.tuple_str b t p1 qk;all_goals (intros;simp_all)
    |lst ys=>obtain⟨b,ws,rfl,h3,h4⟩:=aL.mp hy;cases rv;obtain⟨cX,_,p2,_⟩:=I.list h3;rw[dm];exact SeqAt.EqAt.tuple_list p1 p2.isList qk;all_goals (intros;simp_all)
    |tup ys =>
     obtain⟨b,ws,rfl,h3,h4⟩:=aJ.mp hy;cases rv;by_cases m8:a=b
     ·subst m8;rw[yn I _ _ _ hx hy,uK _ n oy];exact SeqAt.EqAt.same _
     · obtain⟨cX,vZ,p2,_⟩:=I.tuple (gy.of h3);cases n with
       |zero=>rw[D.iP] at ox;cases ox
       |succ n =>
        rw[D.iP] at ox oy;have key:=SeqAt.RcAt.tuples (A:=A) (e:=fun j=>dm (xs.getD j .non) (ys.getD j .non)) p1 (show s.heap.IsTuple b cX.toArray from p2) qk (fun j q1 q2 =>
          oU I xs ys n A.in1 vs ws its cX ox oy h2 h4 vY vZ (by rw[in1_units];omega) j q1 q2)
        rw[yo (by rw[aK h2,vY.length];simp) (by rw[aK h4,vZ.length];simp)] at key;rw[dm];exact SeqAt.EqAt.of_refs m8 key
   |lst xs =>
    obtain⟨a,vs,rfl,h1,h2⟩:=aL.mp hx;cases ru;obtain⟨its,vY,p1,_⟩:=I.list h1;have p1:=p1.isList;cases y with
    |obj C=>rw[D.iP] at oy;cases oy
    |exc C=>rw[D.iP] at oy;cases oy
    |non=>rw[bI.mp hy] at rv;cases rv;rw[dm];exact SeqAt.EqAt.list_none p1 qk;all_goals (intros;simp_all)
    |bl b=>rw[bu.mp hy] at rv;cases rv;rw[dm];exact SeqAt.EqAt.list_bool b p1 qk;all_goals (intros;simp_all)
    |int b=>rw[aD.mp hy] at rv;obtain⟨t,rfl⟩:=rv;rw[dm];exact SeqAt.EqAt.list_int b t p1 qk;all_goals (intros;simp_all)
    |str b=>rw[aR.mp hy] at rv;obtain⟨t,rfl⟩:=rv;rw[dm];exact SeqAt.EqAt.list_str b t p1 qk;all_goals (intros;simp_all)
    |tup ys=>obtain⟨b,ws,rfl,h3,h4⟩:=aJ.mp hy;cases rv;obtain⟨cX,_,p2,_⟩:=I.tuple (gy.of h3);rw[dm];exact SeqAt.EqAt.list_tuple p1 (show s.heap.IsTuple b cX.toArray from p2) qk;all_goals (intros;simp_all)
    |lst ys =>
     obtain⟨b,ws,rfl,h3,h4⟩:=aL.mp hy;cases rv;by_cases m8:a=b
     ·subst m8;rw[yn I _ _ _ hx hy,uK _ n oy];exact SeqAt.EqAt.same _
     · obtain⟨cX,vZ,p2,_⟩:=I.list h3;have p2:=p2.isList;have l1:xs.length=its.toArray.size:=by rw[aK h2,vY.length];simp
       have l2:ys.length=cX.toArray.size:=by rw[aK h4,vZ.length];simp
       rw[dm];by_cases hl:its.toArray.size=cX.toArray.size
       · cases n with
         |zero=>rw[D.iP] at ox;cases ox
         |succ n =>
          rw[D.iP] at ox oy;have key:=SeqAt.RcAt.lists (A:=A) (e:=fun j=>dm (xs.getD j .non) (ys.getD j .non)) p1 p2 hl qk (fun j q1 q2 =>
            oU I xs ys n A.in1 vs ws its cX ox oy h2 h4 vY vZ (by rw[in1_units];omega) j q1 q2)
          rw[qj (by omega),l1];exact SeqAt.EqAt.of_refs m8 key
       ·rw[lh (by omega)];exact SeqAt.EqAt.of_refs m8 (SeqAt.RcAt.lists_lengths p1 p2 (by simpa using hl) qk)
  termination_by x=>sizeOf x
theorem oU(I:Inv X pins σ H s):∀(xs ys:List D) (n:Nat) (A:Around) (vs ws:List V) (its cX:cA),D.JG xs n=true→D.JG ys n=true→bz X.K H xs vs→bz X.K H ys ws→Vals vs its→Vals ws cX→A.units+n<cLine→∀j (h1:j<its.toArray.size) (h2:j<cX.toArray.size),SeqAt.EqAt A s its.toArray[j] cX.toArray[j] (dm (xs.getD j .non) (ys.getD j .non))
  |[],ys,n,A,vs,ws,its,cX,ox,oy,hx,hy,ru,rv,hu,j,h1,h2=>by rw[aP.mp hx] at ru;cases ru;simp at h1
  |x::xs,[],n,A,vs,ws,its,cX,ox,oy,hx,hy,ru,rv,hu,j,h1,h2=>by rw[aP.mp hy] at rv;cases rv;simp at h2
  |x::xs,y::ys,n,A,vs,ws,its,cX,ox,oy,hx,hy,ru,rv,hu,j,h1,h2=>by
   obtain⟨v,r,rfl,a1,a2⟩:=av.mp hx;obtain⟨w,r',rfl,b1,b2⟩:=av.mp hy;rw[D.JG,oA] at ox oy;cases ru with
   |cons q1 q2 =>
    cases rv with
    |cons q3 q4 =>
     cases j with
     |zero=>exact Rk I x y n A v w _ _ ox.1 oy.1 a1 b1 q1 q3 hu
     |succ j=>have:=oU I xs ys n A r r' _ _ ox.2 oy.2 a2 b2 q2 q4 hu j (by simpa using h1) (by simpa using h2);simpa using this
  termination_by xs=>sizeOf xs
end
end
end DL
abbrev e9:=Option DL.Slot
abbrev fc:=List DL.D
variable {sl:DL.Slot} {η:DL.aY} {Fn:List DL.D→Option DL.Slot}
namespace DL
open PySem PySem.Spec L2
open PyProof.Rows hiding St pairAt
def CF:D→D→Bool:=fun x y=>match GF x,GF y with
  |some a,some b=>Im a b
  |_,_=>false
def GN:D→D→Bool
  |.tup _,.tup _=>true
  |.lst _,.lst _=>true
  |_,_=>false
def dF:D→D→Option D:=fun x y=>if CF x y=true then some (.bl (dm x y)) else if GN x y=true&&(x.iP 8&&y.iP 8) then some (.bl (dm x y)) else none
def lV:D→D→Option D:=fun x y=>if CF x y=true then some (.bl (!dm x y)) else if GN x y=true&&(x.iP 8&&y.iP 8) then some (.bl (!dm x y)) else none
theorem JH{x y:D}{a b:V}(ha:GF x=some a)(hb:GF y=some b)(h:Im a b=true):dm x y=decide (a=b):=by
  cases x with
  |non =>
   cases ha;cases y with
   |non=>cases hb;rw[dm];simp
   |bl c=>cases hb;rw[dm];simp;all_goals (intros;simp_all)
   |int c=>cases hb;rw[dm];simp;all_goals (intros;simp_all)
   |str c=>cases hb;rw[dm];simp;all_goals (intros;simp_all)
   |_=>cases hb
  |bl d =>
   cases ha;cases y with
   |non=>cases hb;rw[dm];simp;all_goals (intros;simp_all)
   |bl c=>cases hb;rw[dm,BU]
   |int c=>cases hb;cases h
   |str c=>cases hb;rw[dm];simp;all_goals (intros;simp_all)
   |_=>cases hb
  |int d =>
   cases ha;cases y with
   |non=>cases hb;rw[dm];simp;all_goals (intros;simp_all)
   |bl c=>cases hb;cases h
   |int c=>cases hb;rw[dm,xU]
   |str c=>cases hb;rw[dm];simp;all_goals (intros;simp_all)
   |_=>cases hb
  |str d =>
   cases ha;cases y with
   |non=>cases hb;rw[dm];simp;all_goals (intros;simp_all)
   |bl c=>cases hb;rw[dm];simp;all_goals (intros;simp_all)
   |int c=>cases hb;rw[dm];simp;all_goals (intros;simp_all)
   |str c=>cases hb;rw[dm,xV]
   |_=>cases hb
  |_=>cases ha
def M9(K:PySem.W.Frag)(neg:Bool):R2:=fun x y H Q=>∃d e,Den K H d x∧Den K H e y∧GN d e=true∧d.iP 8=true∧e.iP 8=true∧Q (.bl (if neg then !dm d e else dm d e)) H
section
variable {X:Cx}
theorem JJ(hu:X.A.units+64<cLine):nT X (compareOp .Eq) (M9 X.K false):=by
  intro pins s σ H x y v u Q I rx ry h;obtain⟨d,e,hd,he,hc,od,oe,q⟩:=h;have qk:X.A.units<cLine:=by omega
  cases d with
  |tup xs =>
   cases e with
   |tup ys =>
    obtain⟨a,vs,rfl,h1,h2⟩:=aJ.mp hd;obtain⟨b,ws,rfl,h3,h4⟩:=aJ.mp he;cases rx;cases ry;obtain⟨its,vY,p1,_⟩:=I.tuple (gy.of h1);obtain⟨cX,vZ,p2,_⟩:=I.tuple (gy.of h3);rw[D.iP] at od oe;have key:=SeqAt.RcAt.tuples (A:=X.A) (e:=fun j=>dm (xs.getD j .non) (ys.getD j .non)) (show s.heap.IsTuple a its.toArray from p1) (show s.heap.IsTuple b cX.toArray from p2) qk (fun j q1 q2 =>
      oU I xs ys 7 X.A.in1 vs ws its cX od oe h2 h4 vY vZ (by rw[in1_units];omega) j q1 q2)
    rw[yo (by rw[aK h2,vY.length];simp) (by rw[aK h4,vZ.length];simp)] at key;exact key _ _ _ _ (bB I q (by rw[dm];rfl))
   |_=>cases hc
  |lst xs =>
   cases e with
   |lst ys =>
    obtain⟨a,vs,rfl,h1,h2⟩:=aL.mp hd;obtain⟨b,ws,rfl,h3,h4⟩:=aL.mp he;cases rx;cases ry;obtain⟨its,vY,p1,_⟩:=I.list h1;obtain⟨cX,vZ,p2,_⟩:=I.list h3;rw[D.iP] at od oe;have l1:xs.length=its.toArray.size:=by rw[aK h2,vY.length];simp
    have l2:ys.length=cX.toArray.size:=by rw[aK h4,vZ.length];simp
    by_cases hl:its.toArray.size=cX.toArray.size
    · have key:=SeqAt.RcAt.lists (A:=X.A) (e:=fun j=>dm (xs.getD j .non) (ys.getD j .non)) p1.isList p2.isList hl qk (fun j q1 q2 =>
        oU I xs ys 7 X.A.in1 vs ws its cX od oe h2 h4 vY vZ (by rw[in1_units];omega) j q1 q2)
      rw[←l1,←qj (by omega)] at key;exact key _ _ _ _ (bB I q (by rw[dm];rfl))
    ·exact SeqAt.RcAt.lists_lengths p1.isList p2.isList (by simpa using hl) qk _ _ _ _ (bB I q (by rw[dm,lh (by omega)];rfl))
   |_=>cases hc
  |_=>cases e<;>cases hc
theorem Rl(hu:X.A.units+64<cLine):nT X (compareOp .NotEq) (M9 X.K true):=by
  intro pins s σ H x y v u Q I rx ry h;obtain⟨d,e,hd,he,hc,od,oe,q⟩:=h;have qk:X.A.units<cLine:=by omega
  cases d with
  |tup xs =>
   cases e with
   |tup ys =>
    obtain⟨a,vs,rfl,h1,h2⟩:=aJ.mp hd;obtain⟨b,ws,rfl,h3,h4⟩:=aJ.mp he;cases rx;cases ry;obtain⟨its,vY,p1,_⟩:=I.tuple (gy.of h1);obtain⟨cX,vZ,p2,_⟩:=I.tuple (gy.of h3);rw[D.iP] at od oe;have key:=SeqAt.RcNeAt.tuples (A:=X.A) (e:=fun j=>dm (xs.getD j .non) (ys.getD j .non)) (show s.heap.IsTuple a its.toArray from p1) (show s.heap.IsTuple b cX.toArray from p2) qk (fun j q1 q2 =>
      oU I xs ys 7 X.A.in1 vs ws its cX od oe h2 h4 vY vZ (by rw[in1_units];omega) j q1 q2)
    rw[yo (by rw[aK h2,vY.length];simp) (by rw[aK h4,vZ.length];simp)] at key;exact key _ _ _ _ (bB I q (by rw[dm];rfl))
   |_=>cases hc
  |lst xs =>
   cases e with
   |lst ys =>
    obtain⟨a,vs,rfl,h1,h2⟩:=aL.mp hd;obtain⟨b,ws,rfl,h3,h4⟩:=aL.mp he;cases rx;cases ry;obtain⟨its,vY,p1,_⟩:=I.list h1;obtain⟨cX,vZ,p2,_⟩:=I.list h3;rw[D.iP] at od oe;have l1:xs.length=its.toArray.size:=by rw[aK h2,vY.length];simp
    have l2:ys.length=cX.toArray.size:=by rw[aK h4,vZ.length];simp
    by_cases hl:its.toArray.size=cX.toArray.size
    · have key:=SeqAt.RcNeAt.lists (A:=X.A) (e:=fun j=>dm (xs.getD j .non) (ys.getD j .non)) p1.isList p2.isList hl qk (fun j q1 q2 =>
        oU I xs ys 7 X.A.in1 vs ws its cX od oe h2 h4 vY vZ (by rw[in1_units];omega) j q1 q2)
      rw[←l1,←qj (by omega)] at key;exact key _ _ _ _ (bB I q (by rw[dm];rfl))
    ·exact SeqAt.RcNeAt.lists_lengths p1.isList p2.isList (by simpa using hl) qk _ _ _ _ (bB I q (by rw[dm,lh (by omega)];rfl))
   |_=>cases hc
  |_=>cases e<;>cases hc
theorem As{x y:D}(h:CF x y=true):∃a b,GF x=some a∧GF y=some b∧Im a b=true:=by
  unfold CF at h;split at h
  ·exact⟨_,_,by assumption,by assumption,h⟩
  ·cases h
theorem PL{K:PySem.W.Frag}:EE K dF (fun x y H Q=>Xf x y H Q∨M9 K false x y H Q):=fun F H x y d v u Q b e h1 h2 k=>by
  unfold dF at e;by_cases hs:CF x y=true
  ·rw[az hs] at e;cases e;obtain⟨a,b,ha,hb,hc⟩:=As hs;obtain⟨rfl,_⟩:=ni h1 ha;obtain⟨rfl,_⟩:=ni h2 hb;refine .inl ⟨hc,k _ ?_⟩;rw[JH ha hb hc];exact bu.mpr rfl
  · rw[ax hs] at e;by_cases hc:(GN x y=true&&(x.iP 8&&y.iP 8))=true
    ·rw[az hc] at e;cases e;simp only[oA,decide_eq_true_eq] at hc;exact .inr ⟨x,y,h1,h2,hc.1,hc.2.1,hc.2.2,k _ (bu.mpr rfl)⟩
    ·rw[ax hc] at e;cases e
theorem UY{K:PySem.W.Frag}:EE K lV (fun x y H Q=>rNe x y H Q∨M9 K true x y H Q):=fun F H x y d v u Q b e h1 h2 k=>by
  unfold lV at e;by_cases hs:CF x y=true
  ·rw[az hs] at e;cases e;obtain⟨a,b,ha,hb,hc⟩:=As hs;obtain⟨rfl,_⟩:=ni h1 ha;obtain⟨rfl,_⟩:=ni h2 hb;refine .inl ⟨hc,k _ ?_⟩;rw[JH ha hb hc];exact bu.mpr rfl
  · rw[ax hs] at e;by_cases hc:(GN x y=true&&(x.iP 8&&y.iP 8))=true
    ·rw[az hc] at e;cases e;simp only[oA,decide_eq_true_eq] at hc;exact .inr ⟨x,y,h1,h2,hc.1,hc.2.1,hc.2.2,k _ (bu.mpr rfl)⟩
    ·rw[ax hc] at e;cases e
variable {z:Zc} {e a b:Expr} {f fa fb:EF} {fl:LF} {pos p:Pos}
theorem JK(hu:X.A.units+64<cLine)(ha:DB X z a fa)(hb:DB X z b fb):DE X z (.Compare a [.Eq] [b] pos) (ae dF fa fb):=yj (Io.or (JJ hu)) PL ha hb (j4 _)
theorem jP(hu:X.A.units+64<cLine)(ha:DB X z a fa)(hb:DB X z b fb):DT X z (.Compare a [.Eq] [b] pos) (bF (ae dF fa fb)):=oP (Io.or (JJ hu)) PL ha hb (j4 _)
theorem uN(hu:X.A.units+64<cLine)(ha:DB X z a fa)(hb:DB X z b fb):DT X z (.Compare a [.NotEq] [b] pos) (bF (ae lV fa fb)):=oP (T8.or (Rl hu)) UY ha hb (j4 _)
def L5:D→Option String
  |.non=>some "NoneType"
  |.bl _=>some "bool"
  |.int _=>some "int"
  |.str _=>some "str"
  |.tup _=>some "tuple"
  |.lst _=>some "list"
  |.obj _=>none
  |.exc _=>none
def JL(T t:String):Bool:=t==T||(T=="int"&&t=="bool")
def mJ(T:String)(f:EF):EF:=fun η=>(f η).bind fun d=>(L5 d).map fun t=>.bl (JL T t)
theorem Rm{K:PySem.W.Frag}{d:D}{t:String}(h:Den K H d v)(e:L5 d=some t):oH K H v (.type t):=by
  cases d with
  |non=>cases e;rw[bI.mp h];exact .non
  |bl b=>cases e;rw[bu.mp h];exact .bl b
  |int b=>cases e;rw[aD.mp h];exact .int b
  |str b=>cases e;rw[aR.mp h];exact .str b
  |tup xs=>cases e;obtain⟨a,vs,rfl,h1,_⟩:=aJ.mp h;exact .tup h1
  |lst xs =>
   cases e;obtain⟨a,vs,rfl,h1,_⟩:=aL.mp h;rcases h1 with(h1|⟨o,h1⟩)|⟨o,its,n,hk,hc,_⟩
   ·exact .lst h1
   ·exact .gM h1
   ·exact .kl hk hc
  |obj C=>cases e
  |exc C=>cases e
theorem Au{T:String}(hk:∀(d:D) (t:String),L5 d=some t→kitOne X.K (.type t) (.type T)=some (JL T t))(hv:bootBuiltins x=some (.type T))(hg:Gl X "isinstance")(hm:X.mg "isinstance"=none)(JM:Gl X x)(wC:X.mg x=none)(ha:DB X z e f)(hs:starEach [e,.Name x p] X.env=(false,eval e X.env)::starEach [.Name x p] X.env)(kx:starEach [.Name x p] X.env=(false,eval (.Name x p) X.env)::starEach [] X.env)(m7:(backTo pos (starEach [.Name x p] X.env)).any (·.1)=false)(hn:x≠"__name__")(iG:(x==("__debug__":Str))=false):DE X z (.Call (.Name "isinstance" p2) [e,.Name x p] [] pos) (mJ T f) :=
  PE.weak (zP Ac hg hm wy (aW ha (aW (Ma (v:=.ty T) JM wC hv rfl hn iG) cP kx) hs) (by decide) (by decide) hs m7) fun σ H Q ⟨η,F,d,r,e,k⟩=>by
  unfold mJ at e;obtain⟨d',h1,h2⟩:=cU.mp e;obtain⟨t,h3,h4⟩:=iD.mp h2;subst h4;exact⟨η,F,d',r,h1,fun v H' F' g q=>⟨v,T,.type t,JL T t,rfl,Rm q h3,hk d' t h3,k _ H' F' g (bu.mpr rfl)⟩⟩
theorem kit_tuple{K:PySem.W.Frag}:∀(d:D) (t:String),L5 d=some t→kitOne K (.type t) (.type "tuple")=some (JL "tuple" t):=fun d t h=>by cases d<;>cases h<;>rfl
theorem JN{K:PySem.W.Frag}:∀(d:D) (t:String),L5 d=some t→kitOne K (.type t) (.type "list")=some (JL "list" t):=fun d t h=>by cases d<;>cases h<;>rfl
theorem JQ{K:PySem.W.Frag}:∀(d:D) (t:String),L5 d=some t→kitOne K (.type t) (.type "bool")=some (JL "bool" t):=fun d t h=>by cases d<;>cases h<;>rfl
theorem Nb{K:PySem.W.Frag}:∀(d:D) (t:String),L5 d=some t→kitOne K (.type t) (.type "int")=some (JL "int" t):=fun d t h=>by cases d<;>cases h<;>rfl
theorem Nc{K:PySem.W.Frag}:∀(d:D) (t:String),L5 d=some t→kitOne K (.type t) (.type "str")=some (JL "str" t):=fun d t h=>by cases d<;>cases h<;>rfl
theorem mK(hg:Gl X "isinstance")(hm:X.mg "isinstance"=none)(wC:X.mg "tuple"=none)(ha:DB X z e f)(JM:Gl X "tuple":=by rfl)(hs:starEach [e,.Name "tuple" p] X.env=(false,eval e X.env)::starEach [.Name "tuple" p] X.env:=by rfl):DE X z (.Call (.Name "isinstance" p2) [e,.Name "tuple" p] [] pos) (mJ "tuple" f) :=
  Au kit_tuple Ab hg hm JM wC ha hs rfl rfl (by decide) (by decide)
theorem oV(hg:Gl X "isinstance")(hm:X.mg "isinstance"=none)(wC:X.mg "list"=none)(ha:DB X z e f)(JM:Gl X "list":=by rfl)(hs:starEach [e,.Name "list" p] X.env=(false,eval e X.env)::starEach [.Name "list" p] X.env:=by rfl):DE X z (.Call (.Name "isinstance" p2) [e,.Name "list" p] [] pos) (mJ "list" f) :=
  Au JN ye hg hm JM wC ha hs rfl rfl (by decide) (by decide)
theorem jq(hg:Gl X "isinstance")(hm:X.mg "isinstance"=none)(wC:X.mg "bool"=none)(ha:DB X z e f)(JM:Gl X "bool":=by rfl)(hs:starEach [e,.Name "bool" p] X.env=(false,eval e X.env)::starEach [.Name "bool" p] X.env:=by rfl):DE X z (.Call (.Name "isinstance" p2) [e,.Name "bool" p] [] pos) (mJ "bool" f) :=
  Au JQ MP hg hm JM wC ha hs rfl rfl (by decide) (by decide)
theorem nu(hg:Gl X "isinstance")(hm:X.mg "isinstance"=none)(wC:X.mg "int"=none)(ha:DB X z e f)(JM:Gl X "int":=by rfl)(hs:starEach [e,.Name "int" p] X.env=(false,eval e X.env)::starEach [.Name "int" p] X.env:=by rfl):DE X z (.Call (.Name "isinstance" p2) [e,.Name "int" p] [] pos) (mJ "int" f) :=
  Au Nb Q0 hg hm JM wC ha hs rfl rfl (by decide) (by decide)
theorem sd(hg:Gl X "isinstance")(hm:X.mg "isinstance"=none)(wC:X.mg "str"=none)(ha:DB X z e f)(JM:Gl X "str":=by rfl)(hs:starEach [e,.Name "str" p] X.env=(false,eval e X.env)::starEach [.Name "str" p] X.env:=by rfl):DE X z (.Call (.Name "isinstance" p2) [e,.Name "str" p] [] pos) (mJ "str" f) :=
  Au Nc Q5 hg hm JM wC ha hs rfl rfl (by decide) (by decide)
def mL(p:Int×bL):D:=.tup [.int p.1,.tup (p.2.map D.int)]
def JR(a b:Int×bL):Bool:=!kE b a
theorem lj(a:Int×bL):kE a a=false:=by unfold kE;rw[az rfl];exact kR _
def mM(ps:BK):BK:=ps.mergeSort JR
theorem ll(ps:BK):(mM ps).Perm ps:=List.mergeSort_perm ps JR
theorem Nf(a b:Int×bL):(JR a b||JR b a)=true:=by
  unfold JR;cases h:kE b a with
  |false=>rfl
  |true =>
   cases h2:kE a b with
   |false=>rfl
   |true=>have:=rN h h2;rw[lj] at this;cases this
theorem Rn(a b c:Int×bL)(h1:JR a b=true)(h2:JR b c=true):JR a c=true:=by
  unfold JR at *;simp only[Bool.not_eq_true'] at *;cases h:kE c a with
  |false=>rfl
  |true =>
   by_cases e1:a=b
   ·subst e1;rw[h] at h2;cases h2
   ·have q1:=tV (a:=b) (b:=a) (fun z=>e1 z.symm) h1;have q2:=rN h q1;rw[h2] at q2;cases q2
theorem Av{ps:BK}(hd:ps.Nodup):(mM ps).Pairwise (fun a b=>kE a b=true):=by
  have h:=List.pairwise_mergeSort (le:=JR) Rn Nf ps;have hn:(mM ps).Nodup:=(ll ps).nodup_iff.mpr hd;refine List.Pairwise.imp₂ (fun a b h1 h2=>?_) h hn;have Cu:kE b a=false:=by unfold JR at h1;simpa using h1
  exact tV (fun z=>h2 z.symm) Cu
theorem JS{ps qs:BK}(hd:ps.Nodup)(h:qs.Perm ps)(hp:qs.Pairwise (fun a b=>kE a b=true)):mM ps=qs :=
  List.Perm.eq_of_pairwise (le:=fun a b=>kE a b=true) (fun a b _ _ h1 h2=>by have:=rN h1 h2;rw[lj] at this;cases this) (Av hd) hp ((ll ps).trans h.symm)
theorem JT{K:PySem.W.Frag}{p:Int×bL}:Den K F (mL p) v↔pairAt F v p:=by
  unfold mL pairAt;constructor
  ·intro h;obtain⟨a,vs,rfl,h1,h2⟩:=aJ.mp h;obtain⟨v1,r,rfl,h3,h4⟩:=av.mp h2;obtain⟨v2,rfl,h5⟩:=uF h4;rw[aD.mp h3] at h1;obtain⟨q,ws,rfl,h6,h7⟩:=aJ.mp h5;rw[jk h7] at h6;exact⟨a,q,rfl,h1,h6⟩
  ·rintro⟨a,q,rfl,h1,h2⟩;exact aJ.mpr ⟨a,_,rfl,h1,av.mpr ⟨_,_,rfl,aD.mpr rfl,iq (aJ.mpr ⟨q,_,rfl,h2,i9 _⟩)⟩⟩
end
section
variable {X:Cx} {z:Zc} {e a b:Expr} {f fa fb fk fv:EF} {fl:LF} {pos p:Pos} {g:SF} {st:Stmt}
theorem GO{K:PySem.W.Frag}:∀D σ H,vS K z (cy i (eL fl)) D σ H→xT (vO K z fl) (nS i) D σ H:=fun D σ H ⟨η,F,o,r,e,k⟩=>by unfold cy eL at e;obtain⟨d,e1,rfl⟩:=iD.mp e;obtain⟨ds,e2,rfl⟩:=iD.mp e1;refine⟨η,F,ds,r,e2,fun p vs H' F' gr h1 h2 h3 h4=>?_⟩;have hs:bH F' (upd F' p (.lst vs)):=fW h2 _;have g2:=gr.share gr.base h3 h1;exact k _ H' _ ((r.grow g2).set i rfl (aL.mpr ⟨p,vs,rfl,eY.of ay,bp hs _ _ h4⟩)) g2.cz
theorem JV{Jd:Pos}{m:Bool}{elt iter:Expr}{ifs:List Expr}{tgs:dB}{l:LF}{b:BF}{t:TF}{f:EF}(hc:X.calm=true)(hN:X.N.Nodup)(B:fJ X tgs fi scope)(hfi:fi.Nodup)(hit:DI X z tg iter m l)(hg:∀C ex s H,DG (iQ X tgs fi scope C ex s H) z m tg b)(ht:∀C ex s H,M8 (iQ X tgs fi scope C ex s H) z ifs t)(he:∀C ex s H,DE (iQ X tgs fi scope C ex s H) z elt f)(hi:X.N[i]?=some x:=by rfl)(hl:X.env.scope.names.lookup x=some .local:=by rfl)(Je:swapsWith (.ListComp elt [⟨tg,iter,ifs,0⟩] scope pos) (some (.Name x pos')) Jd.line X.env=pure true:=by rfl)(hs:∀x,foldedSetIterable iter X.env x=pure x:=by intro _;rfl):DS X z (.Assign [.Name x pos'] (.ListComp elt [⟨tg,iter,ifs,0⟩] scope pos) Jd) (cy i (eL (fM tgs.length fi l b t f))) :=
  PS.weak (Ci (g:=vG X.K z m b) (tt:=vT X.K z t) (te:=vE X.K z f) hc hN hi hl B hit (fun C ex s H=>hg C ex s H) (fun C ex s H=>ht C ex s H) (fun C ex s H=>he C ex s H) Je hs) fun D σ H h=>xl hfi σ H _ (GO D σ H h)
def keyOf:D→Option Key
  |.int i=>some (.inl i)
  |.str x=>some (.inr x)
  |_=>none
def keysOf:fc→Option (List Key)
  |[]=>some []
  |d::ds=>(keyOf d).bind fun k=>(keysOf ds).map (k::·)
def CG:D→Option (List Key)
  |.tup ds=>keysOf ds
  |_=>none
theorem ql{K:PySem.W.Frag}{F:Hp}:∀{ds:fc} {vs:List V} {ks:List Key},bz K F ds vs→keysOf ds=some ks→vs=ks.map kV
  |[],vs,ks,h,e=>by cases e;exact aP.mp h
  |d::ds,vs,ks,h,e=>by
   obtain⟨k,h1,e⟩:=cU.mp e;obtain⟨r,h2,rfl⟩:=iD.mp e;obtain⟨v,r',rfl,h3,h4⟩:=av.mp h;rw[ql h4 h2];have:v=kV k:=by
     cases d with
     |int i=>cases h1;exact aD.mp h3
     |str i=>cases h1;exact aR.mp h3
     |_=>cases h1
   rw[this];rfl
theorem sW:∀ns:bL,keysOf (ns.map D.int)=some (ns.map Sum.inl)
  |[]=>rfl
  |n::ns=>by show(some (Sum.inl n:Key)).bind _=_;simp[sW ns]
def Ro:Key→D
  |.inl i=>.int i
  |.inr x=>.str x
theorem qm{K:PySem.W.Frag}{F:Hp}:∀(ks:List Key),bz K F (ks.map Ro) (ks.map kV)
  |[]=>aP.mpr rfl
  |.inl i::ks=>av.mpr ⟨_,_,rfl,aD.mpr rfl,qm ks⟩
  |.inr x::ks=>av.mpr ⟨_,_,rfl,aR.mpr rfl,qm ks⟩
def oW{κ:Type}[DecidableEq κ](ao:List (κ×D))(k:κ):Option D:=(ao.find? fun kv=>decide (kv.1=k)).map (·.2)
def putD{κ:Type}[DecidableEq κ](ao:List (κ×D))(k:κ)(v:D):List (κ×D) :=
  if (ao.any fun kv=>decide (kv.1=k))=true then ao.map fun kv=>if kv.1=k then(kv.1,v) else kv else ao++[(k,v)]
section
variable {κ:Type} [DecidableEq κ] {K:PySem.W.Frag} {F:Hp}
theorem qo:∀{ao:List (κ×D)} {ws:List (κ×V)} (k:κ),bW K F ao ws→(∀d,oW ao k=some d→∃v,nP ws k=some v∧Den K F d v)∧(oW ao k=none→nP ws k=none)
  |[],_,k,.nil=>⟨fun d h=>(by exact absurd h (by simp[oW])),fun _=>rfl⟩
  |p::ao,q::ws,k,.cons h t=>by
   obtain⟨ih1,ih2⟩:=qo k t;by_cases e:p.1=k
   · have e1:oW (p::ao) k=some p.2:=by simp[oW,rm,e]
     have e2:nP (q::ws) k=some q.2:=pR (by rw[←h.1];exact e);rw[e1,e2];exact⟨fun d hd=>⟨q.2,rfl,by cases hd;exact h.2⟩,fun z=>by cases z⟩
   · have e1:oW (p::ao) k=oW ao k:=by simp[oW,rm,e]
     have e2:nP (q::ws) k=nP ws k:=pS (by rw[←h.1];exact e);rw[e1,e2];exact⟨ih1,ih2⟩
theorem EX:∀{ao:List (κ×D)} {ws:List (κ×V)} (k:κ),bW K F ao ws→(ao.any fun kv=>decide (kv.1=k))=ws.any fun kv=>decide (kv.1=k)
  |[],_,k,.nil=>rfl
  |p::ao,q::ws,k,.cons h t=>by rw[List.any_cons,List.any_cons,EX k t,h.1]
theorem Aw{d:D}{v:V}(hd:Den K F d v):∀{ao:List (κ×D)} {ws:List (κ×V)} (k:κ),bW K F ao ws→bW K F (ao.map fun kv=>if kv.1=k then(kv.1,d) else kv) (ws.map fun kv=>if kv.1=k then(kv.1,v) else kv)
  |[],_,k,.nil=>.nil
  |p::ao,q::ws,k,.cons h t=>by
   refine .cons ?_ (Aw hd k t);dsimp only;by_cases e:p.1=k
   · have e2:q.1=k:=by rw[←h.1];exact e
     rw[az e,az e2];exact⟨h.1,hd⟩
   · have e2:¬ q.1=k:=by rw[←h.1];exact e
     rw[ax e,ax e2];exact h
theorem Ax{d:D}{v:V}(hd:Den K F d v):∀{ao:List (κ×D)} {ws:List (κ×V)} (k:κ),bW K F ao ws→bW K F (ao++[(k,d)]) (ws++[(k,v)])
  |[],_,k,.nil=>.cons ⟨rfl,hd⟩ .nil
  |p::ao,q::ws,k,.cons h t=>.cons h (Ax hd k t)
theorem Ay{ao:List (κ×D)}{ws:List (κ×V)}{d:D}(k:κ)(h:bW K F ao ws)(hd:Den K F d v):bW K F (putD ao k d) (putK ws k v):=by
  unfold putD putK;rw[EX k h];by_cases e:(ws.any fun kv=>decide (kv.1=k))=true
  ·rw[az e,az e];exact Aw hd k h
  ·rw[ax e,ax e];exact Ax hd k h
theorem jc{ao:List (κ×D)}{ws:List (κ×V)}(h:bW K F ao ws):ao.length=ws.length:=pK h
end
def dT(i:Nat)(η:aY):Option (List (List Key×D)):=match η[i]? with
  |some (some (.ot ao))=>some ao
  |some (some (.ft ao))=>some ao
  |_=>none
theorem JW{K:PySem.W.Frag}{ao:List (List Key×D)}(r:Rel K z F H σ η)(e:dT i η=some ao):∃p ws,σ[i]?=some (some (.ref p))∧Rd H p (.dT ws)∧bW K F ao ws:=by
  unfold dT at e;split at e
  ·rename_i iw h;cases e;obtain⟨p,o,h1,h2,h3,h4,ws,rfl,h5⟩:=r.ownAt h rfl;exact⟨p,ws,h1,.inl h4,h5⟩
  ·rename_i iw h;cases e;obtain⟨v,h1,p,ob,ws,rfl,h4,h5⟩:=r.at_ i _ h;exact⟨p,ws,h1,.inr ⟨ob,r.base.sub _ _ h4⟩,h5⟩
  ·cases e
theorem yp(s:bH H H'){p:Addr}{u:HO}(h:Rd H p u):Rd H' p u:=by
  rcases h with h|⟨o,h⟩
  ·exact .inl (s _ _ h)
  ·exact .inr ⟨o,s _ _ h⟩
theorem yq{K:PySem.W.Frag}{F:Hp}{p:Addr}{ws:List (List Key×V)}{d:D}{ks:List Key}(h:Rd H p (.dT ws))(hd:Den K H d y)(hk:CG d=some ks):Gs H p y (nP ws ks):=by
  cases d with
  |tup ds=>obtain⟨a,vs,rfl,h1,h2⟩:=aJ.mp hd;rw[ql h2 hk] at h1;exact .inr ⟨ws,ks,a,h,rfl,h1,rfl⟩
  |_=>cases hk
def CH(i:Nat):SF:=fun η=>some (.nx (η.set i (some (.ot []))))
theorem JX{dp:Pos}(hN:X.N.Nodup)(hi:X.N[i]?=some x:=by rfl)(hx:Loc X.env.scope x:=by first|exact Or.inl rfl|exact Or.inr rfl)(hs:swapsWith (.Dict [] [] dp) (some (.Name x pos')) pos.line X.env=pure false:=by rfl)(hf:X.fn x=true∨X.env.scope.names.lookup x=some .local:=by first|exact .inl rfl|exact .inr rfl|assumption):DS X z (.Assign [.Name x pos'] (.Dict [] [] dp) pos) (CH i) :=
  PS.weak (jg hN hi hx pT hs hf) fun D σ H ⟨η,F,o,r,e,k⟩=>by
  cases e;intro p hp;have g1:=aI.own r.base hp (.dT []) (ik _) rfl;exact k _ _ F (r.yh g1 i (sl:=.ot []) (p:=p) ⟨p,_,rfl,r.mem.ent.free hp,r.base.sub.free hp,ay,[],rfl,.nil⟩ rfl hp) g1.cz
def yr(i:Nat)(fk fd:EF):EF:=fun η=>(dT i η).bind fun ao=>(fk η).bind fun k=>(fd η).bind fun d=>(CG k).map fun ks=>(oW ao ks).getD d
theorem JY(hu:X.A.units+1<cLine)(i:Nat){ek ed:Expr}{fd:EF}(hk:DB X z ek fk)(hd:DE X z ed fd)(hN:X.N[i]?=some x:=by rfl)(hv:pL X.env.scope x:=by first|exact Or.inl rfl|exact Or.inr (Or.inl rfl)|exact Or.inr (Or.inr rfl))(m:M2 X (.Name x px) "get" apos ek ed aX:=by exact⟨rfl,rfl,rfl,rfl⟩)(iG:(x==("__debug__":Str))=false:=by decide)(dU:(x==("__classdict__":Str))=false:=by decide):DE X z (.Call (.Attribute (.Name x px) "get" apos) [ek,ed] [] aX) (yr i fk fd) :=
  PE.weak (zY hu (cO hN hv iG dU) hk hd m) fun σ H Q ⟨η,F,d,r,e,k⟩=>by
  unfold yr at e;obtain⟨ao,h1,e⟩:=cU.mp e;obtain⟨kd,h2,e⟩:=cU.mp e;obtain⟨d0,h3,e⟩:=cU.mp e;obtain⟨ks,h4,rfl⟩:=iD.mp e;obtain⟨p,ws,a1,a2,a3⟩:=JW r h1;refine⟨_,a1,p,rfl,.inr ⟨ws,a2⟩,η,F,kd,r,h2,fun y H1 F1 g1 q1=>⟨η,F1,d0,r.grow g1,h3,fun w H2 F2 g2 q2=>?_⟩⟩;have uI:=g1.trans g2;refine⟨_,yq (F:=F2) (yp uI.ent a2) (aM g2.ent _ _ q1) h4,k _ H2 F2 uI ?_⟩;obtain⟨b1,b2⟩:=qo ks (a3.mono uI.cz);cases hv:oW ao ks with
  |none=>rw[b2 hv];exact q2
  |some d'=>obtain⟨v,c1,c2⟩:=b1 d' hv;rw[c1];exact c2
def Az(i:Nat)(fk:EF):EF:=fun η=>(dT i η).bind fun ao=>(fk η).bind fun k=>(CG k).bind fun ks=>oW ao ks
theorem Ng(hu:X.A.units+1<cLine)(i:Nat){ek:Expr}(hk:DB X z ek fk)(hN:X.N[i]?=some x:=by rfl)(hv:pL X.env.scope x:=by first|exact Or.inl rfl|exact Or.inr (Or.inl rfl)|exact Or.inr (Or.inr rfl))(hs:QK ek:=by intro _ _;rfl)(iG:(x==("__debug__":Str))=false:=by decide)(dU:(x==("__classdict__":Str))=false:=by decide):DE X z (.Subscript (.Name x px) ek pos) (Az i fk) :=
  PE.weak (Mx hu (cO hN hv iG dU) hk hs) fun σ H Q ⟨η,F,d,r,e,k⟩=>by
  unfold Az at e;obtain⟨ao,h1,e⟩:=cU.mp e;obtain⟨kd,h2,e⟩:=cU.mp e;obtain⟨ks,h4,e⟩:=cU.mp e;obtain⟨p,ws,a1,a2,a3⟩:=JW r h1;refine⟨_,a1,η,F,kd,r,h2,fun y H1 F1 g1 q1=>?_⟩;obtain⟨v,c1,c2⟩:=(qo ks (a3.mono g1.cz)).1 d e;refine⟨p,v,rfl,?_,k _ H1 F1 g1 c2⟩;rw[←c1];exact yq (F:=F1) (yp g1.ent a2) q1 h4
def yt(i:Nat)(fk fv:EF):SF:=fun η=>(fv η).bind fun v=>(fk η).bind fun k=>(CG k).bind fun ks=>match η[i]? with
  |some (some (.ot ao))=>if ao.length<10000 then some (.nx (η.set i (some (.ot (putD ao ks v))))) else none
  |_=>none
theorem JZ(hu:X.A.units+1<cLine)(i:Nat){ek ev:Expr}(hk:DB X z ek fk)(hw:DE X z ev fv)(hN:X.N[i]?=some x:=by rfl)(hv:pL X.env.scope x:=by first|exact Or.inl rfl|exact Or.inr (Or.inl rfl)|exact Or.inr (Or.inr rfl))(hs:swapsWith ev (some (.Subscript (.Name x px) ek pos')) pos.line X.env=pure false:=by rfl)(iG:(x==("__debug__":Str))=false:=by decide)(dU:(x==("__classdict__":Str))=false:=by decide):DS X z (.Assign [.Subscript (.Name x px) ek pos'] ev pos) (yt i fk fv) :=
  PS.weak (En hu (cO hN hv iG dU) hk hw hs) fun D σ H ⟨η,F,o,r,e,k⟩=>by
  unfold yt at e;obtain⟨dv,h1,e⟩:=cU.mp e;obtain⟨kd,h2,e⟩:=cU.mp e;obtain⟨ks,h3,e⟩:=cU.mp e;split at e
  · rename_i ao h;by_cases hl:ao.length<10000
    · rw[az hl] at e;cases e;refine⟨η,F,dv,r,h1,fun v H1 F1 g1 q1=>?_⟩;have r1:=r.grow g1;obtain⟨p,o,a1,a2,a3,a4,ws,rfl,a5⟩:=r1.ownAt h rfl;refine⟨_,a1,η,F1,kd,r1,h2,fun y H2 F2 g2 q2=>?_⟩;have r2:=r1.grow g2;have Wx:=g2.ent _ _ a4;have X5:ws.length<10000:=by rw[←jc a5];exact hl
      cases kd with
      |tup ds=>obtain⟨a,vs,rfl,b1,b2⟩:=aJ.mp q2;rw[ql b2 h3] at b1;refine⟨p,_,rfl,Gu.t Wx b1 (jX X5 (Cw (bJ _))),?_⟩;refine k _ _ F2 (r2.write h rfl a1 ⟨putK ws ks v,rfl,Ay ks (a5.mono g2.cz) (aM g2.cz _ _ q1)⟩ ?_) (g1.cz.trans g2.cz);have:=jL ws ks v;exact fR this (Cw (by omega))
      |_=>cases h3
    ·rw[ax hl] at e;cases e
  ·cases e
def Nh(i:Nat)(fk fv:EF):SF:=fun η=>(fv η).bind fun v=>(fk η).bind fun k=>match η[i]?,k with
  |some (some (.ol ds)),.int n=>(L3 ds.length n).map fun j=>.nx (η.set i (some (.ol (ds.set j v))))
  |_,_=>none
theorem Rp(i:Nat){ek ev:Expr}(hk:DB X z ek fk)(hw:DE X z ev fv)(hN:X.N[i]?=some x:=by rfl)(hv:pL X.env.scope x:=by first|exact Or.inl rfl|exact Or.inr (Or.inl rfl)|exact Or.inr (Or.inr rfl))(hs:swapsWithSole [.Subscript (.Name x px) ek pos'] ev pos.line X.env=pure false:=by rfl)(Je:swappedStores [.Subscript (.Name x px) ek pos'] ev X.env=pure none:=by rfl)(h1:(assignEach [.Subscript (.Name x px) ek pos'] X.env).map (·.2)=[assign (.Subscript (.Name x px) ek pos') X.env]:=by rfl)(ha:∀v,assign (.Subscript (.Name x px) ek pos') X.env v=(do
      let ov ←holding [v] (eval (.Name x px) X.env)
      let iv ←holding [v,ov] (eval ek X.env)
      standAt pos'
      holding [v,ov,iv] (setItem ov iv v)
      release [v,ov,iv] []):=by intro _;rfl)(iG:(x==("__debug__":Str))=false:=by decide)(dU:(x==("__classdict__":Str))=false:=by decide):DS X z (.Assign [.Subscript (.Name x px) ek pos'] ev pos) (Nh i fk fv) :=
  PS.weak (Qn hw (Qm (cO hN hv iG dU) hk set_list ha) hs Je h1) fun D σ H ⟨η,F,o,r,e,k⟩=>by
  unfold Nh at e;obtain⟨dv,h1,e⟩:=cU.mp e;obtain⟨kd,h2,e⟩:=cU.mp e;split at e
  ·rename_i ds n h;obtain⟨j,h3,rfl⟩:=iD.mp e;refine⟨η,F,dv,r,h1,fun v H1 F1 g1 q1=>?_⟩;have r1:=r.grow g1;obtain⟨p,o,a1,a2,a3,a4,ws,rfl,a5⟩:=r1.ownAt h rfl;refine⟨_,a1,η,F1,_,r1,h2,fun y H2 F2 g2 q2=>?_⟩;have r2:=r1.grow g2;have Wx:=g2.ent _ _ a4;refine⟨p,ws,n,j,rfl,aD.mp q2,Wx,by rw[←aK a5];exact h3,?_⟩;refine k _ _ F2 (r2.write h rfl a1 ⟨ws.set j v,rfl,An j (bp g2.cz _ _ a5) (aM g2.cz _ _ q1)⟩ ?_) (g1.cz.trans g2.cz);show(ws.set j v).length≤sizeLine;rw[List.length_set];exact g2.base.sU _ _ Wx
  ·cases e
end
end DL
namespace DL
open PySem L2
theorem X6{K:PySem.W.Frag}{base:Heap}{f:Addr}{ps:dB}:cE P w K mg base mz k f fd ps (gJ K ms (fun _=>none)) where
  len:=fun vs H Q E h=>by obtain⟨F,ds,r,_,_,e,_⟩:=h;cases e
  run:=fun A outer s H args us vs Q E hr he hb hv hs=>by obtain⟨F,ds,r,_,_,e,_⟩:=hs;cases e
theorem eD(i j:Int):gd (.int i) (.int j)=some (.int (i+j)):=rfl
theorem CJ(i j:Int):GJ (.int i) (.int j)=some (.int (i-j)):=rfl
theorem oX{i j:Int}(h:mulC i j=true):wA (.int i) (.int j)=some (.int (i*j)):=az h
theorem div_ii{i j:Int}(h:divC i j=true):Aq (.int i) (.int j)=some (.int (i / j)):=az h
theorem cq{i j:Int}(h:iy i j=true):cM (.int i) (.int j)=some (.int (i%j)):=az h
theorem Rq{i j:Int}(h:powC i j=true):M3 (.int i) (.int j)=some (.int (i^j.toNat)):=az h
theorem jQ(i j:Int):yl (.int i) (.int j)=some (.bl (decide (i<j))):=rfl
theorem lN(i j:Int):HK (.int i) (.int j)=some (.bl (decide (j<i))):=rfl
theorem UZ(i j:Int):X1 (.int i) (.int j)=some (.bl (decide (j≤i))):=rfl
theorem uO(ds:fc)(i:Int):iS (.lst ds) (.int i)=rJ ds i:=rfl
theorem yu{i j:Int}(h1:-(2^64)<j)(h2:j<2^64):mulC i j=true:=by unfold mulC;exact mj (.inr ⟨h1,h2⟩)
theorem CK{i j:Int}(h1:-(2^64)<i)(h2:i<2^64):mulC i j=true:=by unfold mulC;exact mj (.inl ⟨h1,h2⟩)
theorem CL{i j:Int}(h:0<j):iy i j=true:=by unfold iy;exact mj h
theorem Ni{n:Int}{ms:bL}{S:D}(h:fK S=some (ms.map D.int)):inD false (.int n) S=some (.bl (ms.contains n)):=by unfold inD;rw[h];simp only[GF,cj,xk,eF];rw[Al];rfl
theorem aC{g1 g2:SF}{η':aY}(h:g1 η=some (.nx η')):bj g1 g2 η=g2 η':=by unfold bj;rw[h];rfl
theorem mN{g1 g2:SF}{r:Slot}(h:g1 η=some (.rt r)):bj g1 g2 η=some (.rt r):=by unfold bj;rw[h];rfl
theorem bX{f:EF}{d:D}(h:f η=some d):cy i f η=some (.nx (η.set i (some (.sh d)))):=by unfold cy;rw[h];rfl
theorem ny{f:LF}{d:fc}(h:f η=some d):n4 i f η=some (.nx (η.set i (some (.ol d)))):=by unfold n4;rw[h];rfl
theorem oY{f:EF}{d:D}(h:f η=some d):et f η=some (.rt (.sh d)):=by unfold et;rw[h];rfl
theorem EY{f:LF}{d:fc}(h:f η=some d):uJ f η=some (.rt (.ol d)):=by unfold uJ;rw[h];rfl
theorem lq{t:TF}{g1 g2:SF}(h:t η=some true):iO t g1 g2 η=g1 η:=by unfold iO;rw[h];rfl
theorem eu{t:TF}{g1 g2:SF}(h:t η=some false):iO t g1 g2 η=g2 η:=by unfold iO;rw[h];rfl
theorem gf{l:LF}{b:BF}{g:SF}(h:l η=some ds):mI l b g η=j9 b g ds η:=by unfold mI;rw[h];rfl
theorem jR{g:SF}{r:Slot}(h:g (iJ n ms ds)=some (.rt r)):pF n ms g ds=some r:=by unfold pF;rw[h]
theorem EZ(ns:bL)(lo hi:Option Int):cutD (ns.map D.int) lo hi=((ns.drop (HT.rg ns.length 0 lo)).take (HT.rg ns.length ns.length hi-HT.rg ns.length 0 lo)).map D.int:=by unfold cutD;rw[bY,←List.map_drop,←List.map_take]
theorem jr{b:BF}{g:SF}(P:Nat→aY→Prop):∀{ds:fc} {η:aY} (n:Nat),P n η→(∀(i:Nat) d η,ds[i]?=some d→P (n+i) η→∃η1 η2,b d η=some η1∧(g η1=some (.nx η2)∨g η1=some (.ct η2))∧P (n+i+1) η2)→∃η',j9 b g ds η=some (.nx η')∧P (n+ds.length) η'
  |[],η,n,h0,_=>⟨η,rfl,h0⟩
  |d::ds,η,n,h0,hs=>by
   obtain⟨η1,η2,h1,h2,h3⟩:=hs 0 d η rfl h0;obtain⟨η',h4,h5⟩:=jr P (ds:=ds) (η:=η2) (n+1) h3 (fun i d η hd hp=>by
     have e:n+1+i=n+(i+1):=by omega
     rw[e] at hp⊢;exact hs (i+1) d η (by simpa using hd) hp)
   refine⟨η',?_,by rw[eW,show n+(ds.length+1)=n+1+ds.length by omega];exact h5⟩;unfold j9;rw[h1];rcases h2 with h2|h2<;>(simp only[cj,h2];exact h4)
theorem kF{α β:Type}{b:BF}{g:SF}(q:α→D)(E:β→aY→Prop)(step:β→α→β):∀{xs:List α} {η:aY} (s:β),E s η→(∀x∈xs,∀s η,E s η→∃η1 η2,b (q x) η=some η1∧g η1=some (.nx η2)∧E (step s x) η2)→∃η',j9 b g (xs.map q) η=some (.nx η')∧E (xs.foldl step s) η'
  |[],η,s,h0,_=>⟨η,rfl,h0⟩
  |x::xs,η,s,h0,hs=>by obtain⟨η1,η2,h1,h2,h3⟩:=hs x eR s η h0;obtain⟨η',h4,h5⟩:=kF q E step (xs:=xs) (η:=η2) (step s x) h3 (fun y hy=>hs y (ef _ hy));refine⟨η',?_,h5⟩;rw[cD];unfold j9;rw[h1];simp only[cj,h2];exact h4
theorem lr{α β:Type}{b:BF}{g:SF}(q:α→D)(E:Nat→β→aY→Prop)(step:β→α→β):∀{xs:List α} {η:aY} (n:Nat) (s:β),E n s η→(∀(i:Nat) x s η,xs[i]?=some x→E (n+i) s η→∃η1 η2,b (q x) η=some η1∧g η1=some (.nx η2)∧E (n+i+1) (step s x) η2)→∃η',j9 b g (xs.map q) η=some (.nx η')∧E (n+xs.length) (xs.foldl step s) η'
  |[],η,n,s,h0,_=>⟨η,rfl,h0⟩
  |x::xs,η,n,s,h0,hs=>by
   obtain⟨η1,η2,h1,h2,h3⟩:=hs 0 x s η rfl h0;obtain⟨η',h4,h5⟩:=lr q E step (xs:=xs) (η:=η2) (n+1) (step s x) h3 (fun i y s η hy he=>by
     have e:n+1+i=n+(i+1):=by omega
     rw[e] at he⊢;exact hs (i+1) y s η (by simpa using hy) he)
   refine⟨η',?_,by rw[eW,List.foldl_cons,show n+(xs.length+1)=n+1+xs.length by omega];exact h5⟩;rw[cD];unfold j9;rw[h1];simp only[cj,h2];exact h4
theorem nz{α:Type}{b:BF}{t:TF}{f:EF}{η:aY}(q:α→D)(p:α→Bool)(h:α→D):∀{xs:List α},(∀x∈xs,∃η1,b (q x) η=some η1∧t η1=some (p x)∧(p x=true→f η1=some (h x)))→fL b t f (xs.map q) η=some ((xs.filter p).map h)
  |[],_=>rfl
  |x::xs,hs=>by
   obtain⟨η1,h1,h2,h3⟩:=hs x eR;have ih:=nz q p h (xs:=xs) (fun y hy=>hs y (ef _ hy));rw[cD];unfold fL;rw[h1];simp only[cj,h2];cases hp:p x with
   |true=>rw[az rfl,h3 hp,ih,List.filter_cons,az hp];rfl
   |false=>rw[ax (by simp),ih,List.filter_cons,ax (by simp[hp])]
theorem kG{α:Type}{b:BF}{t:TF}{f:EF}(q:α→D)(h:α→D){xs:List α}(hs:∀x∈xs,∃η1,b (q x) η=some η1∧t η1=some true∧f η1=some (h x)):fL b t f (xs.map q) η=some (xs.map h):=by
  have:=nz (b:=b) (t:=t) (f:=f) (η:=η) q (fun _=>true) h (xs:=xs) (fun x hx=>by
    obtain⟨η1,h1,h2,h3⟩:=hs x hx;exact⟨η1,h1,h2,fun _=>h3⟩)
  rw[this,List.filter_eq_self.mpr (fun _ _=>rfl)]
theorem g9(lo:Int)(n:Nat):cB lo n=((List.range n).map fun(i:Nat)=>lo+(i:Int)).map D.int:=by unfold cB;rw[fB];rfl
theorem Fb:∀(ds:fc) (n:Nat),D.JG ds n=ds.all fun d=>d.iP n
  |[],n=>by rw[D.JG];rfl
  |d::ds,n=>by rw[D.JG,Fb ds n,List.all_cons]
theorem Rr(ds:fc)(n:Nat):(D.tup ds).iP (n+1)=ds.all fun d=>d.iP n:=by rw[D.iP,Fb]
theorem Rt(i:Int)(n:Nat):(D.int i).iP n=true:=by rw[D.iP]
theorem Nj(ns:bL)(n:Nat):(ns.map D.int).all (fun d=>d.iP n)=true:=by rw[List.all_map,eX];exact fun i _=>Rt i n
theorem dh(a b:Int):dF (.int a) (.int b)=some (.bl (a==b)):=by unfold dF;rw[az (by rfl),dm]
theorem nA(a b:Int):lV (.int a) (.int b)=some (.bl (!(a==b))):=by unfold lV;rw[az (by rfl),dm]
theorem Ru(a b:Bool):lV (.bl a) (.bl b)=some (.bl (!(a==b))):=by unfold lV;rw[az (by rfl),dm]
end DL
namespace DL
open PySem PySem.Spec L2
open PyProof.Rows hiding St pairAt
section
variable {X:Cx} {z:Zc} {e a b:Expr} {f fa fb fk fv:EF} {fl fs:LF} {pos p:Pos} {g:SF} {st:Stmt} {es:List Expr} {ms:List Bool}
def yw(f:EF):LF:=fun η=>(f η).bind fun d=>(fK d).bind fun ds=>if D.yg ds=true then some ds else none
theorem J0(hx:x="list")(hg:Gl X x)(hm:X.mg x=none)(ha:DB X z e f)(hs:starEach [e] X.env=(false,eval e X.env)::starEach [] X.env:=by rfl):DO X z (.Call (.Name x p) [e] [] pos) (yw f):=by
  subst hx;refine PE.weak (rG pQ hg hm ye (aW ha cP hs) (by decide) (by decide) hs rfl) fun σ H Q ⟨η,F,d,r,e,k⟩=>?_;unfold yw at e;obtain⟨d',h1,e⟩:=cU.mp e;obtain⟨ds,h2,e⟩:=cU.mp e;by_cases hi:D.yg ds=true
  · rw[az hi] at e;cases e;refine⟨η,F,d',r,h1,fun v H1 F1 g1 q1=>?_⟩;cases d' with
    |lst BG=>cases h2;obtain⟨a,ws,rfl,h3,h4⟩:=aL.mp q1;refine⟨a,ws,rfl,.inl h3,fun l hl=>?_⟩;have g2:=aI.own g1.base hl (.lst ws) (nh g1.base h3) rfl;exact k l ws _ F1 (g1.trans g2) (g1.ent.free hl) (g1.base.sub.free hl) ay (pZ g1.base.tup _ _ hi h4)
    |tup BG=>cases h2;obtain⟨a,ws,rfl,h3,h4⟩:=aJ.mp q1;refine⟨a,ws,rfl,.inr (gy.of h3),fun l hl=>?_⟩;have g2:=aI.own g1.base hl (.lst ws) (show ws.length≤sizeLine from g1.base.sU _ _ h3) rfl;exact k l ws _ F1 (g1.trans g2) (g1.ent.free hl) (g1.base.sub.free hl) ay (pZ g1.base.tup _ _ hi h4)
    |_=>cases h2
  ·rw[ax hi] at e;cases e
end
section
variable {X:Cx} {z:Zc} {e a b:Expr} {f fa fb fk fv:EF} {fl fs:LF} {pos p:Pos} {g:SF} {st:Stmt} {es:List Expr} {ms:List Bool}
def uP:SF:=fun _=>none
theorem ka:DS X z st uP:=PS.weak (t:=fun _ _ _=>False) (fun _ _ _ _ _ _ q=>q.elim) fun D σ H ⟨η,F,o,r,e,k⟩=>by cases e
theorem wF(items:Array Value):slicePick items none none (some (-1))=items.toList.reverse.toArray:=PySem.W.krv_pick items
def X7(K:PySem.W.Frag)(te:TE):TE:=fun σ H Q=>te σ H fun x H1=>∃a xs,x=.ref a∧eY K H1 a xs∧∀p,H1 p=none→Q (.ref p) (upd H1 p (.lst xs.reverse))
theorem Rv{te:TE}{p3 p4:Pos}{j}(he:PE X e te):PE X (.Subscript e (.Slice none none (some (.UnaryOp .USub (.Constant (.int 1) j p3) p4)) p2) pos) (X7 X.K te):=by
  intro pins s σ H Q I h;refine Subscript_ (cN (he pins s σ H _ I h) fun v s1 ⟨x,H1,I1,r1,q1⟩=>?_);obtain⟨a,xs,rfl,hx,q⟩:=q1;refine wpAny_Slice (cN (xZ pins s1 σ H1 (fun o H'=>o=none∧H'=H1) I1 ⟨rfl,rfl⟩) fun vl s2 ⟨l,H2,I2,pl,q2⟩=>cN (xZ pins s2 σ H2 (fun o H'=>o=none∧H'=H2) I2 ⟨rfl,rfl⟩) fun vu s3 ⟨u,H3,I3,pu,q3⟩=>?_);obtain⟨rfl,rfl⟩:=q2;obtain⟨rfl,rfl⟩:=q3;refine cN (Ej (T4 Qw gR) pins s3 σ H3 (fun o H'=>o=some (-1)∧H'=H3) I3 ?_) fun vk s4 ⟨u,H4,I4,pk,q4⟩=>?_
  ·exact⟨1,rfl,-1,rfl,⟨rfl,rfl⟩⟩
  obtain⟨rfl,rfl⟩:=q4;cases r1;have I5:Inv X pins σ H4 { s4 with heap:=s4.heap.push { cls:=.type "slice",data:=.fields #[vl,vu,vk] } }:=I4.kept (t':=s4.toks) fun b ob q=>dC _ q;obtain⟨its,r,ht,hz⟩:=I5.list hx;have hlen:=r.length;refine tail_any (ops:=[.ref a,.ref s4.heap.objs.size]) ht.isList.typeIs slot_list_getitem.lookup ?_ (by with_unfolding_all rfl);refine wpAny_getItem_list_slice ht.isList ⟨_,iE _ rfl,rfl,rfl⟩ pl pu pk (by decide) ?_ (by rw[eA]<;>omega);rw[wF];refine⟨.ref _,_,I5.laid (t':=s4.toks) (o:=.lst xs.reverse) (fun b ob q=>dC _ q) (bJ _) ?_,rfl,q _ (I5.bV.fresh (bJ _))⟩;exact⟨by rw[List.length_reverse];exact hz,_,0,r.reverse,iE _ rfl⟩
def Nk(f:EF):LF:=fun η=>(f η).bind fun d=>match d with|.lst ds=>some ds.reverse|_=>none
theorem J1{p3 p4:Pos}{j}(ha:DE X z e f):DO X z (.Subscript e (.Slice none none (some (.UnaryOp .USub (.Constant (.int 1) j p3) p4)) p2) pos) (Nk f):=PE.weak (Rv ha) fun σ H Q ⟨η,F,d,r,e,k⟩=>by
  unfold Nk at e;obtain⟨d',h1,e⟩:=cU.mp e;cases d' with
  |lst ds =>
   cases e;refine⟨η,F,_,r,h1,fun v H1 F1 g1 q1=>?_⟩;obtain⟨a,ws,rfl,h4,h5⟩:=aL.mp q1;refine⟨a,ws,rfl,g1.base.sub.seq h4,fun p hp=>?_⟩;have hz:ws.reverse.length≤sizeLine:=by rw[List.length_reverse];exact nh g1.base (g1.base.sub.seq h4)
   have g4:=aI.own g1.base hp (.lst ws.reverse) hz rfl;exact k p _ _ F1 (g1.trans g4) (g1.ent.free hp) (g1.base.sub.free hp) ay (pY h5)
  |_=>cases e
def J2(i:Nat):SF:=fun η=>match η[i]? with
  |some (some (.ot ao))=>some (.rt (.ot ao))
  |_=>none
theorem Nm(i:Nat)(hN:X.N[i]?=some x:=by rfl)(hv:pL X.env.scope x:=by first|exact Or.inl rfl|exact Or.inr (Or.inl rfl)|exact Or.inr (Or.inr rfl))(hd:(x==("__debug__":Str))=false:=by decide)(dU:(x==("__classdict__":Str))=false:=by decide):DS X z (.Return (some (.Name x px)) pos) (J2 i) :=
  PS.weak (mv (cO hN hv hd dU)) fun D σ H ⟨η,F,o,r,e,k⟩=>by
  unfold J2 at e;split at e
  ·rename_i ao hh;cases e;obtain⟨q,o,a1,a2,a3,a4,ws,rfl,a5⟩:=r.ownAt hh rfl;exact⟨_,a1,k q ws _ _ r.mem a2 a3 a4 a5⟩
  ·cases e
def Fc(i:Nat)(Fn:fc→e9)(fs:LF):SF:=fun η=>(fs η).bind fun ds=>(Fn ds).bind fun r=>match r with
  |.ot ao=>some (.nx (η.set i (some (.ot ao))))
  |_=>none
theorem Nn{y:Str}{ap:Pos}{ps:dB}(hNd:X.N.Nodup)(C:mE X.prog X.w X.K X.mg X.base k fn ps (gJ X.K ms Fn))(hr:cW k X.A)(hg:Gl X y)(hm:X.mg y=some (.ref fn))(ha:DM X z (e::es) ms fs)(iG:(y==("__debug__":Str))=false:=by decide)(he:starEach (e::es) X.env=(false,eval e X.env)::starEach es X.env:=by rfl)(m7:(backTo pos (starEach es X.env)).any (·.1)=false:=by rfl)(hi:X.N[i]?=some x:=by rfl)(hx:Loc X.env.scope x:=by first|exact Or.inl rfl|exact Or.inr rfl)(hs:swapsWith (.Call (.Name y p) (e::es) [] pos) (some (.Name x pos')) ap.line X.env=pure false:=by rfl)(hf:X.fn x=true∨X.env.scope.names.lookup x=some .local:=by first|exact .inl rfl|exact .inr rfl|assumption):DS X z (.Assign [.Name x pos'] (.Call (.Name y p) (e::es) [] pos) ap) (Fc i Fn fs) :=
  PS.weak (jg hNd hi hx (Ct C hr hg hm ha iG he m7) hs hf) fun D σ H ⟨η,F,o,r,e,k⟩=>by
  unfold Fc at e;obtain⟨ds,h1,h⟩:=cU.mp e;obtain⟨s,h2,h⟩:=cU.mp h;refine⟨η,F,ds,r,h1,fun vs H1 F1 g1 q1=>?_⟩;show gJ X.K ms Fn (vs++[]) H1 _ E0;rw[xK];refine⟨F1,ds,s,g1.base,q1,h2,?_⟩;cases s with
  |ot ao=>cases h;intro q ws H' F' g2 hp hF hH hd;have uI:=g1.trans g2;have Rw:=g1.ent.free hp;have ho:cQ X.K F' (.ref q) (.ot ao) q:=(p7 rfl).mpr rfl;exact k _ _ _ (r.yh uI i (p:=q) ⟨q,_,ho,r.mem.ent.free Rw,hF,hH,ws,rfl,hd⟩ ho Rw) uI.cz
  |_=>cases h
end
end DL
namespace NS
open PySem PySem.Spec
def tb(led:Bool)(S:List Nat):SetTable:={ mask:=if S.length<5 then 7 else 31,place:=S.toArray,dummies:=#[],finger:=0,led:=led,moves:=if S.length<5 then 0 else 1,plain:=true }
def tp(led:Bool)(S T:List Nat):SetTable:={ mask:=if S.length<5 then 7 else 31,place:=T.toArray,dummies:=#[],finger:=0,led:=led,moves:=if S.length<5 then 0 else 1,plain:=true }
def subs:List (List Nat):=(List.range 64).map fun m=>(List.range 6).filter fun k=>m.testBit k
def ins(S:List Nat)(k:Nat):List Nat:=S.filter (·<k)++k::S.filter (k<·)
def lo(S:List Nat)(k:Nat):Nat:=(S.filter (·<k)).length
def ck1:Bool:=[true,false].all fun led=>subs.all fun S=>(List.range 6).all fun k=>S.contains k ||
  (((tb led S).freeSlot (k:Int)==some (k,false))&&decide ((tb led S).put k=(tp led S (ins S k),lo S k))&&(tp led S (ins S k)).fits (S.length+1)
    && ((tp led S (ins S k)).tooFull==(S.length==4))&&subs.contains (ins S k)&&((ins S k).length==S.length+1)&&(lo S k≤S.length))
theorem J3:ck1=true:=by decide +kernel
def ck2:Bool:=[true,false].all fun led=>subs.all fun S=>(List.range 6).all fun k=>S.contains k||S.length != 4 ||
  (decide ((tp led S (ins S k)).relaid (((ins S k).map fun(i:Nat)=>(i:Int)).toArray) (SetTable.grown 5)=some (tb led (ins S k),(List.range 5).toArray))&&(tb led (ins S k)).fits 5)
theorem J4:ck2=true:=by decide +kernel
def ck3:Bool:=[true,false].all fun led=>subs.all fun S=>(List.range 7).all fun i=>i>S.length ||
  (SetTable.below (tb led S).place (if i=0 then 0 else S.getD (i-1) 0+1)==i)
theorem J5:ck3=true:=by decide +kernel
end NS
namespace NS
open PySem PySem.Spec PySem.Calls
open PyProof.Rows hiding St pairAt
def ck4:Bool:=subs.all fun S=>(List.range 6).all fun k=>S.contains k||(S.take (lo S k)++k::S.drop (lo S k)==ins S k)
theorem J6:ck4=true:=by decide +kernel
def ck5:Bool:=(List.range 6).all fun k=>hashInt (k:Int)==(k:Int)
theorem J7:ck5=true:=by decide +kernel
theorem uQ(h:k<6):hashInt (k:Int)=(k:Int):=eq_of_beq (eX.mp J7 k (ml.mpr h))
def ck6:Bool:=[true,false].all fun led=>subs.all fun S=>(tb led S).fits S.length&&S.length≤6&&S.all (·<6)&&decide S.Nodup
theorem J8:ck6=true:=by decide +kernel
theorem tY(led:Bool):led∈[true,false]:=by cases led<;>simp
theorem kH(h:S∈subs):(tb led S).fits S.length=true∧S.length≤6∧(∀k∈S,k<6)∧S.Nodup:=by have:=eX.mp (eX.mp J8 led (tY led)) S h;simp only[oA,decide_eq_true_eq,eX] at this;exact⟨this.1.1.1,this.1.1.2,this.1.2,this.2⟩
theorem GP(h:S∈subs)(hk:k<6)(hn:S.contains k=false):(tb led S).freeSlot (k:Int)=some (k,false)∧(tb led S).put k=(tp led S (ins S k),lo S k)∧(tp led S (ins S k)).fits (S.length+1)=true∧(tp led S (ins S k)).tooFull=(S.length==4)∧ins S k∈subs∧(ins S k).length=S.length+1∧lo S k≤S.length:=by
  have:=eX.mp (eX.mp (eX.mp J3 led (tY led)) S h) k (ml.mpr hk);rw[hn,Bool.false_or] at this;simp only[oA,decide_eq_true_eq,beq_iff_eq,xG] at this;obtain⟨⟨⟨⟨⟨⟨h1,h2⟩,h3⟩,h4⟩,h5⟩,h6⟩,h7⟩:=this;exact⟨h1,h2,h3,h4,h5,h6,h7⟩
theorem AA(h:S∈subs)(hk:k<6)(hn:S.contains k=false)(h4:S.length=4):(tp led S (ins S k)).relaid (((ins S k).map fun(i:Nat)=>(i:Int)).toArray) (SetTable.grown 5)=some (tb led (ins S k),(List.range 5).toArray)∧(tb led (ins S k)).fits 5=true:=by
  have:=eX.mp (eX.mp (eX.mp J4 led (tY led)) S h) k (ml.mpr hk);rw[hn,h4] at this;simpa using this
theorem Rx(h:S∈subs)(hk:k<6)(hn:S.contains k=false):S.take (lo S k)++k::S.drop (lo S k)=ins S k:=by have:=eX.mp (eX.mp J6 S h) k (ml.mpr hk);rw[hn,Bool.false_or] at this;exact eq_of_beq this
def Ent(l:List (Int×Value))(S:List Nat):Prop:=Paired (fun e (k:Nat)=>∃t,e=((k:Int),Value.int (k:Int) t)) l S
theorem Ent.len(h:Ent l S):l.length=S.length:=pK h
theorem Ent.ins{x:Int×Value}{k:Nat}(hx:∃t,x=((k:Int),Value.int (k:Int) t)):∀{l:List (Int×Value)} {S:List Nat} (n:Nat),Ent l S→Ent (l.take n++x::l.drop n) (S.take n++k::S.drop n)
  |_,_,0,h=>.cons hx h
  |_,_,n+1,.nil=>.cons hx .nil
  |_,_,n+1,.cons h r=>.cons h (Ent.ins hx n r)
theorem Ent.fst(h:Ent l S):l.map (·.1)=S.map fun(i:Nat)=>(i:Int):=by
  induction h with
  |nil=>rfl
  |cons a r ih=>obtain⟨t,rfl⟩:=a;simp[ih]
theorem Ent.mem(h:Ent l S):∀e∈l,∃(k:Nat) (t:Tok),k∈S∧e=((k:Int),Value.int (k:Int) t):=by
  induction h with
  |nil=>intro e he;cases he
  |cons a r ih =>
   intro e he;rcases dc.mp he with rfl|he
   ·obtain⟨t,q⟩:=a;exact⟨_,t,eR,q⟩
   ·obtain⟨k,t,h1,h2⟩:=ih e he;exact⟨k,t,ef _ h1,h2⟩
theorem Ent.X8(h:Ent l S):∀k∈S,∃t:Tok,((k:Int),Value.int (k:Int) t)∈l:=by
  induction h with
  |nil=>intro e he;cases he
  |cons a r ih =>
   intro k he;rcases dc.mp he with rfl|he
   ·obtain⟨t,q⟩:=a;exact⟨t,q▸eR⟩
   ·obtain⟨t,h1⟩:=ih k he;exact⟨t,ef _ h1⟩
def SN(h:Heap)(a:Addr)(led:Bool)(S:List Nat):Prop:=S∈subs∧∃es ep,h.get? a=some { cls:=.type "set",dict:=none,data:=.set es ep (tb led S) }∧Ent es.toList S
section
variable {prog:Program} {w:World} {A:Around} {E:ic} {s:Shared} {a:Addr}
theorem Ry{t:Tok}{Q:Bool→Shared→Prop}(hk:k<6)(hS:SN s.heap a led S)(h:∀h',Heap.SameBut a s.heap h'→SN h' a led (if S.contains k=true then S else ins S k)→∀b,Q b { s with heap:=h' }):wpAny (model prog w) A (setAddHashed a (.int (k:Int) t) (hashInt (k:Int))) Q E s:=by
  obtain⟨hs,es,ep,ho,he⟩:=hS;have hlen:es.size=S.length:=by rw[←je];exact he.len
  obtain⟨hf,h6,oJ,J9⟩:=kH (led:=led) hs;have HL:(tb led S).fits es.size=true:=by rw[hlen];exact hf
  have hb:es.size<scanBound:=by rw[hlen];unfold scanBound;omega
  have X9:ElemsOf (intKind prog w) es.toList:=fun e q=>by obtain⟨k',t',h1,rfl⟩:=he.mem e q;exact⟨⟨(k':Int),intKind_is _ _ _ _,(uQ (oJ k' h1)).symm⟩,rfl⟩
  have Qy:(intKind prog w).is (k:Int) (.int (k:Int) t)=true:=intKind_is _ _ _ _;unfold setAddHashed setAddHashedIn;refine oB (aE (wpAny_setState_of ho rfl HL ?_));dsimp only;rw[byScan_of (knd:=intKind prog w) (x:=.int (k:Int) t) rfl hb X9];simp only[↓reduceIte];unfold setAddByScan;refine aE ?_;refine aE (wpAny_rule ?_);refine aE (wpAny_setScan_of (knd:=intKind prog w) Qy ho rfl HL X9 ?_);cases hr:List.findIdx? (fun e=>(intKind prog w).is (k:Int) e.2) es.toList with
  |some j =>
   dsimp only;obtain⟨hj,hpj,_⟩:=List.findIdx?_eq_some_iff_getElem.mp hr;obtain⟨k',t',h1,h2⟩:=he.mem _ (List.getElem_mem hj);rw[h2] at hpj;have hkk:k=k':=by have S5:Value.isInt (k:Int) (Value.int (k':Int) t')=true:=hpj;simp[Value.isInt] at S5;omega
   have hc:S.contains k=true:=by rw[hkk];exact xG.mpr h1
   refine bP (bP ?_);have:=h s.heap (Heap.SameBut.refl a s.heap) (by rw[az hc];exact⟨hs,es,ep,ho,he⟩) false;exact this
  |none =>
   dsimp only;have hc:S.contains k=false:=by
     cases hc:S.contains k with
     |false=>rfl
     |true=>obtain⟨t',q⟩:=he.X8 k (xG.mp hc);have:=List.findIdx?_eq_none_iff.mp hr _ q;rw[intKind_is] at this;cases this
   rw[ax (by rw[hc];exact eT)] at h;obtain⟨l1,l2,l3,l4,l5,l6,l7⟩:=GP (led:=led) hs hk hc;have yx:(SetTable.insertAt es (lo S k) ((k:Int),Value.int (k:Int) t)).size=S.length+1:=by rw[←je,SetTable.toList_insertAt];have h1:=he.len;rw[lZ,eW,List.length_take,List.length_drop,h1];omega
   have hL:layNew (tb led S) es (hashInt (k:Int)) (.int (k:Int) t)=(SetTable.insertAt es (lo S k) ((k:Int),Value.int (k:Int) t),tp led S (ins S k),false,false):=by unfold layNew;rw[uQ hk,l1];dsimp only;rw[l2];dsimp only;unfold SetTable.orStandIn;rw[yx,l3];rfl
   rw[hL];dsimp only;have Wy:Ent (SetTable.insertAt es (lo S k) ((k:Int),Value.int (k:Int) t)).toList (ins S k):=by rw[SetTable.toList_insertAt,←Rx hs hk hc];exact Ent.ins ⟨t,rfl⟩ _ he
   generalize SetTable.insertAt es (lo S k) ((k:Int),Value.int (k:Int) t)=Fd at yx Wy⊢;refine aE (bP ?_);refine aE ?_;rw[hashByValue_scannable 8 rfl];refine bP ?_;rw[show plainKind (Value.int (k:Int) t)=true from rfl];simp only[↓reduceIte,Bool.not_false,Bool.true_and];have hz:Fd.size≤sizeLine:=by rw[yx,fU];omega
   refine aE (wpAny_storeSet_of ho rfl ?_ hz);have Rz:=pG s.heap a (Obj.putSet Fd (tp led S (ins S k)));have RA:(s.heap.update a (Obj.putSet Fd (tp led S (ins S k)))).get? a=some { cls:=.type "set",dict:=none,data:=.set Fd (ep+1) (tp led S (ins S k)) }:=by exact sZ _ ho rfl
   rw[l4];by_cases h4:S.length=4
   · rw[az (by rw[h4];rfl)];obtain⟨r1,r2⟩:=AA (led:=led) hs hk hc h4;have h5:Fd.size=5:=by omega
     have hm:Fd.map (·.1)=((ins S k).map fun(i:Nat)=>(i:Int)).toArray:=by rw[←Wy.fst,←Array.toList_map]
     have hR:relayAll (tp led S (ins S k)) Fd (SetTable.grown Fd.size)=(Fd,tb led (ins S k),false):=by
       unfold relayAll;rw[h5,hm,r1];dsimp only;have hfm:(List.range 5).toArray.filterMap (Fd[·]?)=Fd:=by have:=filterMap_getElem?_range Fd;rw[h5] at this;rw[List.filterMap_toArray,this]
       rw[hfm,h5,r2];rfl
     rw[hR];dsimp only;refine aE (bP ?_);refine aE (wpAny_storeSet_of RA rfl ?_ hz);refine bP (bP (h _ (Rz.trans (pG _ a _)) ⟨l5,Fd,ep+1+1,?_,Wy⟩ _));exact sZ _ RA rfl
   · rw[ax (by simpa using h4)];have e:tp led S (ins S k)=tb led (ins S k):=by
       unfold tp tb;rw[l6];by_cases h5:S.length<5
       ·rw[az h5,az (by omega:S.length+1<5),az h5,az (by omega:S.length+1<5)]
       ·rw[ax h5,ax (by omega:¬ S.length+1<5),ax h5,ax (by omega:¬ S.length+1<5)]
     rw[e] at RA Rz⊢;exact bP (bP (h _ Rz ⟨l5,Fd,ep+1,RA,Wy⟩ _))
end
def GQ(val:Nat→Nat):Nat→List Nat
  |0=>[]
  |i+1=>if (GQ val i).contains (val i)=true then GQ val i else ins (GQ val i) (val i)
def xn(w:World):Bool:=w.params.followText "set-order"
section
variable {prog:Program} {w:World} {A:Around} {R:Result→Shared→Prop} {I:Addr} {fp wr:List Addr} {G:Array GenState→Array GenState→Prop} {n:Nat} {P:Nat→Value→Prop} {St:Nat→Shared→Prop}
theorem SN.kept(x:SN h a led S)(k:∀o,h.get? a=some o→h'.get? a=some o):SN h' a led S:=by obtain⟨h1,es,ep,ho,he⟩:=x;exact⟨h1,es,ep,k _ ho,he⟩
theorem Np(W:WalksS prog w A.in1 I fp wr G n P St)(S:Addr)(L6:S∉fp)(led:Bool)(val:Nat→Nat)(yy:∀i v,P i v→val i<6∧∃t,v=.int (val i:Int) t):∀(k i:Nat) (s:Shared),n-i=k→i≤n→St i s→SN s.heap S led (GQ val i)→(∀s',Moved (S::wr) G s s'→SN s'.heap S led (GQ val n)→R (.ok (.ret .none)) s')→codeAny (model prog w) A (.builtin "set.update.loop" ⟨[.ref S,.ref I],[]⟩) R s:=by
  have hSw:S∉wr:=fun h=>L6 (W.sub _ h);have Aa:∀b∈wr,b∈S::wr:=fun b hb=>ef _ hb;intro k;induction k with
  |zero =>
   intro i s hk hi xS hS hR;obtain rfl:i=n:=by omega
   refine codeAny_builtin PyProof.Rows.F.entry_set_update_loop ?_;rw[Around.under_plainId FV _];show wpAny _ A.in1 (pyNext (.ref I)>>=_) _ _ s;refine aE (W.done s _ _ xS fun s' hm=>?_);show wpAny _ A.in1 (ret Value.none) _ _ s';exact bP (hR s' (hm.mono Aa) (hS.kept fun o e=>hm.heap S o hSw e))
  |succ k ih =>
   intro i s hk hi xS hS hR;have dQ:i<n:=by omega
   refine codeAny_builtin PyProof.Rows.F.entry_set_update_loop ?_;rw[Around.under_plainId FV _];show wpAny _ A.in1 (pyNext (.ref I)>>=_) _ _ s;refine aE (W.item i s _ _ dQ xS fun v s' hP Yb hm=>?_);obtain⟨h6,t,rfl⟩:=yy i v hP;have U0:SN s'.heap S led (GQ val i):=hS.kept fun o e=>hm.heap S o hSw e;show wpAny _ A.in1 (holding [Value.int (val i:Int) t] (setAdd S (.int (val i:Int) t))>>=_) _ _ s';refine aE (oB ?_);unfold setAdd;refine oB ?_;refine aE ((intKind prog w).pyHash (k:=(val i:Int)) (intKind_is _ _ _ _) ?_);refine Ry (s:={ s' with toks:=s'.toks+1 }) h6 U0 fun h' hsb RB b=>?_;refine bP ⟨plainId_quiet FV _,ih (i+1) _ (by omega) dQ (W.frame _ s' _ _ Yb (Nat.le_succ _) fun b hb o e=>?_) RB fun tD Yc Yd=>?_⟩
   ·rw[hsb.2 b (fun h:b=S=>L6 (by rw[←h];exact hb))];exact e
   ·refine hR tD (Moved.trans W.gtrans ((hm.mono Aa).then_heap (Nat.le_succ _) fun b o hb e=>?_) Yc) Yd;rw[hsb.2 b (fun h:b=S=>hb (by rw[h];exact eR))];exact e
end
section
variable {prog:Program} {w:World} {A:Around} {E:ic} {s:Shared}
theorem Nq(a:Value){Q₁:ic}(h:Q₁ (.ref s.heap.objs.size) { s with heap:=s.heap.push { cls:=.type "set",dict:=none,data:=.set #[] 0 (.fresh 0 0 (!xn w)) } }):codeAny (model prog w) A (.call (.builtin "set.__new__") ⟨[.type "set",a],[]⟩) (wants Q₁ E) s:=by
  refine codeAny_of_tree ?_;show wpAny _ A.in1 (do checkBuiltinCall "set.__new__" ⟨[.type "set",a],[]⟩;again (.builtin "set.__new__" ⟨[.type "set",a],[]⟩)) _ _ s;refine aE (wpAny_of_eq (PySem.F.newCall_set_1 a) (bP ⟨plainId_quiet PySem.F.plain_set_new _,codeAny_builtin PySem.F.entry_set_new ?_⟩));rw[Around.under_plainId PySem.F.plain_set_new _];unfold Builtin.«set.__new__» Builtin.Frozenset.newClass;have Aa:=sub_set_self;obtain⟨hp,g,d,tk,os⟩:=s;dsimp only
  wp_walk
  refine wpAny_askSetting (bP ?_);dsimp only;simp only[newObj];refine aE (wpAny_alloc (bP ?_));exact bP h
theorem CM{l:Addr}{val:Nat→Nat}(hh:A.handled=none)(hl:s.heap.IsList l items)(yy:∀i v,items[i]?=some v→val i<6∧∃t,v=.int (val i:Int) t)(h:∀(h':Heap) (tk:Nat),SN h' s.heap.objs.size (!xn w) (GQ val items.size)→(∀b o,b<s.heap.objs.size→s.heap.get? b=some o→h'.get? b=some o)→Q (.ref s.heap.objs.size) { s with heap:=h',toks:=tk }):wpAny (model prog w) A (call (.type "set") [.ref l]) Q E s:=by
  obtain⟨c,tl,Ye⟩:=nL.mro;have aa2:=nL.made;have Aa:=nL.sub;refine wpAny_call (codeAny_of_tree ?_);show wpAny _ _ (callAny (.type "set") _) _ _ _;refine bP ⟨Code.quiet_builtin _ (by decide +kernel),codeAny_builtin PySem.F.entry_type_call ?_⟩;rw[Around.under_plain (weight_type_call_type "set" [.ref l] []) rfl];have h1:=nL.notType;have h2:=nL.canCreate;have hct:=PySem.F.typeCall_set_1 (.ref l)
  repeat (any_goals (first|assumption|wp_step))
  generalize Yg:(!xn w)=led at h;refine codeAny_mono (Nq (.ref l) (E:=E) (Q₁:=fun obj s₁=>obj=.ref s.heap.objs.size∧s₁={ s with heap:=s.heap.push { cls:=.type "set",dict:=none,data:=.set #[] 0 (.fresh 0 0 led) } }) (by rw[Yg];exact⟨rfl,rfl⟩)) fun r s₁ hr=>?_;cases r with
  |error e=>exact hr
  |ok fl =>
   cases fl with
   |ret obj =>
    obtain⟨rfl,rfl⟩:=hr;have hS:(s.heap.push { cls:=.type "set",dict:=none,data:=.set #[] 0 (.fresh 0 0 led) }).get? s.heap.objs.size=some { cls:=.type "set",dict:=none,data:=.set #[] 0 (.fresh 0 0 led) }:=iE _ rfl;have hT:Shared.TypeIs { s with heap:=s.heap.push { cls:=.type "set",dict:=none,data:=.set #[] 0 (.fresh 0 0 led) } } (.ref s.heap.objs.size) "set":=⟨_,hS,rfl⟩
    have hli:=nL.init.lookup;have hbi:=nL.init.bind (.ref s.heap.objs.size)
    repeat (any_goals (first|assumption|wp_step))
    refine codeAny_mono (codeAny_call_builtin (R:=wants (fun r s₂=>r=.none∧∃h' tk,s₂={ s with heap:=h',toks:=tk }∧SN h' s.heap.objs.size led (GQ val items.size) ∧
        (∀b o,b<s.heap.objs.size→s.heap.get? b=some o→h'.get? b=some o)) E) nL.init.plain PySem.F.entry_set_init (check_set_init_1 hT ?_)) fun r₂ s₂ Yh=>?_
    · obtain⟨ol,S6,Wn,nl,MC⟩:=hl;obtain⟨adj,U1,aa3,RC⟩:=ol;simp only at Wn MC;subst Wn;subst MC;have Yi:(s.heap.push { cls:=.type "set",dict:=none,data:=.set #[] 0 (.fresh 0 0 led) }).get? l=some { cls:=.type "list",dict:=U1,data:=.seq items nl,slots:=RC }:=dC _ S6;have adk:=PySem.F.sub_list_set;have adl:=PySem.F.sub_list_frozenset;have kU:(Value.type "list"==Value.type "dict")=false:=by decide
      have oM:(s.heap.push { cls:=.type "set",dict:=none,data:=.set #[] 0 (.fresh 0 0 led) }).IsList l items:=⟨_,Yi,rfl,nl,rfl⟩
      unfold Builtin.«set.__init__» noKeywords Builtin.Frozenset.updateFrom;generalize hPI:pyIter=PI
      wp_walk
      subst hPI;refine wpAny_pyIter_list oM ?_;refine aE (wpAny_runValue ?_);have hlS:l<s.heap.objs.size:=bG S6;have hh3:A.in1.in1.in1.handled=none:=by simp[hh]
      have Yj:l≠(s.heap.push { cls:=.type "set",dict:=none,data:=.set #[] 0 (.fresh 0 0 led) }).objs.size:=by rw[kz];exact dP (Nat.lt_succ_of_lt hlS)
      have L6:s.heap.objs.size∉[(s.heap.push { cls:=.type "set",dict:=none,data:=.set #[] 0 (.fresh 0 0 led) }).objs.size,l]:=by rw[kz];simp only[dc,xH,wc,or_false,not_or];exact⟨dP (Nat.lt_succ_self _),mq hlS⟩
      refine Np ((Walks.list hh3 _ l Yj items).toS) s.heap.objs.size L6 led val yy (items.size-0) 0 _ (by omega) (ik _)
        ⟨⟨_,iE _ rfl,rfl,rfl⟩,(oM.push _)⟩ ?hS0 ?hR
      case hS0=>exact⟨(by decide +kernel:([]:List Nat)∈subs),#[],0,dC _ hS,.nil⟩
      case hR =>
        intro s' hm U0;obtain⟨h',g',d',tk',Xi⟩:=s';have eg:g'=s.gens:=hm.gens;have ed:d'=s.drawn:=hm.drawn;have eo:Xi=s.os:=hm.os;subst eg;subst ed;subst eo;show wpAny _ _ _ _ _ _;refine bP ?_;show wpAny _ _ (ret Value.none) _ _ _;refine bP ⟨rfl,h',tk',rfl,U0,fun b o hb e=>?_⟩;have hb1:b≠s.heap.objs.size:=dP hb;have XZ:b≠(s.heap.push { cls:=.type "set",dict:=none,data:=.set #[] 0 (.fresh 0 0 led) }).objs.size:=by rw[kz];exact dP (Nat.lt_succ_of_lt hb)
        exact hm.heap b o (by simp only[dc,xH,wc,or_false,not_or];exact⟨hb1,XZ⟩) (dC _ (dC _ e))
    · cases r₂ with
      |error e=>exact Yh
      |ok fl₂ =>
       cases fl₂ with
       |ret r =>
        obtain⟨rfl,h',tk,rfl,U0,HM⟩:=Yh
        repeat (any_goals (first|assumption|wp_step))
        exact h _ _ U0 HM
       |_=>exact Yh
   |_=>exact hr
end
theorem iT:Slot "set_iterator" "__next__" "set_iterator.__next__" :=
  .of (owner:="set_iterator") (n:="__next__") (by rw[typeLookup_type,builtinLookup_eq_fast];kernel_rfl) (by decide +kernel) (by decide +kernel) (by decide +kernel)
    (by first|exact .inl (by decide +kernel)|exact .inr (by decide +kernel)) (by rw[isSubtype_type];kernel_rfl)
theorem wG:entryFor table "set_iterator.__next__"=some Builtin.«set_iterator.__next__»:=entryFor_of_tree (by kernel_rfl)
theorem AF:Manifest.owners.lookup (String.ofList ['r','o','t','a','r','e','t','i','_','t','e','s'].reverse)=some Manifest.sig_set_iterator:=by kernel_rfl
theorem yz(a:Value):argsOk "set_iterator.__next__" ⟨[a],[]⟩:=by unfold argsOk;rw[signature?_of (id:="set_iterator.__next__") (n:=['_','_','t','x','e','n','_','_']) (o:=['r','o','t','a','r','e','t','i','_','t','e','s']) (by kernel_rfl) AF];kernel_rfl
theorem qp:Slot "set_iterator" "__iter__" "set_iterator.__iter__" :=
  .of (owner:="set_iterator") (n:="__iter__") (by rw[typeLookup_type,builtinLookup_eq_fast];kernel_rfl) (by decide +kernel) (by decide +kernel) (by decide +kernel)
    (by first|exact .inl (by decide +kernel)|exact .inr (by decide +kernel)) (by rw[isSubtype_type];kernel_rfl)
theorem wH:entryFor table "set_iterator.__iter__"=some Builtin.«dict_keyiterator.__iter__» :=
  entryFor_alias (id':="dict_keyiterator.__iter__") (by kernel_rfl) rfl (by decide +kernel) (by kernel_rfl)
theorem yA(a:Value):argsOk "set_iterator.__iter__" ⟨[a],[]⟩:=by unfold argsOk;rw[signature?_of (id:="set_iterator.__iter__") (n:=['_','_','r','e','t','i','_','_']) (o:=['r','o','t','a','r','e','t','i','_','t','e','s']) (by kernel_rfl) AF];kernel_rfl
theorem uR:entryFor table "set.__iter__"=some Builtin.«frozenset.__iter__» :=
  entryFor_alias (id':="frozenset.__iter__") (by kernel_rfl) rfl (by decide +kernel) (by kernel_rfl)
theorem uS{α:Type}:∀(l:List α) (j:Nat) (h:j<l.length),(l[j]::l.eraseIdx j).Perm l
  |x::r,0,_=>.refl _
  |x::r,j+1,h=>by
   have hj:j<r.length:=by simpa using h
   show(r[j]::x::r.eraseIdx j).Perm (x::r);exact(List.Perm.swap x r[j] (r.eraseIdx j)).trans (.cons x (uS r j hj))
theorem Fe{α:Type}(next:Nat→Nat):∀(fuel k:Nat) (left:List α) (out:Array α),left.length≤fuel→(pickOrder.go next fuel k left out).toList.Perm (out.toList++left)
  |0,k,[],out,_=>by unfold pickOrder.go;simp
  |0,k,x::r,out,h=>by simp at h
  |fuel+1,k,[],out,_=>by unfold pickOrder.go;simp
  |fuel+1,k,x::r,out,h=>by unfold pickOrder.go;have dQ:next k%(x::r).length<(x::r).length:=Nat.mod_lt _ (by simp);rw[eQ dQ];dsimp only;refine(Fe next fuel (k+1) _ _ (by rw[List.length_eraseIdx_of_lt dQ];omega)).trans ?_;rw[Array.toList_push,List.append_assoc];refine List.Perm.append_left _ ?_;exact uS _ _ dQ
theorem GR{α:Type}(next:Nat→Nat)(xs:Array α):(pickOrder next xs).toList.Perm xs.toList:=by unfold pickOrder;have:=Fe next xs.size 0 xs.toList #[] (by simp);simpa using this
def ord(w:World)(a:Addr)(es:Array (Int×Value))(ep:Nat):Array (Int×Value):=if xn w=true then pickOrder (w.params.setOrder a ep) es else es
theorem AG(w:World)(a:Addr)(es:Array (Int×Value))(ep:Nat):(ord w a es ep).toList.Perm es.toList:=by
  unfold ord;split
  ·exact GR _ _
  ·exact .refl _
theorem uT(w:World)(a:Addr)(es:Array (Int×Value))(ep:Nat):(ord w a es ep).size=es.size:=by rw[←je,(AG w a es ep).length_eq,je]
def at'(S:List Nat)(i:Nat):Nat:=if i=0 then 0 else S.getD (i-1) 0+1
theorem below_at(h:S∈subs)(hi:i≤S.length):SetTable.below (tb led S).place (at' S i)=i:=by have h6:=(kH (led:=led) h).2.1;have:=eX.mp (eX.mp (eX.mp J5 led (tY led)) S h) i (ml.mpr (by omega));rw[show decide (i>S.length)=false from gQ (by omega),Bool.false_or] at this;exact eq_of_beq this
def AH(h:Heap)(it a:Addr)(slot i n ep:Nat):Prop:=∃o,h.get? it=some o∧o.cls=.type "set_iterator"∧o.data=.fields #[.int slot 0,.int i 0,.ref a,.int n 0,.int ep 0]
theorem AH.typeIs{it a slot i n ep}(x:AH s.heap it a slot i n ep):s.TypeIs (.ref it) "set_iterator":=let ⟨o,ho,hc,_⟩:=x;⟨o,ho,hc⟩
def Tb(h:Heap)(a:Addr)(led:Bool)(S:List Nat)(es:Array (Int×Value))(ep:Nat):Prop:=h.get? a=some { cls:=.type "set",dict:=none,data:=.set es ep (tb led S) }
section
variable {prog:Program} {w:World} {A:Around} {E:ic} {s:Shared} {it a:Addr} {S:List Nat} {es:Array (Int×Value)} {ep i slot:Nat}
theorem Ka{Q:Option (Value×Nat)→Shared→Prop}(hs:S∈subs)(he:Ent es.toList S)(hS:Tb s.heap a (!xn w) S es ep)(hi:i≤es.size)(hsl:xn w=false→slot=at' S i)(h:∀kI,(xn w=false→kI=at' S (i+1))→Q (((ord w a es ep)[i]?).map fun e=>(e.2,kI)) s):wpAny (model prog w) A (setNext a slot i ep) Q E s:=by
  have hlen:es.size=S.length:=by rw[←je];exact he.len
  have HL:(tb (!xn w) S).fits es.size=true:=by rw[hlen];exact(kH hs).1
  unfold setNext;refine aE (wpAny_setState_of hS rfl HL ?_);dsimp only;unfold setsByText;refine aE (aE (wpAny_askSetting (bP ?_)));dsimp only;by_cases hb:xn w=true
  ·rw[az (show(model prog w).w.params.followText "set-order"=true from hb),ax (by simp)];refine aE ?_;unfold setWalk;refine aE (wpAny_setState_of hS rfl HL ?_);dsimp only;unfold setsByText;refine aE (aE (wpAny_askSetting (bP ?_)));dsimp only;rw[az (show(model prog w).w.params.followText "set-order"=true from hb)];refine aE (wpAny_askSetting (bP ?_));have:=h slot (fun q=>by rw[hb] at q;cases q);unfold ord at this;rw[az hb] at this;exact bP this
  · have Bz:xn w=false:=by simpa using hb
    rw[ax (show ¬ (model prog w).w.params.followText "set-order"=true from hb)];refine wpAny_ite_split (fun m8=>absurd m8 eT) (fun _=>?_);rw[Bz] at hS HL⊢;refine aE (bP ?_);rw[hsl Bz,below_at hs (by omega)];have U2:ord w a es ep=es:=by unfold ord;rw[ax hb]
    refine bP ?_;by_cases dQ:i<es.size
    · have:=h (at' S (i+1)) (fun _=>rfl);rw[U2,uh dQ] at this;rw[uh dQ];have hp:(tb (!false) S).place[i]?=some (S.getD i 0):=by
        show S.toArray[i]?=_;rw[List.getElem?_toArray,jd,eQ (by omega)];rfl
      rw[hp];exact this
    ·have:=h (at' S (i+1)) (fun _=>rfl);rw[U2,BM (by omega)] at this;rw[BM (by omega)];exact this
theorem tZ{Q:fQ→Shared→Prop}(hh:A.handled=none)(hs:S∈subs)(he:Ent es.toList S)(hS:Tb s.heap a (!xn w) S es ep)(hi:i≤es.size)(hsl:xn w=false→slot=at' S i)(hit:AH s.heap it a slot i es.size ep)(hQ:∀e kI h',(ord w a es ep)[i]?=some e→(xn w=false→kI=at' S (i+1))→AH h' it a kI (i+1) es.size ep→Heap.ExtBut it s.heap h'→Q (some e.2) { s with heap:=h' })(hN:∀h',(ord w a es ep)[i]?=none→Heap.ExtBut it s.heap h'→Q none { s with heap:=h' }):wpAny (model prog w) A (pyNext (.ref it)) Q E s:=by
  obtain⟨o,ho,hc,hd⟩:=id hit;have hlen:es.size=S.length:=by rw[←je];exact he.len
  have HL:(tb (!xn w) S).fits es.size=true:=by rw[hlen];exact(kH hs).1
  unfold pyNext;refine aE (wpAny_attempt (ui (name:=Str.ofString "__next__") hit.typeIs iT
    (md iT hit.typeIs wG ?_ (yz _))))
  unfold Builtin.«set_iterator.__next__»;refine aE (bP ?_);refine aE (wpAny_fieldsOf ho hd ?_);dsimp only;refine aE (wpAny_setEntries_of hS rfl HL ?_);rw[ax (by simp)];show wpAny _ _ (setNext a ((slot:Int).toNat) ((i:Int).toNat) ((ep:Int).toNat)>>=_) _ _ s;rw[nM,nM,nM];refine aE (Ka hs he hS hi hsl fun kI h1=>?_);cases hx:(ord w a es ep)[i]? with
  |some e =>
   show wpAny _ _ (setField (.ref it) 0 (rawInt kI)>>=_) _ _ s;refine aE (wpAny_setField ho hd (by simp) ?_);have hg1:=sZ (Obj.mapFields fun x=>x.setIfInBounds 0 (rawInt (kI:Int))) ho (Obj.isFreed_of_fields (v9 hd _));have U3:=v9 hd (fun x=>x.setIfInBounds 0 (rawInt (kI:Int)));refine aE (wpAny_setField hg1 U3 (by simp) ?_);refine bP ⟨_,rfl,bP (hQ e kI _ hx h1 ⟨_,sZ _ hg1 (Obj.isFreed_of_fields (v9 U3 _)),?_,?_⟩ ?_)⟩
   ·exact(Obj.cls_mapFields ..).trans ((Obj.cls_mapFields ..).trans hc)
   ·rw[v9 U3];simp[rawInt]
   ·exact((pG ..).trans (pG ..)).extBut
  |none=>show wpAny _ _ (setField (.ref it) 2 .none>>=_) _ _ s;refine aE (wpAny_setField ho hd (by simp) ?_);show wpAny _ _ (newExc (.type "StopIteration") []>>=_) _ _ _;refine aE ?_;simp only[newExc,newTuple];refine aE (uj ?_ (by size_fits));refine aE (m:=firstArgMember _ _) (wpAny_of_eq (a:=Value.none) (by first|rfl|(simp only[firstArgMember];rfl)) ?_);refine uj ?_ (by size_fits);simp only[raiseNew];refine aE (wpAny_handled ?_);rw[show A.in1.handled=none from hh];refine aE (bP (wpAny_throw ?_));refine aE (wpAny_isInstance (T:="StopIteration") (b:=true) ⟨_,iE _ rfl,rfl⟩ isSubtype_stop ?_);exact bP (hN _ hx (((pG ..).extBut.push _).push _))
theorem AH.at{it a slot i n ep}(x:AH h it a slot i n ep)(e:∀o,h.get? it=some o→h'.get? it=some o):AH h' it a slot i n ep:=let ⟨o,ho,r⟩:=x;⟨o,e _ ho,r⟩
def StS(w:World)(it a:Addr)(S:List Nat)(es:Array (Int×Value))(ep:Nat)(i:Nat)(h:Heap):Prop:=(∃slot,(xn w=false→slot=at' S i)∧AH h it a slot i es.size ep)∧Tb h a (!xn w) S es ep
theorem GU(hh:A.handled=none)(it a:Addr)(kU:a≠it)(hs:S∈subs)(he:Ent es.toList S) :
    Walks prog w A it [it,a] [it] es.size (fun i v=>∃e,(ord w a es ep)[i]?=some e∧v=e.2) (StS w it a S es ep) where
  sub:=fun b hb=>by simp at hb;simp[hb]
  frame:=fun i h h' ⟨⟨slot,h1,h2⟩,h3⟩ hk=>⟨⟨slot,h1,h2.at fun o e=>hk it (by simp) o e⟩,hk a (by simp) _ h3⟩
  item:=fun i s Q E hi ⟨⟨slot,h1,h2⟩,h3⟩ hQ=>by
    refine tZ hh hs he h3 (by omega) h1 h2 (fun e kI h' hx hsl uw PN=>?_) (fun h' hx _=>?_)
    ·exact hQ e.2 h' s.toks ⟨e,hx,rfl⟩ ⟨⟨kI,hsl,uw⟩,PN a _ kU h3⟩ fun b o hb e=>PN b o (fun h=>hb (by simp[h])) e
    ·rw[Array.getElem?_eq_none_iff,uT] at hx;omega
  done:=fun s Q E ⟨⟨slot,h1,h2⟩,h3⟩ hQ=>by
    refine tZ hh hs he h3 (bJ _) h1 h2 (fun e kI h' hx hsl uw PN=>?_) (fun h' hx U4=>hQ h' s.toks fun b o hb e=>U4 b o (fun h=>hb (by simp[h])) e);have:(ord w a es ep)[es.size]?=none:=by rw[Array.getElem?_eq_none_iff,uT];exact bJ _
    rw[this] at hx;cases hx
  self:=fun i s Q E ⟨⟨slot,h1,hit⟩,h3⟩ h=>by refine wpAny_pyIter_slot hit.typeIs qp (md qp hit.typeIs wH ?_ (yA _));show wpAny _ _ (ret (.ref it)) _ _ s;exact bP ⟨_,rfl,"set_iterator",_,hit.typeIs,iT.lookup,h⟩
theorem Kc(hs:S∈subs)(he:Ent es.toList S)(hS:Tb s.heap a (!xn w) S es ep)(hQ:Q (.ref s.heap.objs.size) { s with heap:=s.heap.push { cls:=.type "set_iterator",data:=.fields #[.int 0 0,.int 0 0,.ref a,.int es.size 0,.int ep 0] } }):wpAny (model prog w) A (pyIter (.ref a)) Q E s:=by
  have hT:s.TypeIs (.ref a) "set":=⟨_,hS,rfl⟩
  have hlen:es.size=S.length:=by rw[←je];exact he.len
  have HL:(tb (!xn w) S).fits es.size=true:=by rw[hlen];exact(kH hs).1
  refine wpAny_pyIter_slot hT PySem.F.slot_set_iter (md PySem.F.slot_set_iter hT uR ?_ (PySem.F.args_set_iter_1 _));unfold Builtin.«frozenset.__iter__»;refine aE (bP ?_);refine aE ?_;unfold Builtin.Frozenset.sizeOf;refine aE (wpAny_setEntries_of hS rfl HL (bP ?_));refine aE ?_;refine aE (wpAny_setState_of hS rfl HL ?_);dsimp only;unfold setsByText;refine aE (aE (wpAny_askSetting (bP ?_)));refine bP ?_;refine wpAny_ite_split (fun m8=>absurd m8 (by show ¬ ((_&&(false&&_))=true);rw[Bool.false_and,Bool.and_false];exact eT)) (fun _=>?_);refine aE (bP ?_);refine aE (wpAny_setEpoch_of hS rfl HL ?_);refine aE (uj (bP ⟨_,rfl,"set_iterator",_,⟨_,iE _ rfl,rfl⟩,iT.lookup,?_⟩));simpa[rawInt] using hQ
end
end NS
namespace NS
open PySem PySem.Spec PySem.Calls PySem.W
open PyProof.Rows hiding St pairAt
def ck7:Bool:=subs.all fun S=>S==(List.range 6).filter S.contains
theorem Kd:ck7=true:=by decide +kernel
theorem CN(h:S∈subs):S=(List.range 6).filter S.contains:=eq_of_beq (eX.mp Kd S h)
theorem Nr:j∈ins S k↔j=k∨j∈S:=by
  unfold ins;simp only[mh,List.mem_filter,dc,decide_eq_true_eq];constructor
  · rintro(h|h|h)
    ·exact .inr h.1
    ·exact .inl h
    ·exact .inr h.1
  · rintro(h|h)
    ·exact .inr (.inl h)
    · rcases Nat.lt_trichotomy j k with q|q|q
      ·exact .inl ⟨h,q⟩
      ·exact .inr (.inl q)
      ·exact .inr (.inr ⟨h,q⟩)
theorem Ff{val:Nat→Nat}{j:Nat}:∀{n:Nat},j∈GQ val n↔∃i,i<n∧val i=j
  |0=>by simp[GQ]
  |n+1=>by
   have ih:=Ff (val:=val) (j:=j) (n:=n);unfold GQ;split
   · rename_i h;rw[ih];constructor
     ·rintro⟨i,h1,h2⟩;exact⟨i,by omega,h2⟩
     · rintro⟨i,h1,h2⟩;by_cases e:i=n
       ·subst e;have:=xG.mp h;rw[h2] at this;exact ih.mp this
       ·exact⟨i,by omega,h2⟩
   · rw[Nr,ih];constructor
     · rintro(h|⟨i,h1,h2⟩)
       ·exact⟨n,by omega,h.symm⟩
       ·exact⟨i,by omega,h2⟩
     · rintro⟨i,h1,h2⟩;by_cases e:i=n
       ·subst e;exact .inl h2.symm
       ·exact .inr ⟨i,by omega,h2⟩
def nameSet(ns:bL):List Nat:=(List.range 6).filter fun k=>ns.contains (k:Int)
theorem RD(hs:GQ (fun i=>(ns.getD i 0).toNat) ns.length∈subs)(h0:∀n∈ns,0≤n∧n<6):GQ (fun i=>(ns.getD i 0).toNat) ns.length=nameSet ns:=by
  rw[CN hs];unfold nameSet;refine List.filter_congr fun k hk=>?_;rw[pJ,xG,xG,Ff];constructor
  · rintro⟨i,h1,h2⟩;rw[jd,eQ h1] at h2;have hm:=List.getElem_mem h1;have:=h0 _ hm;have e:ns[i]=(k:Int):=by simp at h2;omega
    rw[←e];exact hm
  ·intro hm;obtain⟨i,h1,h2⟩:=List.getElem_of_mem hm;refine⟨i,h1,?_⟩;rw[jd,eQ h1,h2];simp
def ck8:Bool:=subs.all fun S=>decide ((S.map fun(i:Nat)=>(i:Int)).Pairwise (·≤·))
theorem Ke:ck8=true:=by decide +kernel
section
variable {prog:Program} {w:World} {A:Around} {E:ic} {s:Shared} {a:Addr} {S:List Nat} {es:Array (Int×Value)} {ep:Nat}
theorem Kf{Q:Bool→Shared→Prop}(hT:s.TypeIs (.ref a) "set")(h:Q false s):wpAny (model prog w) A (Builtin.List.listLengthHint (.ref a)) Q E s:=by
  unfold Builtin.List.listLengthHint;refine aE (wpAny_specialOf hT PySem.F.slot_set_len.lookup ?_);generalize cR:("set.__len__":String)=id0
  wp_delta
  rw[show splitId id0=some ("set","__len__") from by subst cR;decide +kernel];subst cR;refine aE (wpAny_isInstance (T:="set") (b:=true) hT (by rw[isSubtype_type];kernel_rfl) ?_);refine wpAny_ite_split (fun m8=>absurd m8 (by decide)) (fun _=>?_);refine wpAny_ite_split (fun _=>?_) (fun m8=>absurd (by decide +kernel) m8);refine aE (wpAny_typeOf hT ?_);exact bP h
theorem Nt(hs:S∈subs)(he:Ent es.toList S):KdlSrc prog w "set" a a es.size (fun i v=>∃e,(ord w a es ep)[i]?=some e∧v=e.2) (fun h=>Tb h a (!xn w) S es ep) where
  type:=fun _ hm=>⟨_,hm,rfl⟩
  there:=fun _ hm=>⟨bG hm,bG hm⟩
  keep:=fun _ _ hm hk=>hk a (.inl rfl) _ hm
  notList:=by decide
  notTuple:=by decide
  hint:=fun _ _ _ _ hm hq=>Kf ⟨_,hm,rfl⟩ hq
  iter:=fun _ s hh hm=>⟨_,_,(fun _ _ hq=>Kc hs he hm hq),GU hh _ a (dP (bG hm)) hs he,⟨⟨0,fun _=>rfl,_,iE _ rfl,rfl,rfl⟩,dC _ hm⟩⟩
theorem GV{l':List (Int×Value)}(hp:l'.Perm l)(he:Ent l S):∃ns:bL,IntsAre (l'.map (·.2)) ns∧ns.Perm (S.map fun(i:Nat)=>(i:Int)):=by
  have key:∀(q:List (Int×Value)),(∀e∈q,∃t:Tok,e.2=.int e.1 t)→IntsAre (q.map (·.2)) (q.map (·.1)):=by
    intro q;induction q with
    |nil=>intro _;exact .nil
    |cons x r ih=>intro h;obtain⟨t,e⟩:=h x eR;rw[cD,cD,e];exact .cons _ t (ih fun e he=>h e (ef _ he))
  refine⟨l'.map (·.1),key l' fun e hm=>?_,?_⟩
  ·obtain⟨k,t,_,rfl⟩:=he.mem e (hp.mem_iff.mp hm);exact⟨t,rfl⟩
  ·rw[←he.fst];exact hp.map _
theorem CP(hh:A.handled=none)(hs:S∈subs)(he:Ent es.toList S)(hS:Tb s.heap a (!xn w) S es ep)(h:∀(D:Addr) (h':Heap) (tk:Nat) (out:Array Value) (e:Nat),a<D→(∀b o,s.heap.get? b=some o→h'.get? b=some o)→h'.get? D=some (seqObj "list" out e)→IntsAre out.toList (S.map fun(i:Nat)=>(i:Int))→Q (.ref D) { s with heap:=h',toks:=tk }):wpAny (model prog w) A (call (.builtin "sorted") [.ref a]) Q E s:=by
  have hlen:es.size=S.length:=by rw[←je];exact he.len
  have h6:=(kH (led:=true) hs).2.1;refine call_function_entry kind_sorted plain_sorted entry_sorted (args_sorted1 _) ?_;unfold Builtin.«sorted»;refine aE (m:=checkCount "sorted" 1 1 _) (bP ?_);refine aE (kdu_collect (A:=A.in1) (Nt hs he) hh hS (by rw[hlen,fU];omega) fun h' tk acc hk tJ=>?_);have hl:acc.toList.length=es.size:=by rw[je];exact tJ.1
  have hv:acc.toList=(ord w a es ep).toList.map (·.2):=by
    refine List.ext_getElem? fun j=>?_;rw[eU,v3,v3];cases hj:acc[j]? with
    |some v=>obtain⟨e,h1,h2⟩:=tJ.2 j v hj;rw[h1,h2];rfl
    |none=>rw[Array.getElem?_eq_none_iff] at hj;rw[BM (by rw[uT,←tJ.1];exact hj)];rfl
  obtain⟨ns,hI,hp⟩:=GV (AG w a es ep) he;rw[←hv] at hI;refine aE (wpAny_newList ?_ (by rw[hl,hlen,fU];omega));have Ph:(h'.push (seqObj "list" acc.toList.toArray 0)).get? h'.objs.size=some (seqObj "list" acc.toList.toArray 0):=iE _ rfl;show wpAny _ _ _ _ _ { s with heap:=h'.push (seqObj "list" acc.toList.toArray 0),toks:=tk };refine aE (oB (md slot_list_sort ⟨_,Ph,rfl⟩ entry_list_sort (list_sort_tree (s:={ s with heap:=h'.push (seqObj "list" acc.toList.toArray 0),toks:=tk }) Ph hI (by rw[hl,hlen];omega) fun out Pn a1 a2 a3=>⟨_,rfl,?_⟩) (args_list_sort _)));have e0:Pn=S.map fun(i:Nat)=>(i:Int):=List.Perm.eq_of_pairwise (le:=fun a b:Int=>a≤b) (fun a b _ _ h1 h2=>by omega) a3 (of_decide_eq_true (eX.mp Ke S hs)) (a2.trans hp);rw[e0] at a1;obtain⟨e,Fg⟩:=sortedHeap_at (out:=out) Ph;refine bP ⟨_,rfl,h h'.objs.size _ tk out e ?_ (fun b o q=>?_) Fg a1⟩
  ·exact bG (hk _ _ hS)
  ·have hb:=bG (hk _ _ q);rw[sortedHeap_old (dP hb) (by rw[size_push'];exact Nat.lt_succ_of_lt hb)];exact dC _ (hk _ _ q)
end
end NS
namespace DL
open PySem PySem.Spec L2 NS
open PyProof.Rows hiding St pairAt
section
variable {X:Cx} {z:Zc} {e a b:Expr} {f fa fb fk fv:EF} {fl fs:LF} {pos p p' pos':Pos} {g:SF} {st:Stmt} {es:List Expr} {ms:List Bool} {te:TE}
def tSS(K:PySem.W.Frag)(te:TE):TE:=fun σ H Q=>te σ H fun x H1=>∃a ns,x=.ref a∧eY K H1 a (ns.map V.int)∧(∀n∈ns,0≤n∧n<6)∧∀l,H1 l=none→Q (.ref l) (upd H1 l (.lst ((nameSet ns).map fun(k:Nat)=>V.int (k:Int))))
theorem AI{vs:cA}(h:IntsAre vs ns):∀(i:Nat) (v:Value),vs[i]?=some v→ns.getD i 0∈ns∧∃t,v=.int (ns.getD i 0) t:=by
  induction h with
  |nil=>intro i v q;simp at q
  |cons n t r ih =>
   intro i v q;cases i with
   |zero=>simp at q;subst q;exact⟨by simp,t,by simp⟩
   |succ i=>obtain⟨h1,t',h2⟩:=ih i v (by simpa using q);exact⟨by simpa using Or.inr (by simpa using h1),t',by simpa using h2⟩
theorem CQ(hc:X.calm=true)(wI:Gl X "sorted")(nZ:X.mg "sorted"=none)(hg:Gl X "set")(hm:X.mg "set"=none)(he:PE X e te)(hs:starEach [e] X.env=(false,eval e X.env)::starEach [] X.env:=by rfl)(kx:starEach [Expr.Call (.Name "set" p') [e] [] pos'] X.env=(false,eval (.Call (.Name "set" p') [e] [] pos') X.env)::starEach [] X.env:=by rfl):PE X (.Call (.Name "sorted" p) [.Call (.Name "set" p') [e] [] pos'] [] pos) (tSS X.K te):=by
  intro pins s σ H Q I h;refine tj (gT I wI nZ xa ?_ (by decide) (by decide));refine PyProof.Rows.callWith_builtin1 ?_ kx rfl;rw[kx];show wpAny _ _ (spliced ((false,eval (.Call (.Name "set" p') [e] [] pos') X.env)::backTo pos (starEach [] X.env))) _ _ s;refine wa ?_;refine tj (gT I hg hm Ji ?_ (by decide) (by decide));refine BL ?_ hs rfl;rw[hs];show wpAny _ _ (spliced ((false,eval e X.env)::backTo pos' (starEach [] X.env))) _ _ s;refine wa (cN (he pins s σ H _ I h) fun u s1 ⟨x,H1,I1,r1,q1⟩=>?_);refine xJ ?_;obtain⟨a,ns,rfl,hq,h0,hk⟩:=q1;cases r1;obtain⟨its,rv,hl,_⟩:=I1.list hq;have hi:=intsAre_of rv;have l1:ns.length=its.length:=by have:=rv.length;simpa using this
  have hh:X.A.handled=none:=I1.ok.hd hc;refine CM (val:=fun i=>(ns.getD i 0).toNat) hh hl.isList (fun i v hv=>?_) fun h' tk hS Kg=>?_
  ·obtain⟨h1,t,rfl⟩:=AI hi i v (by simpa using hv);have:=h0 _ h1;exact⟨by omega,t,by rw[show((ns.getD i 0).toNat:Int)=ns.getD i 0 from by omega]⟩
  refine xJ ?_;rw[show its.toArray.size=ns.length from by rw[eA,l1]] at hS;obtain⟨Aa,es,ep,Yk,Yl⟩:=hS;refine CP hh Aa Yl Yk fun D h2 Ym out e hD hk2 Fg hio=>?_;rw[RD Aa h0] at hio;have oJ:∀b o,s1.heap.get? b=some o→h2.get? b=some o:=fun b o q=>hk2 b o (Kg b o (bG q) q);refine⟨.ref D,_,I1.laid (a:=D) (o:=.lst ((nameSet ns).map fun(k:Nat)=>V.int (k:Int))) (t':=Ym) oJ (nO hD) ⟨?_,out.toList,e,?_,by simpa using Fg⟩,rfl,hk _ (I1.bV.fresh (nO hD))⟩
  ·rw[bY];refine fR (List.length_filter_le _ _) ?_;rw[List.length_range,fU];omega
  ·have:=rL hio;rw[fB] at this;exact this
def oZ(f:EF):LF:=fun η=>(f η).bind fun d=>match d with
  |.lst ds=>(qe ds).bind fun ns=>if (ns.all fun n=>decide (0≤n)&&decide (n<6))=true then some ((nameSet ns).map fun(k:Nat)=>D.int (k:Int)) else none
  |_=>none
theorem AJ(hc:X.calm=true)(wI:Gl X "sorted")(nZ:X.mg "sorted"=none)(hg:Gl X "set")(hm:X.mg "set"=none)(ha:DB X z e f)(hs:starEach [e] X.env=(false,eval e X.env)::starEach [] X.env:=by rfl)(kx:starEach [Expr.Call (.Name "set" p') [e] [] pos'] X.env=(false,eval (.Call (.Name "set" p') [e] [] pos') X.env)::starEach [] X.env:=by rfl):DO X z (.Call (.Name "sorted" p) [.Call (.Name "set" p') [e] [] pos'] [] pos) (oZ f):=PE.weak (CQ hc wI nZ hg hm ha hs kx) fun σ H Q ⟨η,F,d,r,e,k⟩=>by
  unfold oZ at e;obtain⟨d',h1,e⟩:=cU.mp e;cases d' with
  |lst ds =>
   obtain⟨ns,h3,e⟩:=cU.mp e;by_cases hl:(ns.all fun n=>decide (0≤n)&&decide (n<6))=true
   · rw[az hl] at e;cases e;refine⟨η,F,_,r,h1,fun v H1 F1 g1 q1=>?_⟩;obtain⟨a,ws,rfl,h4,h5⟩:=aL.mp q1;rw[qf h3] at h5;rw[jk h5] at h4;refine⟨a,ns,rfl,h4,fun n hn=>?_,fun l UX=>?_⟩
     ·have:=eX.mp hl n hn;simpa using this
     · have hz:((nameSet ns).map fun(k:Nat)=>V.int (k:Int)).length≤sizeLine:=by
         rw[bY];refine fR (List.length_filter_le _ _) ?_;rw[List.length_range,fU];omega
       have g4:=aI.own g1.base UX (.lst ((nameSet ns).map fun(k:Nat)=>V.int (k:Int))) hz rfl;refine k l _ _ F1 (g1.trans g4) (g1.ent.free UX) (g1.base.sub.free UX) ay ?_;have:=i9 (K:=X.K) (F:=F1) ((nameSet ns).map fun(k:Nat)=>(k:Int));rw[fB,fB] at this;exact this
   ·rw[ax hl] at e;cases e
  |_=>cases e
end
end DL
namespace L2
open PySem PySem.Spec PyProof.Rows PySem.W MR
section
variable {prog:Program} {w:World} {A:Around} {E:ic} {s:Shared}
theorem uU{kS:Addr}{st:SortSt}{e e1:Nat}{out:cA}{P:PySem.Fin→Shared→Prop}(Yn:(arrOf st).map (·.2)=List.toArray out)(hz:out.length≤64)(hkz:ks.length≤64)(hf:failedOf st=none)(kU:a≠kS)(hk:s.heap.get? kS=some (seqObj "list" ks.toArray e))(ha:s.heap.get? a=some (seqObj "list" #[] e1))(h:∀h3 h4 ck c2,Heap.SameBut kS s.heap h3→h3.get? kS=some (seqObj "list" #[] ck)→Heap.SameBut a h3 h4→h4.get? a=some (seqObj "list" out.toArray c2)→P (.done (.ret .none)) { s with heap:=h4 }):wpAny (model prog w) A (ksk_tail a false e1 (.ref kS) st) P E s:=by
  have s1:=pG s.heap kS (Obj.mapSeq fun _=>(#[]:Array Value));obtain⟨ck,hck⟩:∃ck,(s.heap.update kS (Obj.mapSeq fun _=>(#[]:Array Value))).get? kS=some (seqObj "list" #[] ck):=⟨_,get?_update_seq hk fun _=>#[]⟩
  have na:(s.heap.update kS (Obj.mapSeq fun _=>(#[]:Array Value))).get? a=some (seqObj "list" #[] e1):=by rw[s1.2 a kU];exact ha
  have s2:=pG (s.heap.update kS (Obj.mapSeq fun _=>(#[]:Array Value))) a (Obj.mapSeq fun _=>List.toArray out);obtain⟨c2,S2⟩:∃c2,((s.heap.update kS (Obj.mapSeq fun _=>(#[]:Array Value))).update a (Obj.mapSeq fun _=>List.toArray out)).get? a=some (seqObj "list" (List.toArray out) c2):=⟨_,get?_update_seq na fun _=>List.toArray out⟩
  have hsz:(List.toArray out).size=out.length:=by rw[eA]
  unfold ksk_tail
  try dsimp only
  rw[Yn];simp only[rh,il];refine aE (listUpdate_at hk rfl ?_ (by rw[eA,fU];omega) (ik _));refine aE (wpAny_letGo ?_);refine aE (seqEpoch_at na rfl ?_);refine aE (listUpdate_at na rfl ?_ (ik _) (fR (Nat.le_of_eq hsz) (by rw[fU];omega)));rw[hf];simp only[bne_self_eq_false,rh,il];exact bP (h _ _ ck c2 s1 hck s2 S2)
def Fh(prog:Program)(w:World)(A:Around)(E:ic)(κ:SortKind)(lt:Nat→Nat→Bool)(ks vs:cA)(s:Shared):Prop:=∀Q:Unit×SortSt→Shared→Prop,
  (∀(p:Array Nat) (sM:SortSt),arrOf sM=p.map (kas_item (ks.toArray.zip vs.toArray))→failedOf sM=none→bC vs.length p→Up lt p vs.length→Q ((),sM) s)→wpAny (model prog w) A (sortRuns'.run (SortSt.mk' κ (ks.toArray.zip vs.toArray) #[] 7 none)) Q E s
def U5(prog:Program)(w:World)(A:Around)(κ:SortKind)(lt:Nat→Nat→Bool)(ks:cA)(s:Shared):Prop:=∀i j (C:Bool→Shared→Prop),i<ks.length→j<ks.length→C (lt i j) s→wpAny (model prog w) A (keyLt' κ (ks.getD i Value.none) (ks.getD j Value.none)) C (fun _ _=>False) s
theorem GW{κ:SortKind}{lt:Nat→Nat→Bool}{vs:cA}(hl:ks.length=vs.length)(h2:2≤vs.length)(Nu:vs.length<64)(dQ:U5 prog w A κ lt ks s)(hS:j6 vs.length lt):Fh prog w A E κ lt ks vs s:=by
  intro Q hQ;have hw:(kas_sort vs.length).kasWp (kas_ask prog w A κ ks) (fun p tD=>bC vs.length p∧Up lt p vs.length∧tD=s) s:=by
    refine Pw (S:=fun tD=>tD=s) (lt:=lt) (n:=vs.length) (P:=bC vs.length) (fun i j C tD hi hj hs hc=>?_) _ _ (Jm (by omega)) rfl (fun tD hs _=>?_)
    ·subst hs;exact dQ i j C (by omega) (by omega) (hc _ rfl)
    ·obtain⟨q1,q2⟩:=MT hS h2;exact⟨q1,q2,hs⟩
  refine jK (kat_run (ks:=ks) (vs:=vs) (Q:=fun sM tD=>∃p:Array Nat,arrOf sM=p.map (kas_item (ks.toArray.zip vs.toArray))∧failedOf sM=none∧bC vs.length p∧Up lt p vs.length∧tD=s)
    hl h2 Nu (fun p sM tD _ e f g=>⟨p,e,f,g.1,g.2.1,g.2.2⟩) hw) ?_ fun _ _ e=>e
  rintro⟨⟨⟩,sM⟩ s' ⟨p,Yo,hf,hP,hU,rfl⟩;exact hQ p sM Yo hf hP hU
theorem GX(vs ks:cA)(h:vs.length<2)(hl:ks.length=vs.length):((ks.toArray.zip vs.toArray).map (·.2)).toList=vs:=by
  cases vs with
  |nil=>simp
  |cons v t =>
   cases t with
   |nil=>match ks,hl with|[k],_=>simp
   |cons _ _=>simp only[eW] at h;omega
theorem GY{kS:Addr}{e e1:Nat}{vs:cA}{κ:SortKind}{lt:Nat→Nat→Bool}{P:PySem.Fin→Shared→Prop}(hl:ks.length=vs.length)(Nu:vs.length≤64)(kU:a≠kS)(hk:s.heap.get? kS=some (seqObj "list" ks.toArray e))(ha:s.heap.get? a=some (seqObj "list" #[] e1))(kind:2≤vs.length→∀Q:SortKind→Shared→Prop,Q κ s→wpAny (model prog w) A (keyKind' ks.toArray) Q E s)(RG:2≤vs.length→Fh prog w A E κ lt ks vs s)(fin:∀p h3 h4 ck c2,bC vs.length p→Up lt p vs.length→Heap.SameBut kS s.heap h3→h3.get? kS=some (seqObj "list" #[] ck)→Heap.SameBut a h3 h4→h4.get? a=some (seqObj "list" (List.toArray (p.toList.map fun i=>vs.getD i Value.none)) c2)→P (.done (.ret .none)) { s with heap:=h4 }):wpAny (model prog w) A (ksk_end a false vs.toArray e1 (.ref kS) (List.toArray ks)) P E s:=by
  unfold ksk_end
  try dsimp only
  simp only[rh,il];by_cases h2:vs.toArray.size<2
  · rw[az h2,az h2];refine aE (bP ?_);rw[StateT.run_pure];refine aE (bP ?_);dsimp only;have S9:vs.length<2:=by simpa using h2
    refine uU (ks:=ks) (out:=(List.range vs.length).map fun i=>vs.getD i Value.none) ?_ (by simp;omega) (by omega) rfl kU hk ha fun h3 h4 ck c2 a1 a2 a3 a4=>?_
    ·show(ks.toArray.zip vs.toArray).map (·.2)=_;apply Array.toList_inj.mp;rw[mD];exact GX vs ks S9 hl
    ·refine fin (List.range vs.length).toArray h3 h4 ck c2 (bC.id _) (fun i j pE hj=>by omega) a1 a2 a3 ?_;simpa using a4
  · rw[ax h2,ax h2];have S9:2≤vs.length:=by rw[eA] at h2;omega
    refine aE (kind S9 _ ?_);refine aE (RG S9 _ fun p sM Yo hf hP hU=>?_);dsimp only;have hps:p.toList.length=vs.length:=by rw[je];exact hP.size
    refine uU (ks:=ks) (kat_snds hl Yo) (by rw[bY,hps];exact Nu) (by omega) hf kU hk ha fun h3 h4 ck c2 a1 a2 a3 a4=>fin p h3 h4 ck c2 hP hU a1 a2 a3 a4
theorem CT{vs:cA}{f:Value}{κ:SortKind}{lt:Nat→Nat→Bool}{P:PySem.Fin→Shared→Prop}{J:Addr→Nat→cA→Nat→Shared→Prop}(ho:s.heap.get? a=some (seqObj "list" vs.toArray n))(Nu:vs.length≤64)(init:∀kS e1 h',a≠kS→s.heap.objs.size≤kS→h'.get? kS=some (seqObj "list" #[] 0)→h'.get? a=some (seqObj "list" #[] e1)→(∀b o,b≠a→s.heap.get? b=some o→h'.get? b=some o)→J kS e1 [] 0 { s with heap:=h' })(get:∀kS e1 ks c s',J kS e1 ks c s'→a≠kS∧s'.heap.get? kS=some (seqObj "list" (List.toArray ks) c)∧s'.heap.get? a=some (seqObj "list" #[] e1))(step:∀kS e1 ks c s' x,J kS e1 ks c s'→vs[ks.length]?=some x→wpAny (model prog w) A (call f [x]) (fun k tD=>tD.heap.get? kS=some (seqObj "list" (List.toArray ks) c)∧∀h2 c2,Heap.SameBut kS tD.heap h2→h2.get? kS=some (seqObj "list" (List.toArray (ks++[k])) c2)→J kS e1 (ks++[k]) c2 { tD with heap:=h2 }) (fun _ _=>False) s')(kind:∀kS e1 ks c s',J kS e1 ks c s'→ks.length=vs.length→2≤vs.length→∀Q:SortKind→Shared→Prop,Q κ s'→wpAny (model prog w) A (keyKind' (List.toArray ks)) Q E s')(RG:∀kS e1 ks c s',J kS e1 ks c s'→ks.length=vs.length→2≤vs.length→Fh prog w A E κ lt ks vs s')(fin:∀kS e1 ks c s' p h3 h4 ck c2,J kS e1 ks c s'→ks.length=vs.length→bC vs.length p→Up lt p vs.length→Heap.SameBut kS s'.heap h3→h3.get? kS=some (seqObj "list" #[] ck)→Heap.SameBut a h3 h4→h4.get? a=some (seqObj "list" (List.toArray (p.toList.map fun i=>vs.getD i Value.none)) c2)→P (.done (.ret .none)) { s' with heap:=h4 }):wpAny (model prog w) A (ksk_tree a f false) P E s:=by
  have ha:a<s.heap.objs.size:=bG ho;obtain⟨e1,RA⟩:∃e1,(s.heap.update a (Obj.mapSeq fun _=>(#[]:Array Value))).get? a=some (seqObj "list" #[] e1):=⟨_,get?_update_seq ho fun _=>#[]⟩
  have hkS:((s.heap.update a (Obj.mapSeq fun _=>(#[]:Array Value))).push (seqObj "tuple" vs.toArray 0)).objs.size=s.heap.objs.size+1:=by rw[size_push',Heap.size_update]
  unfold ksk_tree;refine aE (listItems_at ho rfl ?_);refine aE (listUpdate_at ho rfl ?_ (by rw[eA,fU];omega) (ik _));refine aE (seqEpoch_at RA rfl ?_);refine aE (wpAny_newTuple ?_ (by show vs.length≤_;rw[fU];omega));refine aE (wpAny_newList ?_ (ik _));refine oB ?_;have j0:=init _ e1 _ (by rw[hkS];exact dP (Nat.lt_succ_of_lt ha)) (by rw[hkS];exact Nat.le_succ _) (iE (((s.heap.update a (Obj.mapSeq fun _=>(#[]:Array Value))).push (seqObj "tuple" vs.toArray 0))) (o:=seqObj "list" #[] 0) rfl)
    (dC _ (dC _ RA)) (fun b o hb e=>dC _ (dC _ (by rw[Heap.get?_update_ne _ _ _ _ hb];exact e)))
  show wpAny (model prog w) A (ksk_rest a f false vs.toArray e1 (.ref ((s.heap.update a (Obj.mapSeq fun _=>(#[]:Array Value))).push (seqObj "tuple" vs.toArray 0)).objs.size)) P E { s with heap:=((s.heap.update a (Obj.mapSeq fun _=>(#[]:Array Value))).push (seqObj "tuple" vs.toArray 0)).push (seqObj "list" #[] 0) };generalize ((s.heap.update a (Obj.mapSeq fun _=>(#[]:Array Value))).push (seqObj "tuple" vs.toArray 0)).objs.size=kS at j0⊢;generalize ({ s with heap:=((s.heap.update a (Obj.mapSeq fun _=>(#[]:Array Value))).push (seqObj "tuple" vs.toArray 0)).push (seqObj "list" #[] 0) }:Shared)=s1 at j0⊢;unfold ksk_rest;refine aE (wpAny_rule ?_)
  first
    |rw[List.forIn_toArray]
    |(rw[←Array.forIn_toList];simp only[List.toList_toArray])
    |rw[←Array.forIn_toList]
  refine aE (ksk_fold (fun i s'=>∃ks c,List.length ks=i∧J kS e1 ks c s') vs 0 s1 ⟨[],0,rfl,j0⟩ (fun j x s' hx hj=>?_) fun s' hd=>?_)
  · obtain⟨ks,c,hl,hJ⟩:=hj;have hjl:ks.length<64:=by
      have:j<vs.length:=by
        rcases Nat.lt_or_ge j vs.length with q|q
        ·exact q
        ·rw[zB q] at hx;cases hx
      omega
    refine aE (wpAny_attempt (jK (step kS e1 ks c s' x hJ (by rw[hl,Nat.zero_add];exact hx)) (fun k tD hk=>?_) fun _ _ hF=>hF.elim));obtain⟨hk,nx⟩:=hk;have sb:=pG tD.heap kS (Obj.mapSeq (·.push k));have ea:(List.toArray ks).push k=List.toArray (ks++[k]):=by simp
    obtain⟨c2,S2⟩:∃c2,(tD.heap.update kS (Obj.mapSeq (·.push k))).get? kS=some (seqObj "list" (List.toArray (ks++[k])) c2):=⟨_,by rw[←ea];exact get?_update_seq hk (·.push k)⟩
    try dsimp only
    refine aE (listUpdate_at hk rfl ?_ (by rw[eA,fU];omega) (fR (Nat.le_of_eq (Array.size_push ..)) (by rw[eA,fU];omega)));exact bP ⟨rfl,ks++[k],c2,by rw[lZ,List.length_singleton,hl],nx _ c2 sb S2⟩
  · obtain⟨ks,c,hl,hJ⟩:=hd;rw[Nat.zero_add] at hl;obtain⟨kU,hk,L4⟩:=get _ _ _ _ _ hJ
    try dsimp only
    refine aE (listItems_at hk rfl ?_);exact GY hl Nu kU hk L4 (fun h2=>kind _ _ _ _ _ hJ hl h2) (RG _ _ _ _ _ hJ hl) fun p h3 h4 ck c2 b1 b2 b3 b4 b5 b6=>fin _ _ _ _ _ p h3 h4 ck c2 hJ hl b1 b2 b3 b4 b5 b6
end
section
variable {prog:Program} {w:World} {A:Around} {E:ic} {s:Shared} {d:Addr} {es:Array DictEntry} {ep:Nat}
theorem fC.at(x:fC h d es ep)(k:∀o,h.get? d=some o→h'.get? d=some o):fC h' d es ep:=let ⟨o,ho,r⟩:=x;⟨o,k _ ho,r⟩
theorem fC.lt(x:fC h d es ep):d<h.objs.size:=let ⟨o,ho,r⟩:=x;bG ho
theorem GZ(hh:A.handled=none)(I d:Addr)(kU:d≠I)(es:Array DictEntry)(ep:Nat) :
    Walks prog w A I [I,d] [I] es.size (fun i v=>∃e,es[i]?=some e∧v=e.key) (fun i h=>h.IsKeyIter I d i es.size ep∧fC h d es ep) where
  sub:=fun b hb=>by simp at hb;simp[hb]
  frame:=fun _ _ _ st hk=>⟨st.1.at fun o e=>hk I (by simp) o e,st.2.at fun o e=>hk d (by simp) o e⟩
  item:=fun i s Q E hi st hQ=>by refine mC st.1 st.2 hi fun h' uw HJ=>?_;exact hQ _ h' s.toks ⟨_,uh hi,rfl⟩ ⟨uw,st.2.at fun o e=>HJ.extBut d o kU e⟩ fun b o hb e=>HJ.extBut b o (fun h=>hb (by simp[h])) e
  done:=fun s Q E st hQ=>nQ hh st.1 st.2 (bJ _) fun h' U4=>hQ h' s.toks fun b o hb e=>U4 b o (fun h=>hb (by simp[h])) e
  self:=fun _ _ _ _ st hQ=>wpAny_pyIter_keyiter st.1 hQ
theorem Nv(lo:(d==sysModules)=false):KdlSrc prog w "dict" d d es.size (fun i v=>∃e,es[i]?=some e∧v=e.key) (fun h=>fC h d es ep) where
  type:=fun _ hm=>let ⟨o,ho,hc,_⟩:=hm;⟨o,ho,hc.1⟩
  there:=fun _ hm=>⟨hm.lt,hm.lt⟩
  keep:=fun _ _ hm hk=>hm.at fun o e=>hk d (.inl rfl) o e
  notList:=by decide
  notTuple:=by decide
  hint:=fun _ _ _ _ hm hq=>kdl_hint_dict (let ⟨o,ho,hc,_⟩:=hm;⟨o,ho,hc.1⟩) hq
  iter:=fun _ _ hh hm=>⟨_,_,(fun _ _ hq=>tG lo hm hq),GZ hh _ d (dP hm.lt) es ep,⟨⟨_,iE _ rfl,rfl,rfl⟩,hm.at fun o e=>dC _ e⟩⟩
end
section
variable {X:Cx} {pins:gw} {σ:St} {H:Hp} {s:Shared} {D:Addr} {o:HO}
theorem Inv.adopt(I:Inv X pins σ H s)(f:fS X pins H D)(h0:X.s₀.heap.objs.size≤D)(new:bS X.prog X.w (upd H D o) s.heap D o):Inv X pins σ (upd H D o) s where
  ok:=I.ok
  os:=I.os
  bare:=I.bare
  base :=
    { keep:=I.base.keep
      slot:=I.base.slot
      free:=fun b u q n hx=>by rw[ai (dP (jX (bG q) h0))];exact I.base.free b u q n hx
      there:=I.base.there
      oE:=fun b xs q=>by have:=I.base.oE b xs q;rw[ai (aQ this f.1)];exact this
      oF:=fun b u xs q=>by have:=I.base.oF b u xs q;rw[ai (aQ this f.1)];exact this
      rA:=fun b ps q=>by obtain⟨m,e⟩:=I.base.rA b ps q;exact⟨m,by rw[ai (aQ e f.1)];exact e⟩ }
  loc:=I.loc
  cell:=I.cell
  free:=by rw[ai (fun z=>f.2.1 z.symm)];exact I.free
  fI:=fun x c e=>by rw[ai (f.2.2.2.2.1 x c e)];exact I.fI x c e
  pin:=fun p hp=>by obtain⟨a1,a2,a3⟩:=I.pin p hp;exact⟨a1,by rw[ai (f.2.2.2.2.2 p hp)];exact a2,a3⟩
  bV:=fun b u e=>by
    by_cases hb:b=D
    ·subst hb;rw[ay] at e;cases e;exact new
    ·rw[ai hb] at e;exact(I.bV b u e).jY (fun c v _ q=>q) (fun c q=>by rw[ai (aQ q f.1)];exact q) (fun c xs q=>by rw[ai (aQ q f.1)];exact q) fun c q' r=>by rw[ai (aQ r f.1)];exact r
  len:=I.len
theorem Inv.Kh(I:Inv X pins σ H s){ob:Obj}(f:fS X pins H a)(ho:s.heap.get? a=some ob)(hc:∀v,ob.data≠.cell v):Inv X ((a,ob)::pins) σ H s:=by
  refine⟨I.ok,I.os,I.bare,I.base,I.loc,I.cell,I.free,I.fI,fun p hp=>?_,I.bV,I.len⟩;rcases mh.mp hp with q|q
  ·exact I.pin p (List.mem_append_left _ q)
  · rcases dc.mp q with rfl|q
    ·exact⟨ho,f.1,f.2.1,f.2.2.1,hc⟩
    ·exact I.pin p (ky _ q)
theorem Inv.CV{q:Addr×Obj}(I:Inv X (q::pins) σ H s):Inv X pins σ H s:=by
  refine⟨I.ok,I.os,I.bare,I.base,I.loc,I.cell,I.free,I.fI,fun p hp=>I.pin p ?_,I.bV,I.len⟩;rcases mh.mp hp with z|z
  ·exact List.mem_append_left _ z
  ·exact ky _ (ef _ z)
theorem Ki{f:Addr}{ps:dB}{sp:Sp}{Q:VK}(C:mE X.prog X.w X.K X.mg X.base k f ps sp)(hr:cW k X.A.in1.in1)(I:Inv X pins σ H s)(r:Vals vs us)(h:sp vs H Q E0):wpAny (model X.prog X.w) X.A.in1.in1 (call (.ref f) us) (EP X pins σ Q) E s:=by
  obtain⟨fd,F,hb,kp⟩:=C.ex;have hl:us.length=ps.length:=by rw[←r.length];exact F.len _ _ _ _ h
  have e0:zL X.prog X.w X.K X.mg X.base X.A.in1.in1 X.stack s H:={ I.Mp with frames:=I.Mp.frames }
  have Bz:=hb s us I.qZ (by simpa using hl);rw[xK] at Bz;refine wpAny_call (codeAny_mono (F.run X.A.in1.in1 X.stack s H ⟨us,[]⟩ us vs Q E0 hr e0 Bz r h) fun r s' hq=>?_);cases r with
  |error e=>exact False.elim hq
  |ok fl =>
   cases fl with
   |ret u=>exact I.after hq
   |_=>exact False.elim hq
end
end L2
namespace DL
open PySem PySem.Spec L2 PySem.W MR
open PyProof.Rows hiding St pairAt
section
variable {X:Cx} {pins:gw} {σ:St} {H:Hp} {s:Shared}
theorem G0{vk:List V}{ds:BK}{Q:SortKind→Shared→Prop}(I:Inv X pins σ H s)(rv:Vals vk ks)(hp:Paired (pairAt H) vk ds)(h2:2≤ks.length)(hq:Q (tuples' true) s):wpAny (model X.prog X.w) A (keyKind' (List.toArray ks)) Q E s:=by
  have l1:vk.length=ks.length:=rv.length;have oE:∀(vl:cA),(∀v∈vl,∃a n t q,v=.ref a∧IsTup s.heap a [Value.int n t,Value.ref q].toArray)→∃fs:cA,KatTups s.heap vl fs∧fs.length=vl.length∧∀v∈fs,∃n t,v=.int n t:=by
    intro vl;induction vl with
    |nil=>intro _;exact⟨[],trivial,rfl,fun _ z=>nomatch z⟩
    |cons v r ih =>
     intro hv;obtain⟨a,n,t,q,rfl,o,e,c,m,dd⟩:=hv v eR;obtain⟨fs,k1,k2,k3⟩:=ih fun y hy=>hv y (ef _ hy);refine⟨.int n t::fs,⟨⟨a,o,_,m,rfl,e,c,dd,rfl⟩,k1⟩,by simp[k2],fun y hy=>?_⟩;rcases dc.mp hy with z|z
     ·exact⟨n,t,z⟩
     ·exact k3 y z
  obtain⟨fs,k1,k2,k3⟩:=oE ks (fun v hv=>by
    obtain⟨i,hi,rfl⟩:=List.mem_iff_getElem.mp hv;obtain⟨a,q,t,js,e1,e2,_⟩:=rO I (cK rv (by omega) V.non Value.none) (cK hp (i:=i) (by omega) V.non (0,[]));rw[jd,eQ hi] at e1;exact⟨a,_,t,q,e1,e2⟩)
  refine kat_kind (T:=.type "int") k1 (by omega) (fun v hv=>?_) rfl ?_
  ·obtain⟨n,t,rfl⟩:=k3 v hv;exact Looks.of_pure rfl
  ·exact hq
theorem Nw{vk:List V}{ds:BK}{C:Bool→Shared→Prop}(Ws:A.units<cLine)(I:Inv X pins σ H s)(rv:Vals vk ks)(hp:Paired (pairAt H) vk ds)(hi:i<ks.length)(hj:j<ks.length)(hc:C (kE (ds.getD i (0,[])) (ds.getD j (0,[]))) s):wpAny (model X.prog X.w) A (keyLt' (tuples' true) (ks.getD i Value.none) (ks.getD j Value.none)) C (fun _ _=>False) s:=by
  have l1:vk.length=ks.length:=rv.length;obtain⟨a,q,t,js,e1,e2,e3,e4⟩:=rO I (cK rv (i:=i) (by omega) V.non Value.none) (cK hp (i:=i) (by omega) V.non (0,[]));obtain⟨b,q',t',js',f1,f2,f3,f4⟩:=rO I (cK rv (i:=j) (by omega) V.non Value.none) (cK hp (i:=j) (by omega) V.non (0,[]));rw[e1,f1];obtain⟨oa,ga,_,na,da⟩:=id e2;obtain⟨ob,gb,_,nb,db⟩:=id f2;refine kat_lt ga da gb db ?_;refine kat_cons (SeqAt.EqAt.int_int _ _ _ _ _ _ _ _ (kat_go (fun e=>kat_yes ?_) (fun e=>kat_no ?_)))
  · have pE:(ds.getD i (0,[])).1=(ds.getD j (0,[])).1:=by simpa using e
    have HD:C (HT.lexLt (ds.getD i (0,[])).2 (ds.getD j (0,[])).2) s:=by have e5:kE (ds.getD i (0,[])) (ds.getD j (0,[]))=HT.lexLt (ds.getD i (0,[])).2 (ds.getD j (0,[])).2:=az pE;rw[←e5];exact hc
    refine kat_cons (GB e3 f3 e4 f4 Ws _ _ _ _ (kat_go (fun e'=>kat_yes (kat_nil ?_)) (fun e'=>kat_no ?_)))
    · have e6:(ds.getD i (0,[])).2=(ds.getD j (0,[])).2:=by simpa using e'
      rw[e6,kR] at HD;exact HD
    ·refine kat_one _ _ ?_;refine HT.B5 e3 f3 (by simpa using intsAre_of e4) (by simpa using intsAre_of f4) Ws ?_;exact HD
  · have pE:¬ (ds.getD i (0,[])).1=(ds.getD j (0,[])).1:=by simpa using e
    refine oneLt_int ?_;have e5:kE (ds.getD i (0,[])) (ds.getD j (0,[]))=decide ((ds.getD i (0,[])).1<(ds.getD j (0,[])).1):=ax pE;rw[←e5];exact hc
def Kj(H:Hp)(v:V)(e:Int×bL):Prop:=∃b,v=.ref b∧H b=some (.tup (e.2.map V.int))
end
section
variable {X:Cx} {pins:gw} {σ:St} {H:Hp} {s:Shared}
theorem fS.re(f:fS X pins H b)(hn:H' b=none):fS X pins H' b:=⟨hn,f.2⟩
theorem se{xs:Array Value}:∀v,(seqObj "list" xs n).data≠.cell v:=fun v z=>by cases z
def AK(ds:BK):Prop:=∀(prog:Program) (w:World) (A:Around) (E:ic) (ks vs:cA) (s:Shared),ks.length=ds.length→vs.length=ds.length→2≤ds.length→U5 prog w A (tuples' true) (fun i j=>kE (ds.getD i (0,[])) (ds.getD j (0,[]))) ks s→Fh prog w A E (tuples' true) (fun i j=>kE (ds.getD i (0,[])) (ds.getD j (0,[]))) ks vs s
theorem uV{ds:BK}(J9:ds.Nodup)(Nu:ds.length<64):AK ds:=fun prog w A E ks vs s h1 h2 h3 dQ=>by refine GW (by omega) (by omega) (by omega) dQ ?_;have:=wz J9;rw[h2];exact this
theorem yB{Q:VK}{ps:dB}{ds:BK}{kv:List V}{acc:cA}{tk:Nat}(hu:X.A.units+5<cLine)(C:mE X.prog X.w X.K X.mg X.base k fn ps (gJ X.K [true] Fn))(hr:cW k X.A.in1.in1)(I:Inv X pins σ H s)(b0:Base F H)(hF:∀e∈ds,Fn [.tup (e.2.map D.int)]=some (.sh (mL e)))(J9:ds.Nodup)(Nu:ds.length≤64)(UQ:AK ds)(hk:∀b o,s.heap.get? b=some o→h'.get? b=some o)(Tc:Vals kv acc)(uW:Paired (Kj H) kv ds){P:PySem.Fin→Shared→Prop}(Yp:∀v s',EP X pins σ Q v s'→P (.done (.ret v)) s')(post:∀p vs H' F',aI F H F' H'→H p=none→F' p=none→H' p=some (.lst vs)→bz X.K F' ((mM ds).map fun e=>D.tup (e.2.map D.int)) vs→Q (.ref p) H'):wpAny (model X.prog X.w) X.A.in1 (newList acc>>=fun l=>holding [l] (call (.builtin "list.sort") [l] [(Str.ofString "key",.ref fn)])>>=fun _=>ret l) P X.xe { s with heap:=h',toks:=tk }:=by
  have l1:=pK uW;have hl:acc.length=ds.length:=by rw[←l1];exact(Tc.length).symm
  have lkv:kv.length=ds.length:=l1;refine aE (wpAny_newList ?_ (by rw[hl,fU];omega));have I0:Inv X pins σ H { s with heap:=h',toks:=tk }:=I.kept (t':=tk) hk;have Ph:(h'.push (seqObj "list" acc.toArray 0)).get? h'.objs.size=some (seqObj "list" acc.toArray 0):=iE _ rfl;have hDn:H h'.objs.size=none:=I0.bV.fresh (bJ _);have fD:fS X pins H h'.objs.size:=I0.tu (bJ _) hDn;have hD0:X.s₀.heap.objs.size≤h'.objs.size:=I0.sz;have hold:∀b o,h'.get? b=some o→b≠h'.objs.size:=fun b o q=>dP (bG q);show wpAny _ _ _ _ _ { s with heap:=h'.push (seqObj "list" acc.toArray 0),toks:=tk };have adD:(h'.push (seqObj "list" acc.toArray 0)).objs.size=h'.objs.size+1:=size_push' ..;have I1:Inv X pins σ H { s with heap:=h'.push (seqObj "list" acc.toArray 0),toks:=tk }:=I0.kept (t':=tk) fun b o q=>dC _ q;generalize hDD:h'.objs.size=D at *;refine aE (oB (wpAny_call_entry_kw slot_list_sort ⟨_,Ph,rfl⟩ entry_list_sort ?body (ksk_l1 _ _)))
  case body =>
    show wpAny (model X.prog X.w) X.A.in1.in1 (Builtin.«list.sort» ⟨[.ref D],[(Str.ofString "key",.ref fn)]⟩) _ _ _;rw[ksk_t1];refine CT (vs:=acc) (κ:=tuples' true) (lt:=fun i j=>kE (ds.getD i (0,[])) (ds.getD j (0,[])))
      (J:=fun kS e1 ks c s'=>D≠kS∧∃H' F' vk,Inv X ((kS,seqObj "list" ks.toArray c)::(D,seqObj "list" #[] e1)::pins) σ H' s'∧aI F H F' H'∧Vals vk ks∧Paired (pairAt H') vk (ds.take ks.length) ∧
        fS X ((D,seqObj "list" #[] e1)::pins) H kS) Ph (by omega) ?init ?get ?step ?kind ?run ?fin
    case init =>
      intro kS e1 h2 kU hsz g1 g2 keep;have I2:Inv X pins σ H { s with heap:=h2,toks:=tk }:=I0.kept (t':=tk) fun b o q=>keep b o (hold b o q) (dC _ q);have f0:fS X pins H kS:=I1.tu hsz (I1.bV.fresh hsz);have fk:fS X ((D,seqObj "list" #[] e1)::pins) H kS:=⟨f0.1,f0.2.1,f0.2.2.1,f0.2.2.2.1,f0.2.2.2.2.1,fun p hp=>by
        rcases mh.mp hp with q|q
        ·exact f0.2.2.2.2.2 p (List.mem_append_left _ q)
        · rcases dc.mp q with rfl|q
          ·exact kU
          ·exact f0.2.2.2.2.2 p (ky _ q)⟩
      exact⟨kU,H,F,[],(I2.Kh fD g2 se).Kh fk g1 se,aI.refl b0,.nil,by simpa using Paired.nil,fk⟩
    case get =>
      rintro kS e1 ks c s' ⟨kU,H',F',vk,I',_⟩;exact⟨kU,(I'.pin (kS,_) (ky _ eR)).1,(I'.pin (D,_) (ky _ (ef _ eR))).1⟩
    case step =>
      rintro kS e1 ks c s' x ⟨kU,H',F',vk,I',g,rk,hp,fk⟩ hx;have hi:ks.length<acc.length:=by
        rcases Nat.lt_or_ge ks.length acc.length with q|q
        ·exact q
        ·rw[zB q] at hx;cases hx
      have ra:=cK Tc (i:=ks.length) (by omega) V.non Value.none;obtain⟨b,q1,q2⟩:=cK uW (i:=ks.length) (by omega) V.non (0,[]);rw[q1,jd,hx] at ra;have hxb:x=.ref b:=ra;subst hxb;have QZ:ks.length<ds.length:=by omega
      have hee:ds.getD ks.length (0,[])=ds[ks.length]:=by rw[jd,eQ QZ];rfl
      rw[hee] at q2;have den:Den X.K F' (.tup (ds[ks.length].2.map DL.D.int)) (.ref b):=aJ.mpr ⟨b,_,rfl,g.base.tup _ _ (g.ent _ _ q2) rfl,i9 _⟩;refine jK (Ki (Q:=fun v H2=>∃F2,aI F' H' F2 H2∧Den X.K F2 (mL ds[ks.length]) v) C hr I' (vs:=[.ref b]) (.cons rfl .nil) ⟨F',[.tup (ds[ks.length].2.map DL.D.int)],.sh (mL ds[ks.length]),g.base,⟨den,trivial⟩,hF _ (List.getElem_mem QZ),fun v H2 F2 g2 dn=>⟨F2,g2,dn⟩⟩) (fun k tD hq=>?_) fun _ _ x=>x;obtain⟨v,H2,I2,rv,F2,g2,dn⟩:=hq;have RH:=I2.pin (kS,_) (ky _ eR);refine⟨RH.1,fun h2 c2 sb gk=>⟨kU,H2,F2,vk++[v],?_,g.trans g2,rk.append (.cons rv .nil),?_,fk⟩⟩
      ·have HN:=fS.re fk RH.2.1;have I3:=Inv.turned (t':=tD.toks) (h':=h2) (it:=kS) I2.CV (fun b o hb e=>by rw[sb.2 b hb];exact e) HN.1 HN.2.1 HN.2.2.2.1 HN.2.2.2.2.1 HN.2.2.2.2.2;exact I3.Kh HN gk se
      ·rw[lZ,List.length_singleton,List.take_succ_eq_append_getElem QZ];exact Paired.snoc (Paired.HQ hp fun a b q=>q.same g2.ent) ((JT.mp dn).same g2.base.sub)
    case kind =>
      rintro kS e1 ks c s' ⟨kU,H',F',vk,I',g,rk,hp,fk⟩ hlen h2 Q' hq;exact G0 I' rk hp (by omega) hq
    case run =>
      rintro kS e1 ks c s' ⟨kU,H',F',vk,I',g,rk,hp,fk⟩ hlen h2;rw[List.take_of_length_le (by omega)] at hp;refine UQ _ _ _ _ _ _ _ (by omega) (by omega) (by omega) (fun i j C' hi hj hC=>?_);exact Nw (by rw[in1_units,in1_units];omega) I' rk hp (by omega) (by omega) hC
    case fin =>
      rintro kS e1 ks c s' p h3 h4 ck c2 ⟨kU,H',F',vk,I',g,rk,hp,fk⟩ hlen hP hU sb1 gk sb2 gD;have RH:=I'.pin (kS,_) (ky _ eR);have hpD:=I'.pin (D,_) (ky _ (ef _ eR));have HN:fS X pins H' kS:=⟨RH.2.1,fk.2.1,fk.2.2.1,fk.2.2.2.1,fk.2.2.2.2.1,fun p hp=>fk.2.2.2.2.2 p (by
        rcases mh.mp hp with q|q
        ·exact List.mem_append_left _ q
        ·exact ky _ (ef _ q))⟩
      have PQ:fS X pins H' D:=fS.re fD hpD.2.1;have I4:=Inv.turned (t':=s'.toks) (h':=h3) (it:=kS) I'.CV.CV (fun b o hb e=>by rw[sb1.2 b hb];exact e) HN.1 HN.2.1 HN.2.2.2.1 HN.2.2.2.2.1 HN.2.2.2.2.2;have I5:=Inv.turned (t':=s'.toks) (h':=h4) (it:=D) I4 (fun b o hb e=>by rw[sb2.2 b hb];exact e) PQ.1 PQ.2.1 PQ.2.2.2.1 PQ.2.2.2.2.1 PQ.2.2.2.2.2;rw[hl] at hP hU;have hm:∀i∈p.toList,i<ds.length:=fun i hi=>by have:=(Array.perm_iff_toList_perm.mp hP.perm).mem_iff.mp hi;simpa using this
      have PR:(p.toList.map fun i=>kv.getD i V.non).length≤sizeLine:=by rw[bY,je,hP.size,fU];omega
      have I6:=Inv.adopt (o:=.lst (p.toList.map fun i=>kv.getD i V.non)) I5 PQ hD0 ⟨PR,p.toList.map fun i=>acc.getD i Value.none,c2,oN _ _ fun i hi=>cK Tc (by have:=hm i hi;omega) _ _,by simpa using gD⟩;have e0:mM ds=p.toList.map fun i=>ds.getD i (0,[]):=JS J9 (MV _ hP) (Aj (0,[]) kE hP hU);refine⟨_,rfl,bP (Yp _ _ ⟨.ref D,_,I6,rfl,post D _ _ F' (g.trans (aI.own g.base PQ.1 (.lst (p.toList.map fun i=>kv.getD i V.non)) PR rfl)) hDn (g.base.sub.free PQ.1) ay ?_⟩)⟩;rw[e0,fB];refine pX.mpr (oN _ _ fun i hi=>?_);obtain⟨b,q1,q2⟩:=cK uW (i:=i) (by have:=hm i hi;omega) V.non (0,[]);rw[q1];exact aJ.mpr ⟨b,_,rfl,g.base.tup _ _ (g.ent _ _ q2) rfl,i9 _⟩
theorem yC{Q:VK}{ps:dB}{ws:List (List Key×V)}{ds:BK}(hc:X.calm=true)(hu:X.A.units+5<cLine)(C:mE X.prog X.w X.K X.mg X.base k fn ps (gJ X.K [true] Fn))(hr:cW k X.A.in1.in1)(I:Inv X pins σ H s)(b0:Base F H)(hd:Rd H d (.dT ws))(hw:ws.map (·.1)=ds.map fun e=>e.2.map Sum.inl)(hF:∀e∈ds,Fn [.tup (e.2.map D.int)]=some (.sh (mL e)))(J9:ds.Nodup)(Nu:ds.length<64)(post:∀p vs H' F',aI F H F' H'→H p=none→F' p=none→H' p=some (.lst vs)→bz X.K F' ((mM ds).map fun e=>D.tup (e.2.map D.int)) vs→Q (.ref p) H'):wpAny (model X.prog X.w) X.A (call (.builtin "sorted") [.ref d] [(Str.ofString "key",.ref fn)]) (EP X pins σ Q) X.xe s:=by
  obtain⟨z,y,xs,r,o,es,ep,h1,h2,h3,h4,h5⟩:=(show bS X.prog X.w H s.heap d (.dT ws) from IK I.bV hd)
  have hh:X.A.handled=none:=I.ok.hd hc;have lw:ws.length=ds.length:=by have:=gG List.length hw;simpa using this
  have lx:xs.length=ws.length:=(pK r).symm;have yx:es.size=ds.length:=by have e1:=gG List.length h4;rw[bY,je] at e1;omega
  -- the keys as values
  have uW:Paired (Kj H) (xs.map fun q=>V.ref q.2.1) ds:=by
    have key:∀{l:List (List Key×V)} {m:List (List Key×Addr×Value)} {e:BK},Paired (fun(p:List Key×V) (q:List Key×Addr×Value)=>p.1=q.1∧H q.2.1=some (.tup (p.1.map kV))∧RelV p.2 q.2.2) l m→l.map (·.1)=e.map (fun e=>e.2.map Sum.inl)→Paired (Kj H) (m.map fun q=>V.ref q.2.1) e:=by
      intro l m e hp;induction hp generalizing e with
      |nil=>intro q;cases e with
       |nil=>exact .nil
       |cons _ _=>cases q
      |cons a _ ih =>
       intro q;cases e with
       |nil=>cases q
       |cons e0 er=>rw[cD,cD] at q;injection q with q1 q2;refine .cons ⟨_,rfl,?_⟩ (ih q2);rw[a.2.1,q1,fB];rfl
    exact key r hw
  refine call_function_entry_kw kind_sorted plain_sorted entry_sorted (ksk_s1 _ _) ?_;unfold Builtin.«sorted»;refine aE (m:=checkCount "sorted" 1 1 _) (bP ?_);refine aE (kdu_collect (A:=X.A.in1) (Nv y) hh ⟨o,h1,h2,h3⟩ (by rw[yx,fU];omega) fun h' tk acc hk tJ=>?_);have hl:acc.toList.length=ds.length:=by rw[je,tJ.1,yx]
  have hv:acc.toList=xs.map fun q=>Value.ref q.2.1:=by
    have e1:acc.toList=es.toList.map (·.key):=by
      refine List.ext_getElem? fun j=>?_;rw[eU,v3,v3];cases hj:acc[j]? with
      |some v=>obtain⟨e,q1,q2⟩:=tJ.2 j v hj;rw[q1,q2];rfl
      |none=>rw[Array.getElem?_eq_none_iff,tJ.1] at hj;rw[BM hj];rfl
    rw[e1,h4,fB];rfl
  have Tc:Vals (xs.map fun q=>V.ref q.2.1) acc.toList:=by
    rw[hv];clear hv uW h4 h5 r lx;induction xs with
    |nil=>exact .nil
    |cons x xs ih=>exact .cons rfl ih
  generalize hV:(xs.map fun q=>V.ref q.2.1)=kv at uW Tc;have lkv:kv.length=ds.length:=by rw[←hV,bY];omega
  exact yB hu C hr I b0 hF J9 (by omega) (uV J9 Nu) hk Tc uW (fun v s' q=>⟨_,rfl,q⟩) post
end
def nB:List Key→Option bL
  |[]=>some []
  |.inl i::r=>(nB r).map (i::·)
  |_=>none
theorem uX:∀{k:List Key} {t:bL},nB k=some t→k=t.map Sum.inl
  |[],t,h=>by cases h;rfl
  |.inl i::r,t,h=>by obtain⟨u,h1,rfl⟩:=iD.mp h;rw[uX h1];rfl
  |.inr _::_,_,h=>by cases h
def uY(Fn:fc→e9)(t:bL):Option (Int×bL):=match Fn [.tup (t.map D.int)] with
  |some (.sh (.tup [.int l,.tup us]))=>if qe us=some t then some (l,t) else none
  |_=>none
theorem G3{t:bL}{e:Int×bL}(h:uY Fn t=some e):e.2=t∧Fn [.tup (e.2.map D.int)]=some (.sh (mL e)):=by
  unfold uY at h;split at h
  · rename_i l us heq;split at h
    ·rename_i hu;cases h;refine⟨rfl,?_⟩;show Fn [.tup (t.map D.int)]=_;rw[heq,qf hu];rfl
    ·cases h
  ·cases h
def qt(Fn:fc→e9):List (List Key×D)→Option BK
  |[]=>some []
  |kv::r=>(nB kv.1).bind fun t=>(uY Fn t).bind fun e=>(qt Fn r).map (e::·)
theorem uZ{Fn:fc→e9}:∀{ao:List (List Key×D)} {ds:BK},qt Fn ao=some ds→ao.map (·.1)=ds.map (fun e=>e.2.map Sum.inl)∧∀e∈ds,Fn [.tup (e.2.map D.int)]=some (.sh (mL e))
  |[],ds,h=>by cases h;exact⟨rfl,fun _ z=>nomatch z⟩
  |kv::r,ds,h=>by
   obtain⟨t,h1,h⟩:=cU.mp h;obtain⟨e,h2,h⟩:=cU.mp h;obtain⟨BG,h3,rfl⟩:=iD.mp h;obtain⟨a1,a2⟩:=uZ h3;obtain⟨b1,b2⟩:=G3 h2;refine⟨by rw[cD,cD,a1,uX h1,b1],fun x hx=>?_⟩;rcases dc.mp hx with rfl|hx
   ·exact b2
   ·exact a2 x hx
theorem CW{κ:Type}{K:PySem.W.Frag}{ao:List (κ×D)}{ws:List (κ×V)}(h:bW K F ao ws):ao.map (·.1)=ws.map (·.1):=by
  unfold bW at h;induction h with
  |nil=>rfl
  |cons a _ ih=>rw[cD,cD,a.1,ih]
section
variable {X:Cx} {z:Zc} {pos p px py kp:Pos}
def yD(i:Nat)(Fn:fc→e9):LF:=fun η=>(dT i η).bind fun ao=>(qt Fn ao).bind fun ds=>if ds.Nodup∧ds.length<64 then some ((mM ds).map fun e=>D.tup (e.2.map D.int)) else none
theorem Kk(i:Nat){y:Str}{ps:dB}(hc:X.calm=true)(hu:X.A.units+5<cLine)(C:mE X.prog X.w X.K X.mg X.base k fn ps (gJ X.K [true] Fn))(hr:cW (k+2) X.A)(wI:Gl X "sorted")(nZ:X.mg "sorted"=none)(hg:Gl X y)(hm:X.mg y=some (.ref fn))(hN:X.N[i]?=some x:=by rfl)(hv:pL X.env.scope x:=by first|exact Or.inl rfl|exact Or.inr (Or.inl rfl)|exact Or.inr (Or.inr rfl))(iG:(x==("__debug__":Str))=false:=by decide)(dU:(x==("__classdict__":Str))=false:=by decide)(hdy:(y==("__debug__":Str))=false:=by decide)(hs:starEach [Expr.Name x px] X.env=(false,eval (.Name x px) X.env)::starEach [] X.env:=by rfl):DO X z (.Call (.Name "sorted" p) [.Name x px] [⟨some "key",.Name y py,kp⟩] pos) (yD i Fn):=by
  intro pins s σ H Q I ⟨η,F,BG,rl,e,kk⟩;unfold yD at e;obtain⟨ao,h1,e⟩:=cU.mp e;obtain⟨ds,h2,e⟩:=cU.mp e;by_cases hl:ds.Nodup∧ds.length<64
  ·rw[az hl] at e;cases e;obtain⟨q,ws,h3,h4,h5⟩:=JW rl h1;obtain⟨a1,a2⟩:=uZ h2;refine tj (gT I wI nZ xa ?_ (by decide) (by decide));refine PyProof.Rows.callWith_kw ?_ (by rw[hs];rfl) (by rw[hs];rfl) rfl rfl;refine cN (aW (cO hN hv iG dU) cP hs pos pins s σ H (fun vs H1=>vs=[.ref q]∧H1=H) I ⟨_,h3,⟨rfl,rfl⟩⟩) fun us s1 ⟨vs,H1,I1,r1,e1,e2⟩=>?_;subst e1 e2;obtain⟨u,rfl,ru⟩:=vals1 r1;cases ru;show wpAny _ _ (evalAll ((do let v ←eval (.Name y py) X.env;standAt pos;pure v)::[])) _ _ s1;refine wpAny_evalAll_cons (aE (pM I1 hg hm (aE (wpAny_standAt (bP ?_))) hdy));refine wpAny_evalAll_nil ?_;exact yC hc hu C hr.in1.in1 I1 rl.base h4 ((CW h5).symm.trans a1) a2 hl.1 hl.2 fun p vs H' F' g q1 q2 q3 q4=>kk p vs H' F' g q1 q2 q3 q4
  ·rw[ax hl] at e;cases e
end
end DL
namespace DL
open PySem PySem.Spec L2
open PyProof.Rows hiding St pairAt
section
variable {X:Cx} {z:Zc} {e:Expr} {f:EF} {pos:Pos}
def lO(f:EF):SF:=fun η=>(f η).map fun _=>.nx η
theorem qu(h:DE X z e f)(hs:swapsWith e none pos.line X.env=pure false:=by rfl):DS X z (.Expr e pos) (lO f):=PS.weak (kN h hs) fun D σ H ⟨η,F,o,r,e,k⟩=>by unfold lO at e;obtain⟨d,h1,rfl⟩:=iD.mp e;exact⟨η,F,d,r,h1,fun v H' F' g q=>k σ H' F' (r.grow g) g.cz⟩
theorem yE{n:Int}(hg:Gl X x)(hm:∃t,X.mg x=some (.int n t))(hd:(x==("__debug__":Str))=false:=by decide):DE X z (.Name x pos) (eC (.int n)):=by intro pins s σ H Q I ⟨η,F,d,r,e,k⟩;cases e;obtain⟨t,hm⟩:=hm;exact pM I hg hm ⟨.int n,H,I,⟨t,rfl⟩,k _ H F (aI.refl r.base) (aD.mpr rfl)⟩ hd
end
end DL
namespace L2
open PySem PySem.Spec PyProof.Rows
section
variable {X:Cx}
def Nx:V→List V→Hp→VK→Prop:=fun x vs H Q=>∃l xs y,∃(i:Int) (k:Nat),x=.ref l∧vs=[.int i,y]∧i=(k:Int)∧H l=some (.lst xs)∧k≤xs.length∧xs.length<10000∧Q .non (upd H l (.lst (xs.take k++y::xs.drop k)))
theorem G4:Wj X "list.insert" Nx:=by
  intro pins s σ H x vs v us Q I rx rv h;obtain⟨l,xs,y,i,k,rfl,rfl,hi,hH,hk,hz,q⟩:=h;cases rx;obtain⟨u1,u2,rfl,ru1,ru2⟩:=vals2 rv;obtain⟨t,rfl⟩:=ru1;obtain⟨z,its,n,r,hl,e⟩:=I.Mu hH;have hf:Builtin.List.listFitsIndex i=true:=fitsIndex_both (by omega) (by omega);have Yq:¬ (!Builtin.List.listFitsIndex i)=true:=by rw[hf];exact eT
  have hsz:its.toArray.size≤sizeLine:=by rw[eA];omega
  have e1:(if i<0 then(i+((its.toArray.size:Nat):Int)).toNat else min i.toNat its.toArray.size)=k:=by rw[ax (by omega),eA];omega
  refine call_meets PySem.F.slot_list_insert ⟨_,e,rfl⟩ PySem.F.entry_list_insert (PySem.F.args_list_insert_3 _ _ _) (PySem.AutoSeq1.list_insert_list_int_val_1 l _ n i t u2 Yq hsz) ⟨e,?_⟩;refine⟨.non,_,I.Mt (its':=its.take k++u2::its.drop k) hH e ?_ ((r.take k).append (.cons ru2 (r.drop k))) ?_,rfl,q⟩
  · show(its.toArray.extract 0 (if i<0 then(i+((its.toArray.size:Nat):Int)).toNat else min i.toNat its.toArray.size)).push u2++its.toArray.extract (if i<0 then(i+((its.toArray.size:Nat):Int)).toNat else min i.toNat its.toArray.size) its.toArray.size=_;rw[e1];apply Array.toList_inj.mp;simp[Array.toList_extract,List.extract_eq_take_drop]
    try exact List.take_of_length_le (by simp)
  ·rw[lZ,eW,List.length_take,List.length_drop,fU];omega
end
end L2
namespace DL
open PySem PySem.Spec L2
open PyProof.Rows hiding St pairAt
section
variable {X:Cx} {z:Zc} {e a b:Expr} {f fa fb fk:EF} {pos p:Pos} {K:PySem.W.Frag} {F:Hp}
def mO:fc→fc→fc
  |x::xs,y::ys=>.tup [x,y]::mO xs ys
  |_,_=>[]
theorem AO:∀{xs ys:fc} {i:Nat} {d:D},(mO xs ys)[i]?=some d→∃x y,xs[i]?=some x∧ys[i]?=some y∧d=.tup [x,y]
  |[],_,i,d,h=>by cases i<;>cases h
  |_::_,[],i,d,h=>by cases i<;>cases h
  |x::xs,y::ys,0,d,h=>by cases h;exact⟨x,y,rfl,rfl,rfl⟩
  |x::xs,y::ys,i+1,d,h=>by obtain⟨u,v,h1,h2,h3⟩:=AO (xs:=xs) (ys:=ys) (i:=i) (by simpa[mO] using h);exact⟨u,v,by simpa using h1,by simpa using h2,h3⟩
theorem qw:∀(xs ys:fc),(mO xs ys).length=min xs.length ys.length
  |[],ys=>by simp[mO]
  |_::_,[]=>by simp[mO]
  |x::xs,y::ys=>by simp[mO,qw xs ys]
theorem Kl{a b:Addr}{ws:List V}{es:fc}(ha:gy K F a vs)(hb:gy K F b ws)(hd:bz K F ds vs)(he:bz K F es ws)(hl:ds.length≤sizeLine):Walk K z F (XR K a b vs ws) true (mO ds es) where
  go:=fun F' H' s g i hi=>by rw[qw] at hi;have l1:=aK hd;have l2:=aK he;exact⟨jl (s.trans g.base.sub) ha,jl (s.trans g.base.sub) hb,by omega,by omega⟩
  BP:=fun F' H' s g i d x BH e y=>by obtain⟨q,u,v,rfl,hq,rfl,h1,h2⟩:=y;obtain⟨x1,x2,e1,e2,rfl⟩:=AO e;obtain⟨d1,f1,f2⟩:=i7 hd h1;obtain⟨d2,f3,f4⟩:=i7 he h2;rw[e1] at f1;cases f1;rw[e2] at f3;cases f3;have g2:=aI.put g.base hq (.tup [u,v]) (show([u,v]:List V).length≤sizeLine by rw[fU];simp);exact⟨_,g2,aJ.mpr ⟨q,_,rfl,ay,av.mpr ⟨_,_,rfl,aM (s.trans g2.cz) _ _ f2,iq (aM (s.trans g2.cz) _ _ f4)⟩⟩⟩
  stop:=fun F' H' s g=>by have l1:=aK hd;have l2:=aK he;refine⟨jl (s.trans g.base.sub) ha,jl (s.trans g.base.sub) hb,?_⟩;rw[qw];omega
  len:=by rw[qw];omega
def RJ(fa fb:EF):LF:=fun η=>(fa η).bind fun x=>(fb η).bind fun y=>match x,y with|.tup ds,.tup es=>some (mO ds es)|_,_=>none
theorem RK{um:Pos}(hg:Gl X "zip")(hm:X.mg "zip"=none)(ha:DE X z a fa)(hb:DE X z b fb)(hs:starEach [a,b] X.env=(false,eval a X.env)::starEach [b] X.env:=by rfl)(kx:starEach [b] X.env=(false,eval b X.env)::starEach [] X.env:=by rfl)(hs3:starEach [] X.env=[]:=by rfl):DI X z (.Tuple elts k um) (.Call (.Name "zip" p) [a,b] [] pos) true (RJ fa fb):=PI.weak (QY hg hm (aW ha (aW hb cP kx) hs) (by rw[hs,kx,hs3]) (by rw[kx,hs3])) fun σ H R ⟨η,F,ds,r,e,k⟩=>by
  unfold RJ at e;obtain⟨x,h1,e⟩:=cU.mp e;obtain⟨y,h2,e⟩:=cU.mp e;cases x with
  |tup ds =>
   cases y with
   |tup es=>cases e;refine⟨η,F,_,r,h1,fun v1 H1 F1 g1 q1=>⟨η,F1,_,r.grow g1,h2,fun v2 H2 F2 g2 q2=>?_⟩⟩;obtain⟨a1,vs,rfl,a2,a3⟩:=aJ.mp (aM g2.cz _ _ q1);obtain⟨b1,ws,rfl,b2,b3⟩:=aJ.mp q2;refine⟨a1,b1,vs,ws,rfl,gy.of (g2.base.sub _ _ a2),gy.of (g2.base.sub _ _ b2),k _ _ F2 (g1.trans g2) (Kl (gy.of a2) (gy.of b2) a3 b3 ?_)⟩;rw[aK a3];exact g2.base.sU _ _ (g2.base.sub _ _ a2)
   |_=>cases e
  |_=>cases e
def qx(i:Nat)(fk f:EF):SF:=fun η=>(fk η).bind fun k=>(f η).bind fun d=>match η[i]?,k with
  |some (some (.ol ds)),.int j=>if 0≤j∧j.toNat≤ds.length∧ds.length<10000 then some (.nx (η.set i (some (.ol (ds.take j.toNat++d::ds.drop j.toNat))))) else none
  |_,_=>none
theorem G5(i:Nat){e2:Expr}(hk:DE X z e fk)(h:DE X z e2 f)(hN:X.N[i]?=some x:=by rfl)(hv:pL X.env.scope x:=by first|exact Or.inl rfl|exact Or.inr (Or.inl rfl)|exact Or.inr (Or.inr rfl))(hd:(x==("__debug__":Str))=false:=by decide)(dU:(x==("__classdict__":Str))=false:=by decide)(cI:attributeBase (.Name x px) "insert" X.env (eval (.Name x px) X.env)=eval (.Name x px) X.env:=by rfl)(rK:((backTo aX (starEach [e,e2] X.env)).all (fun x=>!x.1)&&(backToKw aX (keywordEach [] X.env)).all (fun x=>x.1.isSome)
      && decide (([e,e2]:List Expr).length+([]:List Keyword).length+(if ([]:List Keyword).isEmpty then 0 else 1)<30))=true:=by rfl)(hline:(apos.endLine==aX.line)=true:=by rfl)(hs:starEach [e,e2] X.env=(false,eval e X.env)::starEach [e2] X.env:=by rfl)(kx:starEach [e2] X.env=(false,eval e2 X.env)::starEach [] X.env:=by rfl)(Je:swapsWith (.Call (.Attribute (.Name x px) "insert" apos) [e,e2] [] aX) none pos.line X.env=pure false:=by rfl):DS X z (.Expr (.Call (.Attribute (.Name x px) "insert" apos) [e,e2] [] aX) pos) (qx i fk f) :=
  PS.weak (kN (w5 PySem.F.plainAttrs_list PySem.F.slot_list_insert PySem.F.type_list_insert G4 (cO hN hv hd dU) (aW hk (aW h cP kx) hs) cI rK hline hs (by rw[kx];rfl)) Je) fun D σ H ⟨η,F,o,r,e,k⟩=>by
  unfold qx at e;obtain⟨kd,e0,e⟩:=cU.mp e;obtain⟨d,e1,e2⟩:=cU.mp e;split at e2
  · rename_i ds j h;by_cases hl:0≤j∧j.toNat≤ds.length∧ds.length<10000
    ·rw[az hl] at e2;cases e2;obtain⟨p,o,h1,h2,h3,h4,vs,rfl,h5⟩:=r.ownAt h rfl;refine⟨_,h1,.inl ⟨rfl,vs,eY.of h4⟩,η,F,_,r,e0,fun v1 H1 F1 g1 q1=>⟨η,F1,d,r.grow g1,e1,fun v H' F' g2 q=>?_⟩⟩;have uI:=g1.trans g2;have r1:=r.grow uI;have X4:=uI.ent _ _ h4;have UX:=aK h5;have h5':=bp uI.cz _ _ h5;refine⟨p,vs,v,j,j.toNat,rfl,by rw[aD.mp q1],by omega,X4,by omega,by omega,k _ _ F' (r1.write h rfl h1 ⟨vs.take j.toNat++v::vs.drop j.toNat,rfl,jM (rQ _ h5') (av.mpr ⟨_,_,rfl,q,rR _ h5'⟩)⟩ ?_) uI.cz⟩;show(vs.take j.toNat++v::vs.drop j.toNat).length≤sizeLine;rw[lZ,eW,List.length_take,List.length_drop,fU];omega
    ·rw[ax hl] at e2;cases e2
  ·cases e2
end
def minD:fc→Option D
  |[.int i,.int j]=>some (.int (if j<i then j else i))
  |_=>none
section
variable {X:Cx} {z:Zc} {e a b:Expr} {f fa fb fk:EF} {pos p:Pos} {K:PySem.W.Frag}
theorem RL:xi K minD (fun xs H Q=>∃i j,xs=[.int i,.int j]∧Q (.int (if j<i then j else i)) H):=fun F H ds d vs Q b e h k=>by
  unfold minD at e;split at e
  ·rename_i i j;cases e;obtain⟨v,r,rfl,h1,h2⟩:=av.mp h;obtain⟨w,rfl,h3⟩:=uF h2;exact⟨i,j,by rw[aD.mp h1,aD.mp h3],k _ (aD.mpr rfl)⟩
  ·cases e
end
structure Mk0 (K:PySem.W.Frag) (C:Addr):Prop where
  makes:makesIn K C=true
  init:PySem.W.findIn K (.ref C) "__init__"=some (some (.builtin "object.__init__"))
  kp:keepIn K (.ref C)=true
structure abe (K:PySem.W.Frag) (C:Addr):Prop where
  cl:vX K C
  ha:PySem.W.findIn K (.ref C) "__class__"=some (some (.builtin "object.__class__"))
  hn:PySem.W.specialIn K (.builtin "object.__class__") "__get__"=some (some (.builtin "getset_descriptor.__get__"))
  Wh:PySem.W.takesIn K (.builtin "object.__class__")=some true
  hm:PySem.W.mroIn K C (.type "object")=some true
section
variable {X:Cx} {z:Zc} {e a b:Expr} {f fa fb fk fv:EF} {fl:LF} {pos p:Pos} {g:SF} {st:Stmt}
def dK(i:Nat)(η:aY):Option (List (Key×D)):=match η[i]? with
  |some (some (.ok ao))=>some ao
  |some (some (.fk ao))=>some ao
  |_=>none
end
end DL
namespace DL
open PySem PySem.Spec L2 PySem.W MR
open PyProof.Rows hiding St pairAt
section
variable {X:Cx} {pins:gw} {σ:St} {H:Hp} {s:Shared}
structure Lam (X:Cx) (k:Nat) (q:Str) (params:Arguments) (body:Expr) (scope:Scope) (g:EF):Prop where
  ex:∃N ps,bq N ps scope∧ps.length=1∧N.length=1∧(∀(pm cd ct:Value) (us:cA),us.length=ps.length→bindArgs (kla_fn "<lambda>" q params body scope [] pm cd ct) ⟨us,[]⟩=pure (ps.zip us)) ∧
    ∀(f c':Addr) (A:Around) (outer:List Env) (s:Shared) (H:Hp) (z:Zc),cW k (A.deeper (envOfC q scope s.heap.objs.size f (.ref c')))→DE (wm mz X.prog X.w X.K X.mg X.base N q scope f (.ref c') A outer s H E0).L0 z body g
end
end DL
namespace L2
open PySem PySem.Spec PyProof.Rows PySem.W
def U6(outer:List Env)(h0:Heap)(ea:Addr)(C:Value)(H':Hp)(h':Heap):Prop :=
  ∃B a0,Heap.FlyingW B outer ea C a0 h'∧(∀b o,h0.get? b=some o→b∉FZ outer→∃o',B.get? b=some o')∧∀b o,H' b=some o→∃o',B.get? b=some o'
def CY(P:Program)(w:World):HF:=fun outer H s E e s' =>
  ∃(ea C:Addr) (H':Hp),e=.ref ea∧s'.os=s.os∧AllBare s'.gens∧Un (FZ outer) [] H H' s.heap s'.heap∧oC P w H' s'.heap∧U6 outer s.heap ea (.ref C) H' s'.heap∧E (.ref C) none H'
section
variable {P:Program} {w:World} {K:PySem.W.Frag} {mg:Str→fQ} {base:Heap} {N:dB} {qual:Str} {scope:Scope} {f:Addr} {cd:Value} {A:Around} {outer:List Env} {s₀:Shared} {H₀:Hp} {E:XK}
  {pins:gw} {σ:St} {H:Hp} {s:Shared}
end
end L2
namespace PySem.W
open PySem PySem.Spec PySem.Calls PyProof.Rows Builtin Builtin.ObjectAttr Builtin.Getset_descriptor
section
variable {prog:Program} {w:World} {A:Around} {E:ic} {s:Shared} {K:Frag} {x C D:Addr} {ox:Obj} {od:Obj} {odo:Option Obj} {name:Str}
structure abf (K:Frag) (C:Addr):Prop where
  cl:(clsIn K C).isSome=true
  ga:findIn K (.ref C) "__getattribute__"=some (some (.builtin "BaseException.__getattribute__"))
  gt:findIn K (.ref C) "__getattr__"=some none
  ha:findIn K (.ref C) "__class__"=some (some (.builtin "object.__class__"))
  hn:specialIn K (.builtin "object.__class__") "__get__"=some (some (.builtin "getset_descriptor.__get__"))
  Wh:takesIn K (.builtin "object.__class__")=some true
  hm:mroIn K C (.type "object")=some true
  hb:mroIn K C (.type "BaseException")=some true
end
end PySem.W
namespace DL
open PySem PySem.Spec L2
open PyProof.Rows hiding St pairAt
def U7(K:PySem.W.Frag)(F H:Hp)(r:Slot)(Q:VK)(E:XK):Prop :=
  match r with
  |.pn C _=>∀H' F',aI F H F' H'→E (.ref C) none H'
  |r=>ED K F H r Q
abbrev zX(F H:Hp)(E:XK):Zc:=⟨F,H,fun C H'=>E (.ref C) none H'⟩
structure AQ (P:Program) (w:World) (K:PySem.W.Frag) (mg:Str→fQ) (base:Heap) (k:Nat) (f:Addr) (ps:dB) (sp:Sp):Prop where
  ex:∃fd,cE P w K mg base (CY P w) k f fd ps sp∧Binds K fd ps []∧keepIn K (.ref f)=true
def cR(H:Hp)(p:Addr):Hp:=fun b=>if b=p then none else H b
theorem bR:cR H p p=none:=by unfold cR;rw[az rfl]
theorem cG(h:b≠p):cR H p b=H b:=by unfold cR;rw[ax h]
theorem t4(h:H p=some o):upd (cR H p) p o=H:=by
  funext b;by_cases e:b=p
  ·subst e;rw[ay,h]
  ·rw[ai e,cG e]
theorem di(b:Base F H)(hF:F p=none):Base F (cR H p) where
  sub:=fun a o h=>by rw[cG (fun e=>by rw[e,hF] at h;cases h)];exact b.sub a o h
  tup:=fun a o h t=>by
    by_cases e:a=p
    ·rw[e,bR] at h;cases h
    ·rw[cG e] at h;exact b.tup a o h t
  sU:=fun a o h=>by
    by_cases e:a=p
    ·rw[e,bR] at h;cases h
    ·rw[cG e] at h;exact b.sU a o h
section
variable {K:PySem.W.Frag} {z:Zc} {F H:Hp} {σ:St} {η:aY}
theorem Rel.hide(r:Rel K z F H σ η)(hz:z.H₀ p=none)(hF:F p=none)(hp:∀(j:Nat) s w,η[j]?=some (some s)→s.own=true→σ[j]?=some (some w)→¬ cQ K F w s p):Rel K z F (cR H p) σ η where
  mem:=⟨di r.base hF,r.mem.cz,fun a o h=>by rw[cG (fun e=>by rw[e,hz] at h;cases h)];exact r.mem.ent a o h,r.mem.new⟩
  len:=r.len
  at_:=fun i sl e=>by
    obtain⟨v,hv,h⟩:=r.at_ i sl e;refine⟨v,hv,?_⟩;cases ho:sl.own with
    |true=>obtain⟨q,o,h1,h2,h3,h4,h5⟩:=(bQ ho).mp h;refine(bQ ho).mpr ⟨q,o,h1,h2,h3,?_,h5⟩;have kU:q≠p:=fun e2=>hp i sl v e ho hv (by rw[←e2];exact h1);rw[cG kU];exact h4
    |false=>cases sl<;>first|exact h|cases ho
  apart:=r.apart
end
end DL
namespace L2
open PySem PySem.Spec PyProof.Rows
section
variable {X:Cx}
def Yr:V→Option Int→Option Int→Hp→VK→Prop:=fun x lo hi H Q=>∃y,x=.str y∧y.length≤sizeLine∧Q (.str (Txt.slice y lo hi)) H
theorem RM:Xp X Yr:=by
  intro pins s σ H x v vl vu lo hi sl Q I rx hs pl pu h;obtain⟨y,rfl,hz,q⟩:=h;obtain⟨t,rfl⟩:=rx;refine⟨"str",_,F.slot_str_getitem.lookup,typeIs_str _ _ _,?_⟩;have fin:∀(t':Tok) (k:Nat),EP X pins σ Q (.str (Txt.slice y lo hi) t') { s with toks:=k }:=fun t' k=>⟨.str _,H,I.kept (t':=k) fun b ob q=>q,⟨_,rfl⟩,q⟩
  cases pl<;>cases pu
  ·exact wpAny_getItem_str_slice (l:=none) (u:=none) (st:=none) hs rfl (post_val_or_str ⟨fR (Txt.slice_le y _ _) hz,fin⟩)
  ·exact wpAny_getItem_str_slice (l:=none) (u:=some (_,_)) (st:=none) hs rfl (post_val_or_str ⟨fR (Txt.slice_le y _ _) hz,fin⟩)
  ·exact wpAny_getItem_str_slice (l:=some (_,_)) (u:=none) (st:=none) hs rfl (post_val_or_str ⟨fR (Txt.slice_le y _ _) hz,fin⟩)
  ·exact wpAny_getItem_str_slice (l:=some (_,_)) (u:=some (_,_)) (st:=none) hs rfl (post_val_or_str ⟨fR (Txt.slice_le y _ _) hz,fin⟩)
theorem Ny:S3 X "str.find" (fun x xs H Q=>∃p q,x=.str p∧xs=[.str q]∧Q (.int (Txt.find p q)) H):=by intro pins s σ H x xs v us Q I rx r h;obtain⟨p,q,rfl,rfl,k⟩:=h;obtain⟨t,rfl⟩:=rx;obtain⟨u,rfl,ru⟩:=vals1 r;obtain⟨t',rfl⟩:=ru;exact SC.find ⟨.int _,H,I.tok _,⟨_,rfl⟩,k⟩
theorem Fi:∀(l:List (Str×Tok)),Vals (l.map fun p=>V.str p.1) (strValues l)
  |[]=>.nil
  |p::l=>.cons ⟨_,rfl⟩ (Fi l)
theorem G6{y:Str}{t u:Tok}(hy:(y.length==0)=false)(hx:x.length+2≤sizeLine)(k:∀(l:List (Str×Tok)) (n:Nat),l.map (·.1)=Txt.split x y→Q (.ref s.heap.objs.size) { s with heap:=s.heap.push { cls:=.type "list",data:=.seq (strValues l).toArray },toks:=n }):wpAny (model X.prog X.w) A (call (.builtin "str.split") [.str x t,.str y u]) Q E s:=by
  have PN:x.length≤sizeLine:=by omega
  have hn:(Builtin.Str.partsBetween x (Builtin.Str.occurrences x y 0 x.length (x.length+1)) y.length).length≤sizeLine:=by have:=StrLaws.occ_length_le x y 0 x.length (x.length+1);rw[length_partsBetween];omega
  have one:Txt.split x y=[x]→∀n,Q (.ref s.heap.objs.size) { s with heap:=s.heap.push { cls:=.type "list",data:=.seq (strValues [(x,t)]).toArray },toks:=n }:=fun e n=>k [(x,t)] n e.symm;by_cases c1:(decide (x.length<y.length)||decide (Builtin.Str.strKind x<Builtin.Str.strKind y))=true
  ·exact call_meets F.slot_str_split (typeIs_str _ _ _) F.entry_str_split (F.args_str_split_2 _ _) (meets_str_split_cannot_occur x y t u c1) (one (by unfold Txt.split;rw[az c1]) s.toks)
  · have c1':=Bool.eq_false_iff.mpr c1;by_cases c2:(Builtin.Str.occurrences x y 0 x.length (x.length+1)).isEmpty=true
    ·exact call_meets F.slot_str_split (typeIs_str _ _ _) F.entry_str_split (F.args_str_split_2 _ _) (meets_str_split_not_found x y t u c1' hy c2) (one (by unfold Txt.split;rw[ax c1,az c2]) s.toks)
    · refine call_meets F.slot_str_split (typeIs_str _ _ _) F.entry_str_split (F.args_str_split_2 _ _) (meets_str_split_sep x y t u c1' hy (Bool.eq_false_iff.mpr c2) PN hn) ?_;have:=k (numbered s.toks (Builtin.Str.partsBetween x (Builtin.Str.occurrences x y 0 x.length (x.length+1)) y.length)) (s.toks+(Builtin.Str.partsBetween x (Builtin.Str.occurrences x y 0 x.length (x.length+1)) y.length).length)
        ((numbered_texts _ _).trans (by unfold Txt.split;rw[ax c1,ax c2]))
      rw[←strsFrom_eq] at this;exact this
theorem split_len(x y:Str):(Txt.split x y).length≤x.length+2:=by
  unfold Txt.split;split
  ·show 1≤_;omega
  · split
    ·show 1≤_;omega
    ·have:=StrLaws.occ_length_le x y 0 x.length (x.length+1);rw[length_partsBetween];omega
theorem Km:S3 X "str.split" (fun x xs H Q=>∃p q,x=.str p∧xs=[.str q]∧(q.length==0)=false∧p.length+2≤sizeLine∧∀a,H a=none→Q (.ref a) (upd H a (.lst ((Txt.split p q).map V.str)))):=by
  intro pins s σ H x xs v us Q I rx r h;obtain⟨p,q,rfl,rfl,hq,hp,k⟩:=h;obtain⟨t,rfl⟩:=rx;obtain⟨u,rfl,ru⟩:=vals1 r;obtain⟨t',rfl⟩:=ru;refine G6 hq hp fun l n e=>?_;have ev:(Txt.split p q).map V.str=l.map fun z=>V.str z.1:=by rw[←e,fB];rfl
  refine⟨.ref s.heap.objs.size,_,I.laid (t':=n) (o:=.lst ((Txt.split p q).map V.str)) (fun b ob q=>dC _ q) (bJ _) ?_,rfl,k _ (I.bV.fresh (bJ _))⟩;rw[ev];refine⟨?_,strValues l,0,Fi l,iE _ rfl⟩;have e2:l.length=(Txt.split p q).length:=by rw[←e,bY]
  rw[bY,e2];exact fR (split_len p q) hp
end
end L2
namespace DL
open PySem PySem.Spec L2
open PyProof.Rows hiding St
section
variable {X:Cx} {z:Zc} {a b e o:Expr} {fa fb f fo:EF} {pos:Pos}
def AR:D→D→Option D
  |.str x,.str y=>if x.length+y.length≤1000 then some (.str (x++y)) else none
  |_,_=>none
theorem Nz{K:PySem.W.Frag}:EE K AR (fun x y H Q=>∃i j,x=.str i∧y=.str j∧i.length+j.length≤sizeLine∧Q (.str (i++j)) H):=fun F H x y d v u Q b e h1 h2 k=>by
  unfold AR at e;split at e
  · split at e
    ·rename_i hl;cases e;exact⟨_,_,aR.mp h1,aR.mp h2,nO (eG hl),k _ (aR.mpr rfl)⟩
    ·cases e
  ·cases e
theorem yF(ha:DB X z a fa)(hb:DB X z b fb):DE X z (.BinOp a .Add b pos) (ae AR fa fb):=uz BV Nz ha hb
def NB:D→D→Option D
  |.str x,.int i=>if x.length≤1000 then(rJ x.cps.toList i).map fun c=>.str ⟨#[c]⟩ else none
  |_,_=>none
theorem RN{K:PySem.W.Frag}:EE K NB Uk:=fun F H x y d v u Q b e h1 h2 k=>by
  unfold NB at e;split at e
  · split at e
    ·rename_i hl;obtain⟨c,h3,h4⟩:=iD.mp e;subst h4;exact⟨_,_,c,aR.mp h1,aD.mp h2,nO (eG hl),h3,k _ (aR.mpr rfl)⟩
    ·cases e
  ·cases e
theorem CZ(ha:DB X z a fa)(hb:DB X z b fb)(hs:tU b:=by intro _ _;rfl):DE X z (.Subscript a b pos) (ae NB fa fb):=PE.weak (ip QC ha hb hs) (p9 RN)
def Dc(f:EF)(pl ph:PF):EF:=fun η=>(f η).bind fun d=>(pl η).bind fun l=>(ph η).bind fun h=>match d with|.str x=>if x.length≤1000 then some (.str (Txt.slice x l h)) else none|_=>none
theorem Dd{lo hi:Option Expr}{pl ph:PF}(ha:DB X z e f)(hl:DP X z lo pl)(hh:DP X z hi ph):DE X z (.Subscript e (.Slice lo hi none p2) pos) (Dc f pl ph):=PE.weak (zQ RM ha hl hh) fun σ H Q ⟨η,F,d,r,e,k⟩=>by
  unfold Dc at e;obtain⟨d',h1,e⟩:=cU.mp e;obtain⟨l,h2,e⟩:=cU.mp e;obtain⟨h,h3,e⟩:=cU.mp e;cases d' with
  |str x =>
   by_cases hc:x.length≤1000
   ·dsimp only at e;rw[az hc] at e;cases e;refine⟨η,F,_,r,h1,fun v H1 F1 g1 q1=>⟨η,F1,l,r.grow g1,h2,fun H2 F2 g2=>⟨η,F2,h,(r.grow g1).grow g2,h3,fun H3 F3 g3=>?_⟩⟩⟩;exact⟨x,aR.mp q1,nO (eG hc),k _ H3 F3 ((g1.trans g2).trans g3) (aR.mpr rfl)⟩
   ·dsimp only at e;rw[ax hc] at e;cases e
  |_=>cases e
def findD:D→D→Option D
  |.str x,.str y=>some (.int (Txt.find x y))
  |_,_=>none
theorem NC(ho:DB X z o fo)(h:DB X z e f)(cI:attributeBase o "find" X.env (eval o X.env)=eval o X.env:=by rfl)(rK:((backTo aX (starEach [e] X.env)).all (fun x=>!x.1)&&(backToKw aX (keywordEach [] X.env)).all (fun x=>x.1.isSome)
      && decide (([e]:List Expr).length+([]:List Keyword).length+(if ([]:List Keyword).isEmpty then 0 else 1)<30))=true:=by rfl)(hline:(apos.endLine==aX.line)=true:=by rfl)(hs:starEach [e] X.env=(false,eval e X.env)::starEach [] X.env:=by rfl):DE X z (.Call (.Attribute o "find" apos) [e] [] aX) (ae findD fo f) :=
  PE.weak (w5 PySem.F.plainAttrs_str PySem.F.slot_str_find PySem.F.type_str_find Ny ho (aW h cP hs) cI rK hline hs (by rfl)) fun σ H Q ⟨η,F,d,r,e,k⟩=>by
  obtain⟨x,y,h1,h2,h3⟩:=jb e;refine⟨η,F,x,r,h1,fun v H1 F1 g1 q1=>?_⟩;unfold findD at h3;split at h3
  ·cases h3;rw[aR.mp q1];refine⟨rfl,η,F1,_,r.grow g1,h2,fun u H2 F2 g2 q2=>?_⟩;rw[aR.mp q2];exact⟨_,_,rfl,rfl,k _ H2 F2 (g1.trans g2) (aD.mpr rfl)⟩
  ·cases h3
theorem xo{K:PySem.W.Frag}{F:Hp}:∀(l:dB),bz K F (l.map D.str) (l.map V.str)
  |[]=>aP.mpr rfl
  |x::l=>av.mpr ⟨_,_,rfl,aR.mpr rfl,xo l⟩
def De:D→D→Option fc
  |.str x,.str y=>if (y.length==0)=false∧x.length≤1000 then some ((Txt.split x y).map D.str) else none
  |_,_=>none
def u3(fo f:EF):LF:=fun η=>(fo η).bind fun x=>(f η).bind fun y=>De x y
theorem Kn(ho:DB X z o fo)(h:DB X z e f)(cI:attributeBase o "split" X.env (eval o X.env)=eval o X.env:=by rfl)(rK:((backTo aX (starEach [e] X.env)).all (fun x=>!x.1)&&(backToKw aX (keywordEach [] X.env)).all (fun x=>x.1.isSome)
      && decide (([e]:List Expr).length+([]:List Keyword).length+(if ([]:List Keyword).isEmpty then 0 else 1)<30))=true:=by rfl)(hline:(apos.endLine==aX.line)=true:=by rfl)(hs:starEach [e] X.env=(false,eval e X.env)::starEach [] X.env:=by rfl):DO X z (.Call (.Attribute o "split" apos) [e] [] aX) (u3 fo f) :=
  PE.weak (w5 PySem.F.plainAttrs_str PySem.F.slot_str_split PySem.F.type_str_split Km ho (aW h cP hs) cI rK hline hs (by rfl)) fun σ H Q ⟨η,F,d,r,e,k⟩=>by
  unfold u3 at e;obtain⟨x,h1,e⟩:=cU.mp e;obtain⟨y,h2,h3⟩:=cU.mp e;refine⟨η,F,x,r,h1,fun v H1 F1 g1 q1=>?_⟩;unfold De at h3;split at h3
  · rename_i p0 q0;split at h3
    · rename_i hc;cases h3;rw[aR.mp q1];refine⟨rfl,η,F1,_,r.grow g1,h2,fun u H2 F2 g2 q2=>?_⟩;rw[aR.mp q2];have hz:∀n,n≤1000→n+2≤sizeLine:=fun n h=>by rw[fU];omega
      refine⟨_,_,rfl,rfl,hc.1,hz _ hc.2,fun p hp=>?_⟩;have hl:((Txt.split p0 q0).map V.str).length≤sizeLine:=by rw[bY];exact fR (split_len _ _) (hz _ hc.2)
      have g4:=aI.own g2.base hp (.lst ((Txt.split p0 q0).map V.str)) hl rfl;exact k p _ _ F2 ((g1.trans g2).trans g4) ((g1.trans g2).ent.free hp) (g2.base.sub.free hp) ay (xo _)
    ·cases h3
  ·cases h3
def Ko:fc→Option D
  |[.str x]=>if x.length≤1000 then some (.int x.length) else none
  |_=>none
theorem Fj{K:PySem.W.Frag}:xi K Ko (fun xs H Q=>∃z,xs=[.str z]∧z.length≤sizeLine∧Q (.int z.length) H):=fun F H ds d vs Q b e h k=>by
  unfold Ko at e;split at e
  · split at e
    ·rename_i hl;cases e;obtain⟨v,rfl,h'⟩:=uF h;exact⟨_,by rw[aR.mp h'],nO (eG hl),k _ (aD.mpr rfl)⟩
    ·cases e
  ·cases e
def RP(neg:Bool):D→D→Option D
  |.str x,.str y=>some (.bl (neg ^^ !(Builtin.Str.occurrences y x 0 y.length 1).isEmpty))
  |_,_=>none
theorem RQ{K:PySem.W.Frag}:EE K (RP false) (fun x y H Q=>∃i j,x=.str i∧y=.str j∧Q (.bl (!(Builtin.Str.occurrences j i 0 j.length 1).isEmpty)) H):=fun F H x y d v u Q b e h1 h2 k=>by
  unfold RP at e;split at e
  ·cases e;exact⟨_,_,aR.mp h1,aR.mp h2,k _ (bu.mpr (by rw[Bool.false_xor]))⟩
  ·cases e
theorem RT(ha:DB X z a fa)(hb:DB X z b fb)(hm:behindInMarks .In b=false:=by rfl):DE X z (.Compare a [.In] [b] pos) (ae (RP false) fa fb):=yj Ge RQ ha hb hm
end
end DL
namespace L2
open PySem PySem.Spec PyProof.Rows
section
variable {X:Cx}
theorem u5:∀{ys:dB} {us:cA},Vals (ys.map V.str) us→StrsAre us ys
  |[],_,.nil=>.nil
  |_::_,_,.cons r t=>by obtain⟨u,rfl⟩:=r;exact .cons _ _ (u5 t)
theorem NF:S3 X "str.join" (fun x xs H Q=>∃(p:Str) (l:Addr) (ys:dB),x=.str p∧xs=[.ref l]∧eY X.K H l (ys.map V.str)∧(ys.map (·.length)).sum+ys.length*p.length≤16777216∧Q (.str (Txt.join p ys)) H):=by intro pins s σ H x xs v us Q I rx r h;obtain⟨p,l,ys,rfl,rfl,hl,hz,q⟩:=h;obtain⟨t,rfl⟩:=rx;obtain⟨u,rfl,ru⟩:=vals1 r;cases ru;obtain⟨its,ri,pl,_⟩:=I.list hl;exact join_list pl.isList (by simpa using u5 ri) hz fun t' k=>⟨.str _,H,I.kept (t':=k) fun b ob q=>q,⟨_,rfl⟩,q⟩
theorem RV{xs:List V}(r:Vals xs us)(e:us[i]?=some u):∃v,xs[i]?=some v∧RelV v u:=by
  induction r generalizing i with
  |nil=>simp at e
  |cons h t ih =>
   cases i with
   |zero=>simp at e;subst e;exact⟨_,rfl,h⟩
   |succ i=>exact ih (by simpa using e)
theorem NH{a b:Str}:IG (.str a) (.str b)=(a==b):=by rfl
theorem Kp:S3 X "list.index" (fun x xs H Q=>∃(l:Addr) (ys:dB) (q:Str) (j:Nat),x=.ref l∧xs=[.str q]∧eY X.K H l (ys.map V.str)∧ys.findIdx? (·==q)=some j∧Q (.int (j:Nat)) H):=by
  intro pins s σ H x xs v us Q I rx r h;obtain⟨l,ys,q,j,rfl,rfl,hl,hj,k⟩:=h;cases rx;obtain⟨u,rfl,ru⟩:=vals1 r;obtain⟨its,ri,pl,hz⟩:=I.list hl;obtain⟨dQ,hp,hno⟩:=List.findIdx?_eq_some_iff_getElem.mp hj;have hlen:its.length=ys.length:=by have:=ri.length;rw[bY] at this;exact this.symm
  have U8:(ys.map V.str).all my=true:=by rw[List.all_map];exact eX.mpr fun _ _=>rfl
  have Fg:∀(i:Nat) (hi:i<its.length),zR (.str q) its[i]=(ys[i]'(by omega)==q):=fun i hi=>by
    obtain⟨y,e1,r1⟩:=RV ri (eQ hi);have HG:i<ys.length:=by omega
    rw[eU,eQ HG] at e1;cases e1;rw[B9 r1 rfl,NH]
  obtain⟨o,n,ho,hc,hd,hs⟩:=pl;cases o with
  |mk cls dd dat sl =>
  simp only at hc hd hs;subst hc hd hs;have rv:RelV (.str q) u:=ru;obtain⟨t,rfl⟩:=ru;have hjs:j<its.toArray.size:=by rw[eA];omega
  have adO:sizeLine<2^63-1:=by rw[fU];decide
  rw[bY] at hz;refine call_meets PySem.F.slot_list_index ⟨_,ho,rfl⟩ PySem.F.entry_list_index (PySem.F.args_list_index_2 _ _)
    (SeqAt.list_indexAt l its.toArray n none sl (.str q t) (zR (.str q)) j hjs (by omega) ?_ fun m hm Q7=>?_) ⟨ho,fun y hy=>kC rv rfl ri U8 y (by simpa using hy),⟨.int _,H,I.tok _,⟨_,rfl⟩,k⟩⟩
  ·have:=Fg j (by omega);rw[List.getElem_toArray,this];exact hp
  · have G7:m<its.length:=by rw[eA] at hm;exact hm
    rw[List.getElem_toArray,Fg m G7];exact Bool.eq_false_iff.mpr (hno m Q7)
theorem G8(hcm:X.calm=true):mw X (.builtin "all") (fun xs H Q=>∃(l:Addr) (bs:List Bool),xs=[.ref l]∧eY X.K H l (bs.map V.bl)∧Q (.bl (bs.all id)) H):=by
  intro pins s σ H xs us Q I r h;obtain⟨l,bs,rfl,hl,q⟩:=h;obtain⟨u,rfl,ru⟩:=vals1 r;cases ru;obtain⟨its,ri,pl,hz⟩:=I.list hl;have dQ:l<s.heap.objs.size:=by obtain⟨_,e,_⟩:=pl.isList;exact bG e
  have hlen:its.length=bs.length:=by have:=ri.length;rw[bY] at this;exact this.symm
  refine call_all_walk (wpAny_pyIter_list pl.isList ?_);refine⟨s.heap.objs.size,[s.heap.objs.size,l],[s.heap.objs.size],its.toArray.size,_,_,fun i=>(bs[i]?).getD true,rfl,Walks.list (A:=X.A.in1) (I.ok.hd hcm) _ l (dP dQ) its.toArray,
    ⟨⟨_,iE _ rfl,rfl,rfl⟩,pl.isList.push _⟩,fun i v s' Q' E' hP hQ=>?_,fun h' tk hk=>?_⟩
  · have hP':its[i]?=some v:=by simpa using hP
    obtain⟨y,e1,r1⟩:=RV ri hP';rw[eU] at e1;obtain⟨b,e2,e3⟩:=iD.mp e1;subst e3;cases r1;have hQ2:Q' b s':=by have:=hQ;simp only[e2,Option.getD_some] at this;exact this
    exact wpAny_truthy_bool hQ2
  · have e:((List.range its.toArray.size).all fun i=>(bs[i]?).getD true)=bs.all id:=by
      rw[eA,hlen];rw[pJ,eX,eX];constructor
      ·intro h b hb;obtain⟨i,hi,rfl⟩:=List.getElem_of_mem hb;have:=h i (ml.mpr hi);rw[eQ hi] at this;exact this
      ·intro h i hi;have HG:=ml.mp hi;rw[eQ HG];exact h _ (List.getElem_mem HG)
    rw[e];refine⟨.bl _,H,I.kept (t':=tk) fun b ob e=>?_,rfl,q⟩;refine hk b ob (fun hm=>?_) (dC _ e);rw[xH.mp hm] at e;exact rn _ (bG e)
end
end L2
namespace DL
open PySem PySem.Spec L2
open PyProof.Rows hiding St
section
variable {X:Cx} {z:Zc} {a b e o:Expr} {fa fb f fo:EF} {pos:Pos}
def n5:fc→Option dB
  |[]=>some []
  |.str x::ds=>(n5 ds).map (x::·)
  |_::_=>none
theorem qy:∀{ds:fc} {xs:dB},n5 ds=some xs→ds=xs.map D.str
  |[],xs,h=>by cases h;rfl
  |.str i::ds,xs,h=>by obtain⟨r,h1,h2⟩:=iD.mp h;subst h2;rw[qy h1];rfl
theorem nC:∀(xs:dB),n5 (xs.map D.str)=some xs
  |[]=>rfl
  |x::xs=>by show(n5 (xs.map D.str)).map _=_;rw[nC xs];rfl
theorem lu{K:PySem.W.Frag}{F:Hp}:∀{xs:dB} {vs:List V},bz K F (xs.map D.str) vs→vs=xs.map V.str
  |[],vs,h=>aP.mp h
  |x::xs,vs,h=>by obtain⟨v,r,rfl,h1,h2⟩:=av.mp h;rw[aR.mp h1,lu h2];rfl
def AU:D→D→Option D
  |.str x,.lst ds=>(n5 ds).bind fun ys=>if (ys.map (·.length)).sum+ys.length*x.length≤1000 then some (.str (Txt.join x ys)) else none
  |_,_=>none
theorem NJ(ho:DB X z o fo)(h:DB X z e f)(cI:attributeBase o "join" X.env (eval o X.env)=eval o X.env:=by rfl)(rK:((backTo aX (starEach [e] X.env)).all (fun x=>!x.1)&&(backToKw aX (keywordEach [] X.env)).all (fun x=>x.1.isSome)
      && decide (([e]:List Expr).length+([]:List Keyword).length+(if ([]:List Keyword).isEmpty then 0 else 1)<30))=true:=by rfl)(hline:(apos.endLine==aX.line)=true:=by rfl)(hs:starEach [e] X.env=(false,eval e X.env)::starEach [] X.env:=by rfl):DE X z (.Call (.Attribute o "join" apos) [e] [] aX) (ae AU fo f) :=
  PE.weak (w5 PySem.F.plainAttrs_str PySem.F.slot_str_join PySem.F.type_str_join NF ho (aW h cP hs) cI rK hline hs (by rfl)) fun σ H Q ⟨η,F,d,r,e,k⟩=>by
  obtain⟨x,y,h1,h2,h3⟩:=jb e;refine⟨η,F,x,r,h1,fun v H1 F1 g1 q1=>?_⟩;unfold AU at h3;split at h3
  · obtain⟨ys,h4,h5⟩:=cU.mp h3;by_cases hc:(ys.map (·.length)).sum+ys.length*(‹Str›).length≤1000
    ·rw[az hc] at h5;cases h5;rw[aR.mp q1];refine⟨rfl,η,F1,_,r.grow g1,h2,fun u H2 F2 g2 q2=>?_⟩;obtain⟨l,vs,rfl,h6,h7⟩:=aL.mp q2;rw[qy h4] at h7;rw[lu h7] at h6;exact⟨_,l,ys,rfl,rfl,h6,fR hc (by decide),k _ H2 F2 (g1.trans g2) (aR.mpr rfl)⟩
    ·rw[ax hc] at h5;cases h5
  ·cases h3
def u6:D→D→Option D
  |.lst ds,.str x=>(n5 ds).bind fun ys=>(ys.findIdx? (·==x)).map fun j=>.int (j:Nat)
  |_,_=>none
theorem Kq(ho:DB X z o fo)(h:DB X z e f)(cI:attributeBase o "index" X.env (eval o X.env)=eval o X.env:=by rfl)(rK:((backTo aX (starEach [e] X.env)).all (fun x=>!x.1)&&(backToKw aX (keywordEach [] X.env)).all (fun x=>x.1.isSome)
      && decide (([e]:List Expr).length+([]:List Keyword).length+(if ([]:List Keyword).isEmpty then 0 else 1)<30))=true:=by rfl)(hline:(apos.endLine==aX.line)=true:=by rfl)(hs:starEach [e] X.env=(false,eval e X.env)::starEach [] X.env:=by rfl):DE X z (.Call (.Attribute o "index" apos) [e] [] aX) (ae u6 fo f) :=
  PE.weak (w5 PySem.F.plainAttrs_list PySem.F.slot_list_index PySem.F.type_list_index Kp ho (aW h cP hs) cI rK hline hs (by rfl)) fun σ H Q ⟨η,F,d,r,e,k⟩=>by
  obtain⟨x,y,h1,h2,h3⟩:=jb e;refine⟨η,F,x,r,h1,fun v H1 F1 g1 q1=>?_⟩;unfold u6 at h3;split at h3
  ·obtain⟨ys,h4,h5⟩:=cU.mp h3;obtain⟨j,h6,h7⟩:=iD.mp h5;subst h7;obtain⟨l,vs,rfl,h8,h9⟩:=aL.mp q1;refine⟨.inl ⟨rfl,_,h8⟩,η,F1,_,r.grow g1,h2,fun u H2 F2 g2 q2=>?_⟩;rw[aR.mp q2];have Wr:=aM g2.ent _ _ q1;obtain⟨l',vs',e',h8,h9⟩:=aL.mp Wr;cases e';rw[qy h4] at h9;rw[lu h9] at h8;exact⟨l,ys,_,j,rfl,rfl,h8,h6,k _ H2 F2 (g1.trans g2) (aD.mpr rfl)⟩
  ·cases h3
def Kr:fc→Option (List Bool)
  |[]=>some []
  |.bl x::ds=>(Kr ds).map (x::·)
  |_::_=>none
theorem AV{K:PySem.W.Frag}{F:Hp}:∀{ds:fc} {bs:List Bool} {vs:List V},Kr ds=some bs→bz K F ds vs→vs=bs.map V.bl
  |[],bs,vs,h,h'=>by cases h;exact aP.mp h'
  |.bl i::ds,bs,vs,h,h'=>by obtain⟨r,h1,h2⟩:=iD.mp h;subst h2;obtain⟨v,r',rfl,h3,h4⟩:=av.mp h';rw[bu.mp h3,AV h1 h4];rfl
def NK:fc→Option D
  |[.lst ds]=>(Kr ds).map fun bs=>.bl (bs.all id)
  |_=>none
theorem RW{K:PySem.W.Frag}:xi K NK (fun xs H Q=>∃(l:Addr) (bs:List Bool),xs=[.ref l]∧eY K H l (bs.map V.bl)∧Q (.bl (bs.all id)) H):=fun F H ds d vs Q b e h k=>by
  unfold NK at e;split at e
  ·obtain⟨bs,h1,h2⟩:=iD.mp e;subst h2;obtain⟨v,rfl,h'⟩:=uF h;obtain⟨a,ws,rfl,h3,h4⟩:=aL.mp h';rw[AV h1 h4] at h3;exact⟨a,bs,rfl,h3,k _ (bu.mpr rfl)⟩
  ·cases e
end
end DL
namespace L2
open PySem PySem.Spec PyProof.Rows
def Ys(x:Str):It:=⟨fun i _=>i<x.cps.size,fun i H v H'=>H'=H∧∃c,x.cps[i]?=some c∧v=.str ⟨#[c]⟩,fun i _=>x.cps.size≤i⟩
theorem AW{K:PySem.W.Frag}{ty:String}{t:Tok}(it:Addr)(W:∀A:Around,A.handled=none→Walks P w A it [it] [it] x.cps.size (SignAt x) (fun i h=>h.IsStrIter it ty x t i))(hn:["enumerate","zip","dict_itemiterator","dict_reverseitemiterator","odict_iterator","itertools.zip_longest","itertools.pairwise"].contains ty=false)(hs:∀(A:Around) (i:Nat) (s:Shared) (Q:ic) (E:ic),s.heap.IsStrIter it ty x t i→Q (.ref it) s→wpAny (model P w) A (pyIter (.ref it)) Q E s)(hd:∀(A:Around) (i:Nat) (s:Shared) (Q:fQ→Shared→Prop) (E:ic),A.handled=none→s.heap.IsStrIter it ty x t i→x.cps.size≤i→(∀h',(∀b o,b≠it→s.heap.get? b=some o→h'.get? b=some o)→Q none { s with heap:=h' })→wpAny (model P w) A (pyNext (.ref it)) Q E s) :
    Turn P w K tg (Ys x) [it] it (fun i h=>h.IsStrIter it ty x t i) where
  mem:=by simp
  obj:=fun i h st b hb=>by
    have e:b=it:=by simpa using hb
    subst e;obtain⟨o,e,c,d⟩:=st;exact⟨o,e,fun v z=>by rw[d] at z;cases z⟩
  keep:=fun i h h' st k=>by obtain⟨o,e,c,d⟩:=st;exact⟨o,k it (by simp) o e,c,d⟩
  item:=by intro X hP hw hK hc i pins s σ H E I hf st hg;subst hP hw hK;obtain⟨f0,f1,f2,f3,f4,f5⟩:=hf it (by simp);refine(W X.A (I.ok.hd hc)).item i s _ _ hg st fun v h' tk hv sM kk=>?_;obtain⟨c,u,e1,rfl⟩:=hv;have I1:Inv X pins σ H { s with heap:=h',toks:=tk }:=I.turned (fun b o hb e=>kk b o (by simpa using hb) e) f0 f1 f3 f4 f5;obtain⟨o,e,cc,d⟩:=id sM;exact⟨_,rfl,Eb (s:={ s with heap:=h',toks:=tk }) e cc d hn ⟨.str ⟨#[c]⟩,H,I1,⟨u,rfl⟩,⟨rfl,c,e1,rfl⟩,sM,fun b hb=>(hf b hb).1⟩⟩
  done:=by intro X hP hw hK hc i pins s σ H E I hf st hg;subst hP hw hK;obtain⟨f0,f1,f2,f3,f4,f5⟩:=hf it (by simp);exact hd X.A i s _ _ (I.ok.hd hc) st hg fun h' eb=>⟨rfl,I.turned (t':=s.toks) (fun b o hb e=>eb b o hb e) f0 f1 f3 f4 f5⟩
  self:=hs
section
variable {X:Cx} {tg:Expr}
def Yt(tl:TE):TI:=fun σ H R=>tl σ H fun x H1=>∃y,x=.str y∧R (Ys y) H1
theorem RX{l:Expr}{tl:TE}(hl:PE X l tl):PI X tg l (Yt tl):=by
  intro pins s σ H R I h;refine cN (hl pins s σ H _ I h) fun v s1 ⟨x,H1,I1,r1,q1⟩=>?_;obtain⟨y,e,q⟩:=q1;subst e;obtain⟨t,rfl⟩:=r1;have fp:∀b∈[s1.heap.objs.size],fS X pins H1 b:=fun b hb=>by
    have e:b=s1.heap.objs.size:=by simpa using hb
    subst e;exact I1.tu (bJ _) (I1.bV.fresh (bJ _))
  cases ha:y.cps.all (·<128)
  · refine wpAny_pyIter_wide ha ?_;exact⟨s1.heap.objs.size,[s1.heap.objs.size],_,_,H1,rfl,I1.kept (t':=s1.toks) fun b o e=>dC _ e,
      AW (ty:="str_iterator") (t:=t) _ (fun A hA=>Walks.strWide hA _ y t) (by decide) (fun _ _ _ _ _ st h=>wpAny_pyIter_striter_wide st h)
        (fun A i s Q E hA st hi k=>wpAny_pyNext_wide_end hA st (by simpa using hi) fun h' e=>k h' fun b o hb g=>e b o hb g),⟨_,iE _ rfl,rfl,rfl⟩,fp,q⟩
  · refine wpAny_pyIter_ascii ha ?_;exact⟨s1.heap.objs.size,[s1.heap.objs.size],_,_,H1,rfl,I1.kept (t':=s1.toks) fun b o e=>dC _ e,
      AW (ty:="str_ascii_iterator") (t:=t) _ (fun A hA=>Walks.strAscii hA _ y t) (by decide) (fun _ _ _ _ _ st h=>wpAny_pyIter_striter_ascii st h)
        (fun A i s Q E hA st hi k=>wpAny_pyNext_ascii_end hA st (by simpa using hi) fun h' e=>k h' fun b o hb g=>e b o hb g),⟨_,iE _ rfl,rfl,rfl⟩,fp,q⟩
end
end L2
namespace DL
open PySem PySem.Spec L2
open PyProof.Rows hiding St
section
variable {X:Cx} {z:Zc} {tg e a b:Expr} {f fa fb:EF} {pos p:Pos} {K:PySem.W.Frag} {F:Hp}
def ly(x:Str):fc:=x.cps.toList.map fun c=>D.str ⟨#[c]⟩
theorem Ks(hl:x.length≤sizeLine):Walk K z F (Ys x) true (ly x) where
  go:=fun F' H' s g i hi=>by show i<x.cps.size;simpa[ly] using hi
  BP:=fun F' H' s g i d v BH e y=>by obtain⟨rfl,c,h1,rfl⟩:=y;refine⟨F',aI.refl g.base,?_⟩;unfold ly at e;rw[eU] at e;obtain⟨c',h2,rfl⟩:=iD.mp e;rw[v3,h1] at h2;cases h2;show Den K F' _ _;exact aR.mpr rfl
  stop:=fun F' H' s g=>by show x.cps.size≤_;simp[ly]
  len:=by
    have:(ly x).length=x.length:=by simp[ly,Str.length]
    rw[this];exact hl
def yG(f:EF):LF:=fun η=>(f η).bind fun d=>match d with|.str x=>if x.length≤1000 then some (ly x) else none|_=>none
theorem RZ(h:DB X z e f):DI X z tg e true (yG f):=PI.weak (RX h) fun σ H R ⟨η,F,ds,r,e,k⟩=>by
  unfold yG at e;obtain⟨d,h1,h2⟩:=cU.mp e;cases d with
  |str x =>
   by_cases hc:x.length≤1000
   ·dsimp only at h2;rw[az hc] at h2;cases h2;refine⟨η,F,_,r,h1,fun v H' F' g q=>?_⟩;exact⟨x,aR.mp q,k _ H' F' g (Ks (nO (eG hc)))⟩
   ·dsimp only at h2;rw[ax hc] at h2;cases h2
  |_=>cases h2
end
end DL
namespace NR
open PySem PySem.Spec PyProof.Rows
def fN(val:Nat→Str):Nat→dB
  |0=>[]
  |i+1=>if val i∈fN val i then fN val i else fN val i++[val i]
theorem u9(val:Nat→Str):∀i,(fN val i).length≤i
  |0=>bJ _
  |i+1=>by
   have:=u9 val i;unfold fN;split
   ·omega
   ·simp;omega
theorem G9(val:Nat→Str)(i:Nat)(k:Str):decide (k∈fN val (i+1))=(decide (k∈fN val i)||decide (k=val i)):=by
  rw[fN];split
  · rename_i h;by_cases e:k=val i
    ·subst e;simp[h]
    ·simp[e]
  ·simp[Bool.decide_or]
theorem Ha(val:Nat→Str)(i:Nat):(fN val (i+1)).length=if decide (val i∈fN val i)=true then(fN val i).length else(fN val i).length+1:=by rw[fN];by_cases h:val i∈fN val i<;>simp[h]
abbrev SS(prog:Program)(w:World)(h:Heap)(S:Addr)(val:Nat→Str)(i:Nat):Prop:=h.SetOf (PySem.strKind prog w) S (fun k=>decide (k∈fN val i)) (fN val i).length
abbrev tK(led:Bool):Obj:={ cls:=.type "set",dict:=none,data:=.set #[] 0 (.fresh 0 0 led) }
structure vd (prog:Program) (w:World) (items:Array Value) (S:Addr) (J:Nat→Heap→Prop):Prop where
  zero:∀h led,h.get? S=some (tK led)→J 0 h
  jY:∀i h h',J i h→(∀o,h.get? S=some o→h'.get? S=some o)→J i h'
  add:∀(B:Around) i v (s:Shared) (Q:Bool→Shared→Prop) (E:ic),items[i]?=some v→J i s.heap →
    (∀r h' tk,(∀b o,b≠S→s.heap.get? b=some o→h'.get? b=some o)→J (i+1) h'→Q r { s with heap:=h',toks:=tk })→wpAny (model prog w) B (setAdd S v) Q E s
section
variable {prog:Program} {w:World} {A:Around} {E:ic} {s:Shared} {items:Array Value} {S l I:Addr} {J:Nat→Heap→Prop} {R:Result→Shared→Prop}
theorem vd.all(T:vd prog w items S J)(hh:A.handled=none)(hSl:S≠l)(Fl:S≠I)(hIl:I≠l)(hR:∀h tk,J items.size h→(∀b o,b≠S→b≠I→s.heap.get? b=some o→h.get? b=some o)→R (.ok (.ret .none)) { s with heap:=h,toks:=tk }):∀(k i:Nat),items.size-i=k→i≤items.size→∀(h:Heap) (tk:Nat),h.IsListIter I l i→h.IsList l items→J i h→(∀b o,b≠S→b≠I→s.heap.get? b=some o→h.get? b=some o)→codeAny (model prog w) A (.builtin "set.update.loop" ⟨[.ref S,.ref I],[]⟩) R { s with heap:=h,toks:=tk }
  |0,i,hk,hi,h,tk,it,li,j,kp=>by
   have e:i=items.size:=by omega
   subst e;refine codeAny_builtin PyProof.Rows.F.entry_set_update_loop ?_;rw[Around.under_plainId FV _];exact aE (wpAny_pyNext_list_end (by simpa using hh) it li (by simp) fun h' x=>bP (hR h' tk (T.jY _ _ _ j fun o e=>x S o Fl e) fun b o n1 n2 e=>x b o n2 (kp b o n1 n2 e)))
  |k+1,i,hk,hi,h,tk,it,li,j,kp=>by
   have dQ:i<items.size:=by omega
   refine codeAny_builtin PyProof.Rows.F.entry_set_update_loop ?_;rw[Around.under_plainId FV _];refine aE (wpAny_pyNext_list_item it li (x:=items[i]) (by simp[dQ]) fun h1 it1 x1=>aE (oB (T.add _ i items[i] _ _ _ (by simp[dQ]) (T.jY _ _ _ j fun o e=>x1.extBut S o Fl e) fun r h2 Ym Yu j2=>?_)));refine bP ⟨plainId_quiet FV _,?_⟩;exact vd.all T hh hSl Fl hIl hR k (i+1) (by omega) dQ h2 Ym (it1.at fun o e=>Yu I o (cT Fl) e) (li.at fun o e=>Yu l o (cT hSl) (x1.extBut l o (cT hIl) e)) j2 fun b o n1 n2 e=>Yu b o n1 (x1.extBut b o n2 (kp b o n1 n2 e))
theorem vd.call(T:vd prog w items s.heap.objs.size J)(hh:A.handled=none)(hl:s.heap.IsList l items)(hQ:∀h' tk,J items.size h'→(∀b o,s.heap.get? b=some o→h'.get? b=some o)→Q (.ref s.heap.objs.size) { s with heap:=h',toks:=tk }):wpAny (model prog w) A (call (.type "set") [.ref l]) Q E s:=by
  obtain⟨c,tl,Ye⟩:=nL.mro;have q1:=nL.made;have q2:=nL.sub;have q3:=nL.notType;have q4:=nL.canCreate;have q5:=PySem.F.typeCall_set_1 (.ref l);have q6:=nL.init.lookup;have q7:=nL.init.bind (.ref s.heap.objs.size);have q8:=PySem.F.sub_list_set;have q9:=PySem.F.sub_list_frozenset;have lt:l<s.heap.objs.size:=let ⟨_,ho,_⟩:=hl;bG ho
  have body:∀led,wpAny (model prog w) A.in1.in1 (Builtin.«set.__init__» ⟨[.ref s.heap.objs.size,.ref l],[]⟩)
      (fun fin s'=>match fin with|.done f=>wants (fun r s₂=>r=.none∧Q (.ref s.heap.objs.size) s₂) E (.ok f) s'|.again c'=>c'.quiet=true∧codeAny (model prog w) A.in1 c' (wants (fun r s₂=>r=.none∧Q (.ref s.heap.objs.size) s₂) E) s')
      (fun e s'=>wants (fun r s₂=>r=.none∧Q (.ref s.heap.objs.size) s₂) E (.error e) s') { s with heap:=s.heap.push (tK led) }:=fun led=>by
    have hS:(s.heap.push (tK led)).get? s.heap.objs.size=some (tK led):=iE _ rfl;have li:(s.heap.push (tK led)).IsList l items:=hl.push _;have hT:Shared.TypeIs { s with heap:=s.heap.push (tK led) } (.ref s.heap.objs.size) "set":=⟨_,hS,rfl⟩
    have ty:Shared.TypeIs { s with heap:=s.heap.push (tK led) } (.ref l) "list":=Heap.IsList.typeIs (s:={ s with heap:=s.heap.push (tK led) }) li;unfold Builtin.«set.__init__» noKeywords Builtin.Frozenset.updateFrom
    wp_walk using wpAny_pyIter_list li
    have ne:∀a,a<s.heap.objs.size→a≠(s.heap.push (tK led)).objs.size:=fun a h=>by rw[kz];omega
    have Fl:s.heap.objs.size≠(s.heap.push (tK led)).objs.size:=by rw[kz];omega
    exact T.all (s:={ s with heap:=(s.heap.push (tK led)).push { cls:=.type "list_iterator",data:=.fields #[.ref l,.int 0 0] } }) (by simpa using hh) (mq lt) Fl (cT (ne l lt))
      (fun h tk j kp=>by
        show wpAny (model prog w) A.in1.in1 (pure ()) _ _ _;refine bP ?_;show wpAny (model prog w) A.in1.in1 (ret Value.none) _ _ _;exact bP ⟨rfl,hQ h tk j fun b o e=>kp b o (dP (bG e)) (ne b (bG e)) (dC _ (dC _ e))⟩)
      items.size 0 (Nat.sub_zero _) (ik _) _ _ ⟨_,iE _ rfl,rfl,rfl⟩ (li.push _) (T.zero _ led (dC _ hS)) fun _ _ _ _ e=>e
  refine wpAny_call (codeAny_of_tree (bP ⟨Code.quiet_builtin _ (by decide +kernel),codeAny_builtin PySem.F.entry_type_call ?_⟩));rw[Around.under_plain (weight_type_call_type "set" [.ref l] []) rfl]
  wp_walk
  refine code_set_new_1 (E:=E) (.ref l) fun led=>?_;have hT:Shared.TypeIs { s with heap:=s.heap.push (tK led) } (.ref s.heap.objs.size) "set":=⟨_,iE _ rfl,rfl⟩
  wp_walk
  refine codeAny_mono (codeAny_call_builtin nL.init.plain PySem.F.entry_set_init (check_set_init_1 hT (body led))) fun r s₂ hr=>?_
  match r,hr with
  |.ok (.ret v),⟨e,hq⟩ =>
   subst e
   wp_walk
   exact hq
  |.error e,hr=>exact hr
end
section
variable {prog:Program} {w:World} {A:Around} {E:ic} {s:Shared}
theorem Hb{val:Nat→Str}{S:Addr}(hn:items.size+1<scanBound)(yy:∀(i:Nat) (v:Value),items[i]?=some v→∃t,v=Value.str (val i) t):vd prog w items S (fun i h=>SS prog w h S val i) where
  zero:=fun h led e=>(setObjOf_fresh led).setOf e (by decide)
  jY:=fun i h h' ⟨o,es,ep,tb,ho,rest⟩ k=>⟨o,es,ep,tb,k o ho,rest⟩
  add:=fun B i v s Q E hv j hQ=>by
    obtain⟨t,e⟩:=yy i v hv;subst e;have is:(PySem.strKind prog w).is (val i) (.str (val i) t)=true:=show Value.isStrOf (val i) (.str (val i) t)=true by simp[Value.isStrOf]
    have hi:i<items.size:=(Array.getElem?_eq_some_iff.mp hv).1;have:=u9 val i;exact oB (aE ((PySem.strKind prog w).pyHash is (wpAny_setAddHashed_of (s:={ s with toks:=s.toks+1 }) is rfl j (by omega) fun h' x hS=>hQ _ h' _ (fun b o n e=>(x.2 b n).trans e) (SetOf_congr hS (fun k=>(G9 val i k).symm) (Ha val i).symm))))
theorem Hc{l:Addr}{val:Nat→Str}(hh:A.handled=none)(hl:s.heap.IsList l items)(h5:items.size+1<scanBound)(yy:∀(i:Nat) (v:Value),items[i]?=some v→∃t,v=Value.str (val i) t)(h:∀(h':Heap) (tk:Nat),SS prog w h' s.heap.objs.size val items.size→(∀b o,b<s.heap.objs.size→s.heap.get? b=some o→h'.get? b=some o)→Q (.ref s.heap.objs.size) { s with heap:=h',toks:=tk }):wpAny (model prog w) A (call (.type "set") [.ref l]) Q E s :=
  vd.call (Hb h5 yy) hh hl fun h' tk j k=>h h' tk j fun b o _ e=>k b o e
end
end NR
namespace DL
open PySem PySem.Spec L2
open PyProof.Rows hiding St
abbrev lY:=List (List Key×D)
structure NM (X:Cx) (z:Zc) (e:Expr) (sel:aY→Option (Addr×lY)) (st:aY→lY→aY):Prop where
  ex:∃tE,PE X e tE∧∀σ H η F p ao,Rel X.K z F H σ η→sel η=some (p,ao) →
    (∃ws,H p=some (.dT ws)∧bW X.K F ao ws)∧(∀Q:VK,Q (.ref p) H→tE σ H Q) ∧
      ∀iw zz,bW X.K F iw zz→zz.length≤sizeLine→Rel X.K z F (upd H p (.dT zz)) σ (st η iw)
def NP(C0:Addr)(i:Nat)(η:aY):Option (Addr×lY):=match η[i]? with
  |some (some (.bx p C _ ao))=>if C=C0 then some (p,ao) else none
  |_=>none
def Td(i:Nat)(η:aY)(iw:lY):aY:=match η[i]? with
  |some (some (.bx p C ws _))=>η.set i (some (.bx p C ws iw))
  |_=>η
def NQ(i:Nat)(η:aY):Option (Addr×lY):=match η[i]? with
  |some (some (.od p ao))=>some (p,ao)
  |_=>none
def Te(i:Nat)(η:aY)(iw:lY):aY:=match η[i]? with
  |some (some (.od p _))=>η.set i (some (.od p iw))
  |_=>η
section
variable {X:Cx} {z:Zc}
theorem Df(i:Nat)(hN:X.N[i]?=some x:=by rfl)(hv:pL X.env.scope x:=by first|exact Or.inl rfl|exact Or.inr (Or.inl rfl)|exact Or.inr (Or.inr rfl))(iG:(x==("__debug__":Str))=false:=by decide)(dU:(x==("__classdict__":Str))=false:=by decide):NM X z (.Name x px) (NQ i) (Te i):=⟨_,cO hN hv iG dU,fun σ H η F p ao r e=>by
  unfold NQ at e;split at e
  ·rename_i p' iw h;cases e;obtain⟨v,a1,a2⟩:=r.at_ i _ h;obtain⟨p1,o,⟨rfl,rfl⟩,h0,hF,hH,ws,rfl,hd⟩:=(bQ (sl:=.od _ _) rfl).mp a2;refine⟨⟨ws,hH,hd⟩,fun Q q=>⟨_,a1,q⟩,fun U9 zz HC hl=>?_⟩;unfold Te;rw[h];exact r.writeAt h rfl rfl a1 ⟨rfl,rfl⟩ ⟨rfl,rfl⟩ ⟨zz,rfl,HC⟩ hl
  ·cases e⟩
theorem yH(i:Nat){C0:Addr}(cl:vX X.K C0)(na:iF X.K C0 "lying")(hN:X.N[i]?=some x:=by rfl)(hv:pL X.env.scope x:=by first|exact Or.inl rfl|exact Or.inr (Or.inl rfl)|exact Or.inr (Or.inr rfl))(iG:(x==("__debug__":Str))=false:=by decide)(dU:(x==("__classdict__":Str))=false:=by decide)(hb:attributeBase (.Name x px) "lying" X.env (eval (.Name x px) X.env)=eval (.Name x px) X.env:=by rfl):NM X z (.Attribute (.Name x px) "lying" apos) (NP C0 i) (Td i):=⟨_,xX (cO hN hv iG dU) hb,fun σ H η F p ao r e=>by
  unfold NP at e;split at e
  · rename_i p' C Px iw h;by_cases hc:C=C0
    ·rw[az hc] at e;cases e;subst hc;obtain⟨v,a1,a2⟩:=r.at_ i _ h;obtain⟨p1,o,⟨rfl,a,dx,l,vs,rfl,b1,b2,b3⟩,h0,hF,hH,ws,rfl,hd⟩:=(bQ (sl:=.bx _ _ _ _) rfl).mp a2;refine⟨⟨ws,hH,hd⟩,fun Q q=>⟨_,a1,a,C,dx,_,_,rfl,r.base.sub _ _ b1,cl,na,rfl,q⟩,fun U9 zz HC hl=>?_⟩;unfold Td;rw[h];exact r.writeAt h rfl rfl a1 ⟨rfl,a,dx,l,vs,rfl,b1,b2,b3⟩ ⟨rfl,a,dx,l,vs,rfl,b1,b2,b3⟩ ⟨zz,rfl,HC⟩ hl
    ·rw[ax hc] at e;cases e
  ·cases e⟩
variable {e ek ed ev:Expr} {fk fd fv:EF} {pos:Pos} {sel:aY→Option (Addr×lY)} {st:aY→lY→aY}
def qz(sel:aY→Option (Addr×lY))(fk fd:EF):EF:=fun η=>(sel η).bind fun q=>(fk η).bind fun k=>(fd η).bind fun d=>(CG k).map fun ks=>(oW q.2 ks).getD d
theorem yI(hu:X.A.units+1<cLine)(R:NM X z e sel st)(hk:DB X z ek fk)(hd:DE X z ed fd)(m:M2 X e "get" apos ek ed aX:=by exact⟨rfl,rfl,rfl,rfl⟩):DE X z (.Call (.Attribute e "get" apos) [ek,ed] [] aX) (qz sel fk fd):=by
  obtain⟨tE,pe,at_⟩:=R.ex;refine PE.weak (zY hu pe hk hd m) fun σ H Q ⟨η,F,d,r,e,k⟩=>?_;unfold qz at e;obtain⟨⟨p,ao⟩,h1,e⟩:=cU.mp e;obtain⟨kd,h2,e⟩:=cU.mp e;obtain⟨d0,h3,e⟩:=cU.mp e;obtain⟨ks,h4,rfl⟩:=iD.mp e;obtain⟨⟨ws,a2,a3⟩,b1,_⟩:=at_ σ H η F p ao r h1;refine b1 _ ⟨p,rfl,.inr ⟨ws,.inl a2⟩,η,F,kd,r,h2,fun y H1 F1 g1 q1=>⟨η,F1,d0,r.grow g1,h3,fun w H2 F2 g2 q2=>?_⟩⟩;have uI:=g1.trans g2;refine⟨_,yq (F:=F2) (yp uI.ent (.inl a2)) (aM g2.ent _ _ q1) h4,k _ H2 F2 uI ?_⟩;obtain⟨c1,c2⟩:=qo ks (a3.mono uI.cz);cases hv:oW ao ks with
  |none=>rw[c2 hv];exact q2
  |some d'=>obtain⟨v,e1,e2⟩:=c1 d' hv;rw[e1];exact e2
def n6(sel:aY→Option (Addr×lY))(st:aY→lY→aY)(fk fv:EF):SF:=fun η=>(fv η).bind fun v=>(fk η).bind fun k=>(CG k).bind fun ks=>(sel η).bind fun q =>
  if q.2.length<10000 then some (.nx (st η (putD q.2 ks v))) else none
theorem t5(hu:X.A.units+1<cLine)(R:NM X z e sel st)(hk:DB X z ek fk)(hw:DE X z ev fv)(hs:swapsWith ev (some (.Subscript e ek pos')) pos.line X.env=pure false:=by rfl):DS X z (.Assign [.Subscript e ek pos'] ev pos) (n6 sel st fk fv):=by
  obtain⟨tE,pe,at_⟩:=R.ex;refine PS.weak (En hu pe hk hw hs) fun D σ H ⟨η,F,o,r,e,k⟩=>?_;unfold n6 at e;obtain⟨dv,h1,e⟩:=cU.mp e;obtain⟨kd,h2,e⟩:=cU.mp e;obtain⟨ks,h3,e⟩:=cU.mp e;obtain⟨⟨p,ao⟩,h4,e⟩:=cU.mp e;by_cases hl:ao.length<10000
  · dsimp only at e;rw[az hl] at e;cases e;refine⟨η,F,dv,r,h1,fun v H1 F1 g1 q1=>?_⟩;have r1:=r.grow g1;obtain⟨⟨ws,a4,a5⟩,b1,_⟩:=at_ σ H1 η F1 p ao r1 h4;refine b1 _ ⟨η,F1,kd,r1,h2,fun y H2 F2 g2 q2=>?_⟩;have r2:=r1.grow g2;obtain⟨⟨ws2,a42,a52⟩,_,b3⟩:=at_ σ H2 η F2 p ao r2 h4;have X5:ws2.length<10000:=by rw[←jc a52];exact hl
    cases kd with
    |tup ds=>obtain⟨a,vs,rfl,c1,c2⟩:=aJ.mp q2;rw[ql c2 h3] at c1;refine⟨p,_,rfl,Gu.t a42 c1 (jX X5 (Cw (bJ _))),?_⟩;refine k _ _ F2 (b3 _ _ (Ay ks a52 (aM g2.cz _ _ q1)) ?_) (g1.cz.trans g2.cz);have:=jL ws2 ks v;exact fR this (Cw (by omega))
    |_=>cases h3
  ·dsimp only at e;rw[ax hl] at e;cases e
def mP(C0:Addr)(i:Nat):EF:=fun η=>match η[i]? with
  |some (some (.bx _ C ws _))=>if C=C0 then some (.lst ws) else none
  |some (some (.bb C ws _))=>if C=C0 then some (.lst ws) else none
  |_=>none
theorem ve(i:Nat){C0:Addr}(cl:vX X.K C0)(na:iF X.K C0 "words")(hN:X.N[i]?=some x:=by rfl)(hv:pL X.env.scope x:=by first|exact Or.inl rfl|exact Or.inr (Or.inl rfl)|exact Or.inr (Or.inr rfl))(iG:(x==("__debug__":Str))=false:=by decide)(dU:(x==("__classdict__":Str))=false:=by decide)(hb:attributeBase (.Name x px) "words" X.env (eval (.Name x px) X.env)=eval (.Name x px) X.env:=by rfl):DB X z (.Attribute (.Name x px) "words" apos) (mP C0 i):=PE.weak (xX (cO hN hv iG dU) hb) fun σ H Q ⟨η,F,d,r,e,k⟩=>by
  have fin:∀(E:Hp) (v:V) (C:Addr) (ws:fc) (p:Addr),bH E H→iu X.K E v C ws p→C=C0→d=.lst ws→σ[i]?=some (some v)→Uc X.K (jZ i) "words" σ H Q:=fun E v C ws p s b hc hd hv=>by subst hc hd;obtain⟨a,dx,l,vs,rfl,b1,b2,b3⟩:=b.mono s;exact⟨_,hv,a,C,dx,_,_,rfl,b1,cl,na,rfl,k _ H F (aI.refl r.base) (aL.mpr ⟨l,vs,rfl,b2,b3⟩)⟩
  unfold mP at e;split at e
  · rename_i p C ws ao h;by_cases hc:C=C0
    ·rw[az hc] at e;cases e;obtain⟨v,a1,a2⟩:=r.at_ i _ h;obtain⟨p1,o,⟨_,bb⟩,_⟩:=(bQ (sl:=.bx p C ws ao) rfl).mp a2;exact fin F v C ws p r.base.sub bb hc rfl a1
    ·rw[ax hc] at e;cases e
  · rename_i C ws ao h;by_cases hc:C=C0
    ·rw[az hc] at e;cases e;obtain⟨v,a1,p,ob,wv,bb,_⟩:=r.at_ i _ h;exact fin z.H₀ v C ws p r.mem.ent bb hc rfl a1
    ·rw[ax hc] at e;cases e
  ·cases e
end
end DL
namespace L2
open PySem PySem.Spec PyProof.Rows PySem.W MR
section
variable {prog:Program} {w:World} {A:Around} {E:ic} {s:Shared}
theorem yJ{Q:fQ→Shared→Prop}(hit:s.heap.IsValIter it d i es.size ep)(hm:fC s.heap d es ep)(dQ:i<es.size)(hQ:∀h',h'.IsValIter it d (i+1) es.size ep→Heap.SameBut it s.heap h'→Q (some es[i].val) { s with heap:=h' }):wpAny (model prog w) A (pyNext (.ref it)) Q E s:=by
  have hT:=hit.typeIs;have uw:=hit;have G7:=hm;obtain⟨o,ho,hc,hd⟩:=uw;obtain⟨od,Ag,dU,Ah⟩:=G7;refine aE (wpAny_attempt (ui hT F.slot_dict_valueiterator_next (md F.slot_dict_valueiterator_next hT F.entry_dict_valueiterator_next ?_ (F.args_dict_valueiterator_next_1 _))));unfold Builtin.«dict_valueiterator.__next__»
  wp_walk using wpAny_typeNameOfWhole_valiter hT,wpAny_fieldsOf ho hd,xI Ag Ah,wpAny_dictEpoch Ag Ah
  rw[show(if (i:Int)<0 then none else es[(i:Int).toNat]?)=some es[i] by rw[ax (by omega),nM,uh dQ]];refine aE (aE (wpAny_typeNameOfWhole_valiter hT (bP (aE (wpAny_isOneOf_valiter hT (aE ?_))))));have up:∀(f:Obj→Obj),f=Obj.mapFields (·.setIfInBounds 1 (rawInt ((i:Int)+1)))→(s.heap.update it f).IsValIter it d (i+1) es.size ep:=fun f e=>by subst e;exact⟨_,sZ _ ho (Obj.isFreed_of_fields (v9 hd _)),(Obj.cls_mapFields ..).trans hc,(v9 hd _).trans (by simp[rawInt])⟩
  refine wpAny_setField (i:=1) (x:=rawInt ((i:Int)+1)) ho hd (by simp) (aE (oB ?_));have Va:=(up _ rfl).typeIs (s:={ s with heap:=s.heap.update it (Obj.mapFields (·.setIfInBounds 1 (rawInt ((i:Int)+1)))) });exact aE (wpAny_isOneOf_valiter Va (aE (wpAny_isOneOf_valiter Va (bP (bP ⟨_,rfl,bP (hQ _ (up _ rfl) (pG ..))⟩)))))
theorem AX{Q:fQ→Shared→Prop}(hh:A.handled=none)(hit:s.heap.IsValIter it d i es.size ep)(hm:fC s.heap d es ep)(hx:es.size≤i)(hQ:∀h',Heap.ExtBut it s.heap h'→Q none { s with heap:=h' }):wpAny (model prog w) A (pyNext (.ref it)) Q E s:=by
  have hT:=hit.typeIs;have G7:=hm;obtain⟨o,ho,hc,hd⟩:=hit;obtain⟨od,Ag,dU,Ah⟩:=G7;refine aE (wpAny_attempt (ui hT F.slot_dict_valueiterator_next (md F.slot_dict_valueiterator_next hT F.entry_dict_valueiterator_next ?_ (F.args_dict_valueiterator_next_1 _))));unfold Builtin.«dict_valueiterator.__next__»
  wp_walk using wpAny_typeNameOfWhole_valiter hT,wpAny_fieldsOf ho hd,xI Ag Ah,wpAny_dictEpoch Ag Ah
  rw[show(if (i:Int)<0 then none else es[(i:Int).toNat]?)=none by rw[ax (by omega),nM,BM hx]];refine aE (aE (wpAny_typeNameOfWhole_valiter hT (bP (aE (wpAny_setField (i:=0) (x:=.none) ho hd (by simp) ?_)))));have s1:=pG s.heap it (Obj.mapFields (·.setIfInBounds 0 Value.none))
  wp_walk
  unfold raiseNew;have Tf:A.in1.handled=none:=by simpa using hh
  refine aE (wpAny_handled ?_);rw[Tf];refine aE (bP (wpAny_throw ?_));refine aE (wpAny_isInstance ⟨_,iE _ rfl,rfl⟩ isSubtype_stop (bP (hQ _ fun b o n e=>?_)));exact dC _ (dC _ (s1.extBut b o n e))
theorem yK{v:Addr}(hv:s.heap.IsValuesView v d)(hm:fC s.heap d es ep)(hQ:Q (.ref s.heap.objs.size) { s with heap:=s.heap.push { cls:=.type "dict_valueiterator",data:=.fields #[.ref d,.int 0 0,.int es.size 0,.int ep 0] } }):wpAny (model prog w) A (pyIter (.ref v)) Q E s:=by
  have xW:=hv;have G7:=hm;obtain⟨ov,Yv,hcv,Tg⟩:=xW;obtain⟨o,ho,hc,Af⟩:=G7;refine wpAny_pyIter_slot hv.typeIs F.slot_dict_values_iter (md F.slot_dict_values_iter hv.typeIs F.entry_dict_values_iter ?_ (F.args_dict_values_iter_1 _))
  wp_walk using kA Yv Tg rfl,xI ho Af,wpAny_dictEpoch ho Af
  exact⟨_,rfl,_,_,⟨_,iE _ rfl,rfl⟩,F.slot_dict_valueiterator_next.lookup,by simpa[show Builtin.Dict_items.ownsTuple "dict_valueiterator"=false by decide,rawInt] using hQ⟩
theorem qA(hd:(d==sysModules)=false):MeetsIn prog w (Builtin.«dict.values» ⟨[.ref d],[]⟩) (fun _ R s=>(∃es ep,fC s.heap d es ep)∧R (.ok (.ret (.ref s.heap.objs.size))) { s with heap:=s.heap.push { cls:=.type "dict_values",data:=.fields #[.ref d] } }) :=
  .of_wp fun A R s ⟨⟨es,ep,o,ho,hc,_⟩,h⟩=>by
    refine aE (show wpAny _ _ (Builtin.Dict.noArgs "values" _) _ _ s from ?_);unfold Builtin.Dict.noArgs;refine aE (wpAny_notOrdered_dict ⟨o,ho,hc.1⟩ ?_);have jY:wpAny (model prog w) A.in1 (Builtin.Dict.showsAll d) (fun _ s'=>s'=s) (fun e s'=>R (.error e) s') s:=by unfold Builtin.Dict.showsAll;rw[hd];exact bP rfl
    exact bP (aE (jK jY (fun _ _ e=>by subst e;exact aE (uj (bP ⟨_,rfl,h⟩))) fun _ _ h=>h))
theorem Hd(hh:A.handled=none)(I d:Addr)(kU:d≠I)(es:Array DictEntry)(ep:Nat) :
    Walks prog w A I [I,d] [I] es.size (fun i v=>∃e,es[i]?=some e∧v=e.val) (fun i h=>h.IsValIter I d i es.size ep∧fC h d es ep) where
  sub:=fun b hb=>by simp at hb;simp[hb]
  frame:=fun _ _ _ st hk=>⟨st.1.at fun o e=>hk I (by simp) o e,st.2.at fun o e=>hk d (by simp) o e⟩
  item:=fun i s Q E hi st hQ=>by refine yJ st.1 st.2 hi fun h' uw HJ=>?_;exact hQ _ h' s.toks ⟨_,uh hi,rfl⟩ ⟨uw,st.2.at fun o e=>HJ.extBut d o kU e⟩ fun b o hb e=>HJ.extBut b o (fun h=>hb (by simp[h])) e
  done:=fun s Q E st hQ=>AX hh st.1 st.2 (bJ _) fun h' U4=>hQ h' s.toks fun b o hb e=>U4 b o (fun h=>hb (by simp[h])) e
  self:=fun _ _ _ _ st hQ=>wpAny_pyIter_valiter st.1 hQ
end
section
variable {prog:Program} {w:World} {A:Around} {E:ic} {s:Shared} {r d:Addr} {es:Array DictEntry} {ep:Nat}
theorem Fm:KdlSrc prog w "dict_values" r d es.size (fun i v=>∃e,es[i]?=some e∧v=e.val) (fun h=>h.IsValuesView r d∧fC h d es ep) where
  type:=fun _ hm=>hm.1.typeIs
  there:=fun _ hm=>⟨let ⟨_,ho,_⟩:=hm.1;bG ho,hm.2.lt⟩
  keep:=fun _ _ hm hk=>⟨let ⟨o,ho,x⟩:=hm.1;⟨o,hk r (.inl rfl) o ho,x⟩,hm.2.at fun o e=>hk d (.inr rfl) o e⟩
  notList:=by decide
  notTuple:=by decide
  hint:=fun _ _ _ _ hm hq=>kdl_hint_values hm.1.typeIs hq
  iter:=fun _ _ hh hm=>⟨_,_,(fun _ _ hq=>yK hm.1 hm.2 hq),Hd hh _ d (dP hm.2.lt) es ep,⟨⟨_,iE _ rfl,rfl,rfl⟩,hm.2.at fun o e=>dC _ e⟩⟩
theorem NT{T:String}{P:Nat→Value→Prop}{OK:Heap→Prop}(K:KdlSrc prog w T r d n P OK)(hh:A.handled=none)(bV:OK s.heap)(val:Nat→Int)(yy:∀(i:Nat) (v:Value),P i v→∃t:Tok,v=Value.int (val i) t)(h:∀(h':Heap) (tk:Nat) (t':Tok),(∀b o,s.heap.get? b=some o→h'.get? b=some o)→Q (.int (preSum val n) t') { s with heap:=h',toks:=tk }):wpAny (model prog w) A (call (.builtin "sum") [.ref r]) Q E s:=by
  refine call_sum_walkAnyS ?_;obtain⟨oI,St,hit,W,st⟩:=K.iter A.in1 s hh bV;refine hit _ _ ⟨s.heap.objs.size,_,_,_,n,P,_,val,rfl,W.toS,st,fun b hb=>?_,yy,fun s' t' hm=>?_⟩
  · show b<(s.heap.push oI).objs.size;rw[kz];rcases dc.mp hb with e|hb
    ·rw[e];exact Nat.lt_succ_self _
    ·rw[xH.mp hb];exact Nat.lt_succ_of_lt (K.there _ bV).2
  ·rw[Moved.eq_with hm];exact h s'.heap s'.toks t' fun b o e=>hm.heap b o (fun hI=>absurd (bG e) (by rw[xH.mp hI];exact rn _)) (dC _ e)
end
section
variable {X:Cx} {e:Expr} {tE:TE} {p apos aX pos:Pos}
theorem AY{α β:Type}{R:α→β→Prop}:∀{xs:List α} {ys:List β},Paired R xs ys→∀{i:Nat} {y:β},ys[i]?=some y→∃x,xs[i]?=some x∧R x y
  |_,_,.nil,i,y,e=>by simp at e
  |_,_,.cons h t,0,y,e=>by simp at e;subst e;exact⟨_,rfl,h⟩
  |_,_,.cons h t,i+1,y,e=>by obtain⟨x,h1,h2⟩:=AY t (by simpa using e);exact⟨x,by simpa using h1,h2⟩
theorem preSum_eq{val:Nat→Int}(h:∀(i:Nat) n,ns[i]?=some n→val i=n):preSum val ns.length=ns.sum:=by
  have key:∀(k:Nat),k≤ns.length→preSum val k=(ns.take k).sum:=fun k=>by
    induction k with
    |zero=>intro _;simp[preSum]
    |succ k ih =>
     intro hk;have dQ:k<ns.length:=hk;have e1:ns.take (k+1)=ns.take k++[ns[k]]:=by rw[List.take_succ,eQ dQ];rfl
     have e2:(ns.take k++[ns[k]]).sum=(ns.take k).sum+ns[k]:=by rw[List.sum_append,List.sum_cons,List.sum_nil];omega
     rw[preSum,ih (nO dQ),h k _ (eQ dQ),e1,e2]
  rw[key _ (bJ _),List.take_length]
def Vb(tE:TE):TE:=fun σ H Q=>tE σ H fun x H1=>∃q ws ns,x=.ref q∧Rd H1 q (.dT ws)∧ws.map (·.2)=ns.map V.int∧Q (.int (List.sum ns)) H1
theorem Dg(hc:X.calm=true)(wI:Gl X "sum")(nZ:X.mg "sum"=none)(he:PE X e tE)(cI:attributeBase e "values" X.env (eval e X.env)=eval e X.env:=by rfl)(hline:(apos.endLine==aX.line)=true:=by rfl)(kx:starEach [Expr.Call (.Attribute e "values" apos) [] [] aX] X.env=(false,eval (.Call (.Attribute e "values" apos) [] [] aX) X.env)::starEach [] X.env:=by rfl)(Vc:bootBuiltins "sum"=some (.builtin "sum"):=by decide +kernel):PE X (.Call (.Name "sum" p) [.Call (.Attribute e "values" apos) [] [] aX] [] pos) (Vb tE):=by
  intro pins s σ H Q I h;refine tj (gT I wI nZ Vc ?_ (by decide) (by decide));refine PyProof.Rows.callWith_builtin1 ?_ kx rfl;rw[kx];show wpAny _ _ (spliced ((false,eval (.Call (.Attribute e "values" apos) [] [] aX) X.env)::backTo pos (starEach [] X.env))) _ _ s;refine wa ?_;refine wpAny_Call_method0_late cI hline (cN (he pins s σ H _ I h) fun v s1 ⟨x,H1,I1,r1,q1⟩=>?_);obtain⟨q,ws,ns,rfl,hq,hv,k⟩:=q1;cases r1;have bV:bS X.prog X.w H1 s1.heap q (.dT ws):=by
    rcases hq with hq|⟨ob,hq⟩
    ·exact I1.bV q _ hq
    ·exact(I1.bV q _ hq).2
  obtain⟨hz,Dh,xs,hp,o,es,ep,ho,hex,hd,yx,J9⟩:=bV;have h1:s1.TypeIs (.ref q) "dict":=⟨o,ho,hex.1⟩
  have h2:∀a,Value.ref q=.ref a→∃ob,s1.heap.get? a=some ob∧ob.dict=none:=fun a e=>by cases e;exact⟨o,ho,hex.2.1⟩
  refine⟨"dict","dict.values",PySem.F.plainAttrs_dict,PySem.F.slot_dict_values,PySem.F.type_dict_values,h1,h2,Calls.callWith_builtin rfl (PySem.evalArgs_none ?_)⟩;have hr:fC s1.heap q es ep:=⟨o,ho,hex,hd⟩
  refine call_meetsIn PySem.F.slot_dict_values h1 PySem.F.entry_dict_values (PySem.F.args_dict_values_1 _) (qA Dh) ⟨⟨es,ep,hr⟩,?_⟩;refine xJ ?_;have hh:X.A.handled=none:=I1.ok.hd hc;have hlen:es.size=ns.length:=by rw[←je,yx,bY,←pK hp,←bY (f:=fun p:List Key×V=>p.2) (as:=ws),hv,bY]
  refine NT (s:={ s1 with heap:=s1.heap.push { cls:=.type "dict_values",data:=.fields #[.ref q] } }) (Fm (r:=s1.heap.objs.size) (d:=q) (es:=es) (ep:=ep)) hh ⟨⟨_,iE _ rfl,rfl,rfl⟩,hr.at fun o e=>dC _ e⟩ (fun i=>ns.getD i 0) (fun i v xW=>?_) fun h' tk t' hk=>?_
  · obtain⟨en,e1,rfl⟩:=xW;rw[←v3,yx,eU] at e1;obtain⟨y,e2,rfl⟩:=iD.mp e1;obtain⟨x,e3,-,-,e4⟩:=AY hp e2;have e5:(ws.map (·.2))[i]?=some x.2:=by rw[eU,e3];rfl
    rw[hv,eU] at e5;obtain⟨n,e6,e7⟩:=iD.mp e5;rw[←e7] at e4;obtain⟨t,e8⟩:=e4;refine⟨t,?_⟩;rw[jd,e6];exact e8
  ·rw[hlen,preSum_eq (ns:=ns) fun i n e=>by rw[jd,e];rfl];exact⟨.int _,H1,I1.kept (h':=h') (t':=tk) fun b o e=>hk b o (dC _ e),⟨_,rfl⟩,k⟩
end
end L2
namespace DL
open PySem PySem.Spec L2
open PyProof.Rows hiding St
structure Vd (X:Cx) (z:Zc) (e:Expr) (sel:aY→Option lY):Prop where
  ex:∃tE,PE X e tE∧∀σ H η F ao,Rel X.K z F H σ η→sel η=some ao→∃p ws,Rd H p (.dT ws)∧bW X.K H ao ws∧∀Q:VK,Q (.ref p) H→tE σ H Q
def Wz(C0:Addr)(i:Nat)(η:aY):Option lY:=match η[i]? with
  |some (some (.bx _ C _ ao))=>if C=C0 then some ao else none
  |some (some (.bb C _ ao))=>if C=C0 then some ao else none
  |_=>none
def PV(i:Nat)(η:aY):Option lY:=match η[i]? with
  |some (some (.od _ ao))=>some ao
  |some (some (.bd ao))=>some ao
  |_=>none
section
variable {X:Cx} {z:Zc} {e:Expr} {p apos aX pos:Pos} {sel:aY→Option lY}
theorem PX(i:Nat)(hN:X.N[i]?=some x:=by rfl)(hv:pL X.env.scope x:=by first|exact Or.inl rfl|exact Or.inr (Or.inl rfl)|exact Or.inr (Or.inr rfl))(iG:(x==("__debug__":Str))=false:=by decide)(dU:(x==("__classdict__":Str))=false:=by decide):Vd X z (.Name x px) (PV i):=⟨_,cO hN hv iG dU,fun σ H η F ao r e=>by
  unfold PV at e;split at e
  ·rename_i p' iw h;cases e;obtain⟨v,a1,a2⟩:=r.at_ i _ h;obtain⟨p1,o,⟨rfl,rfl⟩,h0,hF,hH,ws,rfl,hd⟩:=(bQ (sl:=.od _ _) rfl).mp a2;exact⟨_,ws,.inl hH,hd.mono r.base.sub,fun Q q=>⟨_,a1,q⟩⟩
  ·rename_i iw h;cases e;obtain⟨v,a1,p1,ob,wv,rfl,hH,hd⟩:=r.at_ i _ h;exact⟨p1,wv,.inr ⟨ob,r.mem.ent _ _ hH⟩,hd.mono r.mem.ent,fun Q q=>⟨_,a1,q⟩⟩
  ·cases e⟩
theorem Ve(i:Nat){C0:Addr}(cl:vX X.K C0)(na:iF X.K C0 "lying")(hN:X.N[i]?=some x:=by rfl)(hv:pL X.env.scope x:=by first|exact Or.inl rfl|exact Or.inr (Or.inl rfl)|exact Or.inr (Or.inr rfl))(iG:(x==("__debug__":Str))=false:=by decide)(dU:(x==("__classdict__":Str))=false:=by decide)(hb:attributeBase (.Name x px) "lying" X.env (eval (.Name x px) X.env)=eval (.Name x px) X.env:=by rfl):Vd X z (.Attribute (.Name x px) "lying" apos) (Wz C0 i):=⟨_,xX (cO hN hv iG dU) hb,fun σ H η F ao r e=>by
  unfold Wz at e;split at e
  · rename_i p' C Px iw h;by_cases hc:C=C0
    ·rw[az hc] at e;cases e;subst hc;obtain⟨v,a1,a2⟩:=r.at_ i _ h;obtain⟨p1,o,⟨rfl,a,dx,l,vs,rfl,b1,b2,b3⟩,h0,hF,hH,ws,rfl,hd⟩:=(bQ (sl:=.bx _ _ _ _) rfl).mp a2;exact⟨_,ws,.inl hH,hd.mono r.base.sub,fun Q q=>⟨_,a1,a,C,dx,_,_,rfl,r.base.sub _ _ b1,cl,na,rfl,q⟩⟩
    ·rw[ax hc] at e;cases e
  · rename_i C Px iw h;by_cases hc:C=C0
    ·rw[az hc] at e;cases e;subst hc;obtain⟨v,a1,p1,ob,wv,⟨a,dx,l,vs,rfl,b1,b2,b3⟩,hH,hd⟩:=r.at_ i _ h;exact⟨p1,wv,.inr ⟨ob,r.mem.ent _ _ hH⟩,hd.mono r.mem.ent,fun Q q=>⟨_,a1,a,C,dx,_,_,rfl,r.mem.ent _ _ b1,cl,na,rfl,q⟩⟩
    ·rw[ax hc] at e;cases e
  ·cases e⟩
theorem vf{K:PySem.W.Frag}{F:Hp}:∀{ao:lY} {ws:List (List Key×V)} {ns:bL},bW K F ao ws→qe (ao.map (·.2))=some ns→ws.map (·.2)=ns.map V.int
  |_,_,ns,.nil,e=>by cases e;rfl
  |k::ao,w::ws,ns,.cons h t,e=>by
   obtain⟨h1,h2⟩:=h;cases hk:k.2 with
   |int i=>rw[cD,hk] at e;obtain⟨r,e1,e2⟩:=iD.mp e;subst e2;rw[hk] at h2;rw[cD,cD,aD.mp h2,vf t e1]
   |_=>rw[cD,hk] at e;cases e
def Fo(sel:aY→Option lY):EF:=fun η=>(sel η).bind fun ao=>(qe (ao.map (·.2))).map fun ns=>.int ns.sum
theorem Di(hc:X.calm=true)(wI:Gl X "sum")(nZ:X.mg "sum"=none)(R:Vd X z e sel)(cI:attributeBase e "values" X.env (eval e X.env)=eval e X.env:=by rfl)(hline:(apos.endLine==aX.line)=true:=by rfl)(kx:starEach [Expr.Call (.Attribute e "values" apos) [] [] aX] X.env=(false,eval (.Call (.Attribute e "values" apos) [] [] aX) X.env)::starEach [] X.env:=by rfl):DE X z (.Call (.Name "sum" p) [.Call (.Attribute e "values" apos) [] [] aX] [] pos) (Fo sel):=by
  obtain⟨tE,pe,at_⟩:=R.ex;refine PE.weak (Dg hc wI nZ pe cI hline kx Cp) fun σ H Q ⟨η,F,d,r,e,k⟩=>?_;unfold Fo at e;obtain⟨ao,h1,e⟩:=cU.mp e;obtain⟨ns,h2,rfl⟩:=iD.mp e;obtain⟨q,ws,a1,a2,a3⟩:=at_ σ H η F ao r h1;exact a3 _ ⟨q,ws,ns,rfl,a1,vf a2 h2,k _ H F (aI.refl r.base) (aD.mpr rfl)⟩
end
end DL
namespace DL
open PySem PySem.Spec L2
open PyProof.Rows hiding St pairAt
def kb(n:Nat)(vg:List Slot):aY:=vg.map some++List.replicate (n-vg.length) none
def AZ:List Nat→aY→Option (List (Addr×lY))
  |[],_=>some []
  |i::is,η=>match η[i]? with
   |some (some (.bx p _ _ ao))=>(AZ is η).map ((p,ao)::·)
   |some (some (.od p ao))=>(AZ is η).map ((p,ao)::·)
   |_=>none
section
variable {K:PySem.W.Frag} {z:Zc} {F H:Hp} {σ:St} {η:aY}
theorem qC(r:Rel K z F H σ η):∀{is:List Nat} {l:List (Addr×lY)},AZ is η=some l→∀q∈l,z.H₀ q.1=none∧F q.1=none∧∃ws,H q.1=some (.dT ws)∧bW K F q.2 ws
  |[],l,e,q,hq=>by cases e;cases hq
  |i::is,l,e,q,hq=>by
   unfold AZ at e;split at e
   · rename_i p C Px ao h;obtain⟨l',e1,rfl⟩:=iD.mp e;rcases dc.mp hq with rfl|hq
     ·obtain⟨v,a1,a2⟩:=r.at_ i _ h;obtain⟨p1,o,⟨rfl,_⟩,h0,hF,hH,ws,rfl,hd⟩:=(bQ (sl:=.bx _ _ _ _) rfl).mp a2;exact⟨h0,hF,ws,hH,hd⟩
     ·exact qC r e1 q hq
   · rename_i p ao h;obtain⟨l',e1,rfl⟩:=iD.mp e;rcases dc.mp hq with rfl|hq
     ·obtain⟨v,a1,a2⟩:=r.at_ i _ h;obtain⟨p1,o,⟨rfl,_⟩,h0,hF,hH,ws,rfl,hd⟩:=(bQ (sl:=.od _ _) rfl).mp a2;exact⟨h0,hF,ws,hH,hd⟩
     ·exact qC r e1 q hq
   ·cases e
theorem vh{α:Type}{xs:List α}{m:Nat}{a:α}(h:(xs.map some++List.replicate m none)[i]?=some (some a)):(xs.map some)[i]?=some (some a):=by
  by_cases hi:i<xs.length
  ·rwa[xE (by simpa using hi)] at h
  ·rw[xD (by simpa using Nat.le_of_not_lt hi),List.getElem?_replicate] at h;split at h<;>cases h
theorem R0{α:Type}{xs:List α}{m:Nat}{a:Option α}(h:(xs.map some)[i]?=some a):(xs.map some++List.replicate m none)[i]?=some a:=by have hi:=(lR.mp h).1;rw[xE hi];exact h
theorem Fp{vg:List Slot}(m:Nat)(r:Rel K z F H (vs.map some) (vg.map some)):Rel K z F H (vs.map some++List.replicate m none) (vg.map some++List.replicate m none) where
  mem:=r.mem
  len:=by have:=r.len;rw[lZ,lZ,this];simp
  at_:=fun i sl e=>by obtain⟨v,h1,h2⟩:=r.at_ i sl (vh e);exact⟨v,R0 h1,h2⟩
  apart:=fun i j si sj vi vj p pE ei ej oi oj hi hj=>r.apart i j si sj vi vj p pE (vh ei) (vh ej) oi oj (vh hi) (vh hj)
end
def BI(n:Nat)(own:List Nat)(g:SF):List Slot→e9:=fun vg=>match g (kb n vg) with
  |some (.rt r)=>some r
  |some (.nx η)=>(AZ own η).map fun l=>.rw .non l
  |_=>none
def spS(K:PySem.W.Frag)(n:Nat)(Fn:List Slot→e9):Sp:=fun vs H Q E=>∃F H₀ vg r,vs.length=n∧Rel K (zX F H₀ E) F H (vs.map some) (vg.map some)∧Fn vg=some r∧U7 K F H₀ r Q E
theorem t6{K:PySem.W.Frag}{base:Heap}{st:Stmt}{f:Addr}{ps:dB}{own:List Nat}{g:SF}(Fu:lX K x qual st f fd)(S:bq N ps (aj st))(hb:∀(dk:Value) (A:Around) (outer:List Env) (s:Shared) (H:Hp) (E:XK) (F₀ H₀:Hp),cW k (A.deeper (envOfC qual (aj st) s.heap.objs.size f dk))→Jr (wm (CY P w) P w K mg base N qual (aj st) f dk A outer s H E) (zX F₀ H₀ E) (bA st) g):cE P w K mg base (CY P w) (k+1) f fd ps (spS K ps.length (BI N.length own g)):=by
  obtain⟨oc,od,kV,doc,pm,an,dk,ct,xM,rfl,lk,dU⟩:=Fu.ex;refine Iw lk dU S (fun vs H Q E h=>?_) (fun A outer s H vs Q E hr h=>?_)
  ·obtain⟨F,H₀,vg,r,hl,_⟩:=h;exact hl
  · obtain⟨F,H₀,vg,r,hl,rl,e,q⟩:=h;refine⟨_,hb dk A outer s H E F H₀ hr,?_⟩;have hlen:vs.length=vg.length:=by have:=rl.len;simpa using this
    have Yw:Rel K (zX F H₀ E) F H (L2.start N vs) (kb N.length vg):=by unfold L2.start kb;rw[←hlen];exact Fp _ rl
    unfold BI at e;cases o:g (kb N.length vg) with
    |none=>rw[o] at e;cases e
    |some o' =>
     rw[o] at e;refine⟨_,F,o',Yw,o,?_⟩;cases o' with
     |rt r'=>cases e;cases r<;>exact q
     |nx η'=>obtain⟨l,e1,rfl⟩:=iD.mp e;exact fun σ' H' F' r' _=>q .non H' F' r'.mem (bI.mpr rfl) (qC r' e1)
     |bk _=>cases e
     |ct _=>cases e
theorem pd:Passes (CY X.prog X.w) X E0:=fun _ _ _ _ _ _ _ h=>by obtain⟨_,_,_,_,_,_,_,_,_,q⟩:=h;exact q.elim
def Vf(C0:Addr)(i:Nat)(η:aY):e9:=match η[i]? with
  |some (some (.bb C ws ao))=>if C=C0 then some (.bb C ws ao) else none
  |_=>none
section
variable {K:PySem.W.Frag} {z:Zc} {F H:Hp} {σ:St} {η:aY} {C0:Addr} {i:Nat} {sl:Slot}
theorem R1(r:Rel K z F H σ η)(e:Vf C0 i η=some sl):∃a dx l p ws ao,σ[i]?=some (some (.ref a))∧H a=some (.ins C0 dx [("words",.ref l),("lying",.ref p)])∧sl=.bb C0 ws ao∧∃ob wv,iu K H (.ref a) C0 ws p∧H p=some (.gM ob (.dT wv))∧bW K H ao wv:=by
  unfold Vf at e;split at e
  · rename_i C Px iw h;by_cases hc:C=C0
    ·rw[az hc] at e;cases e;subst hc;obtain⟨v,a1,p1,ob,wv,bb,hH,hd⟩:=r.at_ i _ h;obtain⟨a,dx,l,vs,rfl,b1,b2,b3⟩:=id bb;obtain⟨a',XX,l',vs',e',b1',_⟩:=id bb;cases e';rw[b1] at b1';exact⟨a,dx,l,p1,Px,iw,a1,r.mem.ent _ _ b1,rfl,ob,wv,bb.mono r.mem.ent,r.mem.ent _ _ hH,hd.mono r.mem.ent⟩
    ·rw[ax hc] at e;cases e
  ·cases e
theorem NV{E:XK}(b:Base F H)(ho:sl.own=false)(h:fE K (zX F H E) F H v sl):Rel K (zX F H E) F H ([v].map some) ([sl].map some) where
  mem:=aI.refl b
  len:=rfl
  at_:=fun i s e=>by
    cases i with
    |zero=>cases e;exact⟨v,rfl,h⟩
    |succ i=>simp at e
  apart:=fun i j si sj vi vj p pE ei ej oi oj hi hj=>by
    cases i with
    |zero=>cases ei;rw[ho] at oi;cases oi
    |succ i=>simp at ei
end
section
variable {X:Cx} {z:Zc} {pos px apos:Pos} {C0 f:Addr} {n:Nat} {ps:dB} {Fn:List Slot→e9} {x m:Str}
def Ti(C0:Addr)(i:Nat)(Fn:List Slot→e9):aY→e9:=fun η=>(Vf C0 i η).bind fun sl=>Fn [sl]
theorem Fq{te:TE}{tE:TE}(oM:(m==("words":Str))=false)(sS:(m==("lying":Str))=false){Q:VK}{r:Slot}(rl:Rel X.K z F H σ η)(e:Ti C0 i Fn η=some r)(k:U7 X.K F H r Q E0):Iu C0 m (spS X.K 1 Fn) [] E0 (jZ i) zK σ H Q:=by
  unfold Ti at e;obtain⟨sl,h1,h2⟩:=cU.mp e;obtain⟨a,dx,l,p,ws,ao,a1,a2,rfl,ob,wv,b1,b2,b3⟩:=R1 rl h1;refine⟨_,a1,a,dx,_,rfl,a2,?_,?_⟩
  ·simp[List.lookup,oM,sS]
  ·exact⟨F,H,[.bb C0 ws ao],r,rfl,NV rl.base rfl ⟨p,ob,wv,b1,b2,b3⟩,h2,k⟩
def NW(C0:Addr)(i:Nat)(Fn:List Slot→e9):EF:=fun η=>(Ti C0 i Fn η).bind fun r=>match r with|.sh d=>some d|.rw d []=>some d|_=>none
theorem PY(i:Nat)(cl:vX X.K C0)(hm:Meth X.K C0 m f)(hC:AQ X.prog X.w X.K X.mg X.base n f ps (spS X.K 1 Fn))(hr:cW n X.A)(hN:X.N[i]?=some x:=by rfl)(hv:pL X.env.scope x:=by first|exact Or.inl rfl|exact Or.inr (Or.inl rfl)|exact Or.inr (Or.inr rfl))(oM:(m==("words":Str))=false:=by decide)(sS:(m==("lying":Str))=false:=by decide)(iG:(x==("__debug__":Str))=false:=by decide)(dU:(x==("__classdict__":Str))=false:=by decide)(ht:eval (.Call (.Attribute (.Name x px) m apos) [] [] pos) X.env=(do
      let ov ←eval (.Name x px) X.env
      standAt apos.atName
      let (f,first) ←holding [ov] (getMethod ov m pl)
      callWith pos f first (backTo pos (starEach [] X.env)) (backToKw pos (keywordEach [] X.env))):=by rfl):DE X z (.Call (.Attribute (.Name x px) m apos) [] [] pos) (NW C0 i Fn):=by
  obtain⟨fd,G,hb,kp⟩:=hC.ex;refine PE.weak (zN (pl:=pl) (cO hN hv iG dU) cl hm G hr hb .nil pd ht) fun σ H Q ⟨η,F,d,r,e,k⟩=>?_;unfold NW at e;obtain⟨sl,h1,e⟩:=cU.mp e;refine Fq (te:=jZ i) (tE:=jZ i) oM sS r h1 ?_;split at e
  ·cases e;exact fun v H' F' g q=>k v H' F' g q
  ·cases e;exact fun v H' F' g q _=>k v H' F' g q
  ·cases e
def PZ(C0:Addr)(i:Nat)(Fn:List Slot→e9):LF:=fun η=>(Ti C0 i Fn η).bind fun r=>match r with|.ol ds=>some ds|_=>none
theorem P0(i:Nat)(cl:vX X.K C0)(hm:Meth X.K C0 m f)(hC:AQ X.prog X.w X.K X.mg X.base n f ps (spS X.K 1 Fn))(hr:cW n X.A)(hN:X.N[i]?=some x:=by rfl)(hv:pL X.env.scope x:=by first|exact Or.inl rfl|exact Or.inr (Or.inl rfl)|exact Or.inr (Or.inr rfl))(oM:(m==("words":Str))=false:=by decide)(sS:(m==("lying":Str))=false:=by decide)(iG:(x==("__debug__":Str))=false:=by decide)(dU:(x==("__classdict__":Str))=false:=by decide)(ht:eval (.Call (.Attribute (.Name x px) m apos) [] [] pos) X.env=(do
      let ov ←eval (.Name x px) X.env
      standAt apos.atName
      let (f,first) ←holding [ov] (getMethod ov m pl)
      callWith pos f first (backTo pos (starEach [] X.env)) (backToKw pos (keywordEach [] X.env))):=by rfl):DO X z (.Call (.Attribute (.Name x px) m apos) [] [] pos) (PZ C0 i Fn):=by
  obtain⟨fd,G,hb,kp⟩:=hC.ex;refine PE.weak (zN (pl:=pl) (cO hN hv iG dU) cl hm G hr hb .nil pd ht) fun σ H Q ⟨η,F,d,r,e,k⟩=>?_;unfold PZ at e;obtain⟨sl,h1,e⟩:=cU.mp e;refine Fq (te:=jZ i) (tE:=jZ i) oM sS r h1 ?_;split at e
  ·cases e;exact fun p vs H' F' g a1 a2 a3 a4=>k p vs H' F' g a1 a2 a3 a4
  ·cases e
end
section
variable {K:PySem.W.Frag} {z:Zc} {F H F' H':Hp} {σ:St} {η:aY} {i:Nat} {p C:Addr} {ws:fc} {ao iw:lY}
theorem Rel.without(r:Rel K z F H σ η)(i:Nat):Rel K z F H σ (η.set i none):=by
  have key:∀(k:Nat) sl,(η.set i none)[k]?=some (some sl)→η[k]?=some (some sl):=fun k sl e=>by
    by_cases h:k=i
    · subst h;by_cases hl:k<η.length
      ·rw[xF hl] at e;cases e
      ·rw[zB (by simpa using hl)] at e;cases e
    ·rwa[v5 (cT h)] at e
  exact⟨r.mem,by simp[r.len],fun k sl e=>r.at_ k sl (key k sl e),fun a b sa sb va vb q m8 ea eb=>r.apart a b sa sb va vb q m8 (key a sa ea) (key b sb eb)⟩
theorem Rel.NX(r:Rel K z F H σ η)(h:η[i]?=some (some (.bx p C ws ao)))(g:aI F (cR H p) F' H'){zz:List (List Key×V)}(hF:F' p=none)(hH:H' p=some (.dT zz))(hd:bW K F' iw zz):Rel K z F' H' σ (η.set i (some (.bx p C ws iw))):=by
  obtain⟨v,a1,a2⟩:=r.at_ i _ h;obtain⟨p1,o,⟨rfl,bb⟩,h0,hF0,hH0,Px,rfl,hd0⟩:=(bQ (sl:=.bx _ _ _ _) rfl).mp a2;have dQ:i<η.length:=(lR.mp h).1;have r1:=(r.without i).hide (p:=p1) h0 hF0 fun j s w ej oj hj hq=>by
    have hji:j≠i:=fun e=>by subst e;rw[xF dQ] at ej;cases ej
    rw[v5 (cT hji)] at ej;exact r.apart j i s _ w v p1 hji ej h oj rfl hj a1 hq ⟨rfl,bb⟩
  have r2:=r1.yh g i (p:=p1) (v:=v) (sl:=.bx p1 C ws iw) ((bQ rfl).mpr ⟨p1,_,⟨rfl,bb.mono g.cz⟩,h0,hF,hH,zz,rfl,hd⟩) ⟨rfl,bb.mono g.cz⟩ bR;have e1:σ.set i (some v)=σ:=by
    apply List.ext_getElem?;intro k;by_cases hk:k=i
    ·subst hk;rw[xF (by rw[r.len];exact dQ),a1]
    ·rw[v5 (cT hk)]
  rw[e1,List.set_set] at r2;exact r2
def gh(ds:fc):List Slot:=ds.map Slot.sh
theorem fO{E:XK}{H₀:Hp}:∀{ds:fc} {vs:List V},bz K F ds vs→∀(j:Nat) s,((gh ds).map some)[j]?=some (some s)→s.own=false∧∃v,(vs.map some)[j]?=some (some v)∧fE K (zX F H₀ E) F H v s
  |[],vs,h,j,s,e=>by simp[gh] at e
  |d::ds,vs,h,j,s,e=>by
   obtain⟨v,r,rfl,h1,h2⟩:=av.mp h;cases j with
   |zero=>cases e;exact⟨rfl,v,rfl,h1⟩
   |succ j=>exact fO h2 j s (by simpa[gh] using e)
theorem NZ{E:XK}{wv:List (List Key×V)}(b:Base F H)(hF:F p=none)(hH:H p=some (.dT wv))(hb:iu K F v C ws p)(hd:bW K F ao wv)(ha:bz K F ds vs):Rel K (zX F (cR H p) E) F H ((v::vs).map some) ((.bx p C ws ao::gh ds).map some):=by
  have g0:aI F (cR H p) F H:=by have:=aI.own (di b hF) bR (.dT wv) (b.sU _ _ hH) rfl;rw[t4 hH] at this;exact this
  refine⟨g0,by simp[gh,aK ha],fun j s e=>?_,fun j k sj sk vj vk q Eu ej ek oj ok hj hk h1 h2=>?_⟩
  · cases j with
    |zero=>cases e;exact⟨v,rfl,(bQ (sl:=.bx _ _ _ _) rfl).mpr ⟨p,_,⟨rfl,hb⟩,bR,hF,hH,wv,rfl,hd⟩⟩
    |succ j=>obtain⟨_,w,h1,h2⟩:=fO (E:=E) (H:=H) (H₀:=cR H p) ha j s (by simpa using e);exact⟨w,by simpa using h1,h2⟩
  · cases j with
    |zero =>
     cases k with
     |zero=>exact Eu rfl
     |succ k=>obtain⟨o,_⟩:=fO (E:=E) (H:=H) (H₀:=cR H p) ha k sk (by simpa using ek);rw[o] at ok;cases ok
    |succ j=>obtain⟨o,_⟩:=fO (E:=E) (H:=H) (H₀:=cR H p) ha j sj (by simpa using ej);rw[o] at oj;cases oj
end
theorem Kt{K:PySem.W.Frag}{F H:Hp}:∀{ms:List Bool} {ds:fc} {vs:List V},ms.all id=true→kW K F H ms ds vs→bz K F ds vs
  |[],[],[],_,_=>aP.mpr rfl
  |[],_::_,_,_,h=>h.elim
  |[],[],_::_,_,h=>h.elim
  |_::_,[],_,_,h=>h.elim
  |_::_,_::_,[],_,h=>h.elim
  |true::ms,d::ds,v::vs,hm,h=>av.mpr ⟨v,vs,rfl,h.1,Kt (by simpa using hm) h.2⟩
  |false::ms,d::ds,v::vs,hm,h=>by simp at hm
section
variable {X:Cx} {z:Zc} {pos pos' px apos:Pos} {C0 f:Addr} {n:Nat} {ps:dB} {Fn:List Slot→e9} {x m:Str} {e:Expr} {es:List Expr} {ms:List Bool} {fs:LF}
def lP(C0:Addr)(i:Nat)(own:List Nat)(fs:LF)(dv:fc)(Fn:List Slot→e9):SF:=fun η=>match η[i]? with
  |some (some (.bx p C ws ao))=>if C=C0 then(fs η).bind fun ds=>match Fn (.bx p C ws ao::gh (ds++dv)) with
      |some (.rw d [(p',iw)])=>if p'=p then(AZ own (η.set i (some (.bx p C ws iw)))).map fun l=>.rt (.rw d l) else none
      |_=>none
    else none
  |_=>none
theorem Fs(i:Nat)(own:List Nat){dv:fc}{dvs:List V}{dus:cA}{N:Nat}(cl:vX X.K C0)(hm:Meth X.K C0 m f)(G:cE X.prog X.w X.K X.mg X.base (CY X.prog X.w) n f fd ps (spS X.K N Fn))(hr:cW n X.A)(hb:Binds X.K fd ps dus)(hdu:Vals dvs dus)(Tg:∀F,bz X.K F dv dvs)(nZ:ms.all id=true)(hn:N=1+(ms.length+dv.length))(ha:DM X z (e::es) ms fs)(hN:X.N[i]?=some x:=by rfl)(hv:pL X.env.scope x:=by first|exact Or.inl rfl|exact Or.inr (Or.inl rfl)|exact Or.inr (Or.inr rfl))(oM:(m==("words":Str))=false:=by decide)(sS:(m==("lying":Str))=false:=by decide)(iG:(x==("__debug__":Str))=false:=by decide)(dU:(x==("__classdict__":Str))=false:=by decide)(xS:starEach (e::es) X.env=(false,eval e X.env)::starEach es X.env:=by rfl)(m7:(backTo pos (starEach es X.env)).any (·.1)=false:=by rfl)(ht:eval (.Call (.Attribute (.Name x px) m apos) (e::es) [] pos) X.env=(do
      let ov ←eval (.Name x px) X.env
      standAt apos.atName
      let (f,first) ←holding [ov] (getMethod ov m pl)
      callWith pos f first (backTo pos (starEach (e::es) X.env)) (backToKw pos (keywordEach [] X.env))):=by rfl):DS X z (.Return (some (.Call (.Attribute (.Name x px) m apos) (e::es) [] pos)) pos') (lP C0 i own fs dv Fn) :=
  PS.weak (mv (Mq (pl:=pl) (cO hN hv iG dU) cl hm G hr hb hdu pd ha xS m7 ht)) fun D σ H ⟨η,F,o,r,e,k⟩=>by
  unfold lP at e;split at e
  · rename_i p C ws ao h;by_cases hc:C=C0
    · rw[az hc] at e;subst hc;obtain⟨ds,h1,e⟩:=cU.mp e;split at e
      · rename_i d p' iw h2;by_cases hp:p'=p
        · rw[az hp] at e;subst hp;obtain⟨l,h3,rfl⟩:=iD.mp e;obtain⟨v,a1,a2⟩:=r.at_ i _ h;obtain⟨p1,o,⟨rfl,bb⟩,h0,hF,hH,wv,rfl,hd⟩:=(bQ (sl:=.bx _ _ _ _) rfl).mp a2;obtain⟨a,dx,l0,N1,rfl,b1,b2,b3⟩:=id bb;refine⟨_,a1,a,dx,_,rfl,r.base.sub _ _ b1,by simp[List.lookup,oM,sS],η,F,ds,r,h1,fun vs H1 F1 g1 q1=>?_⟩;have r1:=r.grow g1;obtain⟨v',c1,c2⟩:=r1.at_ i _ h;rw[a1] at c1;cases c1;obtain⟨p2,o2,⟨e2,bb2⟩,h02,He,Hf,R3,rfl,hd2⟩:=(bQ (sl:=.bx _ _ _ _) rfl).mp c2;cases e2;have hA:bz X.K F1 (ds++dv) (vs++dvs):=jM (Kt nZ q1) (Tg F1);have hlen:=kX q1;refine⟨F1,cR H1 _,_,_,?_,NZ g1.base He Hf bb2 hd2 hA,h2,fun v H' F' g q hq=>?_⟩
          ·rw[eW,lZ,←aK (Tg F1),hn];have:=aK (Kt nZ q1);omega
          ·obtain⟨_,y1,zz,y2,y3⟩:=hq _ eR;have r2:=r1.NX h g y1 y2 y3;exact k v H' F' r2.mem q (qC r2 h3)
        ·rw[ax hp] at e;cases e
      ·cases e
    ·rw[ax hc] at e;cases e
  ·cases e
end
end DL
namespace L2
open PySem PySem.Spec PyProof.Rows PySem.W MR
section
variable {prog:Program} {w:World} {A:Around} {E:ic} {s:Shared}
theorem Ku{ok k v:Value}(hit:IsItemIter s.heap it d i n ep ok ov)(hQ:∀h',IsItemIterOut h' it d i n ep k v s.heap.objs.size→h'.get? s.heap.objs.size=some { cls:=.type "tuple",data:=.seq #[k,v] }→h'.objs.size=s.heap.objs.size+1→(∀b o,b≠it→s.heap.get? b=some o→h'.get? b=some o)→Q (.ref s.heap.objs.size) { s with heap:=h' }):wpAny (model prog w) A (Builtin.Dict_items.pairFromOwner (.ref it) 6 k v) Q E s:=by
  have hb:s.heap.objs.size≠it:=mq (bG hit);have i1:IsItemIter (s.heap.push { cls:=.type "tuple",data:=.seq #[k,v] }) it d i n ep ok ov:=dC _ hit;have t1:(s.heap.push { cls:=.type "tuple",data:=.seq #[k,v] }).get? s.heap.objs.size=some { cls:=.type "tuple",data:=.seq #[k,v] }:=iE _ rfl;refine aE (wpAny_newTuple (aE ?_));unfold Builtin.Dict_items.ownedTupleIsFree;refine aE (kA i1 rfl rfl (bP ?_));refine aE (kA i1 rfl rfl (aE (kA i1 rfl rfl (aE ?_))));refine rj i1 (by simp) fun h2 i2 s2=>aE (rj i2 (by simp) fun h3 i3 s3=>aE (rj i3 (by simp) fun h4 i4 s4=>aE (rj i4 (by simp) fun h5 i5 s5=>?_)));have kp:∀b o,b≠it→(s.heap.push { cls:=.type "tuple",data:=.seq #[k,v] }).get? b=some o→h5.get? b=some o:=fun b o n e=>s5.extBut b o n (s4.extBut b o n (s3.extBut b o n (s2.extBut b o n e)));refine aE (wpAny_letGo (bP (hQ h5 i5 (kp _ _ hb t1) ?_ fun b o n e=>kp b o n (dC _ e))));rw[s5.1,s4.1,s3.1,s2.1,kz]
theorem n8(d:Addr)(hd:(d==sysModules)=false):MeetsIn prog w (Builtin.«dict.items» ⟨[.ref d],[]⟩) (fun _ R s=>(∃es ep,fC s.heap d es ep)∧R (.ok (.ret (.ref s.heap.objs.size))) { s with heap:=s.heap.push { cls:=.type "dict_items",data:=.fields #[.ref d] } }) :=
  .of_wp fun A R s ⟨⟨es,ep,o,ho,hc,hq⟩,h⟩=>by
    unfold Builtin.«dict.items» Builtin.Dict.noArgs;refine aE (aE (wpAny_notOrdered_dict ⟨o,ho,hc.1⟩ ?_));have jY:wpAny (model prog w) A.in1 (Builtin.Dict.showsAll d) (fun _ s'=>s'=s) (fun e s'=>R (.error e) s') s:=by unfold Builtin.Dict.showsAll;rw[hd];exact bP rfl
    exact bP (aE (jK jY (fun _ _ e=>by subst e;exact aE (uj (bP ⟨_,rfl,h⟩))) fun _ _ h=>h))
theorem n9{v:Addr}(hv:s.heap.IsItemsView v d)(hm:fC s.heap d es ep)(hQ:Q (.ref s.heap.objs.size) { s with heap:=s.heap.push { cls:=.type "dict_itemiterator",data:=.fields #[.none,.bool false,.ref d,.int 0 0,.int es.size 0,.int ep 0,.none,.none] } }):wpAny (model prog w) A (pyIter (.ref v)) Q E s:=by
  have xW:=hv;have G7:=hm;obtain⟨ov,Yv,hcv,Tg⟩:=xW;obtain⟨o,ho,hc,Af⟩:=G7;refine wpAny_pyIter_slot hv.typeIs F.slot_dict_items_iter (md F.slot_dict_items_iter hv.typeIs F.entry_dict_items_iter ?_ (F.args_dict_items_iter_1 _))
  wp_walk using kA Yv Tg rfl,xI ho Af,wpAny_dictEpoch ho Af
  exact⟨_,rfl,_,_,⟨_,iE _ rfl,rfl⟩,F.slot_dict_itemiterator_next.lookup,by simpa[show Builtin.Dict_items.ownsTuple "dict_itemiterator"=true by decide,rawInt,Builtin.Dict_items.ownedTupleFields] using hQ⟩
theorem A0{f:Bool}{x ok:Value}{Q:fQ→Shared→Prop}(hit:s.heap.get? it=some { cls:=.type "dict_itemiterator",dict:=none,data:=.fields #[x,.bool f,.ref d,.int i 0,.int es.size 0,.int ep 0,ok,ov],slots:=#[] })(hm:fC s.heap d es ep)(dQ:i<es.size)(hP:∀h1,h1.get? it=some { cls:=.type "dict_itemiterator",dict:=none,data:=.fields #[x,.bool f,.ref d,.int (i+1:Nat) 0,.int es.size 0,.int ep 0,ok,ov],slots:=#[] }→Heap.SameBut it s.heap h1→∀E',wpAny (model prog w) A.in1 (Builtin.Dict_items.pairFromOwner (.ref it) 6 es[i].key es[i].val) (fun r s'=>Q (some r) s') E' { s with heap:=h1 }):wpAny (model prog w) A (pyNext (.ref it)) Q E s:=by
  have G7:=hm;obtain⟨od,Ag,dU,Ah⟩:=G7;have hT:Shared.TypeIs s (.ref it) "dict_itemiterator":=⟨_,hit,rfl⟩
  refine aE (wpAny_attempt (ui hT F.slot_dict_itemiterator_next (md F.slot_dict_itemiterator_next hT F.entry_dict_itemiterator_next ?_ (F.args_dict_itemiterator_next_1 _))));unfold Builtin.«dict_itemiterator.__next__»
  wp_walk using wpAny_typeNameOfWhole_itemiter hT,wpAny_fieldsOf hit rfl,xI Ag Ah,wpAny_dictEpoch Ag Ah
  rw[show(if (i:Int)<0 then none else es[(i:Int).toNat]?)=some es[i] by rw[ax (by omega),nM,uh dQ]];refine aE (aE (wpAny_typeNameOfWhole_itemiter hT (bP (aE (wpAny_isOneOf_itemiter hT (aE ?_))))));refine rj (k:=3) (x:=rawInt ((i:Int)+1)) hit (by simp) fun h1 i1 s1=>aE (oB ?_);have Va:Shared.TypeIs { s with heap:=h1 } (.ref it) "dict_itemiterator":=⟨_,i1,rfl⟩
  refine aE (wpAny_isOneOf_itemiter Va (aE (wpAny_isOneOf_itemiter Va ?_)));exact jK (hP h1 i1 s1 _) (fun r s' q=>bP ⟨_,rfl,bP q⟩) fun _ _ h=>h
theorem og{ok:Value}{Q:fQ→Shared→Prop}(hit:IsItemIter s.heap it d i es.size ep ok ov)(hm:fC s.heap d es ep)(dQ:i<es.size)(hQ:∀h',IsItemIterOut h' it d (i+1) es.size ep es[i].key es[i].val s.heap.objs.size→h'.get? s.heap.objs.size=some { cls:=.type "tuple",data:=.seq #[es[i].key,es[i].val] }→h'.objs.size=s.heap.objs.size+1→(∀b o,b≠it→s.heap.get? b=some o→h'.get? b=some o)→Q (some (.ref s.heap.objs.size)) { s with heap:=h' }):wpAny (model prog w) A (pyNext (.ref it)) Q E s :=
  A0 hit hm dQ fun h1 j1 s1 E'=>Ku (s:={ s with heap:=h1 }) j1 fun h2 a1 a2 a3 a4=>by have z:h1.objs.size=s.heap.objs.size:=s1.1;dsimp only at a1 a2 a3 a4⊢;rw[z] at a1 a2 a3⊢;exact hQ h2 a1 a2 a3 fun b o n e=>a4 b o n (s1.extBut b o n e)
theorem yL{f:Bool}{x ok:Value}{Q:fQ→Shared→Prop}(hh:A.handled=none)(hit:s.heap.get? it=some { cls:=.type "dict_itemiterator",dict:=none,data:=.fields #[x,.bool f,.ref d,.int i 0,.int es.size 0,.int ep 0,ok,ov],slots:=#[] })(hm:fC s.heap d es ep)(hx:es.size≤i)(hQ:∀h',Heap.ExtBut it s.heap h'→Q none { s with heap:=h' }):wpAny (model prog w) A (pyNext (.ref it)) Q E s:=by
  have G7:=hm;obtain⟨od,Ag,dU,Ah⟩:=G7;have hT:Shared.TypeIs s (.ref it) "dict_itemiterator":=⟨_,hit,rfl⟩
  refine aE (wpAny_attempt (ui hT F.slot_dict_itemiterator_next (md F.slot_dict_itemiterator_next hT F.entry_dict_itemiterator_next ?_ (F.args_dict_itemiterator_next_1 _))));unfold Builtin.«dict_itemiterator.__next__»
  wp_walk using wpAny_typeNameOfWhole_itemiter hT,wpAny_fieldsOf hit rfl,xI Ag Ah,wpAny_dictEpoch Ag Ah
  rw[show(if (i:Int)<0 then none else es[(i:Int).toNat]?)=none by rw[ax (by omega),nM,BM hx]];refine aE (aE (wpAny_typeNameOfWhole_itemiter hT (bP (aE (rj (k:=2) (x:=.none) hit (by simp) fun h1 i1 s1=>?_)))))
  wp_walk
  unfold raiseNew;have Tf:A.in1.handled=none:=by simpa using hh
  refine aE (wpAny_handled ?_);rw[Tf];refine aE (bP (wpAny_throw ?_));refine aE (wpAny_isInstance ⟨_,iE _ rfl,rfl⟩ isSubtype_stop (bP (hQ _ fun b o n e=>?_)));exact dC _ (dC _ (s1.extBut b o n e))
theorem yM{ok:Value}{Q:fQ→Shared→Prop}(hh:A.handled=none)(hit:IsItemIter s.heap it d i es.size ep ok ov)(hm:fC s.heap d es ep)(hx:es.size≤i)(hQ:∀h',Heap.ExtBut it s.heap h'→Q none { s with heap:=h' }):wpAny (model prog w) A (pyNext (.ref it)) Q E s:=yL hh hit hm hx hQ
end
end L2
namespace L2
open PySem PySem.Spec PyProof.Rows
def Yx(d:Addr)(o:Obj)(ao:List (List Key×V)):It :=
  ⟨fun i H=>H d=some (.gM o (.dT ao))∧i<ao.length,fun i H x H'=>∃T b k v,ao[i]?=some (k,v)∧H b=some (.tup (k.map kV))∧H T=none∧x=.ref T∧H'=upd H T (.tup [.ref b,v]),fun i H=>H d=some (.gM o (.dT ao))∧ao.length≤i⟩
theorem Dj{K:PySem.W.Frag}{kk:Nat}{um:Pos}(d it:Addr)(o:Obj)(ao:List (List Key×V))(es:Array DictEntry)(ep:Nat)(hx:o.ExactDict)(hd:o.data=.dict es ep)(hn:es.size=ao.length) :
    Turn P w K (.Tuple elts kk um) (Yx d o ao) [it] it (fun i h=>∃ok ov,IsItemIter h it d i es.size ep ok ov) where
  mem:=by simp
  obj:=fun i h st b hb=>by
    have e:b=it:=by simpa using hb
    subst e;obtain⟨ok,ov,e⟩:=st;exact⟨_,e,fun v z=>by
      have z':Data.fields _=Data.cell v:=z;cases z'⟩
  keep:=fun i h h' st k=>by obtain⟨ok,ov,e⟩:=st;exact⟨ok,ov,k it (by simp) _ e⟩
  item:=by
    intro X hP hw hK hc i pins s σ H E I hf st hg;subst hP hw hK;obtain⟨hH,hi⟩:=hg;obtain⟨ok,ov,st⟩:=st;obtain⟨g1,z,y,xs,r,o',V8,V9,h1,h2,h3,h4,h5⟩:=(show bS X.prog X.w H s.heap d (.gM o (.dT ao)) from I.bV d _ hH)
    rw[g1] at h1;cases h1;rw[hd] at h3;injection h3 with e1 e2;subst e1 e2;obtain⟨f0,f1,f2,f3,f4,f5⟩:=hf it (by simp);refine og st ⟨o,g1,hx,hd⟩ (by omega) fun h' sM tp sz keep=>?_;have I1:Inv X pins σ H { s with heap:=h' }:=I.turned (t':=s.toks) (fun b o hb e=>keep b o hb e) f0 f1 f3 f4 f5;obtain⟨q,hq,hk⟩:=nc (i:=i) (x:=ao[i]) r (by simp[hi]);have yx:es[i]'(by omega)=entryOfKey (tupleKind (cJ X.prog X.w)) q:=by
      have e3:es.toList[i]?=some (entryOfKey (tupleKind (cJ X.prog X.w)) q):=by rw[h4,eU,hq];rfl
      rw[v3,uh (by omega)] at e3;exact jJ e3
    have fr:H s.heap.objs.size=none:=I.bV.fresh (bJ _);have Eh:q.2.1≠s.heap.objs.size:=fun e=>by rw[←e,hk.2.1] at fr;cases fr
    have I2:Inv X pins σ (upd H s.heap.objs.size (.tup [.ref q.2.1,ao[i].2])) { s with heap:=h' }:=by refine I1.adopt (I.tu (bJ _) fr) I.sz ⟨by show 2≤sizeLine;decide,[.ref q.2.1,q.2.2],.cons rfl (.cons hk.2.2 .nil),?_⟩;rw[yx] at tp;exact⟨_,tp,rfl,_,rfl⟩
    have ne:it≠s.heap.objs.size:=dP (bG st);refine⟨_,rfl,wpAny_letOwnedTupleGo_items (s:={ s with heap:=h' }) sM fun S7 Yy sb=>?_⟩;have I3:Inv X pins σ (upd H s.heap.objs.size (.tup [.ref q.2.1,ao[i].2])) { s with heap:=S7 }:=I2.turned (t':=s.toks) (fun b o hb e=>(sb.2 b hb).trans e) (by rw[ai ne];exact f0) f1 f3 f4 f5;refine⟨.ref s.heap.objs.size,_,I3,rfl,⟨s.heap.objs.size,q.2.1,ao[i].1,ao[i].2,by simp[hi],hk.2.1,fr,rfl,rfl⟩,⟨_,_,Yy⟩,fun b hb=>?_⟩;have e:b=it:=by simpa using hb
    subst e;rw[ai ne];exact f0
  done:=by
    intro X hP hw hK hc i pins s σ H E I hf st hg;subst hP hw hK;obtain⟨hH,hi⟩:=hg;obtain⟨ok,ov,st⟩:=st;obtain⟨g1,_⟩:=(show bS X.prog X.w H s.heap d (.gM o (.dT ao)) from I.bV d _ hH)
    obtain⟨f0,f1,f2,f3,f4,f5⟩:=hf it (by simp);exact yM (I.ok.hd hc) st ⟨o,g1,hx,hd⟩ (by omega) fun h' eb=>⟨rfl,I.turned (t':=s.toks) (fun b o hb e=>eb b o hb e) f0 f1 f3 f4 f5⟩
  self:=fun A i s Q E st h=>by obtain⟨ok,ov,st⟩:=st;exact PySem.W.kcp_self st h
section
variable {X:Cx} {e:Expr} {tE:TE} {elts:List Expr} {kk:Nat} {um apos aX:Pos}
def R4(tE:TE):TI:=fun σ H R=>tE σ H fun x H1=>∃d o ao,x=.ref d∧H1 d=some (.gM o (.dT ao))∧R (Yx d o ao) H1
theorem Kv(he:PE X e tE)(cI:attributeBase e "items" X.env (eval e X.env)=eval e X.env:=by rfl)(hline:(apos.endLine==aX.line)=true:=by rfl):PI X (.Tuple elts kk um) (.Call (.Attribute e "items" apos) [] [] aX) (R4 tE):=by
  intro pins s σ H R I h;refine wpAny_Call_method0_late cI hline (cN (he pins s σ H _ I h) fun v s1 ⟨x,H1,I1,r1,q1⟩=>?_);obtain⟨d,o,ao,rfl,hH,q⟩:=q1;cases r1;obtain⟨g1,hz,Dh,xs,hp,o',es,ep,ho,hex,hd,yx,J9⟩:=(show bS X.prog X.w H1 s1.heap d (.gM o (.dT ao)) from I1.bV d _ hH)
  rw[g1] at ho;cases ho;have h1:s1.TypeIs (.ref d) "dict":=⟨o,g1,hex.1⟩
  have h2:∀a,Value.ref d=.ref a→∃ob,s1.heap.get? a=some ob∧ob.dict=none:=fun a e=>by cases e;exact⟨o,g1,hex.2.1⟩
  refine⟨"dict","dict.items",PySem.F.plainAttrs_dict,PySem.F.slot_dict_items,PySem.F.type_dict_items,h1,h2,Calls.callWith_builtin rfl (PySem.evalArgs_none ?_)⟩;have hr:fC s1.heap d es ep:=⟨o,g1,hex,hd⟩
  refine call_meetsIn PySem.F.slot_dict_items h1 PySem.F.entry_dict_items (PySem.F.args_dict_items_1 _) (n8 d Dh) ⟨⟨es,ep,hr⟩,?_⟩;have hn:es.size=ao.length:=by rw[←je,yx,bY,←pK hp]
  have I2:Inv X pins σ H1 { s1 with heap:=s1.heap.push { cls:=.type "dict_items",data:=.fields #[.ref d] } }:=I1.kept (t':=s1.toks) fun b o e=>dC _ e;refine n9 (s:={ s1 with heap:=s1.heap.push { cls:=.type "dict_items",data:=.fields #[.ref d] } }) (v:=s1.heap.objs.size) (d:=d) (es:=es) (ep:=ep) ⟨_,iE _ rfl,rfl,rfl⟩ (hr.at fun o e=>dC _ e) ?_;refine⟨_,[_],_,_,H1,rfl,I2.kept (t':=s1.toks) fun b o e=>dC _ e,Dj d _ o ao es ep hex hd hn,⟨.none,.none,iE _ rfl⟩,fun b hb=>?_,q⟩;rw[xH.mp hb];exact I2.tu (bJ _) (I2.bV.fresh (bJ _))
end
end L2
namespace DL
open PySem PySem.Spec L2
open PyProof.Rows hiding St pairAt
structure FzE (X:Cx) (z:Zc) (e:Expr) (sel:aY→Option lY):Prop where
  ex:∃tE,PE X e tE∧∀σ H η F ao,Rel X.K z F H σ η→sel η=some ao→∃p o ws,z.H₀ p=some (.gM o (.dT ws))∧bW X.K z.H₀ ao ws∧∀H' Q,bH z.H₀ H'→Q (.ref p) H'→tE σ H' Q
def WB(C0:Addr)(i:Nat)(η:aY):Option lY:=match η[i]? with
  |some (some (.bb C _ ao))=>if C=C0 then some ao else none
  |_=>none
section
variable {X:Cx} {z:Zc} {e:Expr} {p apos aX pos:Pos} {sel:aY→Option lY}
theorem Vg(i:Nat){C0:Addr}(cl:vX X.K C0)(na:iF X.K C0 "lying")(hN:X.N[i]?=some x:=by rfl)(hv:pL X.env.scope x:=by first|exact Or.inl rfl|exact Or.inr (Or.inl rfl)|exact Or.inr (Or.inr rfl))(iG:(x==("__debug__":Str))=false:=by decide)(dU:(x==("__classdict__":Str))=false:=by decide)(hb:attributeBase (.Name x px) "lying" X.env (eval (.Name x px) X.env)=eval (.Name x px) X.env:=by rfl):FzE X z (.Attribute (.Name x px) "lying" apos) (WB C0 i):=⟨_,xX (cO hN hv iG dU) hb,fun σ H η F ao r e=>by
  unfold WB at e;split at e
  · rename_i C Px iw h;by_cases hc:C=C0
    ·rw[az hc] at e;cases e;subst hc;obtain⟨v,a1,p1,ob,wv,⟨a,dx,l,vs,rfl,b1,b2,b3⟩,hH,hd⟩:=r.at_ i _ h;exact⟨p1,ob,wv,hH,hd,fun H' Q s q=>⟨_,a1,a,C,dx,_,_,rfl,s _ _ b1,cl,na,rfl,q⟩⟩
    ·rw[ax hc] at e;cases e
  ·cases e⟩
def kc(ao:lY):fc:=ao.map fun kv=>.tup [.tup (kv.1.map Ro),kv.2]
theorem Dk{K:PySem.W.Frag}{o:Obj}{ws:List (List Key×V)}{ao:lY}(hH:z.H₀ d=some (.gM o (.dT ws)))(hd:bW K z.H₀ ao ws)(hi:(ao.all fun kv=>kv.2.nR)=true)(hl:ao.length≤sizeLine):Walk K z F (Yx d o ws) true (kc ao) where
  go:=fun F' H' s g i hi=>by refine⟨g.ent _ _ hH,?_⟩;rw[←jc hd];simpa[kc] using hi
  BP:=fun F' H' s g i dd x BH e y=>by obtain⟨T,b,k,v,h1,h2,h3,rfl,rfl⟩:=y;unfold kc at e;rw[eU] at e;obtain⟨kv,e1,rfl⟩:=iD.mp e;obtain⟨y,e2,e3,e4⟩:=nc hd e1;rw[h1] at e2;cases e2;have hm:kv.2.nR=true:=eX.mp hi kv (zC e1);have f2:F' b=some (.tup (k.map kV)):=g.base.tup _ _ h2 rfl;have fv:Den K F' kv.2 v:=ng (fun a o=>g.base.tup a o) _ _ hm (aM g.ent _ _ e4);have g2:=aI.put g.base h3 (.tup [.ref b,v]) (show([V.ref b,v]:List V).length≤sizeLine by rw[fU];simp);refine⟨_,g2,aJ.mpr ⟨T,_,rfl,ay,av.mpr ⟨_,_,rfl,?_,iq (aM g2.cz _ _ fv)⟩⟩⟩;rw[e3];exact aJ.mpr ⟨b,_,rfl,g2.cz _ _ f2,qm _⟩
  stop:=fun F' H' s g=>by refine⟨g.ent _ _ hH,?_⟩;rw[←jc hd];simp[kc]
  len:=by simpa[kc] using hl
def yN(sel:aY→Option lY):LF:=fun η=>(sel η).bind fun ao=>if (ao.all fun kv=>kv.2.nR)=true∧ao.length≤1000 then some (kc ao) else none
theorem Kw{kk:Nat}{um:Pos}(R:FzE X z e sel)(cI:attributeBase e "items" X.env (eval e X.env)=eval e X.env:=by rfl)(hline:(apos.endLine==aX.line)=true:=by rfl):DI X z (.Tuple elts kk um) (.Call (.Attribute e "items" apos) [] [] aX) true (yN sel):=by
  obtain⟨tE,pe,at_⟩:=R.ex;refine PI.weak (Kv pe cI hline) fun σ H R ⟨η,F,ds,r,e,k⟩=>?_;unfold yN at e;obtain⟨ao,h1,e⟩:=cU.mp e;by_cases hc:(ao.all fun kv=>kv.2.nR)=true∧ao.length≤1000
  ·rw[az hc] at e;cases e;obtain⟨q,o,ws,a1,a2,a3⟩:=at_ σ H η F ao r h1;exact a3 H _ r.mem.ent ⟨q,o,ws,rfl,r.mem.ent _ _ a1,k _ H F (aI.refl r.base) (Dk a1 a2 hc.1 (nO (eG hc.2)))⟩
  ·rw[ax hc] at e;cases e
end
end DL
namespace L2
open PySem PySem.Spec PyProof.Rows PySem.W MR
section
variable {prog:Program} {w:World} {A:Around} {E:ic} {s:Shared}
theorem Hg{f:Bool}{oa:Obj}{ok k v:Value}(hit:KdxIt s.heap it d i n ep ok ov a f)(ha:s.heap.get? a=some oa)(hQ:∀h',KdxIt h' it d i n ep ok ov a true→h'.get? s.heap.objs.size=some { cls:=.type "tuple",data:=.seq #[k,v] }→h'.objs.size=s.heap.objs.size+1→(∀b o,b≠it→s.heap.get? b=some o→h'.get? b=some o)→Q (.ref s.heap.objs.size) { s with heap:=h' }):wpAny (model prog w) A (Builtin.Dict_items.pairFromOwner (.ref it) 6 k v) Q E s:=by
  have hb:s.heap.objs.size≠it:=mq (bG hit);have i1:KdxIt (s.heap.push { cls:=.type "tuple",data:=.seq #[k,v] }) it d i n ep ok ov a f:=dC _ hit;have t1:(s.heap.push { cls:=.type "tuple",data:=.seq #[k,v] }).get? s.heap.objs.size=some { cls:=.type "tuple",data:=.seq #[k,v] }:=iE _ rfl;refine aE (wpAny_newTuple (aE ?_));unfold Builtin.Dict_items.ownedTupleIsFree;refine aE (kA i1 rfl (x:=rawInt a) rfl (aE ?_));have al:wpAny (model prog w) A (loadIfAlive a) (fun r s'=>r=some oa∧s'={ s with heap:=s.heap.push { cls:=.type "tuple",data:=.seq #[k,v] } }) E { s with heap:=s.heap.push { cls:=.type "tuple",data:=.seq #[k,v] } }:=kdx_alive (dC _ ha) ⟨rfl,rfl⟩;refine jK al (fun r s' ⟨e1,e2⟩=>?_) fun _ _ h=>h;subst e1 e2;cases f with
  |true=>exact aE (kA i1 rfl rfl (bP (bP (hQ _ i1 t1 (kz _ _) fun b o _ e=>dC _ e))))
  |false=>refine aE (kA i1 rfl rfl (aE (rj i1 (by simp) fun h2 i2 s2=>bP (bP (hQ h2 i2 (s2.extBut _ _ hb t1) ?_ fun b o n e=>s2.extBut b o n (dC _ e))))));rw[s2.1,kz]
end
abbrev LstAt(h:Heap)(S:Addr)(vs:cA):Prop:=∃acc c,h.get? S=some { cls:=.type "list",dict:=none,data:=.seq acc c,slots:=#[] }∧acc.toList=vs
structure Gives (prog:Program) (w:World) (A:Around) (I S:Addr) (n:Nat) (s:Shared) (J:Nat→Heap→cA→Prop) (Z:Heap→cA→Prop):Prop where
  item:∀i h tk vs (Q:fQ→Shared→Prop) (E:ic),i<n→J i h vs→(∃o,h.get? S=some o)→(∀h' v,(∀o,h.get? S=some o→h'.get? S=some o)→(∀f:Obj→Obj,J (i+1) (h'.update S f) (vs++[v]))→Q (some v) { s with heap:=h',toks:=tk })→wpAny (model prog w) A.in1 (pyNext (.ref I)) Q E { s with heap:=h,toks:=tk }
  done:∀h tk vs (Q:fQ→Shared→Prop) (E:ic),J n h vs→(∃o,h.get? S=some o)→(∀h',(∀o,h.get? S=some o→h'.get? S=some o)→Z h' vs→Q none { s with heap:=h',toks:=tk })→wpAny (model prog w) A.in1 (pyNext (.ref I)) Q E { s with heap:=h,toks:=tk }
  len:∀i h vs,J i h vs→vs.length=i
section
variable {prog:Program} {w:World} {A:Around} {s:Shared} {R:Result→Shared→Prop} {I S:Addr} {n:Nat} {J:Nat→Heap→cA→Prop} {Z:Heap→cA→Prop}
theorem gather(G:Gives prog w A I S n s J Z)(hn:n≤sizeLine)(res:Value)(hR:∀h tk vs,Z h vs→LstAt h S vs→R (.ok (.ret res)) { s with heap:=h,toks:=tk }):∀(k i:Nat),n-i=k→i≤n→∀(h:Heap) (tk:Nat) (vs:cA),J i h vs→LstAt h S vs→codeAny (model prog w) A (.builtin "list.extend.loop" ⟨[.ref S,.ref I,res],[]⟩) R { s with heap:=h,toks:=tk }
  |0,i,hk,hi,h,tk,vs,j,⟨acc,c,hS,ha⟩=>by
   have e:i=n:=by omega
   subst e;refine codeAny_builtin PySem.F.entry_extend_loop ?_;rw[Around.under_plainId PySem.F.plain_extend_loop _];exact aE (G.done h tk vs _ _ j ⟨_,hS⟩ fun h' k' j'=>bP (hR h' tk vs j' ⟨acc,c,k' _ hS,ha⟩))
  |k+1,i,hk,hi,h,tk,vs,j,⟨acc,c,hS,ha⟩=>by
   have dQ:i<n:=by omega
   have hz:acc.size=i:=by rw[←je,ha];exact G.len i h vs j
   refine codeAny_builtin PySem.F.entry_extend_loop ?_;rw[Around.under_plainId PySem.F.plain_extend_loop _];refine aE (G.item i h tk vs _ _ dQ j ⟨_,hS⟩ fun h' v k' j'=>aE ?_);have up:=sZ (Obj.mapSeq (·.push v)) (k' _ hS) rfl;refine wpAny_updateSeq (k' _ hS) rfl (bP ⟨plainId_quiet PySem.F.plain_extend_loop _,?_⟩) (by rw[hz];omega) (by show(acc.push v).size≤sizeLine+1;rw[Array.size_push,hz];omega);exact gather G hn res hR k (i+1) (by omega) dQ _ tk (vs++[v]) (j' _) ⟨_,_,up,by rw[Array.toList_push,ha]⟩
end
section
variable {prog:Program} {w:World} {A:Around} {E:ic} {s:Shared}
theorem tZ{S:Addr}{Q:fQ→Shared→Prop}(st:KdxSt s.heap it d S i es.size ep)(hS:S<s.heap.objs.size)(hm:fC s.heap d es ep)(hi:i<es.size)(hQ:∀h',KdxSt h' it d S (i+1) es.size ep→h'.get? s.heap.objs.size=some { cls:=.type "tuple",data:=.seq #[es[i].key,es[i].val] }→h'.objs.size=s.heap.objs.size+1→(∀b o,b≠it→s.heap.get? b=some o→h'.get? b=some o)→Q (some (.ref s.heap.objs.size)) { s with heap:=h' }):wpAny (model prog w) A (pyNext (.ref it)) Q E s:=by
  rcases st with⟨rfl,ok,ov,q⟩|⟨ok,ov,a,f,oa,q1,q2,q3,q4⟩
  ·exact og q hm hi fun h' c1 c2 c3 c4=>hQ h' (.inr ⟨_,_,_,false,_,c1,c2,mq (bG q),mq hS⟩) c2 c3 c4
  ·refine A0 q1 hm hi fun h1 j1 s1 E'=>Hg (s:={ s with heap:=h1 }) j1 (s1.extBut a oa q3 q2) fun h2 c1 c2 c3 c4=>?_;have z:h1.objs.size=s.heap.objs.size:=s1.1;dsimp only at c1 c2 c3 c4⊢;rw[z] at c2 c3⊢;have kp:∀b o,b≠it→s.heap.get? b=some o→h2.get? b=some o:=fun b o n e=>c4 b o n (s1.extBut b o n e);exact hQ h2 (.inr ⟨ok,ov,a,true,oa,c1,kp a oa q3 q2,q3,q4⟩) c2 c3 kp
theorem R5{S:Addr}{Q:fQ→Shared→Prop}(hh:A.handled=none)(st:KdxSt s.heap it d S i es.size ep)(hm:fC s.heap d es ep)(hi:es.size≤i)(hQ:∀h',Heap.ExtBut it s.heap h'→Q none { s with heap:=h' }):wpAny (model prog w) A (pyNext (.ref it)) Q E s:=by
  rcases st with⟨rfl,ok,ov,q⟩|⟨ok,ov,a,f,oa,q1,_,_,_⟩
  ·exact yL hh q hm hi hQ
  ·exact yL hh q1 hm hi hQ
end
structure Kx (es:Array DictEntry) (lo:Addr) (h:Heap) (as:List Addr):Prop where
  rise:as.Pairwise (·<·)
  above:∀a∈as,lo<a
  pairs:∀(j:Nat) (a:Addr),as[j]?=some a→∃e,es[j]?=some e∧h.get? a=some { cls:=.type "tuple",data:=.seq #[e.key,e.val] }
theorem Kx.there{lo:Addr}{as:List Addr}(g:Kx es lo h as)(ha:a∈as):a<h.objs.size:=by obtain⟨j,hj⟩:=List.mem_iff_getElem?.mp ha;obtain⟨_,_,e⟩:=g.pairs j a hj;exact bG e
theorem Kx.move{lo:Addr}{as:List Addr}(g:Kx es lo h as)(k:∀b o,lo<b→h.get? b=some o→h'.get? b=some o):Kx es lo h' as :=
  ⟨g.rise,g.above,fun j a hj=>let ⟨e,e1,e2⟩:=g.pairs j a hj;⟨e,e1,k a _ (g.above a (zC hj)) e2⟩⟩
theorem Kx.more{lo t:Addr}{as:List Addr}(g:Kx es lo h as)(dQ:as.length<es.size)(ha:∀a∈as,a<t)(hl:lo<t)(ht:h.get? t=some { cls:=.type "tuple",data:=.seq #[es[as.length].key,es[as.length].val] }):Kx es lo h (as++[t]):=by
  refine⟨List.pairwise_append.mpr ⟨g.rise,List.pairwise_singleton _ _,fun a h1 b h2=>?_⟩,fun a h1=>?_,fun j b hj=>?_⟩
  ·rw[xH.mp h2];exact ha a h1
  · rcases mh.mp h1 with h1|h1
    ·exact g.above a h1
    ·rw[xH.mp h1];exact hl
  · by_cases h1:j<as.length
    ·rw[xE h1] at hj;exact g.pairs j b hj
    · rw[xD (by omega)] at hj;have e0:j-as.length=0:=by
        have:=(lR.mp hj).1;simp at this;omega
      rw[e0] at hj;cases hj;have e1:j=as.length:=by omega
      subst e1;exact⟨_,uh dQ,ht⟩
section
variable {prog:Program} {w:World} {A:Around} {E:ic} {s:Shared} {r d:Addr} {es:Array DictEntry} {ep:Nat}
structure ItZ (es:Array DictEntry) (h₁:Heap) (I S:Addr) (h:Heap) (vs:cA):Prop where
  keep:∀b o,b≠S→b≠I→h₁.get? b=some o→h.get? b=some o
  as:∃as:List Addr,vs=as.map Value.ref∧as.length=es.size∧Kx es I h as
structure ItJ (es:Array DictEntry) (ep:Nat) (h₁:Heap) (I S d:Addr) (i:Nat) (h:Heap) (vs:cA):Prop where
  st:KdxSt h I d S i es.size ep
  raw:fC h d es ep
  keep:∀b o,b≠S→b≠I→h₁.get? b=some o→h.get? b=some o
  as:∃as:List Addr,vs=as.map Value.ref∧as.length=i∧Kx es I h as
  lt:I<h.objs.size
theorem Dl{h₁:Heap}{I S:Addr}(hh:A.handled=none)(Fl:S<I)(WC:d≠S)(hId:d≠I):Gives prog w A I S es.size s (ItJ es ep h₁ I S d) (ItZ es h₁ I S) where
  len:=fun i h vs j=>by obtain⟨as,rfl,e,_⟩:=j.as;rw[bY];exact e
  done:=fun h tk vs Q E j ⟨o,hS⟩ hQ=>by refine R5 (s:={ s with heap:=h,toks:=tk }) (A:=A.in1) (by simpa using hh) j.st j.raw (bJ _) fun h' x=>hQ h' (fun o e=>x S o (dP Fl) e) ⟨fun b o n1 n2 e=>x b o n2 (j.keep b o n1 n2 e),?_⟩;obtain⟨as,e1,e2,g⟩:=j.as;exact⟨as,e1,e2,g.move fun b o lb e=>x b o (mq lb) e⟩
  item:=fun i h tk vs Q E hi j ⟨o,hS⟩ hQ=>by
    refine tZ (s:={ s with heap:=h,toks:=tk }) (S:=S) j.st (bG hS) j.raw hi fun h' sM ht hz kp=>hQ h' _ (fun o e=>kp S o (dP Fl) e) fun f=>?_;dsimp only at ht hz kp;have up:∀b o,b≠S→h'.get? b=some o→(h'.update S f).get? b=some o:=fun b o n e=>(Heap.get?_update_other _ _ (cT n)).trans e;obtain⟨as,rfl,e,g⟩:=j.as;have hSh:S<h.objs.size:=bG hS;refine⟨sM.keep up (mq Fl),j.raw.at fun o e=>up d o WC (kp d o hId e),fun b o n1 n2 e=>up b o n1 (kp b o n2 (j.keep b o n1 n2 e)),⟨as++[h.objs.size],by rw[wg];rfl,by rw[lZ,e];rfl,?_⟩,?_⟩
    ·subst e;exact(g.move fun b o lb eb=>up b o (mq (Nat.lt_trans Fl lb)) (kp b o (mq lb) eb)).more hi (fun a ha=>g.there ha) j.lt (up _ _ (mq hSh) ht)
    ·rw[Heap.size_after_update,hz];exact Nat.lt_succ_of_lt j.lt
theorem yO{R:Result→Shared→Prop}(hh:A.handled=none)(hv:s.heap.IsItemsView r d)(hm:fC s.heap d es ep){S:Addr}(hSr:S≠r)(WC:d≠S)(res:Value){c₀:Nat}(hS:s.heap.get? S=some { cls:=.type "list",data:=.seq #[] c₀ })(hn:es.size≤sizeLine)(hR:∀h' tk vs,ItZ es s.heap s.heap.objs.size S h' vs→LstAt h' S vs→R (.ok (.ret res)) { s with heap:=h',toks:=tk }) :
    wpAny (model prog w) A.in1 (Builtin.List.listExtendWith (.ref S) (.ref r) res)
      (fun fin s'=>match fin with|.done f=>R (.ok f) s'|.again c'=>c'.quiet=true∧codeAny (model prog w) A c' R s') (fun e s'=>R (.error e) s') s:=by
  have Fl:S<s.heap.objs.size:=bG hS;have hdI:d<s.heap.objs.size:=hm.lt;have go:∀(h:Heap) (c₁ tk:Nat),(∀b o,b≠S→(s.heap.push { cls:=.type "dict_itemiterator",data:=.fields #[.none,.bool false,.ref d,.int 0 0,.int es.size 0,.int ep 0,.none,.none] }).get? b=some o→h.get? b=some o) →
      h.get? S=some { cls:=.type "list",data:=.seq #[] c₁ }→codeAny (model prog w) A (.builtin "list.extend.loop" ⟨[.ref S,.ref s.heap.objs.size,res],[]⟩) R { s with heap:=h,toks:=tk }:=fun h c₁ tk kp Vh=>by
    have hI:=kp _ _ (mq Fl) (iE _ rfl);exact gather (Dl (es:=es) (ep:=ep) (h₁:=s.heap) hh Fl WC (dP hdI)) hn res hR es.size 0 (Nat.sub_zero _) (ik _) h tk []
      ⟨.inl ⟨rfl,.none,.none,hI⟩,hm.at fun o e=>kp d o WC (dC _ e),fun b o n _ e=>kp b o n (dC _ e),⟨[],rfl,rfl,List.Pairwise.nil,(fun _ h=>nomatch h),(fun j a h=>by simp at h)⟩,bG hI⟩ ⟨_,_,Vh,rfl⟩
  have c1:Builtin.List.listSameRef (.ref S) (.ref r)=false:=by simp[Builtin.List.listSameRef,hSr]
  have c2:((Value.type "dict_items"==Value.type "list")||(Value.type "dict_items"==Value.type "tuple"))=false:=by decide
  have Vh:=dC { cls:=.type "dict_itemiterator",data:=.fields #[.none,.bool false,.ref d,.int 0 0,.int es.size 0,.int ep 0,.none,.none] } hS;unfold Builtin.List.listExtendWith;refine aE (wpAny_typeOf hv.typeIs ?_);simp only[c1,c2,Bool.or_false,Bool.false_or,rh,il];refine aE (n9 hv hm (aE (oB (kdx_hint (let ⟨o,ho,hc,_⟩:=hv;⟨o,dC _ ho,hc⟩) ?_))));refine wpAny_ite_split (fun _=>aE (wpAny_rule (aE ?_))) (fun _=>bP ⟨plainId_quiet PySem.F.plain_extend_loop _,go _ c₀ _ (fun _ _ _ e=>e) Vh⟩);have RB:=sZ (Obj.mapSeq (·.push Value.none)) Vh rfl;refine aE (wpAny_updateSeq Vh rfl (wpAny_updateSeq (hz:=by seq_fits) RB rfl (bP ⟨plainId_quiet PySem.F.plain_extend_loop _,go _ _ _ (fun b o n e=>?_) (sZ (Obj.mapSeq (·.pop)) RB rfl)⟩)));rw[Heap.get?_update_other _ _ (cT n),Heap.get?_update_other _ _ (cT n)];exact e
theorem N2(hh:A.handled=none)(hv:s.heap.IsItemsView r d)(hm:fC s.heap d es ep)(hn:es.size≤sizeLine)(hQ:∀h' tk acc c as,(∀b o,s.heap.get? b=some o→h'.get? b=some o)→h'.get? s.heap.objs.size=some { cls:=.type "list",dict:=none,data:=.seq acc c,slots:=#[] }→as.length=es.size→Kx es s.heap.objs.size h' as→acc.toList=as.map Value.ref→Q (.ref s.heap.objs.size) { s with heap:=h',toks:=tk }):wpAny (model prog w) A (call (.type "list") [.ref r]) Q E s:=by
  have hS:(s.heap.push { cls:=.type "list",data:=.seq #[] }).get? s.heap.objs.size=some { cls:=.type "list",data:=.seq #[] }:=iE _ rfl;have hr:s.heap.objs.size≠r:=let ⟨_,ho,_⟩:=hv;mq (bG ho)
  have hd:d≠s.heap.objs.size:=dP hm.lt;refine callType_codes (Q₁:=fun obj s₁=>obj=.ref s.heap.objs.size∧s₁={ s with heap:=s.heap.push { cls:=.type "list",data:=.seq #[] } }) PySem.F.called_list (PySem.F.typeCall_list_1 _) PySem.F.entry_list_init (code_list_new _ ⟨rfl,rfl⟩) fun obj s₁ ⟨e1,e2⟩=>?_;subst e1 e2;refine⟨⟨_,hS,rfl⟩,PySem.F.args_list_init_2 _ _,aE (aE (wpAny_seqItems hS rfl (bP (aE (wpAny_updateSeq hS rfl (aE (wpAny_letGo ?_)))))))⟩;have kp:∀b o,b≠s.heap.objs.size→s.heap.get? b=some o→((s.heap.push { cls:=.type "list",data:=.seq #[] }).update s.heap.objs.size (Obj.mapSeq (fun _=>(#[]:Array Value)))).get? b=some o:=fun b o n e=>(Heap.get?_update_other _ _ (cT n)).trans (dC _ e);have RB:=sZ (Obj.mapSeq (fun _=>(#[]:Array Value))) hS rfl;have hsz:s.heap.objs.size<((s.heap.push { cls:=.type "list",data:=.seq #[] }).update s.heap.objs.size (Obj.mapSeq (fun _=>(#[]:Array Value)))).objs.size:=bG RB;refine yO (A:=A.in1) (by simpa using hh) (let ⟨o,ho,x⟩:=hv;⟨o,kp r o (cT hr) ho,x⟩) (hm.at fun o e=>kp d o hd e) hr hd .none RB hn fun h' tk vs z ⟨acc,c,hl,ha⟩=>⟨rfl,?_⟩
  obtain⟨as,e1,e2,g⟩:=z.as;refine hQ h' tk acc c as (fun b o e=>?_) hl e2 ⟨g.rise,fun a h=>Nat.lt_trans hsz (g.above a h),g.pairs⟩ (ha.trans e1);have hb:b≠s.heap.objs.size:=dP (bG e);exact z.keep b o hb (dP (bG (kp b o hb e))) (kp b o hb e)
end
inductive Puts:Hp→List (Addr×List V)→Hp→Prop
  |nil {H:Hp}:Puts H [] H
  |cons {H H':Hp} {a:Addr} {xs:List V} {r:List (Addr×List V)} (h:H a=none) (hl:xs.length≤sizeLine) (t:Puts (upd H a (.tup xs)) r H'):Puts H ((a,xs)::r) H'
section
variable {X:Cx} {pins:gw} {σ:St} {s0 s':Shared} {H0:Hp}
theorem Inv.Vi(I0:Inv X pins σ H0 s0):∀(qs:List (Addr×List V)) (H:Hp),Inv X pins σ H s'→(∀q∈qs,s0.heap.objs.size≤q.1∧H q.1=none∧q.2.length≤sizeLine∧∃its:cA,Vals q.2 its∧IsTup s'.heap q.1 its.toArray)→(qs.map (·.1)).Nodup→∃H',Puts H qs H'∧Inv X pins σ H' s'∧∀b,b∉qs.map (·.1)→H' b=H b
  |[],H,I,_,_=>⟨H,.nil,I,fun _ _=>rfl⟩
  |(a,xs)::qs,H,I,hq,hn=>by
   obtain⟨h1,h2,h3,its,h4,h5⟩:=hq (a,xs) eR;rw[cD,List.nodup_cons] at hn;have I1:Inv X pins σ (upd H a (.tup xs)) s':=I.adopt (I0.tu h1 h2) (fR I0.sz h1) ⟨h3,its,h4,h5⟩;obtain⟨H',p1,p2,p3⟩:=Inv.Vi I0 qs (upd H a (.tup xs)) I1 (fun q Eh=>by
     obtain⟨c1,c2,c3,c4⟩:=hq q (ef _ Eh);refine⟨c1,?_,c3,c4⟩;rw[ai (fun e=>hn.1 (gC.mpr ⟨q,Eh,e⟩))];exact c2) hn.2
   refine⟨H',.cons h2 h3 p1,p2,fun b hb=>?_⟩;rw[cD,dc,not_or] at hb;rw[p3 b hb.2,ai hb.1]
end
section
variable {X:Cx} {e:Expr} {tE:TE} {p apos aX pos:Pos}
def R6(tE:TE):TE:=fun σ H Q=>tE σ H fun x H1=>∃d ws,x=.ref d∧Rd H1 d (.dT ws)∧∀ps H2 S,Puts H1 ps H2→Paired (fun(kv:List Key×V) (q:Addr×List V)=>∃b,H1 b=some (.tup (kv.1.map kV))∧q.2=[.ref b,kv.2]) ws ps →
  H2 S=none→Q (.ref S) (upd H2 S (.lst (ps.map fun q=>.ref q.1)))
theorem xq:∀(as:List Addr),Vals (as.map V.ref) (as.map Value.ref)
  |[]=>.nil
  |a::as=>.cons rfl (xq as)
theorem A1{P:Program}{w:World}{H1:Hp}{h':Heap}{lo:Addr}:∀{ws:List (List Key×V)} {xs:List (List Key×Addr×Value)} {es:List DictEntry} {as:List Addr},Paired (fun(p:List Key×V) (q:List Key×Addr×Value)=>p.1=q.1∧H1 q.2.1=some (.tup (p.1.map kV))∧RelV p.2 q.2.2) ws xs→es=xs.map (entryOfKey (tupleKind (cJ P w)))→as.length=es.length→(∀(j:Nat) (a:Addr),as[j]?=some a→lo<a∧∃en,es[j]?=some en∧h'.get? a=some { cls:=.type "tuple",data:=.seq #[en.key,en.val] })→∃ps:List (Addr×List V),ps.map (·.1)=as∧Paired (fun(kv:List Key×V) (q:Addr×List V)=>∃b,H1 b=some (.tup (kv.1.map kV))∧q.2=[.ref b,kv.2]) ws ps∧∀q∈ps,lo<q.1∧q.2.length≤sizeLine∧∃its:cA,Vals q.2 its∧IsTup h' q.1 its.toArray
  |_,_,es,as,.nil,he,hl,_=>by subst he;have:as=[]:=List.length_eq_zero_iff.mp hl;subst this;exact⟨[],rfl,.nil,fun q hq=>by cases hq⟩
  |_,x::xs,es,as,.cons r t,he,hl,hp=>by
   subst he;cases as with
   |nil=>simp at hl
   |cons a as =>
    obtain⟨ps,e1,e2,e3⟩:=A1 (P:=P) (w:=w) (as:=as) t rfl (by simpa using hl) fun j b hb=>hp (j+1) b (by simpa using hb);obtain⟨c1,en,c2,c3⟩:=hp 0 a rfl;cases c2;refine⟨(a,[.ref x.2.1,_])::ps,by rw[cD,e1],.cons ⟨x.2.1,r.2.1,rfl⟩ e2,fun q hq=>?_⟩;rcases dc.mp hq with rfl|hq
    ·exact⟨c1,by show 2≤sizeLine;decide,[.ref x.2.1,x.2.2],.cons rfl (.cons r.2.2 .nil),⟨_,c3,rfl,_,rfl⟩⟩
    ·exact e3 q hq
theorem yP(hc:X.calm=true)(wI:Gl X "list")(nZ:X.mg "list"=none)(he:PE X e tE)(cI:attributeBase e "items" X.env (eval e X.env)=eval e X.env:=by rfl)(hline:(apos.endLine==aX.line)=true:=by rfl)(kx:starEach [Expr.Call (.Attribute e "items" apos) [] [] aX] X.env=(false,eval (.Call (.Attribute e "items" apos) [] [] aX) X.env)::starEach [] X.env:=by rfl)(Vc:bootBuiltins "list"=some (.type "list"):=by decide +kernel):PE X (.Call (.Name "list" p) [.Call (.Attribute e "items" apos) [] [] aX] [] pos) (R6 tE):=by
  intro pins s σ H Q I h;refine tj (gT I wI nZ Vc ?_ (by decide) (by decide));refine BL ?_ kx rfl;rw[kx];show wpAny _ _ (spliced ((false,eval (.Call (.Attribute e "items" apos) [] [] aX) X.env)::backTo pos (starEach [] X.env))) _ _ s;refine wa ?_;refine wpAny_Call_method0_late cI hline (cN (he pins s σ H _ I h) fun v s1 ⟨x,H1,I1,r1,q1⟩=>?_);obtain⟨d,ws,rfl,hq,k⟩:=q1;cases r1;have bV:bS X.prog X.w H1 s1.heap d (.dT ws):=by
    rcases hq with hq|⟨ob,hq⟩
    ·exact I1.bV d _ hq
    ·exact(I1.bV d _ hq).2
  obtain⟨hz,Dh,xs,hp,o,es,ep,ho,hex,hd,yx,J9⟩:=bV;have h1:s1.TypeIs (.ref d) "dict":=⟨o,ho,hex.1⟩
  have h2:∀a,Value.ref d=.ref a→∃ob,s1.heap.get? a=some ob∧ob.dict=none:=fun a e=>by cases e;exact⟨o,ho,hex.2.1⟩
  refine⟨"dict","dict.items",PySem.F.plainAttrs_dict,PySem.F.slot_dict_items,PySem.F.type_dict_items,h1,h2,Calls.callWith_builtin rfl (PySem.evalArgs_none ?_)⟩;have hr:fC s1.heap d es ep:=⟨o,ho,hex,hd⟩
  refine call_meetsIn PySem.F.slot_dict_items h1 PySem.F.entry_dict_items (PySem.F.args_dict_items_1 _) (n8 d Dh) ⟨⟨es,ep,hr⟩,?_⟩;refine xJ ?_;have hh:X.A.handled=none:=I1.ok.hd hc;have hn:es.size=ws.length:=by rw[←je,yx,bY,←pK hp]
  refine N2 (s:={ s1 with heap:=s1.heap.push { cls:=.type "dict_items",data:=.fields #[.ref d] } }) (r:=s1.heap.objs.size) (d:=d) (es:=es) (ep:=ep) hh ⟨_,iE _ rfl,rfl,rfl⟩ (hr.at fun o e=>dC _ e) (by rw[hn];exact hz) fun h' tk acc c as hk hS hl hG tJ=>?_;have hsz:(s1.heap.push { cls:=.type "dict_items",data:=.fields #[.ref d] }).objs.size=s1.heap.objs.size+1:=kz ..;dsimp only at hS hG⊢;have I2:Inv X pins σ H1 { s1 with heap:=h',toks:=tk }:=I1.kept (h':=h') (t':=tk) fun b o e=>hk b o (dC _ e);obtain⟨ps,e1,e2,e3⟩:=A1 (P:=X.prog) (w:=X.w) (lo:=(s1.heap.push { cls:=.type "dict_items",data:=.fields #[.ref d] }).objs.size) (h':=h') (as:=as) hp yx (by rw[je];exact hl) fun j a hj=>by obtain⟨en,c1,c2⟩:=hG.pairs j a hj;exact⟨hG.above a (zC hj),en,by rw[v3];exact c1,c2⟩
  have Yz:(ps.map (·.1)).Nodup:=by rw[e1];exact hG.rise.imp fun h=>dP h
  obtain⟨H2,p1,p2,p3⟩:=Inv.Vi (s':={ s1 with heap:=h',toks:=tk }) I1 ps H1 I2 (fun q hq=>by
    obtain⟨c1,c2,c3⟩:=e3 q hq;have BD:s1.heap.objs.size≤q.1:=nO (Nat.lt_trans (by rw[hsz];exact Nat.lt_succ_self _) c1);exact⟨BD,I1.bV.fresh BD,c2,c3⟩) Yz
  have L6:H2 (s1.heap.push { cls:=.type "dict_items",data:=.fields #[.ref d] }).objs.size=none:=by
    rw[p3 _ (fun hm=>?_)]
    ·exact I1.bV.fresh (by omega)
    ·obtain⟨q,hq,e⟩:=gC.mp hm;have:=(e3 q hq).1;rw[e] at this;exact rn _ this
  have hlen:ps.length=ws.length:=(pK e2).symm;refine⟨.ref (s1.heap.push { cls:=.type "dict_items",data:=.fields #[.ref d] }).objs.size,_,p2.adopt (o:=.lst (ps.map fun q=>.ref q.1)) (I1.tu (by omega) L6) (fR I1.sz (by omega)) ⟨by rw[bY,hlen];exact hz,as.map Value.ref,c,?_,?_⟩,rfl,k ps H2 _ p1 e2 L6⟩
  ·have:=xq as;rw[←e1,fB,fB] at this;rw[←e1,fB];exact this
  ·rw[←tJ,Array.toArray_toList];exact hS
end
end L2
namespace DL
open PySem PySem.Spec L2
open PyProof.Rows hiding St pairAt
theorem xr:∀{ps:List (Addr×List V)} {F H H2:Hp},Base F H→Puts H ps H2→∃F2,aI F H F2 H2∧∀q∈ps,F2 q.1=some (.tup q.2)
  |_,F,H,_,b,.nil=>⟨F,aI.refl b,fun q hq=>by cases hq⟩
  |_,F,H,_,b,.cons (a:=a) (xs:=xs) h hl t=>by
   have g1:=aI.put b h (.tup xs) hl;obtain⟨F2,g2,k2⟩:=xr g1.base t;refine⟨F2,g1.trans g2,fun q hq=>?_⟩;rcases dc.mp hq with rfl|hq
   ·exact g2.cz _ _ ay
   ·exact k2 q hq
section
variable {X:Cx} {z:Zc} {e:Expr} {p apos aX pos:Pos} {sel:aY→Option lY}
theorem xt{K:PySem.W.Frag}{F H F2:Hp}(b:Base F H)(g:bH F F2):∀{ao:lY} {ws:List (List Key×V)} {ps:List (Addr×List V)},bW K H ao ws→(ao.all fun kv=>kv.2.nR)=true→Paired (fun(kv:List Key×V) (q:Addr×List V)=>∃b,H b=some (.tup (kv.1.map kV))∧q.2=[.ref b,kv.2]) ws ps→(∀q∈ps,F2 q.1=some (.tup q.2))→bz K F2 (kc ao) (ps.map fun q=>.ref q.1)
  |_,_,_,.nil,_,.nil,_=>aP.mpr rfl
  |kv::ao,w::ws,q::ps,.cons h t,hi,.cons r r',hq=>by rw[List.all_cons,oA] at hi;obtain⟨h1,h2⟩:=h;obtain⟨c,c1,c2⟩:=r;refine av.mpr ⟨_,_,rfl,?_,xt b g t hi.2 r' fun q' Eh=>hq q' (ef _ Eh)⟩;have fq:=hq q eR;rw[c2] at fq;refine aJ.mpr ⟨q.1,_,rfl,fq,av.mpr ⟨_,_,rfl,?_,iq (aM g _ _ (ng (fun a o=>b.tup a o) _ _ hi.1 h2))⟩⟩;rw[h1];exact aJ.mpr ⟨c,_,rfl,g _ _ (b.tup _ _ c1 rfl),qm _⟩
def yQ(sel:aY→Option lY):LF:=fun η=>(sel η).bind fun ao=>if (ao.all fun kv=>kv.2.nR)=true∧ao.length≤1000 then some (kc ao) else none
theorem yR(hc:X.calm=true)(wI:Gl X "list")(nZ:X.mg "list"=none)(R:Vd X z e sel)(cI:attributeBase e "items" X.env (eval e X.env)=eval e X.env:=by rfl)(hline:(apos.endLine==aX.line)=true:=by rfl)(kx:starEach [Expr.Call (.Attribute e "items" apos) [] [] aX] X.env=(false,eval (.Call (.Attribute e "items" apos) [] [] aX) X.env)::starEach [] X.env:=by rfl):DO X z (.Call (.Name "list" p) [.Call (.Attribute e "items" apos) [] [] aX] [] pos) (yQ sel):=by
  obtain⟨tE,pe,at_⟩:=R.ex;refine PE.weak (yP hc wI nZ pe cI hline kx (by decide +kernel)) fun σ H Q ⟨η,F,ds,r,e,k⟩=>?_;unfold yQ at e;obtain⟨ao,h1,e⟩:=cU.mp e;by_cases hc:(ao.all fun kv=>kv.2.nR)=true∧ao.length≤1000
  · rw[az hc] at e;cases e;obtain⟨q,ws,a1,a2,a3⟩:=at_ σ H η F ao r h1;refine a3 _ ⟨q,ws,rfl,a1,fun ps H2 S hp hpr hS=>?_⟩;obtain⟨F2,g,He⟩:=xr r.base hp;have hl:(ps.map fun(q:Addr×List V)=>V.ref q.1).length≤sizeLine:=by
      rw[bY,←pK hpr,←jc a2];exact nO (eG hc.2)
    have g2:=aI.own g.base hS (.lst (ps.map fun(q:Addr×List V)=>V.ref q.1)) hl rfl;exact k S _ _ F2 (g.trans g2) (g.ent.free hS) (g.base.sub.free hS) ay (xt r.base g.cz a2 hc.1 hpr He)
  ·rw[ax hc] at e;cases e
end
end DL
namespace L2
open PySem PySem.Spec PyProof.Rows PySem.W MR
section
variable {X:Cx} {e:Expr} {tE:TE} {p apos aX pos:Pos}
def R7(tE:TE):TE:=fun σ H Q=>tE σ H fun x H1=>∃d ws,x=.ref d∧Rd H1 d (.dT ws)∧∀S,H1 S=none→Q (.ref S) (upd H1 S (.lst (ws.map fun(kv:List Key×V)=>kv.2)))
theorem Ft{P:Program}{w:World}{H1:Hp}:∀{ws:List (List Key×V)} {xs:List (List Key×Addr×Value)} {es:List DictEntry} {us:cA},Paired (fun(p:List Key×V) (q:List Key×Addr×Value)=>p.1=q.1∧H1 q.2.1=some (.tup (p.1.map kV))∧RelV p.2 q.2.2) ws xs→es=xs.map (entryOfKey (tupleKind (cJ P w)))→us.length=es.length→(∀(j:Nat) (v:Value),us[j]?=some v→∃en,es[j]?=some en∧v=en.val)→Vals (ws.map fun(kv:List Key×V)=>kv.2) us
  |_,_,es,us,.nil,he,hl,_=>by subst he;have:us=[]:=List.length_eq_zero_iff.mp hl;subst this;exact .nil
  |_,x::xs,es,us,.cons r t,he,hl,hp=>by
   subst he;cases us with
   |nil=>simp at hl
   |cons u us=>obtain⟨en,c1,rfl⟩:=hp 0 u rfl;cases c1;exact .cons r.2.2 (Ft (P:=P) (w:=w) t rfl (by simpa using hl) fun j v hv=>by simpa using hp (j+1) v (by simpa using hv))
theorem A2(hc:X.calm=true)(wI:Gl X "list")(nZ:X.mg "list"=none)(he:PE X e tE)(cI:attributeBase e "values" X.env (eval e X.env)=eval e X.env:=by rfl)(hline:(apos.endLine==aX.line)=true:=by rfl)(kx:starEach [Expr.Call (.Attribute e "values" apos) [] [] aX] X.env=(false,eval (.Call (.Attribute e "values" apos) [] [] aX) X.env)::starEach [] X.env:=by rfl)(Vc:bootBuiltins "list"=some (.type "list"):=by decide +kernel):PE X (.Call (.Name "list" p) [.Call (.Attribute e "values" apos) [] [] aX] [] pos) (R7 tE):=by
  intro pins s σ H Q I h;refine tj (gT I wI nZ Vc ?_ (by decide) (by decide));refine BL ?_ kx rfl;rw[kx];show wpAny _ _ (spliced ((false,eval (.Call (.Attribute e "values" apos) [] [] aX) X.env)::backTo pos (starEach [] X.env))) _ _ s;refine wa ?_;refine wpAny_Call_method0_late cI hline (cN (he pins s σ H _ I h) fun v s1 ⟨x,H1,I1,r1,q1⟩=>?_);obtain⟨d,ws,rfl,hq,k⟩:=q1;cases r1;have bV:bS X.prog X.w H1 s1.heap d (.dT ws):=by
    rcases hq with hq|⟨ob,hq⟩
    ·exact I1.bV d _ hq
    ·exact(I1.bV d _ hq).2
  obtain⟨hz,Dh,xs,hp,o,es,ep,ho,hex,hd,yx,J9⟩:=bV;have h1:s1.TypeIs (.ref d) "dict":=⟨o,ho,hex.1⟩
  have h2:∀a,Value.ref d=.ref a→∃ob,s1.heap.get? a=some ob∧ob.dict=none:=fun a e=>by cases e;exact⟨o,ho,hex.2.1⟩
  refine⟨"dict","dict.values",PySem.F.plainAttrs_dict,PySem.F.slot_dict_values,PySem.F.type_dict_values,h1,h2,Calls.callWith_builtin rfl (PySem.evalArgs_none ?_)⟩;have hr:fC s1.heap d es ep:=⟨o,ho,hex,hd⟩
  refine call_meetsIn PySem.F.slot_dict_values h1 PySem.F.entry_dict_values (PySem.F.args_dict_values_1 _) (qA Dh) ⟨⟨es,ep,hr⟩,?_⟩;refine xJ ?_;have hh:X.A.handled=none:=I1.ok.hd hc;have hn:es.size=ws.length:=by rw[←je,yx,bY,←pK hp]
  refine kdl_call (s:={ s1 with heap:=s1.heap.push { cls:=.type "dict_values",data:=.fields #[.ref d] } }) (Fm (r:=s1.heap.objs.size) (d:=d) (es:=es) (ep:=ep)) hh ⟨⟨_,iE _ rfl,rfl,rfl⟩,hr.at fun o e=>dC _ e⟩ (by rw[hn];exact hz) fun h' tk acc c hk hS tJ=>?_;have hsz:(s1.heap.push { cls:=.type "dict_values",data:=.fields #[.ref d] }).objs.size=s1.heap.objs.size+1:=kz ..;dsimp only at hS⊢;have I2:Inv X pins σ H1 { s1 with heap:=h',toks:=tk }:=I1.kept (h':=h') (t':=tk) fun b o e=>hk b o (dC _ e);have BD:s1.heap.objs.size≤(s1.heap.push { cls:=.type "dict_values",data:=.fields #[.ref d] }).objs.size:=by rw[hsz];exact Nat.le_succ _
  have L6:=I1.bV.fresh BD;refine⟨.ref (s1.heap.push { cls:=.type "dict_values",data:=.fields #[.ref d] }).objs.size,_,I2.adopt (o:=.lst (ws.map fun(kv:List Key×V)=>kv.2)) (I1.tu BD L6) (fR I1.sz BD) ⟨by rw[bY];exact hz,acc.toList,c,?_,?_⟩,rfl,k _ L6⟩
  ·exact Ft (P:=X.prog) (w:=X.w) hp yx (by rw[je,je];exact tJ.1) fun j v hv=>by obtain⟨en,c1,c2⟩:=tJ.2 j v (by rw[←v3];exact hv);exact⟨en,by rw[v3];exact c1,c2⟩
  ·rw[Array.toArray_toList];exact hS
end
end L2
namespace DL
open PySem PySem.Spec L2
open PyProof.Rows hiding St pairAt
section
variable {X:Cx} {z:Zc} {e:Expr} {p apos aX pos:Pos} {sel:aY→Option lY}
theorem A3{K:PySem.W.Frag}{F H:Hp}(b:Base F H):∀{ao:lY} {ws:List (List Key×V)},bW K H ao ws→(ao.all fun kv=>kv.2.nR)=true→bz K F (ao.map (·.2)) (ws.map fun(kv:List Key×V)=>kv.2)
  |_,_,.nil,_=>aP.mpr rfl
  |kv::ao,w::ws,.cons h t,hi=>by rw[List.all_cons,oA] at hi;exact av.mpr ⟨_,_,rfl,ng (fun a o=>b.tup a o) _ _ hi.1 h.2,A3 b t hi.2⟩
def sf(sel:aY→Option lY):LF:=fun η=>(sel η).bind fun ao=>if (ao.all fun kv=>kv.2.nR)=true∧ao.length≤1000 then some (ao.map (·.2)) else none
theorem A4(hc:X.calm=true)(wI:Gl X "list")(nZ:X.mg "list"=none)(R:Vd X z e sel)(cI:attributeBase e "values" X.env (eval e X.env)=eval e X.env:=by rfl)(hline:(apos.endLine==aX.line)=true:=by rfl)(kx:starEach [Expr.Call (.Attribute e "values" apos) [] [] aX] X.env=(false,eval (.Call (.Attribute e "values" apos) [] [] aX) X.env)::starEach [] X.env:=by rfl):DO X z (.Call (.Name "list" p) [.Call (.Attribute e "values" apos) [] [] aX] [] pos) (sf sel):=by
  obtain⟨tE,pe,at_⟩:=R.ex;refine PE.weak (A2 hc wI nZ pe cI hline kx (by decide +kernel)) fun σ H Q ⟨η,F,ds,r,e,k⟩=>?_;unfold sf at e;obtain⟨ao,h1,e⟩:=cU.mp e;by_cases hc:(ao.all fun kv=>kv.2.nR)=true∧ao.length≤1000
  · rw[az hc] at e;cases e;obtain⟨q,ws,a1,a2,a3⟩:=at_ σ H η F ao r h1;refine a3 _ ⟨q,ws,rfl,a1,fun S hS=>?_⟩;have hl:(ws.map fun(kv:List Key×V)=>kv.2).length≤sizeLine:=by
      rw[bY,←jc a2];exact nO (eG hc.2)
    have g2:=aI.own r.base hS (.lst (ws.map fun(kv:List Key×V)=>kv.2)) hl rfl;exact k S _ _ F g2 hS (r.base.sub.free hS) ay (A3 r.base a2 hc.1)
  ·rw[ax hc] at e;cases e
end
end DL
namespace L2
open PySem PySem.Spec PyProof.Rows
section
variable {X:Cx} {e:Expr} {te:TE} {p p' pos pos':Pos}
def A5(ys:dB):Nat:=(NR.fN (fun i=>ys.getD i ⟨#[]⟩) ys.length).length
theorem Ky{ys:dB}(r:Vals (ys.map V.str) us){v:Value}(h:us[i]?=some v):∃t,v=Value.str (ys.getD i ⟨#[]⟩) t:=by obtain⟨y,e1,e2⟩:=RV r h;rw[eU] at e1;obtain⟨x,e3,e4⟩:=iD.mp e1;subst e4;obtain⟨t,e5⟩:=e2;exact⟨t,by rw[jd,e3];exact e5⟩
def R8(K:PySem.W.Frag)(te:TE):TE:=fun σ H Q=>te σ H fun x H1=>∃(a:Addr) (ys:dB),x=.ref a∧eY K H1 a (ys.map V.str)∧ys.length≤1000∧Q (.int (A5 ys:Nat)) H1
theorem Dm(hc:X.calm=true)(wI:Gl X "len")(nZ:X.mg "len"=none)(hg:Gl X "set")(hm:X.mg "set"=none)(he:PE X e te)(hs:starEach [e] X.env=(false,eval e X.env)::starEach [] X.env:=by rfl)(kx:starEach [Expr.Call (.Name "set" p') [e] [] pos'] X.env=(false,eval (.Call (.Name "set" p') [e] [] pos') X.env)::starEach [] X.env:=by rfl):PE X (.Call (.Name "len" p) [.Call (.Name "set" p') [e] [] pos'] [] pos) (R8 X.K te):=by
  intro pins s σ H Q I h;refine tj (gT I wI nZ dw ?_ (by decide) (by decide));refine PyProof.Rows.callWith_builtin1 ?_ kx rfl;rw[kx];show wpAny _ _ (spliced ((false,eval (.Call (.Name "set" p') [e] [] pos') X.env)::backTo pos (starEach [] X.env))) _ _ s;refine wa ?_;refine tj (gT I hg hm Ji ?_ (by decide) (by decide));refine BL ?_ hs rfl;rw[hs];show wpAny _ _ (spliced ((false,eval e X.env)::backTo pos' (starEach [] X.env))) _ _ s;refine wa (cN (he pins s σ H _ I h) fun u s1 ⟨x,H1,I1,r1,q1⟩=>?_);refine xJ ?_;obtain⟨a,ys,rfl,hq,hl,hk⟩:=q1;cases r1;obtain⟨its,rv,pl,_⟩:=I1.list hq;have l1:its.length=ys.length:=by have:=rv.length;rw[bY] at this;exact this.symm
  have hh:X.A.handled=none:=I1.ok.hd hc;refine NR.Hc (val:=fun i=>ys.getD i ⟨#[]⟩) hh pl.isList (by rw[eA,l1];exact Nat.lt_of_le_of_lt (Nat.succ_le_succ hl) (by decide)) (fun i v hv=>Ky rv (by simpa using hv)) fun h' tk hS Kg=>?_;refine xJ ?_;rw[show its.toArray.size=ys.length from by rw[eA,l1]] at hS;obtain⟨o,es,ep,t,ho,hex,hd,X9,ad4,hb,hf,hn⟩:=hS;have h6:=NR.u9 (fun i=>ys.getD i ⟨#[]⟩) ys.length;refine call_len_set ho hex hd hf (by omega) ?_;have oJ:∀b o,s1.heap.get? b=some o→h'.get? b=some o:=fun b o q=>Kg b o (bG q) q;refine⟨.int _,H1,I1.kept (h':=h') (t':=tk+1+1) oJ,⟨_,rfl⟩,?_⟩;rw[hn];exact hk
end
end L2
namespace DL
open PySem PySem.Spec L2
open PyProof.Rows hiding St pairAt
section
variable {X:Cx} {z:Zc} {e:Expr} {f:EF} {p p' pos pos':Pos}
def yS(f:EF):EF:=fun η=>(f η).bind fun d=>match d with
  |.lst ds=>(n5 ds).bind fun ys=>if ys.length≤1000 then some (.int (A5 ys:Nat)) else none
  |_=>none
theorem Kz(hc:X.calm=true)(wI:Gl X "len")(nZ:X.mg "len"=none)(hg:Gl X "set")(hm:X.mg "set"=none)(ha:DB X z e f)(hs:starEach [e] X.env=(false,eval e X.env)::starEach [] X.env:=by rfl)(kx:starEach [Expr.Call (.Name "set" p') [e] [] pos'] X.env=(false,eval (.Call (.Name "set" p') [e] [] pos') X.env)::starEach [] X.env:=by rfl):DE X z (.Call (.Name "len" p) [.Call (.Name "set" p') [e] [] pos'] [] pos) (yS f):=PE.weak (Dm hc wI nZ hg hm ha hs kx) fun σ H Q ⟨η,F,d,r,e,k⟩=>by
  unfold yS at e;obtain⟨d',h1,e⟩:=cU.mp e;cases d' with
  |lst ds =>
   obtain⟨ys,h3,e⟩:=cU.mp e;by_cases hl:ys.length≤1000
   ·rw[az hl] at e;cases e;refine⟨η,F,_,r,h1,fun v H1 F1 g1 q1=>?_⟩;obtain⟨a,ws,rfl,h4,h5⟩:=aL.mp q1;rw[qy h3] at h5;rw[lu h5] at h4;exact⟨a,ys,rfl,h4,hl,k _ H1 F1 g1 (aD.mpr rfl)⟩
   ·rw[ax hl] at e;cases e
  |_=>cases e
end
end DL
namespace L2
open PySem PySem.Spec PyProof.Rows
section
variable {X:Cx} {pins:gw} {σ:St} {H:Hp} {s:Shared}
theorem Inv.YB{o:Obj}(hz:∀o u,X.H₀ d≠some (.gM o u))(I:Inv X pins σ H s)(h:H d=some (.gM o (.dT ao))):Inv X pins σ (upd H d (.dT ao)) s:=by
  refine⟨I.ok,I.os,I.bare,⟨I.base.keep,I.base.slot,fun b u e n hx=>?_,I.base.there,fun b xs e=>?_,fun b u xs e=>?_,fun b ps e=>?_⟩,I.loc,I.cell,?_,fun x c e=>?_,fun p hp=>?_,fun b u e=>?_,I.len⟩
  ·have q:=I.base.free b u e n hx;rw[ai (fun z=>by rw[z,h] at q;cases q)];exact q
  ·have q:=I.base.oE b xs e;rw[ai (mr q h (fun z=>nomatch z))];exact q
  ·rw[ai (fun z=>hz u xs (by rw[←z];exact e))];exact I.base.oF b u xs e
  ·obtain⟨m,q⟩:=I.base.rA b ps e;exact⟨m,by rw[ai (mr q h (fun z=>nomatch z))];exact q⟩
  ·have q:=I.free;rw[ai (fun z=>by rw[z,h] at q;cases q)];exact q
  ·have q:=I.fI x c e;rw[ai (fun z=>by rw[z,h] at q;cases q)];exact q
  ·obtain⟨e,n,rr⟩:=I.pin p hp;exact⟨e,by rw[ai (fun z=>by rw[z,h] at n;cases n)];exact n,rr⟩
  · have ho:∀c,H c=some (.own b)→upd H d (.dT ao) c=some (.own b):=fun c q=>by
      rw[ai (mr q h (fun z=>nomatch z))];exact q
    have ht:∀c ys,H c=some (.tup ys)→upd H d (.dT ao) c=some (.tup ys):=fun c ys q=>by rw[ai (mr q h (fun z=>nomatch z))];exact q
    by_cases hb:b=d
    ·subst hb;rw[ay] at e;cases e;exact(I.bV b _ h).2.jY (fun _ _ _ q=>q) ho ht
    ·rw[ai hb] at e;exact(I.bV b u e).jY (fun _ _ _ q=>q) ho ht
theorem sg{t:TE}(h:PE X e t):PE X e (fun σ H Q=>∃d ao,H d=some (.dT ao)∧∀o,t σ (upd H d (.gM o (.dT ao))) fun x H'=>H' d=some (.gM o (.dT ao))∧Q x (upd H' d (.dT ao))):=fun pins s σ H Q I ⟨d,ao,hd,k⟩=>by
  obtain⟨o,_,I2⟩:=I.freeze hd;have hz:∀o u,X.H₀ d≠some (.gM o u):=fun o u e=>by have:=I.base.oF d o u e;rw[hd] at this;cases this
  exact cN (h pins s σ _ _ I2 (k o)) fun v s1 ⟨x,H1,I1,r1,h1,q1⟩=>⟨x,_,I1.YB hz h1,r1,q1⟩
end
end L2
namespace DL
open PySem PySem.Spec L2
open PyProof.Rows hiding St pairAt
section
variable {K:PySem.W.Frag} {F H:Hp} {p q C:Addr} {ws:fc} {ao yT:lY}
theorem Hh{E:XK}{wv R3:List (List Key×V)}(b:Base F H)(HP:p≠q)(hF:F p=none)(hH:H p=some (.dT wv))(He:F q=none)(Hf:H q=some (.dT R3))(hb:iu K F v C ws p)(hd:bW K F ao wv)(hd2:bW K F yT R3)(ha:bz K F ds vs):Rel K (zX F (cR (cR H p) q) E) F H ((v::.ref q::vs).map some) ((.bx p C ws ao::.od q yT::gh ds).map some):=by
  have b1:=di b hF;have hq1:cR H p q=some (.dT R3):=by rw[cG (cT HP)];exact Hf
  have g1:aI F (cR (cR H p) q) F (cR H p):=by have:=aI.own (di b1 He) bR (.dT R3) (b.sU _ _ Hf) rfl;rw[t4 hq1] at this;exact this
  have g2:aI F (cR H p) F H:=by have:=aI.own b1 bR (.dT wv) (b.sU _ _ hH) rfl;rw[t4 hH] at this;exact this
  have Rw:cR (cR H p) q p=none:=by rw[cG HP];exact bR
  refine⟨g1.trans g2,by simp[gh,aK ha],fun j s e=>?_,fun j k sj sk vj vk r Eu ej ek oj ok hj hk h1 h2=>?_⟩
  · match j,e with
    |0,e=>cases e;exact⟨v,rfl,(bQ (sl:=.bx _ _ _ _) rfl).mpr ⟨p,_,⟨rfl,hb⟩,Rw,hF,hH,wv,rfl,hd⟩⟩
    |1,e=>cases e;exact⟨.ref q,rfl,(bQ (sl:=.od _ _) rfl).mpr ⟨q,_,⟨rfl,rfl⟩,bR,He,Hf,R3,rfl,hd2⟩⟩
    |j+2,e=>obtain⟨_,w,h1,h2⟩:=fO (E:=E) (H:=H) (H₀:=cR (cR H p) q) ha j s (by simpa using e);exact⟨w,by simpa using h1,h2⟩
  · have shr:∀(i:Nat) s,((.bx p C ws ao::.od q yT::gh ds).map some)[i+2]?=some (some s)→s.own=true→False:=fun i s e o=>by
      obtain⟨o',_⟩:=fO (E:=E) (H:=H) (H₀:=cR (cR H p) q) ha i s (by simpa using e);rw[o'] at o;cases o
    match j,k,ej,ek with
    |0,0,_,_=>exact Eu rfl
    |1,1,_,_=>exact Eu rfl
    |0,1,ej,ek=>cases ej;cases ek;exact HP (h1.1.symm.trans h2.1)
    |1,0,ej,ek=>cases ej;cases ek;exact HP (h2.1.symm.trans h1.1)
    |j+2,_,ej,_=>exact shr j sj ej oj
    |0,k+2,_,ek=>exact shr k sk ek ok
    |1,k+2,_,ek=>exact shr k sk ek ok
end
theorem A6{K:PySem.W.Frag}{base:Heap}{st:Stmt}{f:Addr}{dV kV doc pm dk ct oc:Value}{ps:dB}{own:List Nat}{g:SF}(lk:K.lookup f=some ⟨oc,od,.func (fnOf x qual (bM st) (bA st) (aj st) dV kV doc pm an dk ct),xM⟩)(dU:codeIn K dk qual=true)(S:bq N ps (aj st))(hb:∀(A:Around) (outer:List Env) (s:Shared) (H:Hp) (E:XK) (F₀ H₀:Hp),cW k (A.deeper (envOfC qual (aj st) s.heap.objs.size f dk))→Jr (wm (CY P w) P w K mg base N qual (aj st) f dk A outer s H E) (zX F₀ H₀ E) (bA st) g):cE P w K mg base (CY P w) (k+1) f (fnOf x qual (bM st) (bA st) (aj st) dV kV doc pm an dk ct) ps (spS K ps.length (BI N.length own g)):=by
  refine Iw lk dU S (fun vs H Q E h=>?_) (fun A outer s H vs Q E hr h=>?_)
  ·obtain⟨F,H₀,vg,r,hl,_⟩:=h;exact hl
  · obtain⟨F,H₀,vg,r,hl,rl,e,q⟩:=h;refine⟨_,hb A outer s H E F H₀ hr,?_⟩;have hlen:vs.length=vg.length:=by have:=rl.len;simpa using this
    have Yw:Rel K (zX F H₀ E) F H (L2.start N vs) (kb N.length vg):=by unfold L2.start kb;rw[←hlen];exact Fp _ rl
    unfold BI at e;cases o:g (kb N.length vg) with
    |none=>rw[o] at e;cases e
    |some o' =>
     rw[o] at e;refine⟨_,F,o',Yw,o,?_⟩;cases o' with
     |rt r'=>cases e;cases r<;>exact q
     |nx η'=>obtain⟨l,e1,rfl⟩:=iD.mp e;exact fun σ' H' F' r' _=>q .non H' F' r'.mem (bI.mpr rfl) (qC r' e1)
     |bk _=>cases e
     |ct _=>cases e
section
variable {X:Cx} {z:Zc}
theorem N3{y:Str}(hg:Gl X x)(hm:∃t,X.mg x=some (.str y t))(hd:(x==("__debug__":Str))=false:=by decide):DE X z (.Name x px) (eC (.str y)):=by obtain⟨t,hm⟩:=hm;refine PE.weak (L9 (v:=.str y) hg hm ⟨t,rfl⟩ hd) fun σ H Q ⟨η,F,d,r,e,k⟩=>?_;cases e;exact k _ H F (aI.refl r.base) (aR.mpr rfl)
end
structure Hi (P:Program) (w:World) (K:PySem.W.Frag) (mg:Str→fQ) (base:Heap) (k:Nat) (f:Addr) (ps:dB) (sp:Sp):Prop where
  ex:∃fd,cE P w K mg base (CY P w) k f fd ps sp∧Binds K fd ps []∧(∃t,Binds K fd ps [.int 1 t])∧keepIn K (.ref f)=true
theorem R9:bootBuiltins "all"=some (.builtin "all"):=PyProof.Rows.boot_all
section
variable {X:Cx} {z:Zc} {pos pos' px apos:Pos} {C0 f:Addr} {n N:Nat} {ps:dB} {Fn:List Slot→e9} {x m:Str} {e:Expr} {es:List Expr} {ms:List Bool} {fs:LF}
theorem A7(i:Nat)(own:List Nat)(cl:vX X.K C0)(hm:Meth X.K C0 m f)(C:Hi X.prog X.w X.K X.mg X.base n f ps (spS X.K N Fn))(hr:cW n X.A)(ha:DM X z (e::es) ms fs)(nZ:ms.all id=true:=by rfl)(hn:N=1+(ms.length+0):=by rfl)(hN:X.N[i]?=some x:=by rfl)(hv:pL X.env.scope x:=by first|exact Or.inl rfl|exact Or.inr (Or.inl rfl)|exact Or.inr (Or.inr rfl))(oM:(m==("words":Str))=false:=by decide)(sS:(m==("lying":Str))=false:=by decide)(iG:(x==("__debug__":Str))=false:=by decide)(dU:(x==("__classdict__":Str))=false:=by decide)(xS:starEach (e::es) X.env=(false,eval e X.env)::starEach es X.env:=by rfl)(m7:(backTo pos (starEach es X.env)).any (·.1)=false:=by rfl)(ht:eval (.Call (.Attribute (.Name x px) m apos) (e::es) [] pos) X.env=(do
      let ov ←eval (.Name x px) X.env
      standAt apos.atName
      let (f,first) ←holding [ov] (getMethod ov m pl)
      callWith pos f first (backTo pos (starEach (e::es) X.env)) (backToKw pos (keywordEach [] X.env))):=by rfl):DS X z (.Return (some (.Call (.Attribute (.Name x px) m apos) (e::es) [] pos)) pos') (lP C0 i own fs [] Fn):=by
  obtain⟨fd,G,b,_,kp⟩:=C.ex;exact Fs (pl:=pl) i own cl hm G hr b .nil (fun F=>aP.mpr rfl) nZ hn ha hN hv oM sS iG dU xS m7 ht
theorem A8(i:Nat)(own:List Nat)(cl:vX X.K C0)(hm:Meth X.K C0 m f)(C:Hi X.prog X.w X.K X.mg X.base n f ps (spS X.K N Fn))(hr:cW n X.A)(ha:DM X z (e::es) ms fs)(nZ:ms.all id=true:=by rfl)(hn:N=1+(ms.length+1):=by rfl)(hN:X.N[i]?=some x:=by rfl)(hv:pL X.env.scope x:=by first|exact Or.inl rfl|exact Or.inr (Or.inl rfl)|exact Or.inr (Or.inr rfl))(oM:(m==("words":Str))=false:=by decide)(sS:(m==("lying":Str))=false:=by decide)(iG:(x==("__debug__":Str))=false:=by decide)(dU:(x==("__classdict__":Str))=false:=by decide)(xS:starEach (e::es) X.env=(false,eval e X.env)::starEach es X.env:=by rfl)(m7:(backTo pos (starEach es X.env)).any (·.1)=false:=by rfl)(ht:eval (.Call (.Attribute (.Name x px) m apos) (e::es) [] pos) X.env=(do
      let ov ←eval (.Name x px) X.env
      standAt apos.atName
      let (f,first) ←holding [ov] (getMethod ov m pl)
      callWith pos f first (backTo pos (starEach (e::es) X.env)) (backToKw pos (keywordEach [] X.env))):=by rfl):DS X z (.Return (some (.Call (.Attribute (.Name x px) m apos) (e::es) [] pos)) pos') (lP C0 i own fs [.int 1] Fn):=by
  obtain⟨fd,G,_,⟨t,b⟩,kp⟩:=C.ex;exact Fs (pl:=pl) (dvs:=[.int 1]) i own cl hm G hr b (.cons ⟨t,rfl⟩ .nil) (fun F=>iq (aD.mpr rfl)) nZ hn ha hN hv oM sS iG dU xS m7 ht
end
theorem PE.Vj{f:EF}(h:∀z,DE X z e f):PE X e (fun σ H Q=>∃z,vE X.K z f σ H Q):=fun pins s σ H Q I ⟨z,q⟩=>h z pins s σ H Q I q
theorem PE.YC{f:LF}(h:∀z,DO X z e f):PE X e (fun σ H Q=>∃z,vO X.K z f σ H Q):=fun pins s σ H Q I ⟨z,q⟩=>h z pins s σ H Q I q
theorem PI.rJ{m:Bool}{f:LF}(h:∀z,DI X z tg e m f):PI X tg e (fun σ H R=>∃z,vI X.K z m f σ H R):=fun pins s σ H R I ⟨z,q⟩=>h z pins s σ H R I q
def iU(K:PySem.W.Frag)(F H₀:Hp):aY→St→Prop
  |[],[]=>True
  |none::η,_::σ=>iU K F H₀ η σ
  |some (.sh d)::η,some v::σ=>Den K F d v∧iU K F H₀ η σ
  |some (.br d)::η,some v::σ=>Den K H₀ d v∧iU K F H₀ η σ
  |_,_=>False
section
variable {K:PySem.W.Frag} {z:Zc} {F H F' H':Hp} {σ:St} {η:aY}
theorem iU.len:∀{η:aY} {σ:St},iU K F H η σ→σ.length=η.length
  |[],[],_=>rfl
  |none::η,v::σ,h=>by
   have h':iU K F H η σ:=by cases v<;>exact h
   rw[eW,eW,h'.len]
  |some (.sh d)::η,some v::σ,h=>by rw[eW,eW,iU.len (show iU K F H η σ from h.2)]
  |some (.br d)::η,some v::σ,h=>by rw[eW,eW,iU.len (show iU K F H η σ from h.2)]
  |[],_::_,h=>h.elim
theorem iU.at:∀{η:aY} {σ:St},iU K F H η σ→∀(i:Nat) sl,η[i]?=some (some sl)→sl.own=false∧∃v,σ[i]?=some (some v)∧((∃d,sl=.sh d∧Den K F d v)∨(∃d,sl=.br d∧Den K H d v))
  |[],_,_,i,sl,e=>by simp at e
  |none::η,v::σ,h,i,sl,e=>by
   have h':iU K F H η σ:=by cases v<;>exact h
   cases i with
   |zero=>cases e
   |succ i=>exact h'.at i sl e
  |some (.sh d)::η,some v::σ,h,i,sl,e=>by
   cases i with
   |zero=>cases e;exact⟨rfl,v,rfl,.inl ⟨d,rfl,h.1⟩⟩
   |succ i=>exact iU.at (show iU K F H η σ from h.2) i sl e
  |some (.br d)::η,some v::σ,h,i,sl,e=>by
   cases i with
   |zero=>cases e;exact⟨rfl,v,rfl,.inr ⟨d,rfl,h.1⟩⟩
   |succ i=>exact iU.at (show iU K F H η σ from h.2) i sl e
theorem iU.rel(h:iU K F z.H₀ η σ)(g:aI z.F₀ z.H₀ F H):Rel K z F H σ η where
  mem:=g
  len:=h.len
  at_:=fun i sl e=>by
    obtain⟨_,v,h1,h2⟩:=h.at i sl e;rcases h2 with⟨d,rfl,h2⟩|⟨d,rfl,h2⟩
    ·exact⟨v,h1,h2⟩
    ·exact⟨v,h1,h2⟩
  apart:=fun i j si sj vi vj p _ ei _ oi=>by obtain⟨o,_⟩:=h.at i si ei;rw[o] at oi;cases oi
def Ez:Addr→Hp→Prop:=fun _ _=>False
theorem A9{f:EF}{d:D}{Q:VK}(b:Base F H)(h:iU K F H η σ)(e:f η=some d)(k:∀v H' F',aI F H F' H'→Den K F' d v→Q v H'):∃z,vE K z f σ H Q :=
  ⟨⟨F,H,Ez⟩,η,F,d,iU.rel (z:=⟨F,H,Ez⟩) h (aI.refl b),e,k⟩
theorem KC{f:LF}{Q:VK}(b:Base F H)(h:iU K F H η σ)(e:f η=some ds)(k:∀p vs H' F',aI F H F' H'→H p=none→F' p=none→H' p=some (.lst vs)→bz K F' ds vs→Q (.ref p) H'):∃z,vO K z f σ H Q :=
  ⟨⟨F,H,Ez⟩,η,F,ds,iU.rel (z:=⟨F,H,Ez⟩) h (aI.refl b),e,k⟩
def gK(K:PySem.W.Frag)(F H:Hp)(p:Addr)(ao:lY):Prop:=F p=none∧∃w,H p=some (.dT w)∧bW K F ao w
variable {p q C:Addr} {ao yT:lY} {ws ds:fc} {vs:List V}
theorem gK.grow(o:gK K F H p ao)(g:aI F H F' H'):gK K F' H' p ao:=by obtain⟨h1,w,h2,h3⟩:=o;exact⟨ja (K:=K) g h1 h2 rfl,w,g.ent _ _ h2,h3.mono g.cz⟩
theorem gK.cR(o:gK K F H p ao)(h:p≠q):gK K F (cR H q) p ao:=by obtain⟨h1,w,h2,h3⟩:=o;exact⟨h1,w,by rw[cG h];exact h2,h3⟩
theorem gK.put(o:gK K F H p ao)(h:p≠q)(u:HO):gK K F (upd H q u) p ao:=by obtain⟨h1,w,h2,h3⟩:=o;exact⟨h1,w,by rw[ai h];exact h2,h3⟩
theorem aI.cR{F0 H0:Hp}(g:aI F0 H0 F H)(h0:H0 p=none)(hF:F p=none):aI F0 H0 F (cR H p) where
  base:=di g.base hF
  cz:=g.cz
  ent:=fun a o h=>by rw[cG (aQ h h0)];exact g.ent a o h
  new:=g.new
theorem kJ(b:Base F H)(hF:F p=none)(hH:H p=some o)(ht:BE o=false):aI F (DL.cR H p) F H:=by have:=aI.own (di b hF) bR o (b.sU _ _ hH) ht;rw[t4 hH] at this;exact this
theorem vm{u:HO}(b:Base F H)(hF:F p=none)(hH:H p=some o)(ht:BE o=false)(hl:nX u)(hu:BE u=false):Base F (upd H p u) :=
  ((kJ b hF hH ht).write bR hF hl hu).base
theorem KD{Fn:List Slot→e9}{k1 k2:lY}{Q:VK}{E:XK}(b:Base F H)(HP:p≠q)(op:gK K F H p ao)(oq:gK K F H q yT)(hb:iu K F v C ws p)(hd:bz K F ds vs)(hn:2+ds.length=n)(e:Fn (.bx p C ws ao::.od q yT::gh ds)=some (.rw .non [(p,k1),(q,k2)]))(k:∀H' F',aI F (DL.cR (DL.cR H p) q) F' H'→gK K F' H' p k1→gK K F' H' q k2→Q .non H'):spS K n Fn (v::.ref q::vs) H Q E:=by
  obtain⟨hF,wv,hH,dv⟩:=op;obtain⟨He,R3,Hf,WD⟩:=oq;refine⟨F,DL.cR (DL.cR H p) q,_,_,?_,Hh b HP hF hH He Hf hb dv WD hd,e,?_⟩
  ·rw[←hn,aK hd,eW,eW];omega
  ·intro v' H' F' g hv hl;rw[bI.mp hv];obtain⟨_,a1,a2⟩:=hl (p,k1) (by simp);obtain⟨_,b1,b2⟩:=hl (q,k2) (by simp);exact k H' F' g ⟨a1,a2⟩ ⟨b1,b2⟩
theorem KG{o1 o2:HO}:upd (upd (DL.cR (DL.cR H p) q) p o1) q o2=upd (upd H p o1) q o2:=by
  funext b;unfold upd DL.cR;by_cases e:b=q
  ·simp[e]
  · by_cases e2:b=p
    ·simp[e,e2]
    ·simp[e,e2]
theorem KJ{Fn:List Slot→e9}{t:Bool}{Q:VK}{E:XK}{w1 w2:List (List Key×V)}(b:Base F H)(HP:p≠q)(hF:F p=none)(hH:H p=some (.dT w1))(dv:bW K F ao w1)(He:F q=none)(Hf:H q=some (.dT w2))(WD:bW K F yT w2)(hb:iu K F v C ws p)(hd:bz K F ds vs)(hn:2+ds.length=n)(e:Fn (.bb C ws ao::.bd yT::gh ds)=some (.sh (.bl t)))(k:∀H' F',aI F (DL.cR (DL.cR H p) q) F' H'→gK K F' H' p ao→gK K F' H' q yT→Q (.bl t) H')(o1 o2:Obj):spS K n Fn (v::.ref q::vs) (upd (upd H p (.gM o1 (.dT w1))) q (.gM o2 (.dT w2))) (fun x H'=>H' q=some (.gM o2 (.dT w2))∧(upd H' q (.dT w2)) p=some (.gM o1 (.dT w1))∧Q x (upd (upd H' q (.dT w2)) p (.dT w1))) E:=by
  have oM:nX (.dT w1):=b.sU _ _ hH;have sS:nX (.dT w2):=b.sU _ _ Hf;have Rw:DL.cR (DL.cR H p) q p=none:=by rw[cG HP];exact bR
  have gA:aI F (DL.cR (DL.cR H p) q) F (upd (DL.cR (DL.cR H p) q) p (.gM o1 (.dT w1))):=aI.own (di (di b hF) He) Rw _ oM rfl;have gB:=aI.own gA.base (p:=q) (show upd (DL.cR (DL.cR H p) q) p (.gM o1 (.dT w1)) q=none by rw[ai (cT HP)];exact bR) (.gM o2 (.dT w2)) sS rfl;have g2:=gA.trans gB;rw[KG] at g2;have hP:(upd (upd H p (.gM o1 (.dT w1))) q (.gM o2 (.dT w2))) p=some (.gM o1 (.dT w1)):=by rw[ai HP,ay]
  have hQ:(upd (upd H p (.gM o1 (.dT w1))) q (.gM o2 (.dT w2))) q=some (.gM o2 (.dT w2)):=ay;generalize upd (upd H p (.gM o1 (.dT w1))) q (.gM o2 (.dT w2))=H2 at g2 hP hQ;refine⟨F,H2,_,_,?_,⟨aI.refl g2.base,by simp[gh,aK hd],fun j s ej=>?_,fun j k' sj sk vj vk r Eu ej ek oj ok hj hk h1 h2=>?_⟩,e,?_⟩
  ·rw[←hn,aK hd,eW,eW];omega
  · match j,ej with
    |0,ej=>cases ej;exact⟨v,rfl,p,o1,w1,hb.mono g2.base.sub,hP,dv.mono g2.base.sub⟩
    |1,ej=>cases ej;exact⟨.ref q,rfl,q,o2,w2,rfl,hQ,WD.mono g2.base.sub⟩
    |j+2,ej=>obtain⟨_,w,h1,h2⟩:=fO (E:=E) (H:=H2) (H₀:=H2) hd j s (by simpa using ej);exact⟨w,by simpa using h1,h2⟩
  · match j,ej with
    |0,ej=>cases ej;cases oj
    |1,ej=>cases ej;cases oj
    |j+2,ej=>obtain⟨o',_⟩:=fO (E:=E) (H:=H2) (H₀:=H2) hd j sj (by simpa using ej);rw[o'] at oj;cases oj
  ·intro v' H' F' g hv;rw[bu.mp hv];have a1:=g.ent _ _ hP;have a2:=g.ent _ _ hQ;have f1:F' p=none:=ja (K:=K) g hF hP rfl;have f2:F' q=none:=ja (K:=K) g He hQ rfl;have g3:=((g2.trans g).write (p:=q) (o:=.dT w2) bR f2 sS rfl).write (p:=p) (o:=.dT w1) Rw f1 oM rfl;refine⟨a2,by rw[ai HP];exact a1,k _ F' g3 ⟨f1,w1,ay,dv.mono g.cz⟩ ⟨f2,w2,by rw[ai (cT HP),ay],WD.mono g.cz⟩⟩
end
end DL
namespace sq
open PySem L2 DL NS
def top(i:Nat):Stmt:=PySem.Challenge.pw_fairbench_k52_whole_box.main.body.getD i (.Pass ⟨0,0,0,0⟩)
abbrev lA:Stmt:=top 10
abbrev vn:Stmt:=top 11
abbrev iK:Stmt:=top 12
abbrev iL:Stmt:=top 13
abbrev gi:Stmt:=top 14
abbrev hW:Stmt:=top 15
abbrev jt:Stmt:=top 20
abbrev mQ:Stmt:=top 21
abbrev lB:Stmt:=top 22
abbrev ju:Stmt:=top 23
abbrev sr:Stmt:=top 25
abbrev yU:Stmt:=top 26
abbrev Dn:Stmt:=top 27
abbrev Dp:Stmt:=top 28
abbrev yV:Stmt:=top 29
abbrev yW:Stmt:=top 30
abbrev s_same:Stmt:=top 31
abbrev vo:Stmt:=top 32
abbrev yX:Stmt:=top 33
abbrev Dq:Stmt:=top 34
abbrev yZ:Stmt:=top 36
abbrev y0:Stmt:=top 37
abbrev iV:Stmt:=top 38
abbrev ke:Stmt:=inClass (top 19) 3
abbrev kf:Stmt:=inClass (top 19) 4
abbrev aV:Stmt:=inClass (top 19) 1
abbrev aS:Stmt:=inClass (top 19) 2
structure vp where
  iW:Addr
  qD:Addr
  fe:Addr
  fh:Addr
  dX:Addr
  eJ:Addr
  gj:Addr
  jS:Addr
  eK:Addr
  dz:Addr
  hX:Addr
  t7:Addr
  y4:Addr
  y7:Addr
  t8:Addr
  t9:Addr
  jv:Addr
  qE:Addr
  ua:Addr
  y8:Addr
  nD:Addr
  ub:Addr
  Fv:Addr
  kg:Addr
  oh:Addr
  mR:Addr
  lC:Addr
  mS:Addr
  aG:Addr
structure Vk (a:vp):Prop where
structure Txt (K:PySem.W.Frag) (mg:Str→fQ) (a:vp):Prop where
  iW:mg "heaps_of"=some (.ref a.iW)
  qD:mg "rank"=some (.ref a.qD)
  fe:mg "check_count"=some (.ref a.fe)
  fh:mg "check_names"=some (.ref a.fh)
  dX:mg "check_ballots"=some (.ref a.dX)
  eJ:mg "put_together"=some (.ref a.eJ)
  gj:mg "check_roll"=some (.ref a.gj)
  jS:mg "is_word"=some (.ref a.jS)
  eK:mg "names_in"=some (.ref a.eK)
  dz:mg "check_many"=some (.ref a.dz)
  hX:mg "_law_cell_at"=some (.ref a.hX)
  t7:mg "_law_mixed"=some (.ref a.t7)
  y4:mg "_law_base"=some (.ref a.y4)
  y7:mg "_law_word"=some (.ref a.y7)
  t8:mg "_law_words"=some (.ref a.t8)
  t9:mg "_law_whole"=some (.ref a.t9)
  jv:mg "_law_same"=some (.ref a.jv)
  qE:mg "_law_before"=some (.ref a.qE)
  ua:mg "_law_heaps"=some (.ref a.ua)
  y8:mg "_law_like"=some (.ref a.y8)
  nD:mg "_law_right"=some (.ref a.nD)
  ub:mg "_law_moved"=some (.ref a.ub)
  Fv:mg "law"=some (.ref a.Fv)
  aG:mg "Box"=some (.ref a.aG)
  dG:vX K a.aG
  su:Mk K a.aG a.mS
  jw:iF K a.aG "lying"
  qF:iF K a.aG "words"
  qG:Meth K a.aG "count" a.kg
  qH:Meth K a.aG "heaps" a.oh
  vq:Meth K a.aG "put" a.mR
  sX:Meth K a.aG "take" a.lC
  qI:∃t,mg "MOST_NAMES"=some (.int 6 t)
  y9:∃t,mg "MOST_SIGNS"=some (.int 12 t)
  Hj:∃t,mg "LETTERS"=some (.str "abcdefghijklmnopqrstuvwxyz" t)
  Vl:mg "all"=none
  vt:mg "bool"=none
  Fw:mg "int"=none
  bf:mg "isinstance"=none
  fP:mg "len"=none
  mU:mg "list"=none
  Vm:mg "min"=none
  lD:mg "range"=none
  KL:mg "set"=none
  vw:mg "sorted"=none
  KN:mg "str"=none
  KP:mg "sum"=none
  lE:mg "tuple"=none
  Vn:mg "zip"=none
section
variable {P:Program} {w:World} {K:PySem.W.Frag} {mg:Str→fQ} {base:Heap} {f:Addr} {fd:FuncData} {a:vp}
theorem YD:(["names","together"]:dB).Nodup:=by decide +kernel
theorem Vo:(["names","many"]:dB).Nodup:=by decide +kernel
theorem YF:(["sign"]:dB).Nodup:=by decide +kernel
theorem YG:(["_law_k","_law_names"]:dB).Nodup:=by decide +kernel
theorem YH:(["_law_k","_law_roll","_law_words_here"]:dB).Nodup:=by decide +kernel
theorem YJ:(["_law_number","_law_roll"]:dB).Nodup:=by decide +kernel
theorem Vp:(["names","many"]:dB).Nodup:=by decide +kernel
theorem fF:bq ["rows","names","many"] ["rows"] (aj gi):=⟨rfl,rfl,rfl,by decide +kernel,rfl,by decide +kernel,by decide +kernel⟩
def eS:SF:=(iO (bF (ae yl (aB 2) (eC (.int 0)))) uP bT)
def gn:SF:=(bj (mI (lU (eV 0)) (j8 2 (cf (aU true 1) (cf (aU true 2) j7))) eS) (iO (bF (ae dF (ix Cv (ag (eL (fM 2 [] (lU (eV 0)) (j8 2 (cf (aU true 0) (cf (aU true 1) j7))) jO (eV 1))) aN)) (eC (.int 0)))) uP bT))
def dY:fc→e9:=pF 3 [true] gn
theorem pf(F:lX K "check_ballots" "check_ballots" gi f fd)(T:Txt K mg a):cE P w K mg base mz 1 f fd ["rows"] (gJ K [true] dY) :=
  dy F fF rfl (fun dk A outer s H E z hr=>by
    have hu:=hr.units;exact(ah (gZ rfl (kY (bZ 0)) (oT rfl (dg (bN 1 fF.nd) (dg (bN 2 fF.nd) kZ))) (au (cv (mH (aA 2) (DE.bo ak)) (au ka) aZ))) (au (cv (jP hu (DE.bo (bK (Ak rfl) Jw rfl T.KP Cp (cC (DE.bo (DO.sh (nq rfl (tgs:=["names","many"]) (fi:=[]) (fJ.of rfl) (by decide) (kY (bZ 0)) (fun _ _ _ _=>(oT rfl (dg (bN 0 Vo) (dg (bN 1 Vo) kZ)))) (fun _ _ _ _=>qh) (fun _ _ _ _=>(bZ 1))))) aO))) (DE.bo ak)) (au ka) aZ))))
theorem sv:bq ["count"] ["count"] (aj iK):=⟨rfl,rfl,rfl,by decide +kernel,rfl,by decide +kernel,by decide +kernel⟩
def iM:SF:=(iO (iR (bF (ae yl (aB 0) (eC (.int 1)))) (bF (ae HK (aB 0) (eC (.int 6))))) uP bT)
def fj:fc→e9:=pF 1 [true] iM
theorem sA(F:lX K "check_count" "check_count" iK f fd)(T:Txt K mg a):cE P w K mg base mz 1 f fd ["count"] (gJ K [true] fj) :=
  dy F sv rfl (fun dk A outer s H E z hr=>by
    have hu:=hr.units;exact(au (cv (DW.t (nY (mH (aA 0) (DE.bo ak)) (mF (uH (aA 0) (DE.bo (yE rfl T.qI)))))) (au ka) aZ)))
theorem eM:bq ["count","rows","names","many","name"] ["count","rows"] (aj iL):=⟨rfl,rfl,rfl,by decide +kernel,rfl,by decide +kernel,by decide +kernel⟩
def gp:SF:=(iO (iR (bF (ae yl (aB 4) (eC (.int 0)))) (bF (ae X1 (aB 4) (aB 0)))) uP bT)
def jT:SF:=(mI (lU (eV 2)) (aU true 4) gp)
def tL:SF:=(mI (lU (eV 1)) (j8 2 (cf (aU true 2) (cf (aU true 3) j7))) jT)
def fu:fc→e9:=pF 5 [true,true] tL
theorem sC(F:lX K "check_names" "check_names" iL f fd)(T:Txt K mg a):cE P w K mg base mz 1 f fd ["count","rows"] (gJ K [true,true] fu) :=
  dy F eM rfl (fun dk A outer s H E z hr=>by
    have hu:=hr.units;exact(au (gZ rfl (kY (bZ 1)) (oT rfl (dg (bN 2 eM.nd) (dg (bN 3 eM.nd) kZ))) (au (gZ rfl (kY (bZ 2)) (bN 4 eM.nd) (au (cv (DW.t (nY (mH (aA 4) (DE.bo ak)) (mF (UW (aA 4) (aA 0))))) (au ka) aZ)))))))
theorem dj:bq ["rows","together","row","many","names"] ["rows"] (aj hW):=⟨rfl,rfl,rfl,by decide +kernel,rfl,by decide +kernel,by decide +kernel⟩
def dI:SF:=(iO (bF (ae HK (aB 3) (eC (.int 0)))) (bj (cy 4 (jo (eL (oZ (aB 2))))) (yt 1 (aB 4) (ae gd (yr 1 (aB 4) (eC (.int 0))) (aB 3)))) bT)
def hZ:SF:=(bj (CH 1) (bj (mI (lU (eV 0)) (j8 2 (cf (aU true 2) (cf (aU true 3) j7))) dI) (J2 1)))
def eN:fc→e9:=pF 5 [true] hZ
theorem qJ(F:lX K "put_together" "put_together" hW f fd)(T:Txt K mg a):cE P w K mg base mz 1 f fd ["rows"] (gJ K [true] eN) :=
  dy F dj rfl (fun dk A outer s H E z hr=>by
    have hu:=hr.units;exact(ah (JX (i:=1) dj.nd) (ah (gZ rfl (kY (bZ 0)) (oT rfl (dg (bN 2 dj.nd) (dg (bN 3 dj.nd) kZ))) (au (cv (uH (aA 3) (DE.bo ak)) (ah (bU (i:=4) dj.nd (qg rfl rfl T.lE (DO.sh (AJ rfl rfl T.vw rfl T.KL (aA 2))))) (au (JZ (nV hr) 1 (aA 4) (cY (DE.bo (JY (nV hr) 1 (aA 4) ak)) (aA 3))))) aZ))) (au (Nm 1)))))
theorem Hk:bq ["names"] ["names"] (aj vn):=⟨rfl,rfl,rfl,by decide +kernel,rfl,by decide +kernel,by decide +kernel⟩
def Ba:SF:=(et (oQ (ag (ix dS (ag (aB 0) aN)) (ag (eV 0) aN))))
def jx:fc→e9:=pF 1 [true] Ba
theorem Hl(F:lX K "rank" "rank" vn f fd)(T:Txt K mg a):cE P w K mg base mz 1 f fd ["names"] (gJ K [true] jx) :=
  dy F Hk rfl (fun dk A outer s H E z hr=>by
    have hu:=hr.units;exact(au (cF (uD (n:=2) (bw (bK bt eB rfl T.fP dw (cC (aA 0) aO)) (bw (bZ 0) aO))))))
theorem om:bq ["count","rows","together"] ["count","rows"] (aj lA):=⟨rfl,rfl,rfl,by decide +kernel,rfl,by decide +kernel,by decide +kernel⟩
def lF:SF:=(bj (lO (bD fj (ag (eV 0) aN))) (bj (lO (bD fu (ag (eV 0) (ag (eV 1) aN)))) (bj (lO (bD dY (ag (eV 1) aN))) (bj (Fc 2 eN (ag (eV 1) aN)) (uJ (fM 1 [2] (lU (eL (yD 2 jx))) (aU true 0) jO (oQ (ag (eV 0) (ag (Az 1 (aB 0)) aN)))))))))
def iX:fc→e9:=pF 3 [true,true] lF
theorem wJ(F:lX K "heaps_of" "heaps_of" lA f fd)(T:Txt K mg a)(qK:mE P w K mg base 1 a.dX ["rows"] (gJ K [true] dY))(tM:mE P w K mg base 1 a.fe ["count"] (gJ K [true] fj))(tN:mE P w K mg base 1 a.fh ["count","rows"] (gJ K [true,true] fu))(sD:mE P w K mg base 1 a.eJ ["rows"] (gJ K [true] eN))(KQ:mE P w K mg base 1 a.qD ["names"] (gJ K [true] jx)):cE P w K mg base mz 4 f fd ["count","rows"] (gJ K [true,true] iX) :=
  dy F om rfl (fun dk A outer s H E z hr=>by
    have hu:=hr.units;exact(ah (qu (cn tM (hr.mono (by decide)) rfl T.fe (bw (bZ 0) aO))) (ah (qu (cn tN (hr.mono (by decide)) rfl T.fh (bw (bZ 0) (bw (bZ 1) aO)))) (ah (qu (cn qK (hr.mono (by decide)) rfl T.dX (bw (bZ 1) aO))) (ah (Nn (i:=2) om.nd sD (hr.mono (by decide)) rfl T.eJ (bw (bZ 1) aO)) (au (ym (nq rfl (tgs:=["names"]) (fi:=[2]) (fJ.of rfl) (by decide) (kY (DO.sh (Kk 2 rfl (Nat.lt_of_le_of_lt (Nat.add_le_add_left (by decide:5≤64) _) hr.units) KQ (hr.mono (by decide)) rfl T.vw rfl T.qD))) (fun _ _ _ _=>(bN 0 YD)) (fun _ _ _ _=>qh) (fun _ _ _ _=>(uD (n:=2) (bw (bZ 0) (bw (Ng (nV hr) 1 (aA 0)) aO))))))))))))
theorem za:bq ["word"] ["word"] (aj mQ):=⟨rfl,rfl,rfl,by decide +kernel,rfl,by decide +kernel,by decide +kernel⟩
def mV:SF:=(bj (iO (iR (jm (bF (mJ "str" (aB 0)))) (iR (bF (ae yl (ix Ko (ag (aB 0) aN)) (eC (.int 1)))) (bF (ae HK (ix Ko (ag (aB 0) aN)) (eC (.int 12)))))) (et (eC (.bl false))) bT) (et (ix NK (ag (eL (fM 1 [] (yG (aB 0)) (aU true 0) jO (ae (RP false) (aB 0) (eC (.str "abcdefghijklmnopqrstuvwxyz"))))) aN))))
def jU:fc→e9:=pF 1 [true] mV
theorem zb(F:lX K "is_word" "is_word" mQ f fd)(T:Txt K mg a):cE P w K mg base mz 1 f fd ["word"] (gJ K [true] jU) :=
  dy F za rfl (fun dk A outer s H E z hr=>by
    have hu:=hr.units;exact(ah (cv (DW.t (nY (rV (fZ (sd rfl T.bf T.KN (aA 0)))) (nY (mH (DE.bo (bK pP Fj rfl T.fP dw (cC (aA 0) aO))) (DE.bo ak)) (mF (uH (DE.bo (bK pP Fj rfl T.fP dw (cC (aA 0) aO))) (DE.bo (yE rfl T.y9))))))) (au (cF sV)) aZ) (au (cF (bK (G8 rfl) RW rfl T.Vl R9 (cC (DE.bo (DO.sh (nq rfl (tgs:=["sign"]) (fi:=[]) (fJ.of rfl) (by decide) (RZ (aA 0)) (fun _ _ _ _=>(bN 0 YF)) (fun _ _ _ _=>qh) (fun _ _ _ _=>(RT (aA 0) (DE.bo (N3 rfl T.Hj))))))) aO))))))
theorem lQ:bq ["words","word"] ["words"] (aj jt):=⟨rfl,rfl,rfl,by decide +kernel,rfl,by decide +kernel,by decide +kernel⟩
def ia:SF:=(iO (jm (bF (bD jU (ag (eV 1) aN)))) uP bT)
def jy:SF:=(bj (iO (iR (bF (ae yl (ix dS (ag (aB 0) aN)) (eC (.int 1)))) (bF (ae HK (ix dS (ag (aB 0) aN)) (eC (.int 6))))) uP bT) (bj (mI (JA 0) (aU false 1) ia) (iO (bF (ae yl (yS (aB 0)) (ix dS (ag (aB 0) aN)))) uP bT)))
def gq:fc→e9:=pF 2 [false] jy
theorem tO(F:lX K "check_roll" "check_roll" jt f fd)(T:Txt K mg a)(Bb:mE P w K mg base 1 a.jS ["word"] (gJ K [true] jU)):cE P w K mg base mz 2 f fd ["words"] (gJ K [false] gq) :=
  dy F lQ rfl (fun dk A outer s H E z hr=>by
    have hu:=hr.units;exact(ah (cv (DW.t (nY (mH (DE.bo (bK bt eB rfl T.fP dw (cC (aA 0) aO))) (DE.bo ak)) (mF (uH (DE.bo (bK bt eB rfl T.fP dw (cC (aA 0) aO))) (DE.bo (yE rfl T.qI)))))) (au ka) aZ) (ah (gZ rfl (PJ 0) (bN 1 lQ.nd) (au (cv (rV (fZ (cn Bb (hr.mono (by decide)) rfl T.jS (bw (bZ 1) aO)))) (au ka) aZ))) (au (cv (mH (DE.bo (Kz rfl rfl T.fP rfl T.KL (aA 0))) (DE.bo (bK bt eB rfl T.fP dw (cC (aA 0) aO)))) (au ka) aZ)))))
theorem kh:bq ["words","text","names","word"] ["words","text"] (aj lB):=⟨rfl,rfl,rfl,by decide +kernel,rfl,by decide +kernel,by decide +kernel⟩
def jz:SF:=(bj (iO (bF (ae (inD true) (aB 3) (aB 0))) uP bT) (ie 2 (ae u6 (aB 0) (aB 3))))
def lG:SF:=(bj (n4 2 (uE aN)) (bj (iO (bF (ae lV (aB 1) (eC (.str "")))) (mI (lU (eL (u3 (aB 1) (eC (.str " "))))) (aU true 3) jz) bT) (et (jo (eL (oZ (aB 2)))))))
def eO:fc→e9:=pF 4 [false,true] lG
theorem wK(F:lX K "names_in" "names_in" lB f fd)(T:Txt K mg a):cE P w K mg base mz 1 f fd ["words","text"] (gJ K [false,true] eO) :=
  dy F kh rfl (fun dk A outer s H E z hr=>by
    have hu:=hr.units;exact(ah (qi (i:=2) kh.nd (oR (n:=0) aO)) (ah (cv (uN hu (aA 1) (DE.bo rT)) (au (gZ rfl (kY (DO.sh (Kn (aA 1) (DE.bo rT)))) (bN 3 kh.nd) (ah (cv (Rf (aA 3) (aA 0)) (au ka) aZ) (au (nr 2 (Kq (aA 0) (aA 3))))))) aZ) (au (cF (qg rfl rfl T.lE (DO.sh (AJ rfl rfl T.vw rfl T.KL (aA 2)))))))))
theorem tP:bq ["many"] ["many"] (aj ju):=⟨rfl,rfl,rfl,by decide +kernel,rfl,by decide +kernel,by decide +kernel⟩
def jA:SF:=(iO (iR (jm (bF (mJ "int" (aB 0)))) (iR (bF (mJ "bool" (aB 0))) (bF (ae yl (aB 0) (eC (.int 1)))))) uP bT)
def dA:fc→e9:=pF 1 [true] jA
theorem tQ(F:lX K "check_many" "check_many" ju f fd)(T:Txt K mg a):cE P w K mg base mz 1 f fd ["many"] (gJ K [true] dA) :=
  dy F tP rfl (fun dk A outer s H E z hr=>by
    have hu:=hr.units;exact(au (cv (DW.t (nY (rV (fZ (nu rfl T.bf T.Fw (aA 0)))) (nY (fZ (jq rfl T.bf T.vt (aA 0))) (mF (mH (aA 0) (DE.bo ak)))))) (au ka) aZ)))
theorem Dr:bq ["_law_script","_law_k"] ["_law_script","_law_k"] (aj sr):=⟨rfl,rfl,rfl,by decide +kernel,rfl,by decide +kernel,by decide +kernel⟩
def sE:SF:=(bj (iO (bF (ae yl (aB 1) (ix dS (ag (aB 0) aN)))) (et (ae iS (eV 0) (aB 1))) bT) (et (eC (.int 0))))
def cZ:fc→e9:=pF 2 [true,true] sE
theorem Ds(F:lX K "_law_cell_at" "_law_cell_at" sr f fd)(T:Txt K mg a):cE P w K mg base mz 1 f fd ["_law_script","_law_k"] (gJ K [true,true] cZ) :=
  dy F Dr rfl (fun dk A outer s H E z hr=>by
    have hu:=hr.units;exact(ah (cv (mH (aA 1) (DE.bo (bK bt eB rfl T.fP dw (cC (aA 0) aO)))) (au (cF (EJ (bZ 0) (aA 1)))) aZ) (au (cF ak))))
theorem iz:bq ["_law_cell","_law_many","_law_found","_law_number","_law_k"] ["_law_cell","_law_many"] (aj yU):=⟨rfl,rfl,rfl,by decide +kernel,rfl,by decide +kernel,by decide +kernel⟩
def nE:SF:=(bj (ie 2 (ae cM (aB 3) (eC (.int 5040)))) (cy 3 (ae Aq (aB 3) (eC (.int 5040)))))
def nF:SF:=(bj (cy 3 (ae cM (ae gd (ae gd (ae gd (ae wA (aB 3) (aB 3)) (ae wA (eC (.int 48271)) (aB 3))) (aB 4)) (eC (.int 1))) (eC (.int 2147483647)))) (ie 2 (eV 3)))
def qL:SF:=(bj (n4 2 (uE aN)) (bj (cy 3 (ae Aq (aB 0) (eC (.int 2)))) (bj (iO (bF (ae dF (ae cM (aB 0) (eC (.int 2))) (eC (.int 1)))) (bj (mI (dE (aB 1)) (aU true 4) nE) (xm 2)) bT) (bj (cy 3 (ae cM (ae gd (ae wA (ae cM (aB 3) (eC (.int 2147483647))) (eC (.int 16807))) (eC (.int 11))) (eC (.int 2147483647)))) (bj (mI (dE (aB 1)) (aU true 4) nF) (xm 2))))))
def qM:fc→e9:=pF 5 [true,true] qL
theorem KR(F:lX K "_law_mixed" "_law_mixed" yU f fd)(T:Txt K mg a):cE P w K mg base mz 1 f fd ["_law_cell","_law_many"] (gJ K [true,true] qM) :=
  dy F iz rfl (fun dk A outer s H E z hr=>by
    have hu:=hr.units;exact(ah (qi (i:=2) iz.nd (oR (n:=0) aO)) (ah (bU (i:=3) iz.nd (rZ (aA 0) (DE.bo ak))) (ah (cv (jP hu (DE.bo (cx (aA 0) (DE.bo ak))) (DE.bo ak)) (ah (gZ rfl (gY rfl T.lD (aA 1)) (bN 4 iz.nd) (ah (nr 2 (cx (aA 3) (DE.bo ak))) (au (bU (i:=3) iz.nd (rZ (aA 3) (DE.bo ak)))))) (au (tX 2))) aZ) (ah (bU (i:=3) iz.nd (cx (DE.bo (cY (DE.bo (oS (DE.bo (cx (aA 3) (DE.bo ak))) (DE.bo ak))) (DE.bo ak))) (DE.bo ak))) (ah (gZ rfl (gY rfl T.lD (aA 1)) (bN 4 iz.nd) (ah (bU (i:=3) iz.nd (cx (DE.bo (cY (DE.bo (cY (DE.bo (cY (DE.bo (oS (aA 3) (aA 3))) (DE.bo (oS (DE.bo ak) (aA 3))))) (aA 4))) (DE.bo ak))) (DE.bo ak))) (au (nr 2 (bZ 3))))) (au (tX 2))))))))
theorem jV:bq ["_law_cell","_law_size","_law_found","_law_rest","_law_k"] ["_law_cell","_law_size"] (aj Dn):=⟨rfl,rfl,rfl,by decide +kernel,rfl,by decide +kernel,by decide +kernel⟩
def iA:SF:=(bj (iO (bF (ae dF (ae cM (aB 0) (eC (.int 2))) (eC (.int 0)))) (cy 3 (ae cM (ae gd (ae gd (ae gd (ae wA (aB 3) (aB 3)) (ae wA (eC (.int 48271)) (aB 3))) (aB 4)) (eC (.int 1))) (eC (.int 2147483647)))) bT) (bj (cy 2 (ae AR (aB 2) (ae NB (eC (.str "abcdefghijklmnopqrstuvwxyz")) (ae cM (aB 3) (eC (.int 26)))))) (iO (bF (ae dF (ae cM (aB 0) (eC (.int 2))) (eC (.int 1)))) (cy 3 (ae Aq (aB 3) (eC (.int 26)))) bT)))
def Dt:SF:=(bj (cy 2 (eC (.str ""))) (bj (cy 3 (ae Aq (aB 0) (eC (.int 2)))) (bj (iO (bF (ae dF (ae cM (aB 0) (eC (.int 2))) (eC (.int 0)))) (cy 3 (ae cM (ae gd (ae wA (ae cM (aB 3) (eC (.int 2147483647))) (eC (.int 16807))) (eC (.int 11))) (eC (.int 2147483647)))) bT) (bj (mI (dE (aB 1)) (aU true 4) iA) (et (eV 2))))))
def vx:fc→e9:=pF 5 [true,true] Dt
theorem N4(F:lX K "_law_base" "_law_base" Dn f fd)(T:Txt K mg a):cE P w K mg base mz 1 f fd ["_law_cell","_law_size"] (gJ K [true,true] vx) :=
  dy F jV rfl (fun dk A outer s H E z hr=>by
    have hu:=hr.units;exact(ah (bU (i:=2) jV.nd rT) (ah (bU (i:=3) jV.nd (rZ (aA 0) (DE.bo ak))) (ah (cv (jP hu (DE.bo (cx (aA 0) (DE.bo ak))) (DE.bo ak)) (au (bU (i:=3) jV.nd (cx (DE.bo (cY (DE.bo (oS (DE.bo (cx (aA 3) (DE.bo ak))) (DE.bo ak))) (DE.bo ak))) (DE.bo ak)))) aZ) (ah (gZ rfl (gY rfl T.lD (aA 1)) (bN 4 jV.nd) (ah (cv (jP hu (DE.bo (cx (aA 0) (DE.bo ak))) (DE.bo ak)) (au (bU (i:=3) jV.nd (cx (DE.bo (cY (DE.bo (cY (DE.bo (cY (DE.bo (oS (aA 3) (aA 3))) (DE.bo (oS (DE.bo ak) (aA 3))))) (aA 4))) (DE.bo ak))) (DE.bo ak)))) aZ) (ah (bU (i:=2) jV.nd (yF (aA 2) (DE.bo (CZ (DE.bo rT) (DE.bo (cx (aA 3) (DE.bo ak))))))) (au (cv (jP hu (DE.bo (cx (aA 0) (DE.bo ak))) (DE.bo ak)) (au (bU (i:=3) jV.nd (rZ (aA 3) (DE.bo ak)))) aZ))))) (au (cF (bZ 2))))))))
theorem zc:bq ["_law_base_here","_law_place","_law_size","_law_k","_law_letters","_law_other"] ["_law_base_here","_law_place","_law_size","_law_k"] (aj Dp):=⟨rfl,rfl,rfl,by decide +kernel,rfl,by decide +kernel,by decide +kernel⟩
def Du:SF:=(bj (cy 4 (eC (.str "abcdefghijklmnopqrstuvwxyz"))) (bj (cy 5 (ae NB (aB 4) (ae cM (ae gd (ae findD (aB 4) (ae NB (aB 0) (aB 1))) (ae wA (eC (.int 3)) (aB 3))) (eC (.int 26))))) (et (ae AR (ae AR (Dc (aB 0) Ao (gN (aB 1))) (aB 5)) (Dc (aB 0) (gN (ae gd (aB 1) (eC (.int 1)))) (gN (aB 2)))))))
def zf:fc→e9:=pF 6 [true,true,true,true] Du
theorem N5(F:lX K "_law_word" "_law_word" Dp f fd)(T:Txt K mg a):cE P w K mg base mz 1 f fd ["_law_base_here","_law_place","_law_size","_law_k"] (gJ K [true,true,true,true] zf) :=
  dy F zc rfl (fun dk A outer s H E z hr=>by
    have hu:=hr.units;exact(ah (bU (i:=4) zc.nd rT) (ah (bU (i:=5) zc.nd (CZ (aA 4) (DE.bo (cx (DE.bo (cY (DE.bo (NC (aA 4) (DE.bo (CZ (aA 0) (aA 1))))) (DE.bo (oS (DE.bo ak) (aA 3))))) (DE.bo ak))))) (au (cF (yF (DE.bo (yF (DE.bo (Dd (aA 0) EK (jN (aA 1)))) (aA 5))) (DE.bo (Dd (aA 0) (jN (DE.bo (cY (aA 1) (DE.bo ak)))) (jN (aA 2))))))))))
theorem iB:bq ["_law_script","_law_at","_law_many","_law_cell","_law_size","_law_base_here","_law_words_here","_law_k","_law_word_here"] ["_law_script","_law_at","_law_many"] (aj yV):=⟨rfl,rfl,rfl,by decide +kernel,rfl,by decide +kernel,by decide +kernel⟩
def sF:SF:=(bj (cy 8 (bD zf (ag (eV 5) (ag (ae cM (ae Aq (aB 3) (eC (.int 48))) (aB 4)) (ag (eV 4) (ag (eV 7) aN)))))) (bj (iO (bF (ae dF (ae cM (ae Aq (aB 3) (eC (.int 12))) (eC (.int 4))) (eC (.int 1)))) (cy 8 (Dc (aB 5) Ao (gN (ae gd (aB 7) (eC (.int 1)))))) bT) (ie 6 (eV 8))))
def zg:SF:=(bj (cy 3 (bD cZ (ag (eV 0) (ag (eV 1) aN)))) (bj (cy 4 (ae gd (eC (.int 1)) (ae cM (aB 3) (eC (.int 12))))) (bj (cy 5 (bD vx (ag (bD cZ (ag (eV 0) (ag (ae gd (aB 1) (eC (.int 1))) aN))) (ag (eC (.int 12)) aN)))) (bj (n4 6 (uE aN)) (bj (mI (dE (aB 2)) (aU true 7) sF) (xm 6))))))
def uc:fc→e9:=pF 9 [true,true,true] zg
theorem KS(F:lX K "_law_words" "_law_words" yV f fd)(T:Txt K mg a)(Sb:mE P w K mg base 1 a.y4 ["_law_cell","_law_size"] (gJ K [true,true] vx))(nG:mE P w K mg base 1 a.hX ["_law_script","_law_k"] (gJ K [true,true] cZ))(Sd:mE P w K mg base 1 a.y7 ["_law_base_here","_law_place","_law_size","_law_k"] (gJ K [true,true,true,true] zf)):cE P w K mg base mz 2 f fd ["_law_script","_law_at","_law_many"] (gJ K [true,true,true] uc) :=
  dy F iB rfl (fun dk A outer s H E z hr=>by
    have hu:=hr.units;exact(ah (bU (i:=3) iB.nd (cn nG (hr.mono (by decide)) rfl T.hX (bw (bZ 0) (bw (bZ 1) aO)))) (ah (bU (i:=4) iB.nd (cY (DE.bo ak) (DE.bo (cx (aA 3) (DE.bo ak))))) (ah (bU (i:=5) iB.nd (cn Sb (hr.mono (by decide)) rfl T.y4 (bw (cn nG (hr.mono (by decide)) rfl T.hX (bw (bZ 0) (bw (cY (aA 1) (DE.bo ak)) aO))) (bw ak aO)))) (ah (qi (i:=6) iB.nd (oR (n:=0) aO)) (ah (gZ rfl (gY rfl T.lD (aA 2)) (bN 7 iB.nd) (ah (bU (i:=8) iB.nd (cn Sd (hr.mono (by decide)) rfl T.y7 (bw (bZ 5) (bw (cx (DE.bo (rZ (aA 3) (DE.bo ak))) (aA 4)) (bw (bZ 4) (bw (bZ 7) aO)))))) (ah (cv (jP hu (DE.bo (cx (DE.bo (rZ (aA 3) (DE.bo ak))) (DE.bo ak))) (DE.bo ak)) (au (bU (i:=8) iB.nd (Dd (aA 5) EK (jN (DE.bo (cY (aA 7) (DE.bo ak))))))) aZ) (au (nr 6 (bZ 8)))))) (au (tX 6))))))))
theorem KW:bq ["_law_found"] ["_law_found"] (aj yW):=⟨rfl,rfl,rfl,by decide +kernel,rfl,by decide +kernel,by decide +kernel⟩
def N6:SF:=(et (yk (mJ "int" (aB 0)) (Ju (mJ "bool" (aB 0)))))
def qN:fc→e9:=pF 1 [true] N6
theorem KY(F:lX K "_law_whole" "_law_whole" yW f fd)(T:Txt K mg a):cE P w K mg base mz 1 f fd ["_law_found"] (gJ K [true] qN) :=
  dy F KW rfl (fun dk A outer s H E z hr=>by
    have hu:=hr.units;exact(au (cF (rX (nu rfl T.bf T.Fw (aA 0)) (uA (Jv (jq rfl T.bf T.vt (aA 0))))))))
theorem Fz:bq ["_law_found","_law_due","_law_k"] ["_law_found","_law_due"] (aj s_same):=⟨rfl,rfl,rfl,by decide +kernel,rfl,by decide +kernel,by decide +kernel⟩
def vy(Fr:fc→e9):SF:=(iO (jm (bF (bD Fr (ag (ae iS (aB 0) (aB 2)) (ag (ae iS (aB 1) (aB 2)) aN))))) (et (eC (.bl false))) bT)
def g_same(Fr:fc→e9):SF:=(bj (iO (iR (bF (mJ "tuple" (aB 1))) (bF (mJ "list" (aB 1)))) (bj (iO (iR (bF (ae lV (mJ "tuple" (aB 0)) (mJ "tuple" (aB 1)))) (bF (ae lV (mJ "list" (aB 0)) (mJ "list" (aB 1))))) (et (eC (.bl false))) bT) (bj (iO (bF (ae lV (ix dS (ag (aB 0) aN)) (ix dS (ag (aB 1) aN)))) (et (eC (.bl false))) bT) (bj (mI (dE (ix dS (ag (aB 1) aN))) (aU true 2) (vy Fr)) (et (eC (.bl true)))))) bT) (bj (iO (bF (mJ "bool" (aB 1))) (et (yk (mJ "bool" (aB 0)) (ae dF (aB 0) (aB 1)))) bT) (bj (iO (bF (mJ "int" (aB 1))) (et (yk (mJ "int" (aB 0)) (yk (Ju (mJ "bool" (aB 0))) (ae dF (aB 0) (aB 1))))) bT) (bj (iO (bF (mJ "str" (aB 1))) (et (yk (mJ "str" (aB 0)) (ae dF (aB 0) (aB 1)))) bT) (et (yk (ae ER (aB 1) (eC .non)) (ae ER (aB 0) (eC .non))))))))
def dJ:Nat→fc→e9
  |0=>fun _=>none
  |n+1=>pF 3 [false,false] (g_same (dJ n))
theorem step_same{Fr:fc→e9}(F:lX K "_law_same" "_law_same" s_same f fd)(T:Txt K mg a)(Cr:mE P w K mg base k a.jv ["_law_found","_law_due"] (gJ K [false,false] Fr)):cE P w K mg base mz (k+1) f fd ["_law_found","_law_due"] (gJ K [false,false] (pF 3 [false,false] (g_same Fr))) :=
  dy F Fz rfl (fun dk A outer s H E z hr=>by
    have hu:=hr.units;exact(ah (cv (DW.t (nY (fZ (mK rfl T.bf T.lE (aA 1))) (mF (fZ (oV rfl T.bf T.mU (aA 1)))))) (ah (cv (DW.t (nY (uN hu (DE.bo (mK rfl T.bf T.lE (aA 0))) (DE.bo (mK rfl T.bf T.lE (aA 1)))) (mF (uN hu (DE.bo (oV rfl T.bf T.mU (aA 0))) (DE.bo (oV rfl T.bf T.mU (aA 1))))))) (au (cF sV)) aZ) (ah (cv (uN hu (DE.bo (bK bt eB rfl T.fP dw (cC (aA 0) aO))) (DE.bo (bK bt eB rfl T.fP dw (cC (aA 1) aO)))) (au (cF sV)) aZ) (ah (gZ rfl (gY rfl T.lD (DE.bo (bK bt eB rfl T.fP dw (cC (aA 1) aO)))) (bN 2 Fz.nd) (au (cv (rV (fZ (cn Cr hr rfl T.jv (cC (iN (aA 0) (aA 2)) (cC (iN (aA 1) (aA 2)) aO))))) (au (cF sV)) aZ))) (au (cF sV))))) aZ) (ah (cv (fZ (jq rfl T.bf T.vt (aA 1))) (au (cF (rX (jq rfl T.bf T.vt (aA 0)) (uA (JK hu (aA 0) (aA 1)))))) aZ) (ah (cv (fZ (nu rfl T.bf T.Fw (aA 1))) (au (cF (rX (nu rfl T.bf T.Fw (aA 0)) (rX (Jv (jq rfl T.bf T.vt (aA 0))) (uA (JK hu (aA 0) (aA 1))))))) aZ) (ah (cv (fZ (sd rfl T.bf T.KN (aA 1))) (au (cF (rX (sd rfl T.bf T.KN (aA 0)) (uA (JK hu (aA 0) (aA 1)))))) aZ) (au (cF (rX (Jx (aA 1) (DE.bo Js)) (uA (Jx (aA 0) (DE.bo Js)))))))))))
theorem Bc(F:lX K "_law_same" "_law_same" s_same a.jv fd)(T:Txt K mg a)(b:Binds K fd ["_law_found","_law_due"] [])(kp:keepIn K (.ref a.jv)=true):∀n,mE P w K mg base (1+n) a.jv ["_law_found","_law_due"] (gJ K [false,false] (dJ n))
  |0=>⟨fd,X6,b,kp⟩
  |n+1=>⟨fd,step_same F T  (Bc F T b kp  n),b,kp⟩
theorem sG:bq ["_law_one","_law_two","_law_left","_law_right_here"] ["_law_one","_law_two"] (aj vo):=⟨rfl,rfl,rfl,by decide +kernel,rfl,by decide +kernel,by decide +kernel⟩
def dM:SF:=(iO (bF (ae lV (aB 2) (aB 3))) (et (ae yl (aB 2) (aB 3))) bT)
def vz:SF:=(bj (iO (bF (ae lV (ix dS (ag (aB 0) aN)) (ix dS (ag (aB 1) aN)))) (et (ae yl (ix dS (ag (aB 0) aN)) (ix dS (ag (aB 1) aN)))) bT) (bj (mI (RJ (eV 0) (eV 1)) (j8 2 (cf (aU true 2) (cf (aU true 3) j7))) dM) (et (eC (.bl false)))))
def qO:fc→e9:=pF 4 [true,true] vz
theorem Hm(F:lX K "_law_before" "_law_before" vo f fd)(T:Txt K mg a):cE P w K mg base mz 1 f fd ["_law_one","_law_two"] (gJ K [true,true] qO) :=
  dy F sG rfl (fun dk A outer s H E z hr=>by
    have hu:=hr.units;exact(ah (cv (uN hu (DE.bo (bK bt eB rfl T.fP dw (cC (aA 0) aO))) (DE.bo (bK bt eB rfl T.fP dw (cC (aA 1) aO)))) (au (cF (PD (DE.bo (bK bt eB rfl T.fP dw (cC (aA 0) aO))) (DE.bo (bK bt eB rfl T.fP dw (cC (aA 1) aO)))))) aZ) (ah (gZ rfl (RK rfl T.Vn (bZ 0) (bZ 1)) (oT rfl (dg (bN 2 sG.nd) (dg (bN 3 sG.nd) kZ))) (au (cv (uN hu (aA 2) (aA 3)) (au (cF (PD (aA 2) (aA 3)))) aZ))) (au (cF sV)))))
theorem jB:bq ["_law_rows","_law_found","_law_names","_law_many","_law_like_here","_law_at"] ["_law_rows"] (aj yX):=⟨rfl,rfl,rfl,by decide +kernel,rfl,by decide +kernel,by decide +kernel⟩
def nH:SF:=(cy 5 (ae gd (aB 5) (eC (.int 1))))
def nI:TF:=(eZ (bF (ae yl (aB 5) (ix dS (ag (aB 1) aN)))) (bF (bD qO (ag (ae iS (eI (ae iS (aB 1) (aB 5))) (eC (.int 0))) (ag (eV 4) aN)))))
def nJ:SF:=(bj (cy 4 (jo (eL (fM 1 [2] (dE (eC (.int 6))) (aU true 0) (bF (ae (inD false) (aB 0) (aB 1))) (eV 0))))) (bj (cy 5 (eC (.int 0))) (bj (JC 100 nI nH) (iO (eZ (bF (ae HK (aB 3) (eC (.int 0)))) (eZ (bF (ae yl (aB 5) (ix dS (ag (aB 1) aN)))) (bF (ae dF (ae iS (ae iS (aB 1) (aB 5)) (eC (.int 0))) (aB 4))))) (Nh 1 (aB 5) (oQ (ag (eV 4) (ag (ae gd (ae iS (ae iS (aB 1) (aB 5)) (eC (.int 1))) (aB 3)) aN)))) (iO (bF (ae HK (aB 3) (eC (.int 0)))) (qx 1 (eV 5) (oQ (ag (eV 4) (ag (eV 3) aN)))) bT)))))
def zh:SF:=(bj (n4 1 (uE aN)) (bj (mI (JA 0) (j8 2 (cf (aU false 2) (cf (aU false 3) j7))) nJ) (xm 1)))
def ud:fc→e9:=pF 6 [false] zh
theorem KZ(F:lX K "_law_heaps" "_law_heaps" yX f fd)(T:Txt K mg a)(K0:mE P w K mg base 1 a.qE ["_law_one","_law_two"] (gJ K [true,true] qO)):cE P w K mg base mz 2 f fd ["_law_rows"] (gJ K [false] ud) :=
  dy F jB rfl (fun dk A outer s H E z hr=>by
    have hu:=hr.units;exact(ah (qi (i:=1) jB.nd (oR (n:=0) aO)) (ah (gZ rfl (PJ 0) (oT rfl (dg (bN 2 jB.nd) (dg (bN 3 jB.nd) kZ))) (ah (bU (i:=4) jB.nd (qg rfl rfl T.lE (DO.sh (nq rfl (tgs:=["_law_k"]) (fi:=[2]) (fJ.of rfl) (by decide) (gY rfl T.lD (DE.bo ak)) (fun _ _ _ _=>(bN 0 YG)) (fun _ _ _ _=>(EW (PH (aA 0) (aA 1)))) (fun _ _ _ _=>(bZ 0)))))) (ah (bU (i:=5) jB.nd ak) (ah (JD 100 (DW.t (rW (mH (aA 5) (DE.bo (bK bt eB rfl T.fP dw (cC (aA 1) aO)))) (qd (fZ (cn K0 (hr.mono (by decide)) rfl T.qE (bw (EJ (DB.im (iN (aA 1) (aA 5))) (DE.bo ak)) (bw (bZ 4) aO))))))) (au (bU (i:=5) jB.nd (cY (aA 5) (DE.bo ak))))) (au (cv (DW.t (rW (uH (aA 3) (DE.bo ak)) (rW (mH (aA 5) (DE.bo (bK bt eB rfl T.fP dw (cC (aA 1) aO)))) (qd (jP hu (iN (iN (aA 1) (aA 5)) (DE.bo ak)) (aA 4)))))) (au (Rp 1 (aA 5) (uD (n:=2) (bw (bZ 4) (bw (cY (iN (iN (aA 1) (aA 5)) (DE.bo ak)) (aA 3)) aO))))) (au (cv (uH (aA 3) (DE.bo ak)) (au (G5 1 (bZ 5) (uD (n:=2) (bw (bZ 4) (bw (bZ 3) aO))))) aZ)))))))) (au (tX 1)))))
theorem N7:bq ["_law_roll","_law_words_here"] ["_law_roll","_law_words_here"] (aj Dq):=⟨rfl,rfl,rfl,by decide +kernel,rfl,by decide +kernel,by decide +kernel⟩
def Dv:SF:=(et (jo (eL (fM 1 [0,1] (dE (ix dS (ag (aB 0) aN))) (aU true 0) (bF (ae (inD false) (ae iS (aB 1) (aB 0)) (aB 2))) (eV 0)))))
def vA:fc→e9:=pF 2 [true,true] Dv
theorem N8(F:lX K "_law_like" "_law_like" Dq f fd)(T:Txt K mg a):cE P w K mg base mz 1 f fd ["_law_roll","_law_words_here"] (gJ K [true,true] vA) :=
  dy F N7 rfl (fun dk A outer s H E z hr=>by
    have hu:=hr.units;exact(au (cF (qg rfl rfl T.lE (DO.sh (nq rfl (tgs:=["_law_k"]) (fi:=[0,1]) (fJ.of rfl) (by decide) (gY rfl T.lD (DE.bo (bK bt eB rfl T.fP dw (cC (aA 0) aO)))) (fun _ _ _ _=>(bN 0 YH)) (fun _ _ _ _=>(EW (PH (iN (aA 1) (aA 0)) (aA 2)))) (fun _ _ _ _=>(bZ 0))))))))
theorem vC:bq ["self"] ["self"] (aj ke):=⟨rfl,rfl,rfl,by decide +kernel,rfl,by decide +kernel,by decide +kernel⟩
def ki(a:vp):SF:=(et (Fo (Wz a.aG 0)))
def cg(a:vp):List Slot→e9:=BI 1 [] (ki a)
theorem vD(F:lX K "count" "Box.count" ke f fd)(T:Txt K mg a):cE P w K mg base (CY P w) 1 f fd ["self"] (spS K 1 (cg a)) :=
  t6 F vC (fun dk A outer s H E F₀ H₀ hr=>by
    have hu:=hr.units;exact(au (cF (Di rfl rfl T.KP (Ve 0 T.dG T.jw)))))
theorem vF:bq ["self"] ["self"] (aj kf):=⟨rfl,rfl,rfl,by decide +kernel,rfl,by decide +kernel,by decide +kernel⟩
def kj(a:vp):SF:=(bj (iO (bF (ae dF (NW a.aG 0 (cg a)) (eC (.int 0)))) (uJ (uE aN)) bT) (uJ (EH iX (ag (ix dS (ag (mP a.aG 0) aN)) (ag (eL (fM 2 [] (yN (WB a.aG 0)) (j8 2 (cf (aU true 0) (cf (aU true 1) j7))) jO (oQ (ag (eL (xj (eV 0))) (ag (eV 1) aN))))) aN)))))
def cL(a:vp):List Slot→e9:=BI 1 [] (kj a)
theorem vH(F:lX K "heaps" "Box.heaps" kf f fd)(T:Txt K mg a)(ko:AQ P w K mg base 1 a.kg ["self"] (spS K 1 (cg a)))(zi:mE P w K mg base 4 a.iW ["count","rows"] (gJ K [true,true] iX)):cE P w K mg base (CY P w) 5 f fd ["self"] (spS K 1 (cL a)) :=
  t6 F vF (fun dk A outer s H E F₀ H₀ hr=>by
    have hu:=hr.units;exact(ah (cv (jP hu (DE.bo (PY 0 T.dG T.qG ko (hr.mono (by decide)))) (DE.bo ak)) (au (ym (oR (n:=0) aO))) aZ) (au (ym (MZ zi (hr.mono (by decide)) rfl T.iW (bw (bK bt eB rfl T.fP dw (cC (ve 0 T.dG T.qF) aO)) (bw (DO.sh (nq rfl (tgs:=["names","many"]) (fi:=[]) (fJ.of rfl) (by decide) (Kw (Vg 0 T.dG T.jw)) (fun _ _ _ _=>(oT rfl (dg (bN 0 Vp) (dg (bN 1 Vp) kZ)))) (fun _ _ _ _=>qh) (fun _ _ _ _=>(uD (n:=2) (bw (DO.sh (EI rfl rfl T.mU (bZ 0))) (bw (bZ 1) aO)))))) aO)))))))
theorem qP:bq ["_law_box","_law_kept","_law_first","_law_due","_law_many","_law_found"] ["_law_box","_law_kept","_law_first"] (aj yZ):=⟨rfl,rfl,rfl,by decide +kernel,rfl,by decide +kernel,by decide +kernel⟩
def zj(a:vp):SF:=(bj (cy 3 (bD ud (ag (eL (yQ (PV 1))) aN))) (bj (iO (bF (eV 2)) (bj (n4 5 (PZ a.aG 0 (cL a))) (bj (iO (jm (bF (bD (dJ 6) (ag (aB 5) (ag (aB 3) aN))))) (et (eC (.bl false))) bT) (CD 5))) bT) (bj (cy 4 (NW a.aG 0 (cg a))) (bj (iO (iR (jm (bF (bD qN (ag (eV 4) aN)))) (bF (ae lV (aB 4) (ix Cv (ag (eL (sf (PV 1))) aN))))) (et (eC (.bl false))) bT) (et (bD (dJ 6) (ag (eL (PZ a.aG 0 (cL a))) (ag (aB 3) aN))))))))
def lH(a:vp):List Slot→e9:=BI 6 [] (zj a)
theorem K1(F:lX K "_law_right" "_law_right" yZ f fd)(T:Txt K mg a)(ko:AQ P w K mg base 1 a.kg ["self"] (spS K 1 (cg a)))(oo:AQ P w K mg base 5 a.oh ["self"] (spS K 1 (cL a)))(N9:mE P w K mg base 2 a.ua ["_law_rows"] (gJ K [false] ud))(K2:mE P w K mg base 7 a.jv ["_law_found","_law_due"] (gJ K [false,false] (dJ 6)))(Oa:mE P w K mg base 1 a.t9 ["_law_found"] (gJ K [true] qN)):cE P w K mg base (CY P w) 8 f fd ["_law_box","_law_kept","_law_first"] (spS K 3 (lH a)) :=
  t6 F qP (fun dk A outer s H E F₀ H₀ hr=>by
    have hu:=hr.units;exact(ah (bU (i:=3) qP.nd (cn N9 (hr.mono (by decide)) rfl T.ua (cC (DE.bo (DO.sh (yR rfl rfl T.mU (PX 1)))) aO))) (ah (cv (fZ (bZ 2)) (ah (qi (i:=5) qP.nd (P0 0 T.dG T.qH oo (hr.mono (by decide)))) (ah (cv (rV (fZ (cn K2 (hr.mono (by decide)) rfl T.jv (cC (aA 5) (cC (aA 3) aO))))) (au (cF sV)) aZ) (au (JF 5)))) aZ) (ah (bU (i:=4) qP.nd (PY 0 T.dG T.qG ko (hr.mono (by decide)))) (ah (cv (DW.t (nY (rV (fZ (cn Oa (hr.mono (by decide)) rfl T.t9 (bw (bZ 4) aO)))) (mF (uN hu (aA 4) (DE.bo (bK (Ak rfl) Jw rfl T.KP Cp (cC (DE.bo (DO.sh (A4 rfl rfl T.mU (PX 1)))) aO))))))) (au (cF sV)) aZ) (au (cF (cn K2 (hr.mono (by decide)) rfl T.jv (cC (DE.bo (DO.sh (P0 0 T.dG T.qH oo (hr.mono (by decide))))) (cC (aA 3) aO))))))))))
theorem qQ:bq ["self","text","many","names"] ["self","text","many"] (aj aV):=⟨rfl,rfl,rfl,by decide +kernel,rfl,by decide +kernel,by decide +kernel⟩
def jW(a:vp):SF:=(bj (cy 3 (bD eO (ag (mP a.aG 0) (ag (eV 1) aN)))) (bj (lO (bD dA (ag (eV 2) aN))) (n6 (NP a.aG 0) (Td 0) (aB 3) (ae gd (qz (NP a.aG 0) (aB 3) (eC (.int 0))) (aB 2)))))
def eE(a:vp):List Slot→e9:=BI 4 [0] (jW a)
theorem zk{oc dV kV doc pm dk ct:Value}(lk:K.lookup f=some ⟨oc,od,.func (fnOf "put" "Box.put" (bM aV) (bA aV) (aj aV) dV kV doc pm an dk ct),xM⟩)(dU:codeIn K dk "Box.put"=true)(T:Txt K mg a)(jC:mE P w K mg base 1 a.dz ["many"] (gJ K [true] dA))(lI:mE P w K mg base 1 a.eK ["words","text"] (gJ K [false,true] eO)):cE P w K mg base (CY P w) 2 f (fnOf "put" "Box.put" (bM aV) (bA aV) (aj aV) dV kV doc pm an dk ct) ["self","text","many"] (spS K 3 (eE a)) :=
  A6 lk dU qQ (fun A outer s H E F₀ H₀ hr=>by
    have hu:=hr.units;exact(ah (bU (i:=3) qQ.nd (cn lI (hr.mono (by decide)) rfl T.eK (cC (ve 0 T.dG T.qF) (bw (bZ 1) aO)))) (ah (qu (cn jC (hr.mono (by decide)) rfl T.dz (bw (bZ 2) aO))) (au (t5 (nV hr) (yH 0 T.dG T.jw) (aA 3) (cY (DE.bo (yI (nV hr) (yH 0 T.dG T.jw) (aA 3) ak)) (aA 2)))))))
theorem ku:bq ["self","text","many","names","left"] ["self","text","many"] (aj aS):=⟨rfl,rfl,rfl,by decide +kernel,rfl,by decide +kernel,by decide +kernel⟩
def iY(a:vp):SF:=(bj (cy 3 (bD eO (ag (mP a.aG 0) (ag (eV 1) aN)))) (bj (lO (bD dA (ag (eV 2) aN))) (bj (cy 4 (ae GJ (qz (NP a.aG 0) (aB 3) (eC (.int 0))) (aB 2))) (bj (iO (bF (ae yl (aB 4) (eC (.int 0)))) uP bT) (n6 (NP a.aG 0) (Td 0) (aB 3) (eV 4))))))
def dN(a:vp):List Slot→e9:=BI 5 [0] (iY a)
theorem wL{oc dV kV doc pm dk ct:Value}(lk:K.lookup f=some ⟨oc,od,.func (fnOf "take" "Box.take" (bM aS) (bA aS) (aj aS) dV kV doc pm an dk ct),xM⟩)(dU:codeIn K dk "Box.take"=true)(T:Txt K mg a)(jC:mE P w K mg base 1 a.dz ["many"] (gJ K [true] dA))(lI:mE P w K mg base 1 a.eK ["words","text"] (gJ K [false,true] eO)):cE P w K mg base (CY P w) 2 f (fnOf "take" "Box.take" (bM aS) (bA aS) (aj aS) dV kV doc pm an dk ct) ["self","text","many"] (spS K 3 (dN a)) :=
  A6 lk dU ku (fun A outer s H E F₀ H₀ hr=>by
    have hu:=hr.units;exact(ah (bU (i:=3) ku.nd (cn lI (hr.mono (by decide)) rfl T.eK (cC (ve 0 T.dG T.qF) (bw (bZ 1) aO)))) (ah (qu (cn jC (hr.mono (by decide)) rfl T.dz (bw (bZ 2) aO))) (ah (bU (i:=4) ku.nd (Cy (DE.bo (yI (nV hr) (yH 0 T.dG T.jw) (aA 3) ak)) (aA 2))) (ah (cv (mH (aA 4) (DE.bo ak)) (au ka) aZ) (au (t5 (nV hr) (yH 0 T.dG T.jw) (aA 3) (bZ 4))))))))
theorem iC:bq ["_law_box","_law_kept","_law_roll","_law_xs","_law_cell","_law_words_here","_law_like_here","_law_there","_law_text","_law_many"] ["_law_box","_law_kept","_law_roll","_law_xs","_law_cell"] (aj y0):=⟨rfl,rfl,rfl,by decide +kernel,rfl,by decide +kernel,by decide +kernel⟩
def ue(a:vp):SF:=(bj (cy 5 (eL (fM 1 [2] (lU (eL (mG (eV 3) (gN (eC (.int 2))) (gN (ae gd (eC (.int 2)) (ae cM (ae iS (aB 3) (eC (.int 1))) (eC (.int 5)))))))) (aU true 0) jO (ae iS (eV 1) (ae cM (aB 0) (ix dS (ag (aB 1) aN))))))) (bj (cy 6 (bD vA (ag (eV 2) (ag (eV 5) aN)))) (bj (cy 7 (qz (NQ 1) (aB 6) (eC (.int 0)))) (bj (cy 8 (ae AU (eC (.str " ")) (aB 5))) (bj (cy 9 (ae iS (eL (uE (ag (eC (.int 1)) (ag (ae gd (eC (.int 1)) (ae cM (ae iS (aB 3) (eC (.int 7))) (eC (.int 9)))) (ag (ae gd (eC (.int 1)) (ae cM (aB 4) (ae GJ (ae M3 (eC (.int 10)) (eC (.int 38))) (eC (.int 1))))) aN))))) (ae cM (ae iS (aB 3) (eC (.int 8))) (eC (.int 3))))) (bj (iO (eZ (bF (ae dF (ae cM (ae iS (aB 3) (eC (.int 0))) (eC (.int 3))) (eC (.int 0)))) (bF (ae HK (aB 7) (eC (.int 0))))) (bj (cy 9 (ix minD (ag (aB 9) (ag (aB 7) aN)))) (bj (iO (bF (ae dF (ae cM (ae iS (aB 3) (eC (.int 9))) (eC (.int 3))) (eC (.int 0)))) (cy 9 (eV 7)) bT) (bj (n6 (NQ 1) (Te 1) (aB 6) (ae GJ (aB 7) (aB 9))) (bj (iO (eZ (bF (ae dF (aB 9) (eC (.int 1)))) (bF (ae dF (ae cM (ae iS (aB 3) (eC (.int 9))) (eC (.int 2))) (eC (.int 1))))) (lP a.aG 0 [0,1] (ag (eV 8) aN) [.int 1] (dN a)) bT) (lP a.aG 0 [0,1] (ag (eV 8) (ag (eV 9) aN)) [] (dN a)))))) bT) (bj (n6 (NQ 1) (Te 1) (aB 6) (ae gd (aB 7) (aB 9))) (bj (iO (eZ (bF (ae dF (aB 9) (eC (.int 1)))) (bF (ae dF (ae cM (ae iS (aB 3) (eC (.int 9))) (eC (.int 2))) (eC (.int 1))))) (lP a.aG 0 [0,1] (ag (eV 8) aN) [.int 1] (eE a)) bT) (lP a.aG 0 [0,1] (ag (eV 8) (ag (eV 9) aN)) [] (eE a))))))))))
def qR(a:vp):List Slot→e9:=BI 10 [0,1] (ue a)
theorem K3(F:lX K "_law_moved" "_law_moved" y0 f fd)(T:Txt K mg a)(sY:Hi P w K mg base 2 a.mR ["self","text","many"] (spS K 3 (eE a)))(qS:Hi P w K mg base 2 a.lC ["self","text","many"] (spS K 3 (dN a)))(Se:mE P w K mg base 1 a.y8 ["_law_roll","_law_words_here"] (gJ K [true,true] vA)):cE P w K mg base (CY P w) 3 f fd ["_law_box","_law_kept","_law_roll","_law_xs","_law_cell"] (spS K 5 (qR a)) :=
  t6 F iC (fun dk A outer s H E F₀ H₀ hr=>by
    have hu:=hr.units;exact(ah (JV (i:=5) rfl iC.nd (tgs:=["_law_number"]) (fi:=[2]) (fJ.of rfl) (by decide) (kY (DO.sh (Ap (bZ 3) (jN (DE.bo ak)) (jN (DE.bo (cY (DE.bo ak) (DE.bo (cx (iN (aA 3) (DE.bo ak)) (DE.bo ak))))))))) (fun _ _ _ _=>(bN 0 YJ)) (fun _ _ _ _=>qh) (fun _ _ _ _=>(EJ (bZ 1) (DE.bo (cx (aA 0) (DE.bo (bK bt eB rfl T.fP dw (cC (aA 1) aO)))))))) (ah (bU (i:=6) iC.nd (cn Se (hr.mono (by decide)) rfl T.y8 (bw (bZ 2) (bw (bZ 5) aO)))) (ah (bU (i:=7) iC.nd (yI (nV hr) (Df 1) (aA 6) ak)) (ah (bU (i:=8) iC.nd (NJ (DE.bo rT) (aA 5))) (ah (bU (i:=9) iC.nd (EJ (DO.sh (oR (n:=3) (bw ak (bw (cY (DE.bo ak) (DE.bo (cx (iN (aA 3) (DE.bo ak)) (DE.bo ak)))) (bw (cY (DE.bo ak) (DE.bo (cx (aA 4) (DE.bo (Cy (DE.bo (Rc (DE.bo ak) (DE.bo ak))) (DE.bo ak)))))) aO))))) (DE.bo (cx (iN (aA 3) (DE.bo ak)) (DE.bo ak))))) (ah (cv (DW.t (rW (jP hu (DE.bo (cx (iN (aA 3) (DE.bo ak)) (DE.bo ak))) (DE.bo ak)) (qd (uH (aA 7) (DE.bo ak))))) (ah (bU (i:=9) iC.nd (bK (Gf rfl) RL rfl T.Vm PyProof.Rows.boot_min (cC (aA 9) (cC (aA 7) aO)))) (ah (cv (jP hu (DE.bo (cx (iN (aA 3) (DE.bo ak)) (DE.bo ak))) (DE.bo ak)) (au (bU (i:=9) iC.nd (bZ 7))) aZ) (ah (t5 (nV hr) (Df 1) (aA 6) (Cy (aA 7) (aA 9))) (ah (cv (DW.t (rW (jP hu (aA 9) (DE.bo ak)) (qd (jP hu (DE.bo (cx (iN (aA 3) (DE.bo ak)) (DE.bo ak))) (DE.bo ak))))) (au (A8 0 [0,1] T.dG T.sX qS (hr.mono (by decide)) (bw (bZ 8) aO))) aZ) (au (A7 0 [0,1] T.dG T.sX qS (hr.mono (by decide)) (bw (bZ 8) (bw (bZ 9) aO)))))))) aZ) (ah (t5 (nV hr) (Df 1) (aA 6) (cY (aA 7) (aA 9))) (ah (cv (DW.t (rW (jP hu (aA 9) (DE.bo ak)) (qd (jP hu (DE.bo (cx (iN (aA 3) (DE.bo ak)) (DE.bo ak))) (DE.bo ak))))) (au (A8 0 [0,1] T.dG T.vq sY (hr.mono (by decide)) (bw (bZ 8) aO))) aZ) (au (A7 0 [0,1] T.dG T.vq sY (hr.mono (by decide)) (bw (bZ 8) (bw (bZ 9) aO)))))))))))))
end
def tx(l:List Nat):Str:=⟨l.toArray⟩
theorem Dw(l:List Nat):(tx l).cps.toList=l:=by simp[tx]
theorem jD(l:List Nat):(tx l).length=l.length:=by simp[tx,Str.length]
theorem Dx(a b:List Nat):tx a++tx b=tx (a++b):=by show Str.append (tx a) (tx b)=_;simp[tx,Str.append]
theorem vJ{a b:List Nat}(h:tx a=tx b):a=b:=by have:=gG (fun s:Str=>s.cps.toList) h;simpa[tx] using this
theorem Vq(s:Str):s=tx s.cps.toList:=by cases s;simp[tx]
theorem Bd(l:List Nat)(a:Nat):∀n,a+n≤l.length→((List.range n).map fun k=>a+k).filterMap (fun i=>l.toArray[i]?)=(l.drop a).take n
  |0,_=>by simp
  |n+1,h=>by
   rw[List.range_succ,wg,List.filterMap_append,Bd l a n (by omega),List.take_succ];have dQ:a+n<l.length:=by omega
   congr 1
   simp[eQ dQ]
theorem Sf(l:List Nat)(i j:Nat)(pE:i≤j)(hj:j≤l.length):(Builtin.Str.strSliceIndices (some (i:Int)) (some (j:Int)) 1 l.length)=(List.range (j-i)).map fun k=>i+k:=by
  unfold Builtin.Str.strSliceIndices sliceRange;simp only[show(1:Int)>0 by decide,cw];have e1:max 0 (min (if (i:Int)<0 then(i:Int)+l.length else i) (l.length:Int))=i:=by rw[ax (by omega)];omega
  have e2:max 0 (min (if (j:Int)<0 then(j:Int)+l.length else j) (l.length:Int))=j:=by rw[ax (by omega)];omega
  rw[e1,e2];have e3:(if (i:Int)<(j:Int) then((j:Int)-i+1-1) / 1 else 0).toNat=j-i:=by
    split
    ·rw[Int.ediv_one];omega
    ·omega
  rw[e3];apply List.map_congr_left;intro k _;omega
theorem Ob(l:List Nat)(h:Option Int):Builtin.Str.strSliceIndices none h 1 l.length=Builtin.Str.strSliceIndices (some ((0:Nat):Int)) h 1 l.length:=by
  unfold Builtin.Str.strSliceIndices;simp only[show(1:Int)>0 by decide,cw];have e1:max 0 (min (if ((0:Nat):Int)<0 then((0:Nat):Int)+l.length else((0:Nat):Int)) (l.length:Int))=0:=by rw[ax (by omega)];omega
  rw[e1]
theorem Be(l:List Nat)(i j:Nat)(pE:i≤j)(hj:j≤l.length):Txt.slice (tx l) (some (i:Int)) (some (j:Int))=tx ((l.drop i).take (j-i)):=by
  unfold Txt.slice;rw[jD,Sf l i j pE hj];split
  · rename_i h;simp at h;have hi:i=0:=by omega
    have Jj:j=l.length:=by omega
    subst hi Jj;simp
  ·show Str.mk ((((List.range (j-i)).map fun k=>i+k).filterMap fun k=>l.toArray[k]?).toArray)=_;rw[Bd l i (j-i) (by omega)];rfl
theorem FC(l:List Nat)(j:Nat)(hj:j≤l.length):Txt.slice (tx l) none (some (j:Int))=tx (l.take j):=by have h:=Be l 0 j (ik _) hj;unfold Txt.slice at h⊢;rw[jD] at h⊢;rw[Ob];rw[h];simp
def jn:List (List Nat)→List Nat
  |[]=>[]
  |[w]=>w
  |w::ws=>w++32::jn ws
theorem zl(w v:List Nat)(ws:List (List Nat)):jn (w::v::ws)=w++32::jn (v::ws):=rfl
theorem zm:∀(ws:List (List Nat)),Str.join ⟨#[32]⟩ (ws.map tx)=tx (jn ws)
  |[]=>rfl
  |[w]=>rfl
  |w::v::ws=>by have ih:=zm (v::ws);rw[zl];show tx w++⟨#[32]⟩++Str.join ⟨#[32]⟩ ((v::ws).map tx)=_;rw[ih];have:(⟨#[32]⟩:Str)=tx [32]:=rfl;rw[this,Dx,Dx];simp
theorem K4:∀(A B:List (List Nat)),A≠[]→B≠[]→(∀w∈A,32∉w)→(∀w∈B,32∉w)→jn A=jn B→A=B
  |[],_,h,_,_,_,_=>(h rfl).elim
  |_,[],_,h,_,_,_=>(h rfl).elim
  |[a],[b],_,_,_,_,e=>by have:a=b:=e;rw[this]
  |[a],b::c::B,_,_,hA,_,e=>by exfalso;have e':a=b++32::jn (c::B):=e;exact hA a eR (by rw[e'];simp)
  |a::c::A,[b],_,_,_,hB,e=>by exfalso;have e':a++32::jn (c::A)=b:=e;exact hB b eR (by rw[←e'];simp)
  |a::c::A,b::d::B,_,_,hA,hB,e=>by
   have e':a++32::jn (c::A)=b++32::jn (d::B):=e;have key:∀(x y p q:List Nat),32∉x→32∉y→x++32::p=y++32::q→x=y∧p=q:=by
     intro x;induction x with
     |nil =>
      intro y p q _ hy h;cases y with
      |nil=>simp at h;exact⟨rfl,h⟩
      |cons z y=>simp at h;exact(hy (by rw[←h.1];simp)).elim
     |cons z x ih =>
      intro y p q hx hy h;cases y with
      |nil=>simp at h;exact(hx (by rw[h.1];simp)).elim
      |cons z' y=>simp at h;obtain⟨h1,h2⟩:=ih y p q (fun m=>hx (ef _ m)) (fun m=>hy (ef _ m)) h.2;exact⟨by rw[h.1,h1],h2⟩
   obtain⟨h1,h2⟩:=key a b _ _ (hA a eR) (hB b eR) e';have ih:=K4 (c::A) (d::B) (by simp) (by simp) (fun w hw=>hA w (ef _ hw)) (fun w hw=>hB w (ef _ hw)) h2;rw[h1,ih]
theorem pj:∀(l:dB),(l.map fun s=>s.cps.toList).map tx=l
  |[]=>rfl
  |s::l=>by rw[cD,cD,pj l];rw[←Vq s]
theorem K5(ws:List (List Nat))(h:ws≠[])(hw:∀w∈ws,32∉w):Txt.split (tx (jn ws)) ⟨#[32]⟩=ws.map tx:=by
  have h1:=StrLaws.join_split (tx (jn ws)) ⟨#[32]⟩;have h2:=StrLaws.split_free (tx (jn ws)) 32;have h3:=PyProof.Rows.split_pos (tx (jn ws)) ⟨#[32]⟩;generalize Txt.split (tx (jn ws)) ⟨#[32]⟩=P at h1 h2 h3;rw[←pj P,zm] at h1;have e:=K4 (P.map fun s=>s.cps.toList) ws (by intro z;simp at z;subst z;simp at h3) h (by
    intro w hw';obtain⟨s,hs,rfl⟩:=gC.mp hw';exact h2 s hs) hw (vJ h1)
  rw[←pj P,e]
theorem Oc(ws:List (List Nat)):Txt.join ⟨#[32]⟩ (ws.map tx)=tx (jn ws):=by show Builtin.Str.glued _ _=_;rw[StrLaws.glued_eq_join,zm]
theorem K6:∀(ws:List (List Nat)),(jn ws).length≤(ws.map List.length).sum+ws.length
  |[]=>ik _
  |[w]=>by simp[jn]
  |w::v::ws=>by have:=K6 (v::ws);rw[zl];simp at this⊢;omega
theorem Vr:∀(ws:List (List Nat)),ws≠[]→(∀w∈ws,w≠[])→jn ws≠[]
  |[],h,_=>(h rfl).elim
  |[w],_,hw=>hw w eR
  |w::v::ws,_,hw=>by rw[zl];simp
def fA:Str:="abcdefghijklmnopqrstuvwxyz"
def lets:List Nat:=(List.range 26).map (97+·)
theorem vK:fA=tx lets:=by decide +kernel
theorem K7{c:Nat}:c∈lets↔97≤c∧c≤122:=by
  unfold lets;simp only[gC,ml];constructor
  ·rintro⟨k,hk,rfl⟩;omega
  ·intro h;exact⟨c-97,by omega,by omega⟩
theorem K8:∀k<26,Txt.find fA (tx [97+k])=(k:Int):=by decide +kernel
theorem Od(c:Nat):(!(Builtin.Str.occurrences fA (tx [c]) 0 fA.length 1).isEmpty)=decide (97≤c∧c≤122):=by
  have:=StrLaws.found_one fA c;rw[show(⟨#[c]⟩:Str)=tx [c] from rfl] at this;rw[this];have e:fA.cps.toList=lets:=by rw[vK,Dw]
  rw[e];exact decide_eq_decide.mpr K7
def enc(p:bL×Int):List Key×D:=(p.1.map Sum.inl,.int p.2)
theorem FD{a b:bL}(h:a.map (Sum.inl:Int→Key)=b.map Sum.inl):a=b:=by have:=gG Jn h;rwa[xg,xg] at this
def bO(ps:dZ)(k:bL):Option Int:=(ps.find? fun p=>decide (p.1=k)).map (·.2)
def kK(ps:dZ)(k:bL)(m:Int):dZ :=
  if (ps.any fun p=>decide (p.1=k))=true then ps.map fun p=>if p.1=k then(p.1,m) else p else ps++[(k,m)]
theorem FE(p:bL×Int)(k:bL):decide ((enc p).1=k.map Sum.inl)=decide (p.1=k):=by
  have:((enc p).1=k.map Sum.inl)↔p.1=k:=⟨fun h=>FD h,fun h=>by rw[←h];rfl⟩
  simp[this]
theorem kL(k:bL):∀ps:dZ,oW (ps.map enc) (k.map Sum.inl)=(bO ps k).map D.int
  |[]=>rfl
  |p::ps=>by
   have ih:=kL k ps;unfold oW bO at *;rw[cD,rm,rm,FE];cases decide (p.1=k) with
   |true=>rfl
   |false=>exact ih
theorem FG(k:bL):∀ps:dZ,((ps.map enc).any fun kv=>decide (kv.1=k.map Sum.inl))=ps.any fun p=>decide (p.1=k)
  |[]=>rfl
  |p::ps=>by rw[cD,List.any_cons,List.any_cons,FG k ps,FE]
theorem qT(ps:dZ)(k:bL)(m:Int):putD (ps.map enc) (k.map Sum.inl) (.int m)=(kK ps k m).map enc:=by
  unfold putD kK;rw[FG];by_cases h:(ps.any fun p=>decide (p.1=k))=true
  · rw[az h,az h,fB,fB];refine List.map_congr_left fun p _=>?_;show(if (enc p).1=k.map Sum.inl then((enc p).1,D.int m) else enc p)=enc (if p.1=k then(p.1,m) else p);by_cases e:p.1=k
    ·rw[az e,az (show(enc p).1=k.map Sum.inl by rw[←e];rfl)];rfl
    ·rw[ax e,ax (show ¬ (enc p).1=k.map Sum.inl from fun z=>e (FD z))]
  ·rw[ax h,ax h,wg];rfl
structure zA (c:Int) (ps:dZ):Prop where
  nd:(ps.map (·.1)).Nodup
  all:∀p∈ps,nW c p.1∧1≤p.2
theorem mW{k:bL}{m:Int}(h:bO ps k=some m):(k,m)∈ps:=by
  unfold bO at h;obtain⟨p,h1,h2⟩:=iD.mp h;have h3:=List.find?_some h1;have h4:=List.mem_of_find?_eq_some h1;obtain⟨a,b⟩:=p;have e1:a=k:=by simpa using h3
  have e2:b=m:=h2;subst e1 e2;exact h4
theorem nK:∀{ps:dZ} {k:bL} {m:Int},(ps.map (·.1)).Nodup→(k,m)∈ps→bO ps k=some m
  |[],_,_,_,h=>nomatch h
  |p::r,k,m,nd,h=>by
   rw[cD] at nd;obtain⟨h1,h2⟩:=List.nodup_cons.mp nd;unfold bO;rcases dc.mp h with e|e
   ·rw[←e,rm];simp
   ·have:¬ p.1=k:=fun z=>h1 (gC.mpr ⟨(k,m),e,z.symm⟩);rw[rm];simp only[this,decide_false];exact nK h2 e
theorem xu(ps:dZ)(k:bL)(m:Int):(kK ps k m).map (·.1)=if (ps.any fun p=>decide (p.1=k))=true then ps.map (·.1) else ps.map (·.1)++[k]:=by
  unfold kK;by_cases h:(ps.any fun p=>decide (p.1=k))=true
  ·rw[az h,az h,fB];refine List.map_congr_left fun p _=>?_;show(if p.1=k then(p.1,m) else p).1=p.1;split<;>rfl
  ·rw[ax h,ax h,wg];rfl
theorem qU(ps:dZ)(k:bL)(m:Int):(kK ps k m).length≤ps.length+1:=by unfold kK;split<;>simp
theorem zA.put(h:zA c ps){k:bL}{m:Int}(hs:nW c k)(hm:1≤m):zA c (kK ps k m):=by
  refine⟨?_,fun p hp=>?_⟩
  · rw[xu];by_cases q:(ps.any fun p=>decide (p.1=k))=true
    ·rw[az q];exact h.nd
    ·rw[ax q];refine yc h.nd fun hk=>q ?_;obtain⟨p,h1,h2⟩:=gC.mp hk;exact List.any_eq_true.mpr ⟨p,h1,mj h2⟩
  · unfold kK at hp;split at hp
    · obtain⟨p',h1,h2⟩:=gC.mp hp;by_cases e:p'.1=k
      ·rw[az e] at h2;rw[←h2,e];exact⟨hs,hm⟩
      ·rw[ax e] at h2;rw[←h2];exact h.all p' h1
    · rcases mh.mp hp with q|q
      ·exact h.all p q
      · have e:p=(k,m):=by simpa using q
        rw[e];exact⟨hs,hm⟩
theorem zA.get(h:zA c ps)(k:bL):0≤(bO ps k).getD 0:=by
  cases e:bO ps k with
  |none=>exact Int.le_refl _
  |some m=>have:=(h.all _ (mW e)).2;simp only[Option.getD_some];omega
theorem qV(o:Option Int):(o.map D.int).getD (.int 0)=.int (o.getD 0):=by cases o<;>rfl
theorem ib(k:bL):CG (.tup (k.map D.int))=some (k.map Sum.inl):=sW k
def aT(h:bL×Int):D:=.tup [.tup (h.1.map D.int),.int h.2]
def dD(p:bL×Int):Int×bL:=((p.1.length:Int),p.1)
def jE(ps:dZ):dZ:=(mM (ps.map dD)).map fun q=>(q.2,(bO ps q.2).getD 0)
theorem FH(h:zA c ps):(ps.map dD).Nodup:=by have q:=h.nd;unfold List.Nodup at q⊢;rw[List.pairwise_map] at q⊢;exact q.imp fun {a b} m8 e=>m8 (by injection e)
theorem pw(h:zA c ps){q:Int×bL}(hq:q∈mM (ps.map dD)):∃m,(q.2,m)∈ps∧bO ps q.2=some m∧q.1=(q.2.length:Int):=by obtain⟨p,h1,rfl⟩:=gC.mp ((ll _).mem_iff.mp hq);exact⟨p.2,h1,nK h.nd h1,rfl⟩
def dW(r:bL×Int):D:=.tup [.lst (r.1.map D.int),.int r.2]
def dq(ns:bL):bL:=(NS.nameSet ns).map fun(k:Nat)=>(k:Int)
def lJ(c:Int)(rs:dZ):Prop:=∀r∈rs,(∀n∈r.1,0≤n∧n<c)∧0≤r.2
def gP(ps:dZ)(r:bL×Int):dZ:=if 0<r.2 then kK ps (dq r.1) ((bO ps (dq r.1)).getD 0+r.2) else ps
def lW(rs:dZ):dZ:=rs.foldl gP []
theorem Bf(h0:0≤c)(h:∀n∈ns,0≤n∧n<c):nW c (dq ns):=by
  refine⟨?_,fun n hn=>?_⟩
  ·unfold dq NS.nameSet;rw[List.pairwise_map];exact(List.pairwise_lt_range.filter _).imp fun h=>by omega
  ·obtain⟨k,hk,rfl⟩:=gC.mp hn;have:=(List.mem_filter.mp hk).2;exact h _ (xG.mp this)
theorem Bg{g:SF}(h:g (iJ n ms ds)=some (.nx η)):pF n ms g ds=some (.sh .non):=by unfold pF;rw[h]
theorem Oe(h1:1≤c)(h6:c≤6):fj [.int c]=some (.sh .non):=by refine Bg (η:=[some (.sh (.int c))]) ?_;show iM [some (.sh (.int c))]=_;unfold iM;refine(eu ?_).trans rfl;have a1:decide (c<1)=false:=gQ (by omega);have a2:decide (6<c)=false:=gQ (by omega);simp only[iR,bF,ae,aB,eC,cV,cj,jQ,lN,a1,a2];rfl
theorem Hn(h:lJ c rs):fu [.int c,.lst (rs.map dW)]=some (.sh .non):=by
  obtain⟨η',e,o2,o3,o4,rfl⟩:=kF (b:=j8 2 (cf (aU true 2) (cf (aU true 3) j7))) (g:=jT) dW (fun(_:Unit) η=>∃o2 o3 o4,η=[some (.sh (.int c)),some (.sh (.lst (rs.map dW))),o2,o3,o4]) (fun _ _=>()) (xs:=rs) (η:=[some (.sh (.int c)),some (.sh (.lst (rs.map dW))),none,none,none]) () ⟨_,_,_,rfl⟩ (fun x hx s η ⟨o2,o3,o4,e⟩=>by
    subst e;obtain⟨η',e,Tj,rfl⟩:=kF (b:=aU true 4) (g:=gp) D.int (fun(_:Unit) η=>∃o4,η=[some (.sh (.int c)),some (.sh (.lst (rs.map dW))),some (.sh (.lst (x.1.map D.int))),some (.sh (.int x.2)),o4]) (fun _ _=>()) (xs:=x.1) (η:=[some (.sh (.int c)),some (.sh (.lst (rs.map dW))),some (.sh (.lst (x.1.map D.int))),some (.sh (.int x.2)),o4]) () ⟨_,rfl⟩ (fun n hn s η ⟨o4,e⟩=>by
      subst e;refine⟨[some (.sh (.int c)),some (.sh (.lst (rs.map dW))),some (.sh (.lst (x.1.map D.int))),some (.sh (.int x.2)),some (.sh (.int n))],[some (.sh (.int c)),some (.sh (.lst (rs.map dW))),some (.sh (.lst (x.1.map D.int))),some (.sh (.int x.2)),some (.sh (.int n))],rfl,?_,_,rfl⟩;unfold gp;refine(eu ?_).trans rfl;have:=(h x hx).1 n hn;have a1:decide (n<0)=false:=gQ (by omega);have a2:decide (c≤n)=false:=gQ (by omega);simp only[iR,bF,ae,aB,eC,cV,dO,cj,jQ,UZ,a1,a2];rfl)
    refine⟨[some (.sh (.int c)),some (.sh (.lst (rs.map dW))),some (.sh (.lst (x.1.map D.int))),some (.sh (.int x.2)),o4],_,rfl,(gf (ds:=x.1.map D.int) rfl).trans e,_,_,_,rfl⟩)
  exact Bg ((gf (ds:=rs.map dW) rfl).trans e)
def cS(rs:dZ):Int:=(rs.map fun r=>r.2).sum
theorem Sg(rs:dZ):fL (j8 2 (cf (aU true 0) (cf (aU true 1) j7))) jO (eV 1) (rs.map dW) [none,none]=some ((rs.map fun r=>r.2).map D.int):=by rw[fB];exact kG dW (D.int∘fun r=>r.2) fun x _=>⟨[some (.sh (.lst (x.1.map D.int))),some (.sh (.int x.2))],rfl,rfl,rfl⟩
theorem Bh(h:lJ c rs)(hs:cS rs≠0):dY [.lst (rs.map dW)]=some (.sh .non):=by
  obtain⟨η',e,o1,o2,rfl⟩:=kF (b:=j8 2 (cf (aU true 1) (cf (aU true 2) j7))) (g:=eS) dW (fun(_:Unit) η=>∃o1 o2,η=[some (.sh (.lst (rs.map dW))),o1,o2]) (fun _ _=>()) (xs:=rs) (η:=[some (.sh (.lst (rs.map dW))),none,none]) () ⟨_,_,rfl⟩ (fun x hx s η ⟨o1,o2,e⟩=>by
    subst e;refine⟨[some (.sh (.lst (rs.map dW))),some (.sh (.lst (x.1.map D.int))),some (.sh (.int x.2))],[some (.sh (.lst (rs.map dW))),some (.sh (.lst (x.1.map D.int))),some (.sh (.int x.2))],rfl,?_,_,_,rfl⟩;unfold eS;refine(eu ?_).trans rfl;have a1:decide (x.2<0)=false:=gQ (by have:=(h x hx).2;omega);simp only[bF,ae,aB,eC,cV,dO,cj,jQ,a1])
  refine Bg (η:=[some (.sh (.lst (rs.map dW))),o1,o2]) ?_;show gn [some (.sh (.lst (rs.map dW))),none,none]=_;unfold gn;refine(aC ((gf (ds:=rs.map dW) rfl).trans e)).trans ?_;refine(eu ?_).trans rfl;have q:fL (j8 2 (cf (aU true 0) (cf (aU true 1) j7))) jO (eV 1) (rs.map dW) (List.replicate 2 none++[])=some ((rs.map fun r=>r.2).map D.int):=Sg rs;simp only[bF,ae,ix,ag,aN,eL,fM,lU,eV,cV,cj,fK,oO,rq,q,eF,Cv,gX,eC,dh];have:((rs.map fun r=>r.2).sum==0)=false:=by unfold cS at hs;simpa using hs
  exact gG some this
theorem qW(h0:0≤c)(h:lJ c rs)(hp:zA c ps):zA c (rs.foldl gP ps)∧(rs.foldl gP ps).length≤ps.length+rs.length:=by
  induction rs generalizing ps with
  |nil=>exact⟨hp,bJ _⟩
  |cons r rs ih =>
   have hr:=h r eR;have h1:zA c (gP ps r):=by
     unfold gP;split
     ·exact hp.put (Bf h0 hr.1) (by have:=hp.get (dq r.1);omega)
     ·exact hp
   have h2:(gP ps r).length≤ps.length+1:=by
     unfold gP;split
     ·exact qU _ _ _
     ·omega
   obtain⟨a,b⟩:=ih (fun x hx=>h x (ef _ hx)) h1;refine⟨a,?_⟩;rw[List.foldl_cons,eW];omega
theorem Og(h6:c≤6){R:D}{x:bL×Int}(hx:(∀n∈x.1,0≤n∧n<c)∧0≤x.2)(hl:ps.length<10000)(o4:e9):∃Tj,dI [some (.sh R),some (.ot (ps.map enc)),some (.sh (.lst (x.1.map D.int))),some (.sh (.int x.2)),o4]=some (.nx [some (.sh R),some (.ot ((gP ps x).map enc)),some (.sh (.lst (x.1.map D.int))),some (.sh (.int x.2)),Tj]):=by
  unfold dI;by_cases q:0<x.2
  · have hs:oZ (aB 2) [some (.sh R),some (.ot (ps.map enc)),some (.sh (.lst (x.1.map D.int))),some (.sh (.int x.2)),o4]=some ((dq x.1).map D.int):=by
      have ha:(x.1.all fun n=>decide (0≤n)&&decide (n<6))=true:=eX.mpr fun n hn=>by have:=hx.1 n hn;simp;omega
      simp only[oZ,aB,cV,dO,cj,gX,ha,cw];unfold dq;rw[fB];rfl
    refine⟨some (.sh (.tup ((dq x.1).map D.int))),?_⟩;refine(lq (by simp[bF,ae,aB,eC,lN,q])).trans ?_;refine(aC (bX (d:=.tup ((dq x.1).map D.int)) ?_)).trans ?_
    ·simp only[jo,eL,hs,eF,cj,fK]
    ·have hp:=qT ps (dq x.1) ((bO ps (dq x.1)).getD 0+x.2);simp only[jf,jI,yt,ae,yr,dT,aB,eC,cV,dO,cj,ib,kL,eF,qV,eD,hp,bY,hl,cw,gP,q]
  · refine⟨o4,?_⟩;refine(eu (by simp[bF,ae,aB,eC,lN];omega)).trans ?_;have:gP ps x=ps:=by unfold gP;rw[ax q]
    rw[this];rfl
theorem Dy(h0:0≤c)(h6:c≤6)(h:lJ c rs)(hl:rs.length≤1000):eN [.lst (rs.map dW)]=some (.ot ((lW rs).map enc)):=by
  obtain⟨η',e,o2,o3,o4,ha,rfl⟩:=lr (b:=j8 2 (cf (aU true 2) (cf (aU true 3) j7))) (g:=dI) dW (fun i (ps:dZ) η=>∃o2 o3 o4,ps.length≤i∧η=[some (.sh (.lst (rs.map dW))),some (.ot (ps.map enc)),o2,o3,o4]) gP (xs:=rs) (η:=[some (.sh (.lst (rs.map dW))),some (.ot []),none,none,none]) 0 [] ⟨_,_,_,ik _,rfl⟩ (fun i x ps η hx ⟨o2,o3,o4,hp,e⟩=>by
    subst e;have hi:=(lR.mp hx).1;obtain⟨Tj,q⟩:=Og h6 (R:=.lst (rs.map dW)) (x:=x) (h x (zC hx)) (ps:=ps) (by omega) o4;refine⟨_,_,rfl,q,_,_,_,?_,rfl⟩;unfold gP;split
    ·exact fR (qU _ _ _) (by omega)
    ·omega)
  refine jR ?_;show hZ [some (.sh (.lst (rs.map dW))),none,none,none,none]=_;unfold hZ;refine(aC (show CH 1 _=some (.nx _) from rfl)).trans ?_;refine(aC ((gf (ds:=rs.map dW) rfl).trans e)).trans ?_;rfl
theorem Sh(t:bL):jx [.tup (t.map D.int)]=some (.sh (mL ((t.length:Int),t))):=by simp[jx,pF,iJ,Ba,et,oQ,ag,aN,ix,dS,aB,eV,mL]
theorem Bi(t:bL):nB (t.map Sum.inl)=some t:=by
  induction t with
  |nil=>rfl
  |cons x t ih=>show(nB (t.map Sum.inl)).map (x::·)=_;rw[ih];rfl
theorem Oh(ps:dZ):qt jx (ps.map enc)=some (ps.map dD):=by
  induction ps with
  |nil=>rfl
  |cons p ps ih =>
   have e1:nB (enc p).1=some p.1:=Bi p.1;have e2:uY jx p.1=some (dD p):=by unfold uY;rw[Sh];simp only[mL];rw[az (gX _)];rfl
   rw[cD];unfold qt;rw[e1,cj,e2,cj,ih];rfl
theorem Ho(h1:1≤c)(h6:c≤6)(h:lJ c rs)(hs:cS rs≠0)(hl:rs.length≤1000)(hk:(lW rs).length<64):iX [.int c,.lst (rs.map dW)]=some (.ol ((jE (lW rs)).map aT)):=by
  have hP:zA c (lW rs):=(qW (ps:=[]) (by omega) h ⟨List.nodup_nil,fun _ h=>nomatch h⟩).1;refine jR ?_;show lF [some (.sh (.int c)),some (.sh (.lst (rs.map dW))),none]=_;unfold lF;refine(aC (η':=[some (.sh (.int c)),some (.sh (.lst (rs.map dW))),none]) ?_).trans ?_
  ·simp only[lO,bD,ag,aN,eV,cV,cj,eF,Oe h1 h6]
  refine(aC (η':=[some (.sh (.int c)),some (.sh (.lst (rs.map dW))),none]) ?_).trans ?_
  ·simp only[lO,bD,ag,aN,eV,cV,dO,cj,eF,Hn h]
  refine(aC (η':=[some (.sh (.int c)),some (.sh (.lst (rs.map dW))),none]) ?_).trans ?_
  ·simp only[lO,bD,ag,aN,eV,cV,dO,cj,eF,Bh h hs]
  refine(aC (η':=[some (.sh (.int c)),some (.sh (.lst (rs.map dW))),some (.ot ((lW rs).map enc))]) ?_).trans ?_
  ·simp only[Fc,ag,aN,eV,cV,dO,cj,eF,Dy (c:=c) (by omega) h6 h hl,jf,jI]
  refine EY ?_;have hn:((lW rs).map dD).Nodup∧((lW rs).map dD).length<64:=⟨FH hP,by rw[bY];exact hk⟩
  have hq:fL (aU true 0) jO (oQ (ag (eV 0) (ag (Az 1 (aB 0)) aN))) ((mM ((lW rs).map dD)).map fun e=>D.tup (e.2.map D.int)) [none,some (.ot ((lW rs).map enc))]=some ((jE (lW rs)).map aT):=by
    unfold jE;rw[fB];refine kG (fun e:Int×bL=>D.tup (e.2.map D.int)) _ fun q hq=>⟨[some (.sh (.tup (q.2.map D.int))),some (.ot ((lW rs).map enc))],rfl,rfl,?_⟩
    obtain⟨m,_,h2,_⟩:=pw hP hq;simp[oQ,ag,aN,eV,aB,Az,dT,ib,kL,h2,aT]
  simp only[fM,lU,eL,yD,dT,cV,dO,cj,Oh,hn,and_self,cw,eF,fK,oO,cD,rq,Option.getD_some];exact hq
theorem cu(p:bL×Int)(ps:dZ)(k:bL):bO (p::ps) k=if p.1=k then some p.2 else bO ps k:=by
  unfold bO;rw[rm];by_cases e:p.1=k
  ·rw[az e];simp[e]
  ·rw[ax e];simp[e]
theorem sI{k:bL}:bO ps k=none↔k∉ps.map (·.1):=by
  induction ps with
  |nil=>simp[bO]
  |cons p ps ih =>
   rw[cu];by_cases e:p.1=k
   ·simp[e]
   · rw[ax e,ih,cD,dc];constructor
     · rintro h (q|q)
       ·exact e q.symm
       ·exact h q
     ·exact fun h q=>h (.inr q)
theorem K9(ps:dZ)(k k':bL)(m:Int):bO (kK ps k m) k'=if k'=k then some m else bO ps k':=by
  unfold kK;by_cases h:(ps.any fun p=>decide (p.1=k))=true
  · rw[az h];have h':k∈ps.map (·.1):=by
      obtain⟨p,h1,h2⟩:=List.any_eq_true.mp h;exact gC.mpr ⟨p,h1,of_decide_eq_true h2⟩
    clear h;induction ps with
    |nil=>nomatch h'
    |cons p ps ih =>
     rw[cD,cu,cu];by_cases e:p.1=k
     · rw[az e];by_cases e':k'=k
       ·rw[az e',az (by show p.1=k';rw[e,e'])]
       · rw[ax e',ax (show ¬ p.1=k' from fun z=>e' (z.symm.trans e)),ax (show ¬ p.1=k' from fun z=>e' (z.symm.trans e))];by_cases q:k∈ps.map (·.1)
         ·rw[ih q,ax e']
         · have:(ps.map fun p=>if p.1=k then(p.1,m) else p)=ps:=by
             refine(List.map_congr_left fun x hx=>?_).trans (List.map_id _);exact ax fun z=>q (gC.mpr ⟨x,hx,z⟩)
           rw[this]
     · rw[ax e];have q:k∈ps.map (·.1):=by
         rcases dc.mp h' with z|z
         ·exact absurd z.symm e
         ·exact z
       rw[ih q];by_cases e':k'=k
       ·rw[az e',ax (show ¬ p.1=k' from fun z=>e (z.trans e')),az e']
       ·rw[ax e',ax e']
  · rw[ax h];have hn:k∉ps.map (·.1):=fun z=>h (by
      obtain⟨p,h1,h2⟩:=gC.mp z;exact List.any_eq_true.mpr ⟨p,h1,mj h2⟩)
    clear h;induction ps with
    |nil =>
     rw[List.nil_append,cu];by_cases e':k'=k
     ·rw[az e',az e'.symm]
     ·rw[ax e',ax (show ¬ k=k' from fun z=>e' z.symm)]
    |cons p ps ih =>
     rw[List.cons_append,cu,cu,ih fun z=>hn (ef _ z)];by_cases e':k'=k
     ·have:¬ p.1=k':=fun z=>hn (by rw[cD,←e',←z];exact eR);rw[az e',ax this,az e']
     ·rw[ax e',ax e']
theorem mX(hp:zA c ps):(jE ps).Perm ps:=by
  unfold jE;refine((ll _).map _).trans ?_;rw[fB];have:ps.map ((fun q:Int×bL=>(q.2,(bO ps q.2).getD 0))∘dD)=ps:=by refine(List.map_congr_left fun p hm=>?_).trans (List.map_id _);show(p.1,(bO ps p.1).getD 0)=p;rw[nK hp.nd (show(p.1,p.2)∈ps from hm)];rfl
  rw[this]
theorem Bj{x:D}{xs:fc}{t:String}(hx:fK x=some xs)(YK:∀i,iS x (.int i)=rJ xs i)(hlen:dS [x]=some (.int xs.length))(S4:L5 x=some t)(ht:t="tuple"∨t="list")(hl:xs.length≤1000)(oJ:∀y∈xs,dJ n [y,y]=some (.sh (.bl true))):dJ (n+1) [x,x]=some (.sh (.bl true)):=by
  refine jR ?_;show g_same (dJ n) [some (.br x),some (.br x),none]=_;unfold g_same;have e1:∀T o,(mJ T (aB 1)) [some (Slot.br x),some (Slot.br x),o]=some (.bl (JL T t)):=fun T o=>by simp only[mJ,aB,cV,dO,cj,S4,eF]
  have e0:∀T o,(mJ T (aB 0)) [some (Slot.br x),some (Slot.br x),o]=some (.bl (JL T t)):=fun T o=>by simp only[mJ,aB,cV,dO,cj,S4,eF]
  have Uz:iR (bF (mJ "tuple" (aB 1))) (bF (mJ "list" (aB 1))) [some (Slot.br x),some (Slot.br x),none]=some true:=by simp only[iR,bF,e1,cj];rcases ht with rfl|rfl<;>rfl
  obtain⟨η',e,o2,rfl⟩:=jr (b:=aU true 2) (g:=vy (dJ n)) (ds:=cB 0 xs.length) (η:=[some (.br x),some (.br x),none]) (fun _ η=>∃o2,η=[some (.br x),some (.br x),o2]) 0 ⟨none,rfl⟩ (fun i d η hd ⟨o2,e⟩=>by
    subst e;rw[g9,eU,eU] at hd;obtain⟨j,hj,rfl⟩:=iD.mp hd;obtain⟨j',Jj,rfl⟩:=iD.mp hj;have hjl:j'<xs.length:=by have h1:=zC Jj;simpa using h1
    refine⟨[some (.br x),some (.br x),some (.sh (.int (0+(j':Int))))],[some (.br x),some (.br x),some (.sh (.int (0+(j':Int))))],rfl,.inl ?_,_,rfl⟩;unfold vy;have Fg:rJ xs (0+(j':Int))=some xs[j']:=by rw[Int.zero_add];exact kP (by simp[hjl])
    have hc:=oJ xs[j'] (by simp);refine(eu ?_).trans rfl;simp only[jm,bF,bD,ag,aN,ae,aB,cV,dO,cj,eF,YK,Fg,hc,Bool.not_true])
  refine mN ((lq Uz).trans ?_);refine(aC (η':=[some (.br x),some (.br x),none]) ((eu ?_).trans rfl)).trans ?_
  ·simp only[iR,bF,ae,e0,e1,cj,Ru];simp
  refine(aC (η':=[some (.br x),some (.br x),none]) ((eu ?_).trans rfl)).trans ?_
  ·simp only[bF,ae,ix,ag,aN,aB,cV,dO,cj,eF,hlen,nA];simp
  refine(aC ((gf (ds:=cB 0 xs.length) ?_).trans e)).trans rfl;simp only[dE,ix,ag,aN,aB,cV,dO,cj,eF,hlen];rw[az ⟨by omega,by omega⟩]
  congr 1
theorem same_int(n:Nat)(i:Int):dJ (n+1) [.int i,.int i]=some (.sh (.bl true)):=by refine jR ?_;show g_same (dJ n) [some (.br (.int i)),some (.br (.int i)),none]=_;unfold g_same;refine(aC (η':=[some (.br (.int i)),some (.br (.int i)),none]) ((eu rfl).trans rfl)).trans ?_;refine(aC (η':=[some (.br (.int i)),some (.br (.int i)),none]) ((eu rfl).trans rfl)).trans ?_;refine mN ((lq rfl).trans (oY ?_));simp[yk,Ju,bF,mJ,aB,L5,JL,ae,dh]
theorem Bk{xs:fc}(hl:xs.length≤1000)(oJ:∀y∈xs,dJ n [y,y]=some (.sh (.bl true))):dJ (n+1) [.tup xs,.tup xs]=some (.sh (.bl true)):=Bj rfl (fun _=>rfl) rfl rfl (.inl rfl) hl oJ
theorem La{xs:fc}(hl:xs.length≤1000)(oJ:∀y∈xs,dJ n [y,y]=some (.sh (.bl true))):dJ (n+1) [.lst xs,.lst xs]=some (.sh (.bl true)):=Bj rfl (fun _=>rfl) rfl rfl (.inr rfl) hl oJ
theorem FI{O T:D}:∀(a b:bL) (o2 o3:e9),a.length=b.length→(a=b∧∃YL YM,j9 (j8 2 (cf (aU true 2) (cf (aU true 3) j7))) dM (mO (a.map D.int) (b.map D.int)) [some (.sh O),some (.sh T),o2,o3]=some (.nx [some (.sh O),some (.sh T),YL,YM]))∨(a≠b∧j9 (j8 2 (cf (aU true 2) (cf (aU true 3) j7))) dM (mO (a.map D.int) (b.map D.int)) [some (.sh O),some (.sh T),o2,o3]=some (.rt (.sh (.bl (HT.lexLt a b)))))
  |[],[],o2,o3,_=>.inl ⟨rfl,o2,o3,rfl⟩
  |[],_::_,_,_,h=>by cases h
  |_::_,[],_,_,h=>by cases h
  |x::a,y::b,o2,o3,h=>by
   have hb:j8 2 (cf (aU true 2) (cf (aU true 3) j7)) (.tup [.int x,.int y]) [some (.sh O),some (.sh T),o2,o3]=some [some (.sh O),some (.sh T),some (.sh (.int x)),some (.sh (.int y))]:=rfl;have hz:mO ((x::a).map D.int) ((y::b).map D.int)=.tup [.int x,.int y]::mO (a.map D.int) (b.map D.int):=rfl;rw[hz];by_cases e:x=y
   · have hg:dM [some (.sh O),some (.sh T),some (.sh (.int x)),some (.sh (.int y))]=some (.nx [some (.sh O),some (.sh T),some (.sh (.int x)),some (.sh (.int y))]):=by
       unfold dM;refine(eu ?_).trans rfl;simp[bF,ae,aB,nA,e]
     have hf:j9 (j8 2 (cf (aU true 2) (cf (aU true 3) j7))) dM (.tup [.int x,.int y]::mO (a.map D.int) (b.map D.int)) [some (.sh O),some (.sh T),o2,o3]=j9 (j8 2 (cf (aU true 2) (cf (aU true 3) j7))) dM (mO (a.map D.int) (b.map D.int)) [some (.sh O),some (.sh T),some (.sh (.int x)),some (.sh (.int y))]:=by
       conv=>lhs;unfold j9
       rw[hb];simp only[cj,hg]
     rcases FI a b (some (.sh (.int x))) (some (.sh (.int y))) (by simpa using h) with⟨h1,YL,YM,h2⟩|⟨h1,h2⟩
     ·exact .inl ⟨by rw[e,h1],YL,YM,by rw[hf];exact h2⟩
     ·refine .inr ⟨fun z=>h1 (by injection z),?_⟩;rw[hf,h2,HT.gU,az e]
   · have hg:dM [some (.sh O),some (.sh T),some (.sh (.int x)),some (.sh (.int y))]=some (.rt (.sh (.bl (decide (x<y))))):=by
       unfold dM;refine(lq ?_).trans ?_
       ·simp[bF,ae,aB,nA,e]
       ·simp[et,ae,aB,jQ]
     refine .inr ⟨fun z=>e (by injection z),?_⟩
     conv=>lhs;unfold j9
     rw[hb];simp only[cj,hg];rw[HT.gU,ax e]
def wM(t:bL):Int×bL:=((t.length:Int),t)
theorem Lb(a b:bL):qO [.tup (a.map D.int),.tup (b.map D.int)]=some (.sh (.bl (kE (wM a) (wM b)))):=by
  refine jR ?_;show vz [some (.sh (.tup (a.map D.int))),some (.sh (.tup (b.map D.int))),none,none]=_;unfold vz kE wM;by_cases e:a.length=b.length
  · have e':(a.length:Int)=(b.length:Int):=by omega
    rw[az e'];refine(aC ((eu ?_).trans rfl)).trans ?_
    ·simp[bF,ae,ix,ag,aN,aB,dS,nA,e]
    · rcases FI (O:=.tup (a.map D.int)) (T:=.tup (b.map D.int)) a b none none e with⟨h1,o2,o3,h2⟩|⟨h1,h2⟩
      ·refine(aC ((gf (ds:=mO (a.map D.int) (b.map D.int)) rfl).trans h2)).trans ?_;subst h1;show _=some (Out.rt (.sh (.bl (HT.lexLt a a))));rw[kR];rfl
      ·exact mN ((gf (ds:=mO (a.map D.int) (b.map D.int)) rfl).trans h2)
  · have e':¬ (a.length:Int)=(b.length:Int):=by omega
    rw[ax e'];refine mN ((lq ?_).trans ?_)
    ·simp[bF,ae,ix,ag,aN,aB,dS,nA];omega
    ·simp[et,ae,ix,ag,aN,aB,dS,jQ]
def ahead(like:bL)(f:bL×Int):Bool:=kE (dD f) (wM like)
def putL(fs:dZ)(like:bL)(m:Int):dZ:=fs.takeWhile (ahead like)++(match fs.dropWhile (ahead like) with
  |b::B=>if b.1=like then(like,b.2+m)::B else(like,m)::b::B
  |[]=>[(like,m)])
def jF(fs:dZ)(r:bL×Int):dZ:=if 0<r.2 then putL fs (dq r.1) r.2 else fs
def tR(rs:dZ):dZ:=rs.foldl jF []
def fG(fs:dZ):Prop:=fs.Pairwise fun a b=>kE (dD a) (dD b)=true
theorem mY(fs:dZ)(like:bL):fs=fs.takeWhile (ahead like)++fs.dropWhile (ahead like):=(List.takeWhile_append_dropWhile).symm
theorem Bl(A B:dZ)(k:bL):bO (A++B) k=match bO A k with|some v=>some v|none=>bO B k:=by
  induction A with
  |nil=>rfl
  |cons a A ih =>
   rw[List.cons_append,cu,cu];by_cases e:a.1=k
   ·rw[az e,az e]
   ·rw[ax e,ax e];exact ih
theorem Bm{A:dZ}{k:bL}(h:∀f∈A,f.1≠k):bO A k=none:=sI.mpr fun z=>by obtain⟨f,h1,h2⟩:=gC.mp z;exact h f h1 h2
theorem Lc{a b:bL×Int}(h:a.1=b.1):dD a=dD b:=by unfold dD;rw[h]
theorem uf{fs:dZ}{f:bL×Int}(h:f∈fs.takeWhile (ahead like)):kE (dD f) (wM like)=true:=by have:=eX.mp (List.all_takeWhile (l:=fs) (p:=ahead like)) f h;exact this
theorem Oi{fs:dZ}{b:bL×Int}{B:dZ}(h:fs.dropWhile (ahead like)=b::B):kE (dD b) (wM like)=false:=by
  induction fs with
  |nil=>cases h
  |cons f fs ih =>
   rw[List.dropWhile_cons] at h;split at h
   ·exact ih h
   · rename_i q;cases h;have q':¬ kE (dD b) (wM like)=true:=q;cases e:kE (dD b) (wM like) with
     |false=>rfl
     |true=>exact absurd e q'
theorem ne_of_lt{f:bL×Int}(h:kE (dD f) (wM like)=true):f.1≠like:=fun e=>by
  have:dD f=wM like:=by unfold dD wM;rw[e]
  rw[this,lj] at h;cases h
theorem ne_of_gt{f:bL×Int}(h:kE (wM like) (dD f)=true):f.1≠like:=fun e=>by
  have:dD f=wM like:=by unfold dD wM;rw[e]
  rw[this,lj] at h;cases h
theorem behind{fs:dZ}(hr:fG fs){b:bL×Int}{B:dZ}(h:fs.dropWhile (ahead like)=b::B):(b.1=like∨kE (wM like) (dD b)=true)∧∀f∈B,kE (wM like) (dD f)=true:=by
  have hd:(b::B).Pairwise fun a b=>kE (dD a) (dD b)=true:=by
    have:fG (fs.takeWhile (ahead like)++fs.dropWhile (ahead like)):=by rw[←mY];exact hr
    have:=(List.pairwise_append.mp this).2.1;rw[h] at this;exact this
  obtain⟨h1,h2⟩:=List.pairwise_cons.mp hd;have BD:=Oi h;have hb:b.1=like∨kE (wM like) (dD b)=true:=by
    by_cases e:b.1=like
    ·exact .inl e
    ·refine .inr (tV (fun z=>e ?_) BD);unfold dD wM at z;injection z
  refine⟨hb,fun f hf=>?_⟩;rcases hb with e|e
  · have:dD b=wM like:=by unfold dD wM;rw[e]
    rw[←this];exact h1 f hf
  ·exact rN e (h1 f hf)
theorem Hq{fs:dZ}(hr:fG fs)(like:bL)(m:Int):fG (putL fs like m):=by
  have h0:fG (fs.takeWhile (ahead like)++fs.dropWhile (ahead like)):=by rw[←mY];exact hr
  obtain⟨p1,p2,p3⟩:=List.pairwise_append.mp h0;have lk:∀v:Int,dD (like,v)=wM like:=fun _=>rfl;unfold putL;cases hB:fs.dropWhile (ahead like) with
  |nil =>
   refine List.pairwise_append.mpr ⟨p1,List.pairwise_singleton _ _,fun a ha b hb=>?_⟩;have e:b=(like,m):=by simpa using hb
   rw[e,lk];exact uf ha
  |cons b B =>
   obtain⟨hb,WG⟩:=behind hr hB;rw[hB] at p2 p3;obtain⟨q1,q2⟩:=List.pairwise_cons.mp p2;show fG (_++(if b.1=like then(like,b.2+m)::B else(like,m)::b::B));by_cases e:b.1=like
   · rw[az e];refine List.pairwise_append.mpr ⟨p1,List.pairwise_cons.mpr ⟨fun f hf=>by rw[lk];exact WG f hf,q2⟩,fun a ha f hf=>?_⟩;rcases dc.mp hf with rfl|hf
     ·rw[lk];exact uf ha
     ·exact p3 a ha f (ef _ hf)
   · rw[ax e];have Bz:=hb.resolve_left e;refine List.pairwise_append.mpr ⟨p1,List.pairwise_cons.mpr ⟨fun f hf=>?_,p2⟩,fun a ha f hf=>?_⟩
     · rw[lk];rcases dc.mp hf with rfl|hf
       ·exact Bz
       ·exact WG f hf
     · rcases dc.mp hf with rfl|hf
       ·rw[lk];exact uf ha
       ·exact p3 a ha f hf
theorem Ld{fs:dZ}(hr:fG fs)(like:bL)(m:Int)(k:bL):bO (putL fs like m) k=if k=like then some ((bO fs like).getD 0+m) else bO fs k:=by
  have hA:bO (fs.takeWhile (ahead like)) like=none:=Bm fun f hf=>ne_of_lt (uf hf);have QT:∀k,bO fs k=match bO (fs.takeWhile (ahead like)) k with|some v=>some v|none=>bO (fs.dropWhile (ahead like)) k:=fun k=>by rw[←Bl,←mY]
  unfold putL;rw[Bl];cases hB:fs.dropWhile (ahead like) with
  |nil =>
   have h1:=QT like;rw[hA,hB] at h1;have Cu:bO fs like=none:=h1;by_cases e:k=like
   ·rw[az e,e,hA,Cu];show bO [(like,m)] like=_;rw[cu,az rfl];simp
   · rw[ax e,QT k,hB];have e0:bO [(like,m)] k=none:=by
       rw[cu,ax (show ¬ like=k from fun z=>e z.symm)];rfl
     show(match bO (fs.takeWhile (ahead like)) k with|some v=>some v|none=>bO [(like,m)] k)=_;rw[e0];rfl
  |cons b B =>
   obtain⟨hb,WG⟩:=behind hr hB;show(match bO (fs.takeWhile (ahead like)) k with|some v=>some v|none=>bO (if b.1=like then(like,b.2+m)::B else(like,m)::b::B) k)=_;by_cases eb:b.1=like
   · rw[az eb];have h1:=QT like;rw[hA,hB] at h1;have Cu:bO fs like=some b.2:=by rw[h1];show bO (b::B) like=_;rw[cu,az eb]
     by_cases e:k=like
     ·rw[az e,e,hA,Cu];show bO ((like,b.2+m)::B) like=_;rw[cu,az rfl];rfl
     ·rw[ax e,QT k,hB,cu,cu,ax (show ¬ like=k from fun z=>e z.symm),ax (show ¬ b.1=k from fun z=>e (z.symm.trans eb))]
   · rw[ax eb];have h1:=QT like;rw[hA,hB] at h1;have Cu:bO fs like=none:=by
       rw[h1];refine Bm fun f hf=>?_;rcases dc.mp hf with rfl|hf
       ·exact eb
       ·exact ne_of_gt (WG f hf)
     by_cases e:k=like
     ·rw[az e,e,hA,Cu];show bO ((like,m)::b::B) like=_;rw[cu,az rfl];simp
     ·rw[ax e,QT k,hB,cu,ax (show ¬ like=k from fun z=>e z.symm)]
theorem FJ{fs:dZ}(h:fG fs):(fs.map (·.1)).Nodup:=by unfold List.Nodup;rw[List.pairwise_map];exact h.imp fun {a b} m8 e=>by rw[Lc e,lj] at m8;cases m8
theorem Oj{fs gs:dZ}(hf:fG fs)(hg:fG gs)(h:∀k,bO fs k=bO gs k):fs=gs:=by
  have nd:∀{l:dZ},fG l→l.Nodup:=fun {l} hl=>hl.imp fun {a b} m8 e=>by rw[e,lj] at m8;cases m8
  have hp:fs.Perm gs:=(List.perm_ext_iff_of_nodup (nd hf) (nd hg)).mpr fun x=>by
    constructor
    ·intro hx;exact mW (by rw[←h];exact nK (FJ hf) (show(x.1,x.2)∈fs from hx))
    ·intro hx;exact mW (by rw[h];exact nK (FJ hg) (show(x.1,x.2)∈gs from hx))
  exact List.Perm.eq_of_pairwise (le:=fun a b=>kE (dD a) (dD b)=true) (fun a b _ _ h1 h2=>by have:=rN h1 h2;rw[lj] at this;cases this) hf hg hp
theorem Bn(hp:zA c ps):fG (jE ps):=by
  unfold jE fG;rw[List.pairwise_map];refine List.Pairwise.imp_of_mem (fun {a b} ha hb m8=>?_) (Av (FH hp));obtain⟨_,_,_,e1⟩:=pw hp ha;obtain⟨_,_,_,e2⟩:=pw hp hb;have ea:dD (a.2,(bO ps a.2).getD 0)=a:=by unfold dD;exact Prod.ext e1.symm rfl
  have eb:dD (b.2,(bO ps b.2).getD 0)=b:=by unfold dD;exact Prod.ext e2.symm rfl
  rw[ea,eb];exact m8
theorem Dz(hp:zA c ps)(k:bL):bO (jE ps) k=bO ps k:=by
  have Le:=mX hp;have nd2:((jE ps).map (·.1)).Nodup:=(Le.map _).nodup_iff.mpr hp.nd;cases e:bO ps k with
  |some v=>exact nK nd2 (Le.mem_iff.mpr (mW e))
  |none=>refine sI.mpr fun z=>sI.mp e ?_;exact(Le.map _).mem_iff.mp z
theorem Lf(h0:0≤c)(h:lJ c rs):∀{fs ps:dZ},zA c ps→fG fs→(∀k,bO fs k=bO ps k)→fG (rs.foldl jF fs)∧∀k,bO (rs.foldl jF fs) k=bO (rs.foldl gP ps) k:=by
  induction rs with
  |nil=>intro fs ps _ hf hg;exact⟨hf,hg⟩
  |cons r rs ih =>
   intro fs ps hp hf hg;have hr:=h r eR;have hr1:lJ c [r]:=fun x hx=>by
     have e:x=r:=by simpa using hx
     rw[e];exact hr
   have hp1:zA c (gP ps r):=(qW (rs:=[r]) h0 hr1 hp).1;rw[List.foldl_cons,List.foldl_cons];refine ih (fun x hx=>h x (ef _ hx)) hp1 ?_ fun k=>?_
   · unfold jF;split
     ·exact Hq hf _ _
     ·exact hf
   · unfold jF gP;by_cases q:0<r.2
     ·rw[az q,az q,Ld hf,K9,hg,hg]
     ·rw[ax q,ax q];exact hg k
theorem FK(h0:0≤c)(h:lJ c rs):tR rs=jE (lW rs):=by have hP:zA c (lW rs):=(qW (ps:=[]) h0 h ⟨List.nodup_nil,fun _ h=>nomatch h⟩).1;obtain⟨a,b⟩:=Lf h0 h (fs:=[]) (ps:=[]) ⟨List.nodup_nil,fun _ h=>nomatch h⟩ List.Pairwise.nil fun _=>rfl;refine Oj a (Bn hP) fun k=>?_;rw[Dz hP];exact b k
theorem Bo:∀(a b:bL),Ar (a.map D.int) (b.map D.int)=decide (a=b)
  |[],[]=>by rw[rq,Ar];rfl
  |[],y::b=>by rw[lh (by simp)];simp
  |x::a,[]=>by rw[lh (by simp)];simp
  |x::a,y::b=>by rw[cD,cD,Ar,Bo a b,dm];rw[pJ];simp
theorem Ol(a:bL)(n:Nat):(D.tup (a.map D.int)).iP (n+1)=true:=by rw[Rr];exact Nj _ _
theorem Om(a b:bL):dF (.tup (a.map D.int)) (.tup (b.map D.int))=some (.bl (decide (a=b))):=by unfold dF;rw[ax (by simp[CF,GF]),az (by simp[GN,Ol]),dm,Bo]
theorem Hr(f:bL×Int):(aT f).nR=true:=by unfold aT;rw[EA];simp only[List.all_cons,List.all_nil,Bool.and_true,p6];rw[EA];exact Jo _
theorem FL{fs:dZ}{f:bL×Int}(h:fs[j]?=some f):rJ (fs.map aT) (j:Int)=some (aT f):=kP (by rw[eU,h];rfl)
theorem Bp(f:bL×Int):iS (aT f) (.int 0)=some (.tup (f.1.map D.int)):=rfl
theorem Lg(f:bL×Int):iS (aT f) (.int 1)=some (.int f.2):=rfl
theorem Lh{R:e9}{N M:e9}(fs:dZ)(like:bL)(j:Nat):nI [R,some (.ol (fs.map aT)),N,M,some (.sh (.tup (like.map D.int))),some (.sh (.int (j:Int)))]=some (match fs[j]? with|some f=>ahead like f|none=>false):=by
  unfold nI;cases h:fs[j]? with
  |none=>have hj:fs.length≤j:=List.getElem?_eq_none_iff.mp h;have hd:decide ((j:Int)<((fs.map aT).length:Nat))=false:=gQ (by rw[bY];omega);simp only[eZ,bF,ae,aB,ix,ag,aN,dS,cV,dO,cj,eF,jQ,hd];rfl
  |some f=>have hj:j<fs.length:=(lR.mp h).1;have hd:decide ((j:Int)<((fs.map aT).length:Nat))=true:=mj (by rw[bY];omega);simp only[eZ,bF,ae,aB,eV,eI,eC,ix,bD,ag,aN,dS,cV,dO,cj,eF,jQ,hd,cw,uO,FL h,Hr,Bp,Lb];rfl
theorem FN{R N M:e9}(fs:dZ)(like:bL):∀(A:dZ) (pre:dZ) (n:Nat),fs=pre++A→A.length<n→lg nI nH n [R,some (.ol (fs.map aT)),N,M,some (.sh (.tup (like.map D.int))),some (.sh (.int (pre.length:Int)))]=some (.nx [R,some (.ol (fs.map aT)),N,M,some (.sh (.tup (like.map D.int))),some (.sh (.int ((pre.length+(A.takeWhile (ahead like)).length:Nat):Int)))])
  |[],pre,n+1,he,hn=>by
   unfold lg;rw[Lh];have:fs[pre.length]?=none:=by rw[he];simp
   rw[this];simp
  |f::A,pre,n+1,he,hn=>by
   have hf:fs[pre.length]?=some f:=by rw[he];simp
   have ht:=Lh (R:=R) (N:=N) (M:=M) fs like pre.length;rw[hf] at ht;unfold lg;rw[ht];simp only[cj];rw[List.takeWhile_cons];by_cases q:ahead like f=true
   · rw[az q,az q];have hg:nH [R,some (.ol (fs.map aT)),N,M,some (.sh (.tup (like.map D.int))),some (.sh (.int (pre.length:Int)))]=some (.nx [R,some (.ol (fs.map aT)),N,M,some (.sh (.tup (like.map D.int))),some (.sh (.int ((pre++[f]).length:Int)))]):=by
       unfold nH;simp[cy,ae,aB,eC,eD]
     rw[hg];have ih:=FN (R:=R) (N:=N) (M:=M) fs like A (pre++[f]) n (by rw[he];simp) (by simp at hn;omega);simp only[cj];rw[ih];have e:(pre++[f]).length+(A.takeWhile (ahead like)).length=pre.length+(f::A.takeWhile (ahead like)).length:=by simp;omega
     rw[e]
   ·rw[ax q,ax q];simp
theorem Li(fs:dZ)(like:bL)(m:Int):(putL fs like m).length≤fs.length+1:=by
  have e:=gG List.length (mY fs like);rw[lZ] at e;unfold putL;rw[lZ];cases h:fs.dropWhile (ahead like) with
  |nil=>rw[h] at e;simp at e⊢;omega
  |cons b B=>rw[h] at e;simp only[eW] at e;show _+(if b.1=like then(like,b.2+m)::B else(like,m)::b::B).length≤_;split<;>simp only[eW]<;>omega
theorem Si{R:e9}{fs:dZ}(hl:fs.length<90)(r:bL×Int)(o4 o5:e9):∃Tj o5',nJ [R,some (.ol (fs.map aT)),some (.br (.tup (r.1.map D.int))),some (.br (.int r.2)),o4,o5]=some (.nx [R,some (.ol ((jF fs r).map aT)),some (.br (.tup (r.1.map D.int))),some (.br (.int r.2)),Tj,o5']):=by
  unfold nJ
  let like:=dq r.1
  have Vs:jo (eL (fM 1 [2] (dE (eC (.int 6))) (aU true 0) (bF (ae (inD false) (aB 0) (aB 1))) (eV 0))) [R,some (.ol (fs.map aT)),some (.br (.tup (r.1.map D.int))),some (.br (.int r.2)),o4,o5]=some (.tup (like.map D.int)):=by
    have hr:(if (6:Int)≤10000∧-10000≤(6:Int) then some (cB 0 (6:Int).toNat) else none)=some ((List.range 6).map fun(i:Nat)=>D.int (0+(i:Int))):=rfl;have q:fL (aU true 0) (bF (ae (inD false) (aB 0) (aB 1))) (eV 0) ((List.range 6).map fun(i:Nat)=>D.int (0+(i:Int))) (List.replicate 1 none++[some (.br (.tup (r.1.map D.int)))])=some (like.map D.int):=by
      have h:=nz (b:=aU true 0) (t:=bF (ae (inD false) (aB 0) (aB 1))) (f:=eV 0) (η:=List.replicate 1 none++[some (.br (.tup (r.1.map D.int)))]) (fun(i:Nat)=>D.int (0+(i:Int))) (fun i=>r.1.contains (i:Int)) (fun i=>D.int (i:Int)) (xs:=List.range 6) (fun i _=>by
        refine⟨[some (.sh (.int (0+(i:Int)))),some (.br (.tup (r.1.map D.int)))],rfl,?_,fun _=>?_⟩
        ·have q:=Ni (n:=(i:Int)) (ms:=r.1) (S:=.tup (r.1.map D.int)) rfl;simp only[bF,ae,aB,cV,dO,cj,Int.zero_add,q]
        ·simp[eV])
      rw[h];show _=some ((dq r.1).map D.int);unfold dq NS.nameSet;rw[fB];rfl
    simp only[jo,eL,fM,dE,eC,cj,hr,oO,cD,rq,cV,dO,Option.getD_some,q,eF,fK]
  refine⟨some (.sh (.tup (like.map D.int))),some (.sh (.int (((fs.takeWhile (ahead like)).length:Nat):Int))),?_⟩;refine(aC (bX Vs)).trans ?_;refine(aC (bX (d:=.int 0) rfl)).trans ?_;simp only[jf,jI];have hw:=FN (R:=R) (N:=some (.br (.tup (r.1.map D.int)))) (M:=some (.br (.int r.2))) fs like fs [] 100 rfl (by omega);simp only[List.length_nil,Nat.zero_add] at hw;refine(aC hw).trans ?_;have B4:=mY fs like;have hal:(fs.takeWhile (ahead like)).length≤fs.length:=List.IsPrefix.length_le (List.takeWhile_prefix _);by_cases q:0<r.2
  · have xS:jF fs r=putL fs like r.2:=by unfold jF;rw[az q]
    rw[xS];cases hB:fs.dropWhile (ahead like) with
    |nil =>
     have hlen:(fs.takeWhile (ahead like)).length=fs.length:=by have:=gG List.length B4;rw[hB,xK] at this;exact this.symm
     refine(eu ?_).trans ?_
     ·have hd:decide (((fs.takeWhile (ahead like)).length:Int)<((fs.map aT).length:Nat))=false:=gQ (by rw[bY];omega);have h0:decide (0<r.2)=true:=mj q;simp only[eZ,bF,ae,aB,eC,ix,ag,aN,dS,cV,dO,cj,eF,lN,jQ,hd,h0,cw];rfl
     · refine(lq (by simp[bF,ae,aB,eC,lN,q])).trans ?_;have hz:0≤(((fs.takeWhile (ahead like)).length:Nat):Int)∧(((fs.takeWhile (ahead like)).length:Nat):Int).toNat≤(fs.map aT).length∧(fs.map aT).length<10000:=⟨by omega,by rw[bY];omega,by rw[bY];omega⟩
       simp only[qx,eV,oQ,ag,aN,cV,dO,cj,eF,p6,cw];rw[az (by simp)];simp only[cj,hz,and_self,cw,jf,jI];rw[nM,hlen,List.take_of_length_le (by rw[bY];exact bJ _),List.drop_of_length_le (by rw[bY];exact bJ _)];unfold putL;rw[hB,wg];have e:fs.takeWhile (ahead like)=fs:=by rw[hB,xK] at B4;exact B4.symm
       rw[e];rfl
    |cons b B =>
     have hb:fs[(fs.takeWhile (ahead like)).length]?=some b:=by
       have h1:(fs.takeWhile (ahead like)++b::B)[(fs.takeWhile (ahead like)).length]?=some b:=by simp
       rw[←hB,←B4] at h1;exact h1
     have dQ:(fs.takeWhile (ahead like)).length<fs.length:=(lR.mp hb).1;have Fg:=FL hb;have hd:decide (((fs.takeWhile (ahead like)).length:Int)<((fs.map aT).length:Nat))=true:=mj (by rw[bY];omega);have h0:decide (0<r.2)=true:=mj q;have heq:dF (.tup (b.1.map D.int)) (.tup (like.map D.int))=some (.bl (decide (b.1=like))):=Om b.1 like;have htest:eZ (bF (ae HK (aB 3) (eC (.int 0)))) (eZ (bF (ae yl (aB 5) (ix dS (ag (aB 1) aN)))) (bF (ae dF (ae iS (ae iS (aB 1) (aB 5)) (eC (.int 0))) (aB 4)))) [R,some (.ol (fs.map aT)),some (.br (.tup (r.1.map D.int))),some (.br (.int r.2)),some (.sh (.tup (like.map D.int))),some (.sh (.int (((fs.takeWhile (ahead like)).length:Nat):Int)))]=some (decide (b.1=like)):=by simp only[eZ,bF,ae,aB,eC,ix,ag,aN,dS,cV,dO,cj,eF,lN,jQ,hd,h0,cw,uO,Fg,Bp,heq]
     by_cases eb:b.1=like
     · rw[mj eb] at htest;refine(lq htest).trans ?_;have YK:L3 (fs.map aT).length (((fs.takeWhile (ahead like)).length:Nat):Int)=some (fs.takeWhile (ahead like)).length:=by
         unfold L3;rw[az (by omega),az (by rw[bY];omega)];simp
       simp only[Nh,oQ,eV,ae,aB,eC,ag,aN,cV,dO,cj,eF,uO,Fg,Lg,eD];rw[az (by simp)];simp only[cj,YK,eF,jf,jI];have e:(fs.map aT).set (fs.takeWhile (ahead like)).length (.tup [.tup (like.map D.int),.int (b.2+r.2)])=(putL fs like r.2).map aT:=by
         unfold putL;rw[hB];show _=((fs.takeWhile (ahead like))++(if b.1=like then(like,b.2+r.2)::B else(like,r.2)::b::B)).map aT;rw[az eb];have e1:fs.map aT=(fs.takeWhile (ahead like)).map aT++aT b::B.map aT:=by
           have h1:(fs.takeWhile (ahead like)++b::B).map aT=(fs.takeWhile (ahead like)).map aT++aT b::B.map aT:=by rw[wg];rfl
           rw[←hB,←B4] at h1;exact h1
         rw[e1,wg];have Vt:(fs.takeWhile (ahead like)).length=((fs.takeWhile (ahead like)).map aT).length:=(bY _).symm
         conv=>lhs;rw[Vt]
         rw[List.set_append_right _ _ (bJ _),Nat.sub_self];rfl
       rw[e]
     · rw[gQ eb] at htest;refine(eu htest).trans ?_;refine(lq (by simp[bF,ae,aB,eC,lN,q])).trans ?_;have hz:0≤(((fs.takeWhile (ahead like)).length:Nat):Int)∧(((fs.takeWhile (ahead like)).length:Nat):Int).toNat≤(fs.map aT).length∧(fs.map aT).length<10000:=⟨by omega,by rw[bY];omega,by rw[bY];omega⟩
       simp only[qx,eV,oQ,ag,aN,cV,dO,cj,eF,p6,cw];rw[az (by simp)];simp only[cj,hz,and_self,cw,jf,jI];have e:(fs.map aT).take (((fs.takeWhile (ahead like)).length:Nat):Int).toNat++D.tup [.tup (like.map D.int),.int r.2]::(fs.map aT).drop (((fs.takeWhile (ahead like)).length:Nat):Int).toNat=(putL fs like r.2).map aT:=by
         rw[nM];unfold putL;rw[hB];show _=((fs.takeWhile (ahead like))++(if b.1=like then(like,b.2+r.2)::B else(like,r.2)::b::B)).map aT;rw[ax eb];have e1:fs.map aT=(fs.takeWhile (ahead like)).map aT++aT b::B.map aT:=by
           have h1:(fs.takeWhile (ahead like)++b::B).map aT=(fs.takeWhile (ahead like)).map aT++aT b::B.map aT:=by rw[wg];rfl
           rw[←hB,←B4] at h1;exact h1
         rw[e1,wg];have Vt:(fs.takeWhile (ahead like)).length=((fs.takeWhile (ahead like)).map aT).length:=(bY _).symm
         conv=>lhs;rw[Vt]
         rw[List.take_left,List.drop_left];rfl
       rw[e]
  · have xS:jF fs r=fs:=by unfold jF;rw[ax q]
    rw[xS];have h0:decide (0<r.2)=false:=gQ q;refine(eu ?_).trans ?_
    ·simp only[eZ,bF,ae,aB,eC,cV,dO,cj,lN,h0];rfl
    ·refine(eu ?_).trans rfl;simp only[bF,ae,aB,eC,cV,dO,cj,lN,h0]
theorem Hs(fs:dZ)(r:bL×Int):(jF fs r).length≤fs.length+1:=by
  unfold jF;split
  ·exact Li _ _ _
  ·omega
theorem Lj(rs:dZ)(hl:rs.length≤70):ud [.lst (rs.map aT)]=some (.ol ((tR rs).map aT)):=by
  obtain⟨η',e,o2,o3,o4,o5,_,rfl⟩:=lr (b:=j8 2 (cf (aU false 2) (cf (aU false 3) j7))) (g:=nJ) aT (fun i (fs:dZ) η=>∃o2 o3 o4 o5,fs.length≤i∧η=[some (.br (.lst (rs.map aT))),some (.ol (fs.map aT)),o2,o3,o4,o5]) jF (xs:=rs)
    (η:=[some (.br (.lst (rs.map aT))),some (.ol []),none,none,none,none]) 0 [] ⟨none,none,none,none,bJ _,rfl⟩ (fun i x fs η hx ⟨o2,o3,o4,o5,hf,e⟩=>by
      subst e;have hi:=(lR.mp hx).1;obtain⟨Tj,o5',q⟩:=Si (R:=some (.br (.lst (rs.map aT)))) (fs:=fs) (by omega) x o4 o5;refine⟨_,_,rfl,q,_,_,_,_,?_,rfl⟩;have:=Hs fs x;omega)
  refine jR ?_;show zh [some (.br (.lst (rs.map aT))),none,none,none,none,none]=_;unfold zh;refine(aC (ny (d:=[]) rfl)).trans ?_;refine(aC ((gf (ds:=rs.map aT) rfl).trans e)).trans ?_;rfl
theorem Lk{T:bL}(h:T.length≤100):dJ (n+2) [.tup (T.map D.int),.tup (T.map D.int)]=some (.sh (.bl true)):=by refine Bk (by rw[bY];omega) fun y hy=>?_;obtain⟨i,_,rfl⟩:=gC.mp hy;exact same_int n i
theorem DC{hs:dZ}(hl:hs.length≤100)(h:∀x∈hs,x.1.length≤100):dJ 6 [.lst (hs.map aT),.lst (hs.map aT)]=some (.sh (.bl true)):=by
  refine La (by rw[bY];omega) fun y hy=>?_;obtain⟨x,hx,rfl⟩:=gC.mp hy;unfold aT;refine Bk (by simp) fun y hy=>?_;simp only[dc,wc,or_false] at hy;rcases hy with rfl|rfl
  ·exact Lk (n:=2) (h x hx)
  ·exact same_int 3 _
def Cd(l:List Nat):Prop:=∀c∈l,97≤c∧c≤122
theorem DF{a b:List Nat}(h:a.length+b.length≤1000):AR (.str (tx a)) (.str (tx b))=some (.str (tx (a++b))):=by show(if (tx a).length+(tx b).length≤1000 then some (D.str (tx a++tx b)) else none)=_;rw[jD,jD,az h,Dx]
theorem P1{l:List Nat}{c:Nat}(hl:l.length≤1000)(h:l[k]?=some c):NB (.str (tx l)) (.int (k:Int))=some (.str (tx [c])):=by show(if (tx l).length≤1000 then(rJ (tx l).cps.toList (k:Int)).map (fun c=>D.str ⟨#[c]⟩) else none)=_;rw[jD,az hl,Dw,kP h];rfl
theorem Oo(h:k<26):lets[k]?=some (97+k):=by unfold lets;rw[eU,List.getElem?_range h];rfl
theorem Ln(h:k<26):NB (.str fA) (.int (k:Int))=some (.str (tx [97+k])):=by rw[vK];exact P1 (by decide) (Oo h)
theorem P2(y:Int):∃k:Nat,k<26∧y%26=(k:Int):=by have h0:=pI y (show(26:Int)≠0 by decide);have h1:=tf y (show(0:Int)<26 by decide);exact⟨(y%26).toNat,by omega,by omega⟩
theorem DH(ns:bL)(k:Nat):cZ [.lst (ns.map D.int),.int (k:Int)]=some (.sh (.int (ns.getD k 0))):=by
  by_cases h:k<ns.length
  · have h1:(k:Int)<((ns.map D.int).length:Nat):=by simp;omega
    have h2:rJ (ns.map D.int) (k:Int)=some (.int ns[k]):=kP (by simp[h])
    simp[cZ,pF,iJ,sE,bj,iO,bF,ae,aB,eV,ix,ag,aN,dS,et,eC,yl,iI,iS,bT,h,h2]
  ·simp[cZ,pF,iJ,sE,bj,iO,bF,ae,aB,eV,ix,ag,aN,dS,et,eC,yl,iI,iS,bT,h]
abbrev gL(c:Int)(b:List Nat)(y:Int)(o:e9):aY:=[some (.sh (.int c)),some (.sh (.int 12)),some (.sh (.str (tx b))),some (.sh (.int y)),o]
theorem Bq(c:Int)(b:List Nat)(y k:Int)(hb:b.length≤100)(hj:j<26)(e:y%26=(j:Int)):cy 2 (ae AR (aB 2) (ae NB (eC (.str fA)) (ae cM (aB 3) (eC (.int 26))))) (gL c b y (some (.sh (.int k))))=some (.nx (gL c (b++[97+j]) y (some (.sh (.int k))))):=by have hm:iy y 26=true:=rfl;have h1:=Ln hj;have h2:=DF (a:=b) (b:=[97+j]) (by simp;omega);refine bX (d:=.str (tx (b++[97+j]))) ?_;simp only[ae,aB,eC,gL,cV,dO,cj,cq hm,e,h1,h2]
theorem Oq(hc:c%2=0)(b:List Nat)(y k:Int)(hb:b.length≤100)(h0:0≤y)(h1:y<2147483647):∃j<26,iA (gL c b y (some (.sh (.int k))))=some (.nx (gL c (b++[97+j]) ((y*y+48271*y+k+1)%2147483647) (some (.sh (.int k))))):=by
  have hm:∀x,iy x 2147483647=true:=fun _=>rfl;have wC:∀x,iy x 2=true:=fun _=>rfl;have h4:mulC y y=true:=yu (by omega) (by omega);have h5:mulC 48271 y=true:=CK (by decide) (by decide);obtain⟨j,hj,e⟩:=P2 ((y*y+48271*y+k+1)%2147483647);refine⟨j,hj,?_⟩;unfold iA;refine(aC (η':=gL c b ((y*y+48271*y+k+1)%2147483647) (some (.sh (.int k)))) ((lq ?_).trans ?_)).trans ?_
  ·simp[bF,ae,aB,eC,gL,cq (wC _),dh,hc]
  ·refine bX ?_;simp[ae,aB,eC,gL,cq (hm _),oX h4,oX h5,eD]
  refine(aC (Bq c b _ k hb hj e)).trans ?_;refine(eu ?_).trans rfl;simp[bF,ae,aB,eC,gL,cq (wC _),dh,hc]
theorem Ot(hc:c%2=1)(b:List Nat)(y k:Int)(hb:b.length≤100):∃j<26,iA (gL c b y (some (.sh (.int k))))=some (.nx (gL c (b++[97+j]) (y / 26) (some (.sh (.int k))))):=by
  have wC:∀x,iy x 2=true:=fun _=>rfl;have hd:divC y 26=true:=rfl;obtain⟨j,hj,e⟩:=P2 y;refine⟨j,hj,?_⟩;unfold iA;refine(aC (η':=gL c b y (some (.sh (.int k)))) ((eu ?_).trans rfl)).trans ?_
  ·simp[bF,ae,aB,eC,gL,cq (wC _),dh,hc]
  refine(aC (Bq c b _ k hb hj e)).trans ?_;refine(lq ?_).trans ?_
  ·simp[bF,ae,aB,eC,gL,cq (wC _),dh,hc]
  ·refine bX ?_;simp[ae,aB,eC,gL,div_ii hd]
theorem Cd.snoc{b:List Nat}(h:Cd b)(hj:j<26):Cd (b++[97+j]):=fun c hc=>by
  rcases mh.mp hc with q|q
  ·exact h c q
  · have:c=97+j:=by simpa using q
    omega
theorem Sj(c:Int):∃b:List Nat,b.length=12∧Cd b∧vx [.int c,.int 12]=some (.sh (.str (tx b))):=by
  have hd:divC c 2=true:=rfl;have hm:∀x,iy x 2=true:=fun _=>rfl;have start:∀(y:Int) (η':aY),(iO (bF (ae dF (ae cM (aB 0) (eC (.int 2))) (eC (.int 0)))) (cy 3 (ae cM (ae gd (ae wA (ae cM (aB 3) (eC (.int 2147483647))) (eC (.int 16807))) (eC (.int 11))) (eC (.int 2147483647)))) bT (gL c [] (c / 2) none)=some (.nx (gL c [] y none)))→j9 (aU true 4) iA (cB 0 12) (gL c [] y none)=some (.nx η')→∀b y' o,η'=gL c b y' o→vx [.int c,.int 12]=some (.sh (.str (tx b))):=fun y η' hs hf b y' o e=>by subst e;refine jR ?_;show Dt [some (.sh (.int c)),some (.sh (.int 12)),none,none,none]=_;unfold Dt;refine(aC (bX (d:=.str (tx [])) rfl)).trans ?_;refine(aC (bX (d:=.int (c / 2)) (by simp[ae,aB,eC,div_ii hd]))).trans ?_;refine(aC hs).trans ?_;exact(aC ((gf (ds:=cB 0 12) rfl).trans hf)).trans rfl
  by_cases h:c%2=1
  · obtain⟨η',e,b,y,o,h1,h2,rfl⟩:=jr (b:=aU true 4) (g:=iA) (ds:=cB 0 12) (η:=gL c [] (c / 2) none)
      (fun i η=>∃(b:List Nat) (y:Int) (o:e9),b.length=i∧Cd b∧η=gL c b y o) 0
      ⟨[],c / 2,none,rfl,(fun _ h=>nomatch h),rfl⟩ (fun i d η hd ⟨b,y,o,h1,h2,e⟩=>by
        subst e;rw[g9,eU] at hd;obtain⟨k,hk,rfl⟩:=iD.mp hd;have hi:i<12:=by have:=(lR.mp hk).1;simpa using this
        obtain⟨j,hj,q⟩:=Ot h b y k (by omega);exact⟨gL c b y (some (.sh (.int k))),_,rfl,.inl q,b++[97+j],_,_,by simp;omega,h2.snoc hj,rfl⟩)
    refine⟨b,h1,h2,start _ _ ?_ e _ _ _ rfl⟩;refine(eu ?_).trans rfl;simp[bF,ae,aB,eC,gL,cq (hm _),dh,h]
  · have h':c%2=0:=by omega
    obtain⟨η',e,b,y,o,h1,h2,_,_,rfl⟩:=jr (b:=aU true 4) (g:=iA) (ds:=cB 0 12) (η:=gL c [] ((c / 2%2147483647*16807+11)%2147483647) none)
      (fun i η=>∃(b:List Nat) (y:Int) (o:e9),b.length=i∧Cd b∧0≤y∧y<2147483647∧η=gL c b y o) 0
      ⟨[],_,none,rfl,(fun _ h=>nomatch h),pI _ (by decide),tf _ (by decide),rfl⟩ (fun i d η hd ⟨b,y,o,h1,h2,h3,h4,e⟩=>by
        subst e;rw[g9,eU] at hd;obtain⟨k,hk,rfl⟩:=iD.mp hd;have hi:i<12:=by have:=(lR.mp hk).1;simpa using this
        obtain⟨j,hj,q⟩:=Oq h' b y k (by omega) h3 h4;exact⟨gL c b y (some (.sh (.int k))),_,rfl,.inl q,b++[97+j],_,_,by simp;omega,h2.snoc hj,pI _ (by decide),tf _ (by decide),rfl⟩)
    refine⟨b,h1,h2,start _ _ ?_ e _ _ _ rfl⟩;have Sl:∀x,iy x 2147483647=true:=fun _=>rfl;have wC:mulC (c / 2%2147483647) 16807=true:=yu (by decide) (by decide);refine(lq ?_).trans (bX ?_)
    ·simp[bF,ae,aB,eC,gL,cq (hm _),dh,h']
    ·simp[ae,aB,eC,gL,cq (Sl _),oX wC,eD]
def wordAt(b:List Nat)(p s k:Nat):List Nat:=b.take p++[97+(b.getD p 0-97+3*k)%26]++(b.drop (p+1)).take (s-(p+1))
theorem Sn{b:List Nat}(hb:b.length=12)(hc:Cd b){p s:Nat}(hp:p<s)(hs:s≤12)(hk:k<6):zf [.str (tx b),.int (p:Int),.int (s:Int),.int (k:Int)]=some (.sh (.str (tx (wordAt b p s k)))):=by
  have hpb:p<b.length:=by omega
  have Fg:b[p]?=some b[p]:=eQ hpb;have hr:=hc b[p] (List.getElem_mem hpb);have hg:b.getD p 0=b[p]:=by rw[jd,Fg];rfl
  have h1:=P1 (l:=b) (k:=p) (c:=b[p]) (by omega) Fg
  have h2:findD (.str fA) (.str (tx [b[p]]))=some (.int ((b[p]-97:Nat):Int)):=by have:=K8 (b[p]-97) (by omega);rw[show 97+(b[p]-97)=b[p] by omega] at this;show some (D.int (Txt.find fA (tx [b[p]])))=_;rw[this]
  have h3:mulC 3 (k:Int)=true:=CK (by decide) (by decide);have hm:∀x,iy x 26=true:=fun _=>rfl;have e4:((((b[p]-97:Nat):Int)+3*(k:Int))%26)=(((b[p]-97+3*k)%26:Nat):Int):=by omega
  have h4:=Ln (k:=(b[p]-97+3*k)%26) (Nat.mod_lt _ (by decide));refine jR ?_;show Du [some (.sh (.str (tx b))),some (.sh (.int p)),some (.sh (.int s)),some (.sh (.int k)),none,none]=_;unfold Du;refine(aC (bX (d:=.str fA) rfl)).trans ?_;refine(aC (bX (d:=.str (tx [97+(b[p]-97+3*k)%26])) ?_)).trans ?_
  ·simp only[ae,aB,eC,jf,jI,cV,dO,cj,h1,h2,oX h3,eD,cq (hm _),e4,h4]
  refine oY ?_;have s1:=FC b p (by omega);have s2:=Be b (p+1) s (by omega) (by omega);have c1:=DF (a:=b.take p) (b:=[97+(b[p]-97+3*k)%26]) (by simp;omega);have c2:=DF (a:=b.take p++[97+(b[p]-97+3*k)%26]) (b:=(b.drop (p+1)).take (s-(p+1))) (by simp;omega);have hl:(tx b).length≤1000:=by rw[jD];omega
  have e5:(p:Int)+1=((p+1:Nat):Int):=by omega
  simp only[ae,aB,eC,Dc,Ao,gN,jf,jI,cV,dO,cj,eF,eD,hl,cw,s1,c1,e5,s2,c2];rw[wordAt,hg]
theorem DJ{b:List Nat}(hb:b.length=12){p s:Nat}(hp:p<s)(hs:s≤12):(wordAt b p s k).length=s:=by unfold wordAt;simp;omega
theorem Ht{b:List Nat}(hc:Cd b)(p s k:Nat):Cd (wordAt b p s k):=fun c h=>by
  unfold wordAt at h;rcases mh.mp h with h|h
  · rcases mh.mp h with h|h
    ·exact hc c (List.mem_of_mem_take h)
    · have:c=97+(b.getD p 0-97+3*k)%26:=by simpa using h
      omega
  ·exact hc c (List.mem_of_mem_drop (List.mem_of_mem_take h))
theorem DK{b:List Nat}(hb:b.length=12){p s k':Nat}(hp:p<12)(hk:k<6)(HM:k'<6)(h:wordAt b p s k=wordAt b p s k'):k=k':=by
  have e:=gG (fun l:List Nat=>l[p]?) h;have hl:(b.take p).length=p:=by simp;omega
  have key:∀k,(wordAt b p s k)[p]?=some (97+(b.getD p 0-97+3*k)%26):=fun k=>by unfold wordAt;rw[xE (by simp;omega),xD (by omega),hl];simp
  simp only[key] at e;have e':97+(b.getD p 0-97+3*k)%26=97+(b.getD p 0-97+3*k')%26:=jJ e;omega
theorem DQ(lo:Int)(m:Nat):(cB lo m).length=m:=by simp[cB]
structure kM (ws:List (List Nat)):Prop where
  one:1≤ws.length
  six:ws.length≤6
  nd:ws.Nodup
  len:∀w∈ws,1≤w.length∧w.length≤12
  cd:∀w∈ws,Cd w
theorem Sq{l:List (List Nat)}(h:l.Nodup):l.reverse.Nodup:=by unfold List.Nodup at h⊢;rw[List.pairwise_reverse];exact h.imp fun {a b} m8 e=>m8 e.symm
theorem kM.rev(h:kM ws):kM ws.reverse :=
  ⟨by simpa using h.one,by simpa using h.six,Sq h.nd,fun w hw=>h.len w (by simpa using hw),fun w hw=>h.cd w (by simpa using hw)⟩
def wD(ws:List (List Nat)):fc:=ws.map fun w=>D.str (tx w)
theorem Lp(ws:List (List Nat)):(wD ws).reverse=wD ws.reverse:=by unfold wD;rw[List.map_reverse]
theorem ug(ws:List (List Nat)):wD ws=(ws.map tx).map D.str:=by unfold wD;rw[fB];rfl
theorem Ou(ns:bL){m:Nat}(h1:1≤m)(h6:m≤6):∃ws,kM ws∧uc [.lst (ns.map D.int),.int 1,.int (m:Int)]=some (.ol (wD ws)):=by
  obtain⟨b,hb,hc,eb⟩:=Sj (ns.getD 2 0)
  let cell:=ns.getD 1 0
  obtain⟨s,hs1,kx,es⟩:∃s:Nat,1≤s∧s≤12∧1+cell%12=(s:Int):=by have h0:=pI cell (show(12:Int)≠0 by decide);have h1:=tf cell (show(0:Int)<12 by decide);exact⟨(1+cell%12).toNat,by omega,by omega,by omega⟩
  obtain⟨p,hp,ep⟩:∃p:Nat,p<s∧cell / 48%(s:Int)=(p:Int):=by have h0:=pI (cell / 48) (show(s:Int)≠0 by omega);have h1:=tf (cell / 48) (show(0:Int)<(s:Int) by omega);exact⟨(cell / 48%(s:Int)).toNat,by omega,by omega⟩
  let f:Nat→List Nat:=fun k=>if cell / 12%4=1 then b.take (k+1) else wordAt b p s k
  have Vu:cZ [.lst (ns.map D.int),.int 1]=some (.sh (.int cell)):=DH ns 1;have Sr:cZ [.lst (ns.map D.int),.int 2]=some (.sh (.int (ns.getD 2 0))):=DH ns 2;have YN:divC cell 48=true:=rfl;have Vv:divC cell 12=true:=rfl;have hm4:∀x,iy x 4=true:=fun _=>rfl;have YQ:∀x,iy x 12=true:=fun _=>rfl;have nZ:∀x,iy x (s:Int)=true:=fun x=>CL (by omega)
  let env:List (List Nat)→e9→e9→aY:=fun ws o7 o8=>[some (.sh (.lst (ns.map D.int))),some (.sh (.int 1)),some (.sh (.int (m:Int))),some (.sh (.int cell)),some (.sh (.int (s:Int))),some (.sh (.str (tx b))),some (.ol (wD ws)),o7,o8]
  obtain⟨η',e,o7,o8,rfl⟩:=jr (b:=aU true 7) (g:=sF) (ds:=cB 0 m) (η:=env [] none none)
    (fun i η=>∃o7 o8,η=env ((List.range i).map f) o7 o8) 0 ⟨none,none,rfl⟩ (fun i d η hd ⟨o7,o8,e⟩=>by
      subst e;rw[Nat.zero_add];rw[g9,eU,eU] at hd;obtain⟨k,hk,rfl⟩:=iD.mp hd;obtain⟨k',HM,rfl⟩:=iD.mp hk;have hi:i<m:=by have:=(lR.mp HM).1;simpa using this
      rw[List.getElem?_range hi] at HM;cases HM;rw[Int.zero_add];have ew:=Sn hb hc hp kx (show i<6 by omega);have s1:=FC b (i+1) (by omega);have hl:(tx b).length≤1000:=by rw[jD];omega
      have e5:(i:Int)+1=((i+1:Nat):Int):=by omega
      refine⟨env ((List.range i).map f) (some (.sh (.int i))) o8,env ((List.range (i+1)).map f) (some (.sh (.int i))) (some (.sh (.str (tx (f i))))),rfl,.inl ?_,_,_,rfl⟩;unfold sF;refine(aC (bX (d:=.str (tx (wordAt b p s i))) ?_)).trans ?_
      ·simp only[bD,ag,aN,eV,aB,ae,eC,env,cV,dO,cj,eF,div_ii YN,cq (nZ _),ep,ew]
      refine(aC (η':=env ((List.range i).map f) (some (.sh (.int i))) (some (.sh (.str (tx (f i)))))) ?_).trans ?_
      · by_cases q:cell / 12%4=1
        · refine(lq ?_).trans ?_
          ·simp[bF,ae,aB,eC,env,div_ii Vv,cq (hm4 _),dh,q]
          ·have hf:f i=b.take (i+1):=az q;rw[hf];refine bX ?_;simp only[Dc,ae,aB,eC,Ao,gN,env,jf,jI,cV,dO,cj,eF,eD,hl,cw,e5,s1]
        · refine(eu ?_).trans ?_
          ·simp[bF,ae,aB,eC,env,div_ii Vv,cq (hm4 _),dh,q]
          ·have hf:f i=wordAt b p s i:=ax q;rw[hf];rfl
      · have hz:(wD ((List.range i).map f)).length<10000:=by simp[wD];omega
        simp only[ie,eV,env,cV,dO,cj,hz,cw,jf,jI];rw[List.range_succ,wg];simp[wD])
  rw[DQ,Nat.zero_add] at e;have fl:∀k<6,1≤(f k).length∧(f k).length≤12∧Cd (f k):=fun k hk=>by
    simp only[f];split
    ·exact⟨by simp;omega,by simp;omega,fun c h=>hc c (List.mem_of_mem_take h)⟩
    ·have:=DJ (k:=k) hb hp kx;exact⟨by omega,by omega,Ht hc _ _ _⟩
  have fi:∀k<6,∀k'<6,f k=f k'→k=k':=fun k hk k' HM h=>by
    simp only[f] at h;split at h
    ·have:=gG List.length h;simp at this;omega
    ·exact DK hb (by omega) hk HM h
  refine⟨(List.range m).map f,⟨by simp;omega,by simp;omega,?_,?_,?_⟩,jR ?_⟩
  ·unfold List.Nodup;rw[List.pairwise_map];refine List.Pairwise.imp_of_mem (fun {a b} ha hb m8=>?_) (List.nodup_range (n:=m));have h1:=ml.mp ha;have h2:=ml.mp hb;exact fun z=>m8 (fi a (by omega) b (by omega) z)
  ·intro w hw;obtain⟨k,hk,rfl⟩:=gC.mp hw;have:=fl k (by have:=ml.mp hk;omega);exact⟨this.1,this.2.1⟩
  ·intro w hw;obtain⟨k,hk,rfl⟩:=gC.mp hw;exact(fl k (by have:=ml.mp hk;omega)).2.2
  · show zg [some (.sh (.lst (ns.map D.int))),some (.sh (.int 1)),some (.sh (.int (m:Int))),none,none,none,none,none,none]=_;unfold zg;refine(aC (bX (d:=.int cell) ?_)).trans ?_
    ·simp only[bD,ag,aN,eV,cV,dO,cj,eF,Vu]
    refine(aC (bX (d:=.int (s:Int)) ?_)).trans ?_
    ·simp only[ae,aB,eC,jf,jI,cV,dO,cj,cq (YQ _),eD,es]
    refine(aC (bX (d:=.str (tx b)) ?_)).trans ?_
    ·have e2:(1:Int)+1=2:=rfl;simp only[bD,ag,aN,eV,ae,aB,eC,jf,jI,cV,dO,cj,eF,eD,e2,Sr,eb]
    refine(aC (ny (d:=[]) rfl)).trans ?_;have hr:dE (aB 2) (env [] none none)=some (cB 0 m):=by simp only[dE,aB,env,cV,dO,cj];rw[az ⟨by omega,by omega⟩,nM]
    exact(aC ((gf hr).trans e)).trans rfl
theorem Lq{w:List Nat}(h1:1≤w.length)(h2:w.length≤12)(hc:Cd w):jU [.str (tx w)]=some (.sh (.bl true)):=by
  have hl:(tx w).length≤1000:=by rw[jD];omega
  refine jR ?_;show mV [some (.sh (.str (tx w)))]=_;unfold mV;refine(aC ((eu ?_).trans rfl)).trans ?_
  ·have e0:mJ "str" (aB 0) [some (.sh (.str (tx w)))]=some (.bl true):=rfl;have a1:decide ((w.length:Int)<1)=false:=gQ (by omega);have a2:decide ((12:Int)<(w.length:Int))=false:=gQ (by omega);simp only[iR,jm,bF,e0,cj,eF,Bool.not_true,ae,ix,ag,aN,aB,eC,Ko,cV,cw,jD,(show w.length≤1000 by omega),jQ,lN,a1,a2];rfl
  refine oY ?_;have q:fL (aU true 0) jO (ae (RP false) (aB 0) (eC (.str fA))) (w.map fun c=>D.str (tx [c])) [none]=some (w.map fun _=>D.bl true):=by
    refine kG (fun c:Nat=>D.str (tx [c])) (fun _=>D.bl true) fun c hm=>⟨[some (.sh (.str (tx [c])))],rfl,rfl,?_⟩
    have e:=Od c;rw[mj (hc c hm)] at e;simp only[ae,aB,eC,cV,cj,RP,Bool.false_xor,e]
  have es:ly (tx w)=w.map fun c=>D.str (tx [c]):=by unfold ly;rw[Dw];rfl
  have eb:Kr (w.map fun _=>D.bl true)=some (w.map fun _=>true):=by
    clear q es hl hc h1 h2;induction w with
    |nil=>rfl
    |cons c w ih=>rw[cD,Kr,ih];rfl
  have ea:((w.map fun _=>true).all id)=true:=by rw[eX];intro x hx;obtain⟨_,_,rfl⟩:=gC.mp hx;rfl
  have q':fL (aU true 0) jO (ae (RP false) (aB 0) (eC (.str "abcdefghijklmnopqrstuvwxyz"))) (w.map fun c=>D.str (tx [c])) (List.replicate 1 none++[])=some (w.map fun _=>D.bl true):=q;simp only[ix,ag,aN,eL,fM,yG,aB,cV,cj,hl,cw,es,oO,rq,q',eF,NK,eb,ea]
theorem Br{ys:dB}(h:ys.Nodup):∀i,i≤ys.length→NR.fN (fun i=>ys.getD i ⟨#[]⟩) i=ys.take i
  |0,_=>by rw[NR.fN,List.take_zero]
  |i+1,hi=>by
   have dQ:i<ys.length:=by omega
   have ih:=Br h i (by omega);have hg:ys.getD i ⟨#[]⟩=ys[i]:=by rw[jd,eQ dQ];rfl
   rw[NR.fN,ih,hg];have hn:ys[i]∉ys.take i:=fun z=>by
     obtain⟨j,hj,e⟩:=List.getElem_of_mem z;have Jj:j<i:=by rw[List.length_take] at hj;omega
     rw[List.getElem_take] at e;have:=(List.getElem_inj h).mp e;omega
   rw[ax hn,List.take_succ,eQ dQ];rfl
theorem Lr{ys:dB}(h:ys.Nodup):A5 ys=ys.length:=by unfold A5;rw[Br h ys.length (bJ _),List.take_length]
theorem Vw(h:ws.Nodup):(ws.map tx).Nodup:=by unfold List.Nodup at h⊢;rw[List.pairwise_map];exact h.imp fun {a b} m8 e=>m8 (vJ e)
theorem Ls(h:kM ws):gq [.lst (wD ws)]=some (.sh .non):=by
  obtain⟨η',e,o,rfl⟩:=kF (b:=aU false 1) (g:=ia) (fun w=>D.str (tx w)) (fun(_:Unit) η=>∃o,η=[some (.br (.lst (wD ws))),o]) (fun _ _=>()) (xs:=ws) (η:=[some (.br (.lst (wD ws))),none]) () ⟨_,rfl⟩ (fun w hw s η ⟨o,e⟩=>by
    subst e;refine⟨[some (.br (.lst (wD ws))),some (.br (.str (tx w)))],[some (.br (.lst (wD ws))),some (.br (.str (tx w)))],rfl,?_,_,rfl⟩;unfold ia;refine(eu ?_).trans rfl;simp only[jm,bF,bD,ag,aN,eV,cV,dO,cj,eF,EB,cw,Lq (h.len w hw).1 (h.len w hw).2 (h.cd w hw),Bool.not_true])
  refine Bg (η:=[some (.br (.lst (wD ws))),o]) ?_;show jy [some (.br (.lst (wD ws))),none]=_;have hl:(wD ws).length=ws.length:=by simp[wD]
  have h1:=h.one;have h6:=h.six;unfold jy;refine(aC ((eu ?_).trans rfl)).trans ?_
  ·have a1:decide ((((wD ws).length:Nat):Int)<1)=false:=gQ (by omega);have a2:decide ((6:Int)<(((wD ws).length:Nat):Int))=false:=gQ (by omega);simp only[iR,bF,ae,ix,ag,aN,aB,eC,dS,cV,cj,eF,jQ,lN,a1,a2];rfl
  refine(aC ((gf (ds:=ws.map fun w=>D.str (tx w)) ?_).trans e)).trans ?_
  · simp only[JA,cV,cj,fK]
    first|rfl|(rw[az (by simp[wD];omega)];rfl)
  refine(eu ?_).trans rfl;have e1:n5 (wD ws)=some (ws.map tx):=by rw[ug];exact nC _
  have e2:A5 (ws.map tx)=ws.length:=by rw[Lr (Vw h.nd),bY]
  have e3:(ws.map tx).length≤1000:=by rw[bY];omega
  have a1:decide ((ws.length:Int)<(((wD ws).length:Nat):Int))=false:=gQ (by omega);simp only[bF,ae,yS,ix,ag,aN,aB,dS,cV,cj,eF,e1,e3,cw,e2,jQ,a1]
theorem Bs(x:Str):∀ys:dB,Pq (.str x) (ys.map V.str)=decide (x∈ys)
  |[]=>rfl
  |y::ys=>by
   have ih:=Bs x ys;unfold Pq at ih⊢;rw[cD,List.any_cons,ih];have:IG (.str y) (.str x)=decide (y=x):=by show(y==x)=_;rw[pJ];simp
   rw[this,pJ,Bool.or_eq_true,decide_eq_true_iff,decide_eq_true_iff,decide_eq_true_iff,dc];exact⟨fun h=>h.imp Eq.symm id,fun h=>h.imp Eq.symm id⟩
theorem xx:∀ys:dB,GH (ys.map D.str)=some (ys.map V.str)
  |[]=>rfl
  |y::ys=>by have ih:=xx ys;rw[cD,cD];simp only[GH,GF,ih,cj,eF]
theorem Lv(neg:Bool)(w:List Nat)(ws:List (List Nat)):inD neg (.str (tx w)) (.lst (wD ws))=some (.bl (if neg then !decide (w∈ws) else decide (w∈ws))):=by
  have e:decide (tx w∈ws.map tx)=decide (w∈ws):=by
    rw[pJ,decide_eq_true_iff,decide_eq_true_iff];constructor
    ·intro h;obtain⟨v,hv,q⟩:=gC.mp h;rw[←vJ q];exact hv
    ·exact fun h=>gC.mpr ⟨w,h,rfl⟩
  unfold inD;rw[ug];simp only[GF,fK,xx,cj,eF,Bs,e]
def idx(ws:List (List Nat))(w:List Nat):Nat:=ws.idxOf w
theorem Lw:∀(ws:List (List Nat)) (j:Nat) (h:j<ws.length),List.idxOf ws[j] ws≤j
  |[],_,h=>by simp at h
  |w::ws,0,_=>by simp[List.idxOf_cons]
  |w::ws,j+1,h=>by
   have hj:j<ws.length:=by simpa using h
   have ih:=Lw ws j hj;rw[List.getElem_cons_succ,List.idxOf_cons];cases(w==ws[j]) with
   |true=>exact ik _
   |false=>exact Nat.succ_le_succ ih
theorem Lx{w:List Nat}(h:w∈ws):u6 (.lst (wD ws)) (.str (tx w))=some (.int ((idx ws w:Nat):Int)):=by
  have e1:n5 (wD ws)=some (ws.map tx):=by rw[ug];exact nC _
  have e2:(ws.map tx).findIdx? (·==tx w)=some (idx ws w):=by
    rw[List.findIdx?_eq_some_iff_getElem];have dQ:idx ws w<ws.length:=List.idxOf_lt_length_of_mem h;refine⟨by simpa using dQ,?_,fun j hj=>?_⟩
    ·have:ws[idx ws w]=w:=List.getElem_idxOf dQ;simp[this]
    · have Jj:j<ws.length:=by omega
      have kU:ws[j]≠w:=fun z=>by
        have h1:List.idxOf w ws≤j:=by rw[←z];exact Lw ws j Jj
        exact absurd hj (Nat.not_lt.mpr h1)
      simp only[List.getElem_map,beq_iff_eq];intro z;exact kU (vJ z)
  simp only[u6,e1,cj,e2,eF]
def xA(ws vs:List (List Nat)):bL:=vs.map fun v=>((idx ws v:Nat):Int)
theorem DR{vs:List (List Nat)}(hv:∀v∈vs,v∈ws):∀n∈xA ws vs,0≤n∧n<(ws.length:Int):=fun n hn=>by obtain⟨v,h,rfl⟩:=gC.mp hn;have:idx ws v<ws.length:=List.idxOf_lt_length_of_mem (hv v h);omega
theorem Hu{y:Str}(h:x≠y):lV (.str x) (.str y)=some (.bl true):=by
  unfold lV;rw[az (by rfl),dm];have:(x==y)=false:=by rw[beq_eq_false_iff_ne];exact h
  rw[this];rfl
theorem vL:∀{vs:List (List Nat)},(∀v∈vs,v.length≤12)→(vs.map List.length).sum≤vs.length*12
  |[],_=>ik _
  |v::vs,h=>by have h1:=h v eR;have h2:=vL (vs:=vs) fun w hw=>h w (ef _ hw);rw[cD,List.sum_cons,eW];omega
theorem FP(h:kM ws){vs:List (List Nat)}(hv:∀v∈vs,v∈ws)(hl:vs.length≤4):eO [.lst (wD ws),.str (tx (jn vs))]=some (.sh (.tup ((dq (xA ws vs)).map D.int))):=by
  have h6:=h.six;have oJ:((xA ws vs).all fun n=>decide (0≤n)&&decide (n<6))=true:=eX.mpr fun n hn=>by have:=DR hv n hn;simp;omega
  have fin:lG [some (.br (.lst (wD ws))),some (.sh (.str (tx (jn vs)))),none,none]=some (.rt (.sh (.tup ((dq (xA ws vs)).map D.int)))):=by
    unfold lG;refine(aC (ny (d:=[]) rfl)).trans ?_;refine(aC (η':=[some (.br (.lst (wD ws))),some (.sh (.str (tx (jn vs)))),some (.ol ((xA ws vs).map D.int)),(match vs.getLast? with|some v=>some (.sh (.str (tx v)))|none=>none)]) ?_).trans ?_
    · by_cases q:vs=[]
      ·subst q;exact(eu (by rfl)).trans rfl
      · have kU:jn vs≠[]:=Vr vs q fun w hw=>by
          have:=(h.len w (hv w hw)).1;intro z;rw[z] at this;simp at this
        have hw:∀w∈vs,32∉w:=fun w hw z=>by have:=h.cd w (hv w hw) 32 z;omega
        have hs:=K5 vs q hw;refine(lq ?_).trans ?_
        · have e:lV (.str (tx (jn vs))) (.str "")=some (.bl true):=by
            have e0:tx (jn vs)≠("":Str):=fun z=>kU (vJ (z.trans (show("":Str)=tx [] by decide +kernel)));exact Hu e0
          simp only[bF,ae,aB,eC,jf,jI,cV,dO,cj,e]
        · have hlen:(tx (jn vs)).length≤1000:=by
            rw[jD];have:=K6 vs;have h2:(vs.map List.length).sum≤vs.length*12:=vL fun v xW=>(h.len v (hv v xW)).2;omega
          have hls:lU (eL (u3 (aB 1) (eC (.str " ")))) [some (.br (.lst (wD ws))),some (.sh (.str (tx (jn vs)))),some (.ol []),none]=some (vs.map fun v=>D.str (tx v)):=by
            have e1:De (.str (tx (jn vs))) (.str " ")=some (vs.map fun v=>D.str (tx v)):=by
              have eb:(" ":Str)=⟨#[32]⟩:=by decide +kernel
              rw[eb];show(if ((⟨#[32]⟩:Str).length==0)=false∧(tx (jn vs)).length≤1000 then some ((Txt.split (tx (jn vs)) ⟨#[32]⟩).map D.str) else none)=_;rw[az ⟨by decide,hlen⟩,hs,fB];rfl
            simp only[lU,eL,u3,aB,eC,cV,dO,cj,eF,e1,fK]
          obtain⟨η',e,ha,hb⟩:=lr (b:=aU true 3) (g:=jz) (fun v=>D.str (tx v)) (fun i (us:List (List Nat)) η=>us=vs.take i∧η=[some (.br (.lst (wD ws))),some (.sh (.str (tx (jn vs)))),some (.ol ((xA ws us).map D.int)),(match us.getLast? with|some v=>some (.sh (.str (tx v)))|none=>none)]) (fun us v=>us++[v]) (xs:=vs) (η:=[some (.br (.lst (wD ws))),some (.sh (.str (tx (jn vs)))),some (.ol []),none]) 0 [] ⟨rfl,rfl⟩ (fun i v us η hx ⟨hu,e⟩=>by
            subst e;rw[Nat.zero_add] at hu⊢;have hvm:=hv v (zC hx);refine⟨[some (.br (.lst (wD ws))),some (.sh (.str (tx (jn vs)))),some (.ol ((xA ws us).map D.int)),some (.sh (.str (tx v)))],_,rfl,?_,by rw[List.take_succ,hx,hu];rfl,rfl⟩;unfold jz;refine(aC ((eu ?_).trans rfl)).trans ?_
            ·have e:=Lv true v ws;rw[mj hvm] at e;simp only[bF,ae,aB,cV,dO,cj,e];rfl
            · have hz:((xA ws us).map D.int).length<10000:=by
                rw[bY,xA,bY,hu,List.length_take];omega
              simp only[ie,ae,aB,cV,dO,cj,Lx hvm,hz,cw,jf,jI];have e3:(us++[v]).getLast?=some v:=by simp
              rw[e3];simp[xA])
          rw[hb] at e;have P4:=ha;simp only[Nat.zero_add,List.take_length] at P4;rw[P4] at e;exact(gf hls).trans e
    ·refine oY ?_;simp only[jo,eL,oZ,aB,cV,dO,cj,gX,oJ,cw,eF,fK];unfold dq;rw[fB];rfl
  exact jR fin
theorem vN{p q:Nat→Bool}{n:Nat}(hp:∀k,k<n→p k=q k)(hn:∀k,n≤k→p k=false):∀m,n≤m→(List.range m).filter p=(List.range n).filter q
  |0,h=>by
   have:n=0:=by omega
   subst this;rfl
  |m+1,h=>by
   by_cases e:n=m+1
   ·subst e;exact List.filter_congr fun k hk=>hp k (ml.mp hk)
   ·rw[List.range_succ,List.filter_append,vN hp hn m (by omega)];simp[hn m (by omega)]
theorem Ss(h:ws.Nodup)(hk:k<ws.length):idx ws ws[k]=k:=by have h1:idx ws ws[k]<ws.length:=List.idxOf_lt_length_of_mem (List.getElem_mem hk);have h2:ws[idx ws ws[k]]=ws[k]:=List.getElem_idxOf h1;exact(List.getElem_inj h).mp h2
def Bt(ws vs:List (List Nat)):bL:=((List.range ws.length).filter fun k=>decide (ws.getD k []∈vs)).map fun(k:Nat)=>(k:Int)
theorem Hv{vs:List (List Nat)}(h:kM ws)(hv:∀v∈vs,v∈ws):Bt ws vs=dq (xA ws vs):=by
  unfold Bt dq NS.nameSet
  congr 1
  refine(vN (fun k hk=>?_) (fun k hk=>?_) 6 h.six).symm
  · have hg:ws.getD k []=ws[k]:=by rw[jd,eQ hk];rfl
    rw[hg,pJ,xG,decide_eq_true_iff];unfold xA;constructor
    · intro z;obtain⟨v,h1,h2⟩:=gC.mp z;have h3:idx ws v=k:=by omega
      have h4:idx ws v<ws.length:=List.idxOf_lt_length_of_mem (hv v h1);have h5:ws[idx ws v]=v:=List.getElem_idxOf h4;have h6:ws[k]=v:=by rw[←h5];congr 1;exact h3.symm
      rw[h6];exact h1
    ·intro z;exact gC.mpr ⟨ws[k],z,by rw[Ss h.nd hk]⟩
  ·rw[Bool.eq_false_iff];intro z;have:=DR hv _ (xG.mp z);omega
theorem P5(hk:k<ws.length):rJ (wD ws) (k:Int)=some (.str (tx ws[k])):=kP (by unfold wD;rw[eU,eQ hk];rfl)
theorem Sv{vs:List (List Nat)}(h:kM ws):vA [.lst (wD ws),.lst (wD vs)]=some (.sh (.tup ((Bt ws vs).map D.int))):=by
  have h6:=h.six;refine jR ?_;show Dv [some (.sh (.lst (wD ws))),some (.sh (.lst (wD vs)))]=_;unfold Dv;refine oY ?_;have hl:((wD ws).length:Int)=(ws.length:Int):=by simp[wD]
  have hr:(if ((wD ws).length:Int)≤10000∧-10000≤((wD ws).length:Int) then some (cB 0 ((wD ws).length:Int).toNat) else none)=some ((List.range ws.length).map fun(i:Nat)=>D.int (0+(i:Int))):=by rw[hl,az ⟨by omega,by omega⟩,nM];rfl
  have q:fL (aU true 0) (bF (ae (inD false) (ae iS (aB 1) (aB 0)) (aB 2))) (eV 0) ((List.range ws.length).map fun(i:Nat)=>D.int (0+(i:Int))) (List.replicate 1 none++[some (.sh (.lst (wD ws))),some (.sh (.lst (wD vs)))])=some ((Bt ws vs).map D.int):=by
    have h:=nz (b:=aU true 0) (t:=bF (ae (inD false) (ae iS (aB 1) (aB 0)) (aB 2))) (f:=eV 0) (η:=List.replicate 1 none++[some (.sh (.lst (wD ws))),some (.sh (.lst (wD vs)))]) (fun(i:Nat)=>D.int (0+(i:Int))) (fun i=>decide (ws.getD i []∈vs)) (fun i=>D.int (i:Int)) (xs:=List.range ws.length) (fun i hi=>by
      have hi:=ml.mp hi;have hg:ws.getD i []=ws[i]:=by rw[jd,eQ hi];rfl
      refine⟨[some (.sh (.int (0+(i:Int)))),some (.sh (.lst (wD ws))),some (.sh (.lst (wD vs)))],rfl,?_,fun _=>?_⟩
      ·have e:=Lv false ws[i] vs;simp only[bF,ae,aB,cV,dO,cj,Int.zero_add,uO,P5 hi,e,hg];rfl
      ·simp[eV])
    rw[h];unfold Bt;rw[fB];rfl
  simp only[jo,eL,fM,dE,ix,ag,aN,aB,dS,cV,dO,cj,eF,hr,oO,cD,rq,Option.getD_some,q,fK]
theorem Ly(C M:D)(xs:bL)(y k:Int)(hx:xs.length≤100):nE [some (.sh C),some (.sh M),some (.ol (xs.map D.int)),some (.sh (.int y)),some (.sh (.int k))]=some (.nx [some (.sh C),some (.sh M),some (.ol ((xs++[y%5040]).map D.int)),some (.sh (.int (y / 5040))),some (.sh (.int k))]):=by
  have h1:iy y 5040=true:=rfl;have h2:divC y 5040=true:=rfl;unfold nE;have hl:xs.length<10000:=by omega
  simp[bj,ie,cy,ae,aB,eC,cq h1,div_ii h2,hl]
theorem Lz(C M:D)(xs:bL)(y k:Int)(hx:xs.length≤100)(h0:0≤y)(h1:y<2147483647):nF [some (.sh C),some (.sh M),some (.ol (xs.map D.int)),some (.sh (.int y)),some (.sh (.int k))]=some (.nx [some (.sh C),some (.sh M),some (.ol ((xs++[(y*y+48271*y+k+1)%2147483647]).map D.int)),some (.sh (.int ((y*y+48271*y+k+1)%2147483647))),some (.sh (.int k))]):=by
  have h3:∀x,iy x 2147483647=true:=fun _=>rfl;have h4:mulC y y=true:=yu (by omega) (by omega);have h5:mulC 48271 y=true:=CK (by decide) (by decide);unfold nF;have hl:xs.length<10000:=by omega
  simp[bj,ie,cy,ae,aB,eV,eC,cq (h3 _),oX h4,oX h5,eD,hl]
theorem Ov(c:Int):∃xs:bL,xs.length=12∧qM [.int c,.int 12]=some (.ol (xs.map D.int)):=by
  have hd:divC c 2=true:=rfl;have hm:iy c 2=true:=rfl;by_cases h:c%2=1
  · obtain⟨η',e,xs,y,o,h1,rfl⟩:=jr (b:=aU true 4) (g:=nE) (ds:=cB 0 12) (η:=[some (.sh (.int c)),some (.sh (.int 12)),some (.ol []),some (.sh (.int (c / 2))),none])
      (fun i η=>∃(xs:bL) (y:Int) (o:e9),xs.length=i∧η=[some (.sh (.int c)),some (.sh (.int 12)),some (.ol (xs.map D.int)),some (.sh (.int y)),o]) 0
      ⟨[],c / 2,none,rfl,rfl⟩ (fun i d η hd ⟨xs,y,o,h1,e⟩=>by
        subst e;rw[g9,eU] at hd;obtain⟨k,hk,rfl⟩:=iD.mp hd;have hi:i<12:=by have:=(lR.mp hk).1;simpa using this
        exact⟨_,_,rfl,.inl (Ly _ _ xs y k (by omega)),xs++[y%5040],y / 5040,_,by simp;omega,rfl⟩)
    refine⟨xs,h1,jR ?_⟩;show qL [some (.sh (.int c)),some (.sh (.int 12)),none,none,none]=_;unfold qL;refine(aC (ny (d:=[]) rfl)).trans ?_;refine(aC (bX (d:=.int (c / 2)) (by simp[ae,aB,eC,div_ii hd]))).trans ?_;refine mN ?_;refine(lq (by simp[bF,ae,aB,eC,cq hm,dh,h])).trans ?_;refine(aC ((gf (ds:=cB 0 12) rfl).trans e)).trans ?_;rfl
  · obtain⟨η',e,xs,y,o,h1,_,_,rfl⟩:=jr (b:=aU true 4) (g:=nF) (ds:=cB 0 12) (η:=[some (.sh (.int c)),some (.sh (.int 12)),some (.ol []),some (.sh (.int ((c / 2%2147483647*16807+11)%2147483647))),none])
      (fun i η=>∃(xs:bL) (y:Int) (o:e9),xs.length=i∧0≤y∧y<2147483647∧η=[some (.sh (.int c)),some (.sh (.int 12)),some (.ol (xs.map D.int)),some (.sh (.int y)),o]) 0
      ⟨[],_,none,rfl,pI _ (by decide),tf _ (by decide),rfl⟩ (fun i d η hd ⟨xs,y,o,h1,h3,h4,e⟩=>by
        subst e;rw[g9,eU] at hd;obtain⟨k,hk,rfl⟩:=iD.mp hd;have hi:i<12:=by have:=(lR.mp hk).1;simpa using this
        exact⟨_,_,rfl,.inl (Lz _ _ xs y k (by omega) h3 h4),xs++[(y*y+48271*y+k+1)%2147483647],_,_,by simp;omega,pI _ (by decide),tf _ (by decide),rfl⟩)
    refine⟨xs,h1,jR ?_⟩;show qL [some (.sh (.int c)),some (.sh (.int 12)),none,none,none]=_;unfold qL;refine(aC (ny (d:=[]) rfl)).trans ?_;refine(aC (bX (d:=.int (c / 2)) (by simp[ae,aB,eC,div_ii hd]))).trans ?_;refine(aC (η':=[some (.sh (.int c)),some (.sh (.int 12)),some (.ol []),some (.sh (.int (c / 2))),none]) ?_).trans ?_
    ·refine(eu (by simp[bF,ae,aB,eC,cq hm,dh];simpa using h)).trans ?_;rfl
    have Sl:∀x,iy x 2147483647=true:=fun _=>rfl;have wC:mulC (c / 2%2147483647) 16807=true:=yu (by decide) (by decide);refine(aC (bX (d:=.int ((c / 2%2147483647*16807+11)%2147483647)) (by simp[ae,aB,eC,cq (Sl _),oX wC,eD]))).trans ?_;refine(aC ((gf (ds:=cB 0 12) rfl).trans e)).trans ?_;rfl
structure FQ (c:Int) (ps:dZ):Prop where
  nd:(ps.map (·.1)).Nodup
  all:∀p∈ps,nW c p.1∧0≤p.2
theorem FQ.get(h:FQ c ps)(k:bL):0≤(bO ps k).getD 0:=by
  cases e:bO ps k with
  |none=>exact Int.le_refl _
  |some m=>have:=(h.all _ (mW e)).2;simpa using this
theorem FQ.put(h:FQ c ps){k:bL}{m:Int}(hs:nW c k)(hm:0≤m):FQ c (kK ps k m):=by
  refine⟨?_,fun p hp=>?_⟩
  · rw[xu];by_cases q:(ps.any fun p=>decide (p.1=k))=true
    ·rw[az q];exact h.nd
    ·rw[ax q];refine yc h.nd fun hk=>q ?_;obtain⟨p,h1,h2⟩:=gC.mp hk;exact List.any_eq_true.mpr ⟨p,h1,mj h2⟩
  · unfold kK at hp;split at hp
    · obtain⟨p',h1,h2⟩:=gC.mp hp;by_cases e:p'.1=k
      ·rw[az e] at h2;rw[←h2,e];exact⟨hs,hm⟩
      ·rw[ax e] at h2;rw[←h2];exact h.all p' h1
    · rcases mh.mp hp with q|q
      ·exact h.all p q
      · have e:p=(k,m):=by simpa using q
        rw[e];exact⟨hs,hm⟩
theorem Bu{m:Int}(h:1≤m):dA [.int m]=some (.sh .non):=by refine Bg (η:=[some (.sh (.int m))]) ?_;show jA [some (.sh (.int m))]=_;unfold jA;refine(eu ?_).trans rfl;have e0:mJ "int" (aB 0) [some (.sh (.int m))]=some (.bl true):=rfl;have e1:mJ "bool" (aB 0) [some (.sh (.int m))]=some (.bl false):=rfl;have a1:decide (m<1)=false:=gQ (by omega);simp only[iR,jm,bF,e0,e1,cj,eF,Bool.not_true,ae,aB,eC,cV,jQ,a1];rfl
theorem zo{own:List Nat}{g:SF}{vg:List Slot}{r:Slot}(h:g (kb n vg)=some (.rt r)):BI n own g vg=some r:=by unfold BI;rw[h]
section
variable {a:vp} {p q:Addr} {ws vs:List (List Nat)} {ps:dZ} {m:Int}
theorem Vx(h:kM ws)(hv:∀v∈vs,v∈ws)(hl:vs.length≤4)(hp:ps.length<10000)(hm:1≤m):eE a [.bx p a.aG (wD ws) (ps.map enc),.sh (.str (tx (jn vs))),.sh (.int m)]=some (.rw .non [(p,(kK ps (dq (xA ws vs)) ((bO ps (dq (xA ws vs))).getD 0+m)).map enc)]):=by
  have e1:=FP h hv hl
  let L:=dq (xA ws vs)
  have Vy:=qT ps L ((bO ps L).getD 0+m);have hg:jW a [some (.bx p a.aG (wD ws) (ps.map enc)),some (.sh (.str (tx (jn vs)))),some (.sh (.int m)),none]=some (.nx [some (.bx p a.aG (wD ws) ((kK ps L ((bO ps L).getD 0+m)).map enc)),some (.sh (.str (tx (jn vs)))),some (.sh (.int m)),some (.sh (.tup (L.map D.int)))]):=by
    unfold jW;refine(aC (bX (d:=.tup (L.map D.int)) ?_)).trans ?_
    ·simp only[bD,ag,aN,mP,eV,cV,dO,cw,cj,eF,e1];rfl
    refine(aC (η':=[some (.bx p a.aG (wD ws) (ps.map enc)),some (.sh (.str (tx (jn vs)))),some (.sh (.int m)),some (.sh (.tup (L.map D.int)))]) ?_).trans ?_
    ·simp only[lO,bD,ag,aN,eV,jf,jI,cV,dO,cj,eF,Bu hm]
    ·simp only[n6,ae,qz,NP,Td,aB,eC,cV,dO,cw,cj,ib,eF,kL,qV,eD,bY,hp,Vy,jf]
  show BI 4 [0] (jW a) _=_;unfold BI;rw[show kb 4 [.bx p a.aG (wD ws) (ps.map enc),.sh (.str (tx (jn vs))),.sh (.int m)]=[some (.bx p a.aG (wD ws) (ps.map enc)),some (.sh (.str (tx (jn vs)))),some (.sh (.int m)),none] from rfl,hg];rfl
theorem Sw(h:kM ws)(hv:∀v∈vs,v∈ws)(hl:vs.length≤4)(hp:ps.length<10000)(hm:1≤m)(ht:m≤(bO ps (dq (xA ws vs))).getD 0):dN a [.bx p a.aG (wD ws) (ps.map enc),.sh (.str (tx (jn vs))),.sh (.int m)]=some (.rw .non [(p,(kK ps (dq (xA ws vs)) ((bO ps (dq (xA ws vs))).getD 0-m)).map enc)]):=by
  have e1:=FP h hv hl
  let L:=dq (xA ws vs)
  have Vy:=qT ps L ((bO ps L).getD 0-m);have hg:iY a [some (.bx p a.aG (wD ws) (ps.map enc)),some (.sh (.str (tx (jn vs)))),some (.sh (.int m)),none,none]=some (.nx [some (.bx p a.aG (wD ws) ((kK ps L ((bO ps L).getD 0-m)).map enc)),some (.sh (.str (tx (jn vs)))),some (.sh (.int m)),some (.sh (.tup (L.map D.int))),some (.sh (.int ((bO ps L).getD 0-m)))]):=by
    unfold iY;refine(aC (bX (d:=.tup (L.map D.int)) ?_)).trans ?_
    ·simp only[bD,ag,aN,mP,eV,cV,dO,cw,cj,eF,e1];rfl
    refine(aC (η':=[some (.bx p a.aG (wD ws) (ps.map enc)),some (.sh (.str (tx (jn vs)))),some (.sh (.int m)),some (.sh (.tup (L.map D.int))),none]) ?_).trans ?_
    ·simp only[lO,bD,ag,aN,eV,jf,jI,cV,dO,cj,eF,Bu hm]
    refine(aC (bX (d:=.int ((bO ps L).getD 0-m)) ?_)).trans ?_
    ·simp only[ae,qz,NP,aB,eC,cV,dO,cw,cj,ib,eF,kL,qV,CJ]
    refine(aC ((eu ?_).trans rfl)).trans ?_
    ·have a1:decide ((bO ps L).getD 0-m<0)=false:=gQ (by have ht':m≤(bO ps L).getD 0:=ht;omega);simp only[bF,ae,aB,eC,jf,jI,cV,dO,cj,jQ,a1]
    ·simp only[n6,ae,NP,Td,eV,aB,eC,jf,jI,cV,dO,cw,cj,ib,bY,hp,Vy]
  show BI 5 [0] (iY a) _=_;unfold BI;rw[show kb 5 [.bx p a.aG (wD ws) (ps.map enc),.sh (.str (tx (jn vs))),.sh (.int m)]=[some (.bx p a.aG (wD ws) (ps.map enc)),some (.sh (.str (tx (jn vs)))),some (.sh (.int m)),none,none] from rfl,hg];rfl
theorem Ow(h:kM ws)(hq:FQ (ws.length:Int) ps)(m7:ps.length≤1000){xs:bL}(hx:xs.length=12)(cell:Int):∃BJ,FQ (ws.length:Int) BJ∧BJ.length≤ps.length+1∧qR a [.bx p a.aG (wD ws) (ps.map enc),.od q (ps.map enc),.sh (.lst (wD ws)),.sh (.lst (xs.map D.int)),.sh (.int cell)]=some (.rw .non [(p,BJ.map enc),(q,BJ.map enc)]):=by
  have h1:=h.one;have h6:=h.six;have at_:∀k:Nat,k<12→rJ (xs.map D.int) (k:Int)=some (.int (xs.getD k 0)):=fun k hk=>by
    have HM:k<xs.length:=by omega
    refine kP ?_;rw[eU,jd,eQ HM];rfl
  have m5:∀x,iy x 5=true:=fun _=>rfl;have m9:∀x,iy x 9=true:=fun _=>rfl;have m3:∀x,iy x 3=true:=fun _=>rfl;have m2:∀x,iy x 2=true:=fun _=>rfl;have YR:powC 10 38=true:=by decide
  have YS:∀y:Int,iy y (10^(38:Int).toNat-1)=true:=fun y=>CL (by decide)
  -- the words
  let nums:bL:=(xs.drop (HT.rg xs.length 0 (some 2))).take (HT.rg xs.length xs.length (some (2+xs.getD 1 0%5))-HT.rg xs.length 0 (some 2))
  have hnl:nums.length≤4:=by
    have e0:=pI (xs.getD 1 0) (show(5:Int)≠0 by decide);have e1:=tf (xs.getD 1 0) (show(0:Int)<5 by decide);obtain⟨k,hk,ek⟩:∃k:Nat,k≤4∧xs.getD 1 0%5=(k:Int):=⟨(xs.getD 1 0%5).toNat,by omega,by omega⟩
    refine fR (List.length_take_le _ _) ?_;have e2:(2:Int)+xs.getD 1 0%5=((2+k:Nat):Int):=by omega
    rw[e2,HT.tT,show(2:Int)=((2:Nat):Int) from rfl,HT.tT];omega
  let pk:Int→Nat:=fun n=>(n%(ws.length:Int)).toNat
  have RH:∀n,pk n<ws.length∧n%(ws.length:Int)=(pk n:Int):=fun n=>by have e0:=pI n (show(ws.length:Int)≠0 by omega);have e1:=tf n (show(0:Int)<(ws.length:Int) by omega);simp only[pk];exact⟨by omega,by omega⟩
  let vs:List (List Nat):=nums.map fun n=>ws.getD (pk n) []
  have hv:∀v∈vs,v∈ws:=fun v hv=>by obtain⟨n,_,rfl⟩:=gC.mp hv;have:=(RH n).1;rw[jd,eQ this];exact List.getElem_mem this
  have hvl:vs.length≤4:=by simp only[vs];rw[bY];exact hnl
  let L:=dq (xA ws vs)
  have hL:nW (ws.length:Int) L:=Bf (by omega) (DR hv)
  let T:=(bO ps L).getD 0
  have hT:0≤T:=hq.get L
  let env (d:dZ) (o5 o6 o7 o8 o9:e9):aY:=[some (.bx p a.aG (wD ws) (ps.map enc)),some (.od q (d.map enc)),some (.sh (.lst (wD ws))),some (.sh (.lst (xs.map D.int))),some (.sh (.int cell)),o5,o6,o7,o8,o9]
  have s5:cy 5 (eL (fM 1 [2] (lU (eL (mG (eV 3) (gN (eC (.int 2))) (gN (ae gd (eC (.int 2)) (ae cM (ae iS (aB 3) (eC (.int 1))) (eC (.int 5)))))))) (aU true 0) jO (ae iS (eV 1) (ae cM (aB 0) (ix dS (ag (aB 1) aN)))))) (env ps none none none none none)=some (.nx (env ps (some (.sh (.lst (wD vs)))) none none none none)):=by
    refine bX (d:=.lst (wD vs)) ?_;have hsl:mG (eV 3) (gN (eC (.int 2))) (gN (ae gd (eC (.int 2)) (ae cM (ae iS (aB 3) (eC (.int 1))) (eC (.int 5))))) (env ps none none none none none)=some (nums.map D.int):=by have a1:=at_ 1 (by decide);rw[show((1:Nat):Int)=1 from rfl] at a1;simp only[mG,eV,gN,ae,aB,eC,env,cV,dO,cj,eF,uO,a1,cq (m5 _),eD,EZ];rfl
    have hq:fL (aU true 0) jO (ae iS (eV 1) (ae cM (aB 0) (ix dS (ag (aB 1) aN)))) (nums.map D.int) (List.replicate 1 none++[some (.sh (.lst (wD ws)))])=some (wD vs):=by
      have:wD vs=nums.map fun n=>D.str (tx (ws.getD (pk n) [])):=by simp only[wD,vs];rw[fB];rfl
      rw[this];refine kG D.int _ fun n _=>⟨[some (.sh (.int n)),some (.sh (.lst (wD ws)))],rfl,rfl,?_⟩
      obtain⟨k1,k2⟩:=RH n;have hl:((wD ws).length:Int)=(ws.length:Int):=by simp[wD]
      have hmc:iy n (ws.length:Int)=true:=CL (by omega);have hg:ws.getD (pk n) []=ws[pk n]:=by rw[jd,eQ k1];rfl
      simp only[ae,eV,aB,ix,ag,aN,dS,cV,dO,cj,eF,hl,cq hmc,k2,uO,P5 k1,hg]
    simp only[eL,fM,lU,hsl,cj,eF,fK,oO,cD,rq,env,cV,dO,Option.getD_some,hq]
  have s6:cy 6 (bD vA (ag (eV 2) (ag (eV 5) aN))) (env ps (some (.sh (.lst (wD vs)))) none none none none)=some (.nx (env ps (some (.sh (.lst (wD vs)))) (some (.sh (.tup (L.map D.int)))) none none none)):=by refine bX (d:=.tup (L.map D.int)) ?_;have e:=Sv (vs:=vs) h;rw[Hv h hv] at e;simp only[bD,ag,aN,eV,env,cV,dO,cj,eF,e];rfl
  have s7:cy 7 (qz (NQ 1) (aB 6) (eC (.int 0))) (env ps (some (.sh (.lst (wD vs)))) (some (.sh (.tup (L.map D.int)))) none none none)=some (.nx (env ps (some (.sh (.lst (wD vs)))) (some (.sh (.tup (L.map D.int)))) (some (.sh (.int T))) none none)):=by refine bX (d:=.int T) ?_;simp only[qz,NQ,aB,eC,env,cV,dO,cj,ib,eF,kL,qV];rfl
  have s8:cy 8 (ae AU (eC (.str " ")) (aB 5)) (env ps (some (.sh (.lst (wD vs)))) (some (.sh (.tup (L.map D.int)))) (some (.sh (.int T))) none none)=some (.nx (env ps (some (.sh (.lst (wD vs)))) (some (.sh (.tup (L.map D.int)))) (some (.sh (.int T))) (some (.sh (.str (tx (jn vs))))) none)):=by
    refine bX (d:=.str (tx (jn vs))) ?_;have e1:n5 (wD vs)=some (vs.map tx):=by rw[ug];exact nC _
    have eb:(" ":Str)=⟨#[32]⟩:=by decide +kernel
    have hz:((vs.map tx).map (·.length)).sum+(vs.map tx).length*(⟨#[32]⟩:Str).length≤1000:=by
      have e2:(vs.map tx).map (·.length)=vs.map List.length:=by rw[fB];exact List.map_congr_left fun v _=>jD v
      have e3:(⟨#[32]⟩:Str).length=1:=rfl;have h2:(vs.map List.length).sum≤vs.length*12:=vL fun v xW=>(h.len v (hv v xW)).2;rw[e2,e3,bY];omega
    simp only[ae,eC,aB,env,cV,dO,cj,eb,AU,e1,hz,cw,Oc]
  obtain⟨M,hM,s9⟩:∃M:Int,1≤M∧cy 9 (ae iS (eL (uE (ag (eC (.int 1)) (ag (ae gd (eC (.int 1)) (ae cM (ae iS (aB 3) (eC (.int 7))) (eC (.int 9)))) (ag (ae gd (eC (.int 1)) (ae cM (aB 4) (ae GJ (ae M3 (eC (.int 10)) (eC (.int 38))) (eC (.int 1))))) aN))))) (ae cM (ae iS (aB 3) (eC (.int 8))) (eC (.int 3)))) (env ps (some (.sh (.lst (wD vs)))) (some (.sh (.tup (L.map D.int)))) (some (.sh (.int T))) (some (.sh (.str (tx (jn vs))))) none)=some (.nx (env ps (some (.sh (.lst (wD vs)))) (some (.sh (.tup (L.map D.int)))) (some (.sh (.int T))) (some (.sh (.str (tx (jn vs))))) (some (.sh (.int M))))):=by
    obtain⟨M,hM,e⟩:∃M:Int,1≤M∧rJ [D.int 1,.int (1+xs.getD 7 0%9),.int (1+cell%(10^(38:Int).toNat-1))] (xs.getD 8 0%3)=some (.int M):=by
      have h0:=pI (xs.getD 8 0) (show(3:Int)≠0 by decide);have h4:=tf (xs.getD 8 0) (show(0:Int)<3 by decide);have:xs.getD 8 0%3=0∨xs.getD 8 0%3=1∨xs.getD 8 0%3=2:=by omega
      rcases this with e|e|e<;>rw[e]
      ·exact⟨1,by decide,rfl⟩
      ·exact⟨_,by have:=pI (xs.getD 7 0) (show(9:Int)≠0 by decide);omega,rfl⟩
      ·exact⟨_,by have:=pI cell (show((10:Int)^(38:Int).toNat-1)≠0 by decide);omega,rfl⟩
    refine⟨M,hM,bX (d:=.int M) ?_⟩;have a7:=at_ 7 (by decide);have a8:=at_ 8 (by decide);rw[show((7:Nat):Int)=7 from rfl] at a7;rw[show((8:Nat):Int)=8 from rfl] at a8;simp only[ae,eL,uE,ag,aN,eC,aB,env,cV,dO,cj,eF,uO,a7,a8,cq (m9 _),cq (m3 _),Rq YR,CJ,cq (YS _),eD];rw[az (by simp)];exact e
  have a0:=at_ 0 (by decide);have a9:=at_ 9 (by decide);rw[show((0:Nat):Int)=0 from rfl] at a0;rw[show((9:Nat):Int)=9 from rfl] at a9
  let en (d:dZ) (m:Int):aY:=env d (some (.sh (.lst (wD vs)))) (some (.sh (.tup (L.map D.int)))) (some (.sh (.int T))) (some (.sh (.str (tx (jn vs))))) (some (.sh (.int m)))
  have x9:∀(d:dZ) (m:Int),bF (ae dF (ae cM (ae iS (aB 3) (eC (.int 9))) (eC (.int 2))) (eC (.int 1))) (en d m)=some (xs.getD 9 0%2==1):=fun d m=>by simp only[bF,ae,aB,eC,en,env,cV,dO,cj,uO,a9,cq (m2 _),dh]
  have tst:∀(d:dZ) (m:Int),eZ (bF (ae dF (aB 9) (eC (.int 1)))) (bF (ae dF (ae cM (ae iS (aB 3) (eC (.int 9))) (eC (.int 2))) (eC (.int 1)))) (en d m)=some (m==1&&xs.getD 9 0%2==1):=fun d m=>by
    have e0:bF (ae dF (aB 9) (eC (.int 1))) (en d m)=some (m==1):=by simp only[bF,ae,aB,eC,en,env,cV,dO,cj,dh]
    unfold eZ;rw[e0,cj,x9];cases(m==1)<;>rfl
  have Vz:∀(v:Int) (m:Int) (f:EF),f (en ps m)=some (.int v)→n6 (NQ 1) (Te 1) (aB 6) f (en ps m)=some (.nx (en (kK ps L v) m)):=fun v m f hf=>by
    have Vy:=qT ps L v;have dQ:ps.length<10000:=by omega
    unfold n6;rw[hf];simp only[aB,NQ,Te,en,env,cV,dO,cj,ib,bY,dQ,cw,Vy,jf,jI]
  have fin:∀(fn:List Slot→e9) (d:dZ) (m:Int),(∀k:Int,k=m→fn [.bx p a.aG (wD ws) (ps.map enc),.sh (.str (tx (jn vs))),.sh (.int k)]=some (.rw .non [(p,d.map enc)])) →
      bj (iO (eZ (bF (ae dF (aB 9) (eC (.int 1)))) (bF (ae dF (ae cM (ae iS (aB 3) (eC (.int 9))) (eC (.int 2))) (eC (.int 1))))) (lP a.aG 0 [0,1] (ag (eV 8) aN) [.int 1] fn) bT) (lP a.aG 0 [0,1] (ag (eV 8) (ag (eV 9) aN)) [] fn) (en d m)=some (.rt (.rw .non [(p,d.map enc),(q,d.map enc)])):=fun fn d m hf=>by
    have t:=tst d m;by_cases c:(m==1&&xs.getD 9 0%2==1)=true
    · rw[c] at t;have Sl:(1:Int)=m:=by
        rw[oA] at c;exact(beq_iff_eq.mp c.1).symm
      refine mN ((lq t).trans ?_);have:=hf 1 Sl;simp only[lP,en,env,ag,aN,eV,cV,dO,cw,cj,eF,gh,List.cons_append,List.nil_append,cD,rq,this,AZ,jf,jI]
    ·have c':=Bool.eq_false_iff.mpr c;rw[c'] at t;refine(aC ((eu t).trans rfl)).trans ?_;have:=hf m rfl;simp only[lP,en,env,ag,aN,eV,cV,dO,cw,cj,eF,gh,xK,cD,rq,this,AZ,jf,jI]
  have tt:eZ (bF (ae dF (ae cM (ae iS (aB 3) (eC (.int 0))) (eC (.int 3))) (eC (.int 0)))) (bF (ae HK (aB 7) (eC (.int 0)))) (en ps M)=some (xs.getD 0 0%3==0&&decide (0<T)):=by
    have e0:bF (ae dF (ae cM (ae iS (aB 3) (eC (.int 0))) (eC (.int 3))) (eC (.int 0))) (en ps M)=some (xs.getD 0 0%3==0):=by simp only[bF,ae,aB,eC,en,env,cV,dO,cj,uO,a0,cq (m3 _),dh]
    have e1:bF (ae HK (aB 7) (eC (.int 0))) (en ps M)=some (decide (0<T)):=by simp only[bF,ae,aB,eC,en,env,cV,dO,cj,lN]
    unfold eZ;rw[e0,cj,e1];cases(xs.getD 0 0%3==0)<;>rfl
  have dQ:ps.length<10000:=by omega
  have start:∀r,ue a (env ps none none none none none)=some (.rt r)→qR a [.bx p a.aG (wD ws) (ps.map enc),.od q (ps.map enc),.sh (.lst (wD ws)),.sh (.lst (xs.map D.int)),.sh (.int cell)]=some r:=fun r hr=>zo hr;by_cases c:(xs.getD 0 0%3==0&&decide (0<T))=true
  · rw[c] at tt;have hT0:0<T:=by rw[oA] at c;exact of_decide_eq_true c.2
    obtain⟨m2,h2a,h2b,s10⟩:∃m2:Int,1≤m2∧m2≤T∧∀G,bj (cy 9 (ix minD (ag (aB 9) (ag (aB 7) aN)))) (bj (iO (bF (ae dF (ae cM (ae iS (aB 3) (eC (.int 9))) (eC (.int 3))) (eC (.int 0)))) (cy 9 (eV 7)) bT) G) (en ps M)=G (en ps m2):=by
      have e0:cy 9 (ix minD (ag (aB 9) (ag (aB 7) aN))) (en ps M)=some (.nx (en ps (if T<M then T else M))):=by refine bX (d:=.int (if T<M then T else M)) ?_;simp only[ix,ag,aN,aB,en,env,cV,dO,cj,eF,minD]
      have e1:bF (ae dF (ae cM (ae iS (aB 3) (eC (.int 9))) (eC (.int 3))) (eC (.int 0))) (en ps (if T<M then T else M))=some (xs.getD 9 0%3==0):=by simp only[bF,ae,aB,eC,en,env,cV,dO,cj,uO,a9,cq (m3 _),dh]
      by_cases c3:(xs.getD 9 0%3==0)=true
      ·rw[c3] at e1;exact⟨T,by omega,Int.le_refl _,fun G=>(aC e0).trans ((aC ((lq e1).trans (bX (d:=.int T) rfl))).trans rfl)⟩
      ·rw[Bool.eq_false_iff.mpr c3] at e1;exact⟨if T<M then T else M,by split<;>omega,by split<;>omega,fun G=>(aC e0).trans ((aC ((eu e1).trans rfl)).trans rfl)⟩
    refine⟨kK ps L (T-m2),hq.put hL (by omega),qU _ _ _,start _ ?_⟩;unfold ue;refine(aC s5).trans ((aC s6).trans ((aC s7).trans ((aC s8).trans ((aC s9).trans ?_))));refine mN ((lq tt).trans ?_);refine(s10 _).trans ?_;refine(aC (Vz (T-m2) m2 _ ?_)).trans ?_
    ·simp only[ae,aB,en,env,cV,dO,cj,CJ]
    ·exact fin (dN a) _ m2 fun k hk=>by subst hk;exact Sw h hv hvl dQ h2a h2b
  · rw[Bool.eq_false_iff.mpr c] at tt;refine⟨kK ps L (T+M),hq.put hL (by omega),qU _ _ _,start _ ?_⟩;unfold ue;refine(aC s5).trans ((aC s6).trans ((aC s7).trans ((aC s8).trans ((aC s9).trans ?_))));refine(aC ((eu tt).trans rfl)).trans ?_;refine(aC (Vz (T+M) M _ ?_)).trans ?_
    ·simp only[ae,aB,en,env,cV,dO,cj,eD]
    ·exact fin (eE a) _ M fun k hk=>by subst hk;exact Vx h hv hvl dQ hM
end
theorem FQ.rows(h:FQ c ps):lJ c ps:=fun r hr=>⟨(h.all r hr).1.2,(h.all r hr).2⟩
theorem Hw(h0:∀p∈ps,0≤p.2)(hs:cS ps=0):tR ps=[]:=by
  have key:∀(l:dZ),(∀p∈l,0≤p.2)→0≤cS l:=by
    intro l;induction l with
    |nil=>intro _;exact Int.le_refl _
    |cons x l ih=>intro h;have h1:=ih fun y hy=>h y (ef _ hy);have h2:=h x eR;unfold cS at h1⊢;rw[cD,List.sum_cons];omega
  unfold tR;induction ps with
  |nil=>rfl
  |cons x l ih =>
   have h1:=key l fun y hy=>h0 y (ef _ hy);have h2:=h0 x eR;have HJ:x.2+cS l=0:=by unfold cS at hs⊢;rw[cD,List.sum_cons] at hs;exact hs
   rw[List.foldl_cons];have e:jF [] x=[]:=by unfold jF;rw[ax (by omega)]
   rw[e];exact ih (fun y hy=>h0 y (ef _ hy)) (by omega)
theorem Bv(ps:dZ):(ps.map enc).map (·.2)=(ps.map fun r=>r.2).map D.int:=by rw[fB,fB];rfl
theorem vQ(ps:dZ):((ps.map enc).all fun kv=>kv.2.nR)=true:=by rw[List.all_map,eX];exact fun p _=>p6 p.2
theorem xB(ps:dZ):kc (ps.map enc)=ps.map aT:=by unfold kc;rw[fB];refine List.map_congr_left fun p _=>?_;show D.tup [.tup ((p.1.map Sum.inl).map Ro),.int p.2]=aT p;rw[fB];rfl
section
variable {a:vp} {ws:List (List Nat)} {ps:dZ}
theorem LB:cg a [.bb a.aG (wD ws) (ps.map enc)]=some (.sh (.int (cS ps))):=by refine zo ?_;show ki a [some (.bb a.aG (wD ws) (ps.map enc))]=_;unfold ki;refine oY ?_;simp only[Fo,Wz,cV,cw,cj,Bv,gX,eF];rfl
theorem xC(h:η[0]?=some (some (.bb a.aG (wD ws) (ps.map enc)))):NW a.aG 0 (cg a) η=some (.int (cS ps)):=by simp only[NW,Ti,Vf,h,cw,cj,LB]
theorem LC(h:kM ws)(hq:FQ (ws.length:Int) ps)(hl:ps.length≤60):cL a [.bb a.aG (wD ws) (ps.map enc)]=some (.ol ((tR ps).map aT)):=by
  have h1:=h.one;have h6:=h.six;refine zo ?_;show kj a [some (.bb a.aG (wD ws) (ps.map enc))]=_;unfold kj;have hc:bF (ae dF (NW a.aG 0 (cg a)) (eC (.int 0))) [some (.bb a.aG (wD ws) (ps.map enc))]=some (cS ps==0):=by simp only[bF,ae,eC,xC (η:=[some (.bb a.aG (wD ws) (ps.map enc))]) rfl,cj,dh]
  by_cases q:cS ps=0
  ·rw[q] at hc;refine mN ((lq hc).trans ?_);rw[Hw (fun p hp=>(hq.all p hp).2) q];rfl
  · have q':(cS ps==0)=false:=by simpa using q
    rw[q'] at hc;refine(aC ((eu hc).trans rfl)).trans ?_;have hP:=qW (ps:=[]) (by omega:(0:Int)≤(ws.length:Int)) hq.rows ⟨List.nodup_nil,fun _ h=>nomatch h⟩;have hk:(lW ps).length<64:=by have:=hP.2;show(ps.foldl gP []).length<64;simp only[List.length_nil] at this;omega
    have eh:=Ho (by omega) (by omega) hq.rows q (by omega) hk;rw[←FK (by omega) hq.rows] at eh;refine EY ?_;have hlen:((wD ws).length:Int)=(ws.length:Int):=by simp[wD]
    have hz:(ps.map enc).length≤1000:=by rw[bY];omega
    have MS:fL (j8 2 (cf (aU true 0) (cf (aU true 1) j7))) jO (oQ (ag (eL (xj (eV 0))) (ag (eV 1) aN))) (ps.map aT) (List.replicate 2 none++[])=some (ps.map dW):=by
      refine kG aT dW fun x _=>⟨[some (.sh (.tup (x.1.map D.int))),some (.sh (.int x.2))],rfl,rfl,?_⟩
      simp only[oQ,eL,xj,eV,ag,aN,cV,dO,cj,eF,fK];rw[az (by simp)];rfl
    simp only[EH,ag,aN,ix,mP,dS,eL,fM,yN,WB,cV,cw,cj,eF,hlen,vQ,hz,and_self,xB,oO,rq,MS,eh]
theorem Hz(h:kM ws)(hq:FQ (ws.length:Int) ps)(hl:ps.length≤60)(e:η[0]?=some (some (.bb a.aG (wD ws) (ps.map enc)))):PZ a.aG 0 (cL a) η=some ((tR ps).map aT):=by simp only[PZ,Ti,Vf,e,cw,cj,LC h hq hl]
theorem Ox(i:Int):qN [.int i]=some (.sh (.bl true)):=rfl
theorem Oy(h:kM ws)(hq:FQ (ws.length:Int) ps)(hl:ps.length≤60)(b:Bool):lH a [.bb a.aG (wD ws) (ps.map enc),.bd (ps.map enc),.sh (.bl b)]=some (.sh (.bl true)):=by
  have h1:=h.one;have h6:=h.six;have hP:=qW (ps:=[]) (by omega:(0:Int)≤(ws.length:Int)) hq.rows ⟨List.nodup_nil,fun _ h=>nomatch h⟩;have heq:=FK (by omega:(0:Int)≤(ws.length:Int)) hq.rows;have hhs:∀x∈tR ps,x.1.length≤100:=fun x hx=>by rw[heq] at hx;have:=(hP.1.all x ((mX hP.1).mem_iff.mp hx)).1.le6 (by omega);omega
  have hhl:(tR ps).length≤100:=by
    have e:(jE (lW ps)).length=(lW ps).length:=(mX (show zA (ws.length:Int) (lW ps) from hP.1)).length_eq;have:(lW ps).length≤60:=by have:=hP.2;simp only[List.length_nil] at this;show(ps.foldl gP []).length≤60;omega
    rw[heq];omega
  have sm:=DC hhl hhs;have el:=Lj ps (by omega);have hz:(ps.map enc).length≤1000:=by rw[bY];omega
  let en (o3 o4 o5:e9):aY:=[some (.bb a.aG (wD ws) (ps.map enc)),some (.bd (ps.map enc)),some (.sh (.bl b)),o3,o4,o5]
  have bh:∀o3 o4 o5,PZ a.aG 0 (cL a) (en o3 o4 o5)=some ((tR ps).map aT):=fun o3 o4 o5=>Hz h hq hl rfl;have bc:∀o3 o4 o5,NW a.aG 0 (cg a) (en o3 o4 o5)=some (.int (cS ps)):=fun o3 o4 o5=>xC rfl;refine zo ?_;show zj a (en none none none)=_;unfold zj
  let due:e9:=some (.sh (.lst ((tR ps).map aT)))
  refine(aC (bX (d:=.lst ((tR ps).map aT)) ?_)).trans ?_
  ·simp only[bD,ag,aN,eL,yQ,PV,en,cV,dO,cj,eF,vQ,hz,and_self,cw,xB,el]
  have fin:∀o5,bj (cy 4 (NW a.aG 0 (cg a))) (bj (iO (iR (jm (bF (bD qN (ag (eV 4) aN)))) (bF (ae lV (aB 4) (ix Cv (ag (eL (sf (PV 1))) aN))))) (et (eC (.bl false))) bT) (et (bD (dJ 6) (ag (eL (PZ a.aG 0 (cL a))) (ag (aB 3) aN))))) (en due none o5)=some (.rt (.sh (.bl true))):=fun o5=>by
    refine(aC (bX (bc _ _ _))).trans ?_;refine(aC ((eu ?_).trans rfl)).trans ?_
    · have e1:sf (PV 1) (en due (some (.sh (.int (cS ps)))) o5)=some ((ps.map fun r=>r.2).map D.int):=by
        simp only[sf,PV,en,cV,dO,cj,vQ,hz,and_self,cw,Bv]
      have e2:((ps.map fun r=>r.2).sum)=cS ps:=rfl;show iR _ _ (en due (some (.sh (.int (cS ps)))) o5)=_;simp only[iR,jm,bF,ae,bD,ix,ag,aN,eL,e1,cj,eF,Cv,gX,e2];simp only[eV,aB,en,cV,dO,cj,eF,Ox,nA];simp
    ·refine oY ?_;show bD _ _ (en due (some (.sh (.int (cS ps)))) o5)=_;simp only[bD,ag,aN,eL,bh,cj,eF];simp only[aB,en,due,cV,dO,cj,eF,sm]
  cases b with
  |false=>exact(aC ((eu rfl).trans rfl)).trans (fin none)
  |true=>refine(aC (η':=en due none (some (.ol []))) ((lq rfl).trans ?_)).trans (fin _);refine(aC (ny (d:=(tR ps).map aT) (bh _ _ _))).trans ?_;refine(aC ((eu ?_).trans rfl)).trans rfl;simp only[jm,bF,bD,ag,aN,aB,en,due,jf,jI,cV,dO,cj,eF,sm,Bool.not_true]
end
abbrev sJ:Stmt:=inClass (top 19) 0
theorem Oz:bq ["self","words"] ["self","words"] (aj sJ):=⟨rfl,rfl,rfl,by decide +kernel,rfl,by decide +kernel,by decide +kernel⟩
def pA(K:PySem.W.Frag)(C:Addr):Sp:=fun vs H Q _=>∃x l dx F ws,vs=[.ref x,.ref l]∧Base F H∧F x=none∧H x=some (.ins C dx [])∧kM ws∧Den K H (.lst (wD ws)) (.ref l) ∧
  ∀H' F' d,aI F (cR H x) F' H'→iu K F' (.ref x) C (wD ws) d→H d=none→gK K F' H' d []→Q .non H'
theorem OB{K:PySem.W.Frag}{base:Heap}{f:Addr}{a:vp}(F:lX K "__init__" "Box.__init__" sJ f fd)(T:Txt K mg a)(vR:mE P w K mg base 2 a.gj ["words"] (gJ K [false] gq)):cE P w K mg base mz 3 f fd ["self","words"] (pA K a.aG):=by
  refine F.ok Oz (fun vs H Q E h=>?_) (fun dk A outer s H vs Q E hr h=>?_)
  ·obtain⟨x,l,dx,F,ws,rfl,_⟩:=h;rfl
  · obtain⟨x,l,dx,F,ws,rfl,b,hFx,YT,Sx,MC,k⟩:=h;have hu:=hr.units;refine⟨_,df (kN (PE.Vj fun z=>cn vR (hr.mono (by decide)) rfl T.gj (cC (aA 1) aO)))
      (df (Ir (pv 0) (PE.YC fun z=>J0 rfl rfl T.mU (aA 1)) rfl) (m4 (Ir (pv 0) pT rfl))),?_⟩
    have h6:=Sx.six;have e1:bD gq (ag (aB 1) aN) [none,some (.br (.lst (wD ws)))]=some .non:=by simp only[bD,ag,aN,aB,cV,dO,cj,eF,Ls Sx]
    refine A9 (η:=[none,some (.br (.lst (wD ws)))]) (d:=.non) b ⟨MC,trivial⟩ e1 fun v H1 F1 g1 _=>?_;have U3:=aM g1.ent _ _ MC;have e2:yw (aB 1) [none,some (.br (.lst (wD ws)))]=some (wD ws):=by
      have him:(wD ws).all D.nR=true:=by rw[eX];intro d hd;obtain⟨w,_,rfl⟩:=gC.mp hd;exact EB _
      simp only[yw,aB,cV,dO,cj,him,uy,fK,cw]
    refine KC (η:=[none,some (.br (.lst (wD ws)))]) (ds:=wD ws) g1.base ⟨U3,trivial⟩ e2 fun lp ls H2 F2 g2 hlp He Hf YV=>?_;have hx1:=g1.ent _ _ YT;have hx2:=g2.ent _ _ hx1;have uI:=g1.trans g2;have fx2:F2 x=none:=ja (K:=K) uI hFx YT rfl;have hxl:x≠lp:=aQ hx1 hlp;refine⟨.ref x,rfl,x,a.aG,dx,[],rfl,hx2,T.dG,T.qF,by decide,?_⟩;intro d hd;have Tn:d≠x:=fun e=>by subst e;rw[ay] at hd;cases hd
    have hd2:H2 d=none:=by rw[ai Tn] at hd;exact hd
    have YW:d≠lp:=fun e=>by subst e;rw[hd2] at Hf;cases Hf
    refine⟨.ref x,rfl,x,a.aG,dx,[("words",.ref lp)],rfl,?_,T.dG,T.jw,(show 1<1000 by decide),?_⟩
    ·rw[ai (cT Tn),ay];rfl
    have YX:lT "lying" (V.ref d) [("words",V.ref lp)]=([("words",V.ref lp),("lying",V.ref d)]:List (Str×V)):=rfl;show Q .non (upd (upd (upd H2 x (.ins a.aG dx [("words",.ref lp)])) d (.dT [])) x (.ins a.aG dx (lT "lying" (V.ref d) [("words",V.ref lp)])));rw[YX];have gx:aI F (cR H x) F H:=kJ b hFx YT rfl;have h0l:cR H x lp=none:=by rw[cG (cT hxl)];exact g1.ent.free hlp
    have gS:=(gx.trans uI).share g2.base Hf h0l;have fx:upd F2 lp (.lst ls) x=none:=by rw[ai hxl];exact fx2
    have gW:=gS.write (p:=x) (o:=.ins a.aG dx [("words",.ref lp)]) bR fx trivial rfl;have gD:=gW.trans (aI.own gW.base hd (.dT []) (ik _) rfl);have gE:=gD.write (p:=x) (o:=.ins a.aG dx [("words",.ref lp),("lying",.ref d)]) bR fx trivial rfl;have gF:=gE.share gE.base (p:=x) ay bR;have sx:bH (upd F2 lp (.lst ls)) (upd (upd F2 lp (.lst ls)) x (.ins a.aG dx [("words",.ref lp),("lying",.ref d)])):=fW fx _;have sl:bH F2 (upd F2 lp (.lst ls)):=fW He _;refine k _ _ d gF ⟨x,dx,lp,ls,rfl,ay,eY.of (sx _ _ ay),bp (sl.trans sx) _ _ YV⟩ (uI.ent.free hd2) ⟨?_,[],?_,.nil⟩
    ·rw[ai Tn,ai YW];exact g2.base.sub.free hd2
    ·rw[ai Tn,ay]
theorem Sy{K:PySem.W.Frag}{l:Addr}{Q:VK}(b:Base F H)(hr:kM ws)(hl:Den K H (.lst (wD ws)) (.ref l))(k:∀x d H' F',aI F H F' H'→iu K F' (.ref x) C (wD ws) d→H d=none→gK K F' H' d []→Q (.ref x) H'):∀x dx,H x=none→H dx=none→dx≠x→pA K C (.ref x::([.ref l]++[])) (upd (upd H dx (.own x)) x (.ins C dx [])) (fun v H2=>v=.non∧Q (.ref x) H2) E0:=fun x dx hx Tn kU=>by
  have gO:aI F H F (upd H dx (.own x)):=aI.own b Tn (.own x) trivial rfl;have PN:upd H dx (.own x) x=none:=by rw[ai (cT kU)];exact hx
  have gI:aI F (upd H dx (.own x)) F (upd (upd H dx (.own x)) x (.ins C dx [])):=aI.own gO.base PN (.ins C dx []) trivial rfl;have eh:cR (upd (upd H dx (.own x)) x (.ins C dx [])) x=upd H dx (.own x):=by
    funext c;by_cases e:c=x
    ·rw[e,bR,PN]
    ·rw[cG e,ai e]
  have g:=gO.trans gI;refine⟨x,l,dx,F,ws,rfl,g.base,b.sub.free hx,ay,hr,aM g.ent _ _ hl,fun H' F' d gg bb hd o=>⟨rfl,?_⟩⟩;rw[eh] at gg;exact k x d H' F' (gO.trans gg) bb (g.ent.free hd) o
abbrev nmL:dB:=["_law_script","_law_roll","_law_rolls","_law_handed","_law_boxes","_law_kept","_law_cell","_law_xs","_law_which"]
theorem gu:bq nmL ["_law_script"] (aj iV):=⟨rfl,rfl,rfl,by decide +kernel,rfl,by decide +kernel,by decide +kernel⟩
def VA(K:PySem.W.Frag):Sp:=fun vs H Q _=>∃(l:Addr) (ns:bL) (F:Hp),vs=[.ref l]∧ns.length≤63∧Base F H∧Den K F (.lst (ns.map D.int)) (.ref l)∧∀H',Q (.bl true) H'
def Bw(t:TE):TE:=fun σ H Q=>∃d ao,H d=some (.dT ao)∧∀o,t σ (upd H d (.gM o (.dT ao))) fun x H'=>H' d=some (.gM o (.dT ao))∧Q x (upd H' d (.dT ao))
structure mZ (K:PySem.W.Frag) (C:Addr) (F0 H0 F H:Hp) (bl kl ra:Addr) (v:Bool→V) (p q:Bool→Addr) (r:Bool→V) (ws:Bool→List (List Nat)) (ps:Bool→dZ):Prop where
  gr:aI F0 H0 F H
  Tp:F bl=some (.lst [v false,v true])
  Tq:F kl=some (.lst [.ref (q false),.ref (q true)])
  YY:eY K F ra [r false,r true]
  YZ:∀i,Den K F (.lst (wD (ws i))) (r i)
  ro:∀i,kM (ws i)
  box:∀i,iu K F (v i) C (wD (ws i)) (p i)
  op:∀i,gK K F H (p i) ((ps i).map enc)
  oq:∀i,gK K F H (q i) ((ps i).map enc)
  ok:∀i,FQ ((ws i).length:Int) (ps i)
  pq:∀i j,p i≠q j
  pp:∀i j,i≠j→p i≠p j
  qq:∀i j,i≠j→q i≠q j
  zp:∀i,H0 (p i)=none
  zq:∀i,H0 (q i)=none
section
variable {K:PySem.W.Frag} {C:Addr} {F0 H0 F H F' H':Hp} {bl kl ra:Addr} {v:Bool→V} {p q:Bool→Addr} {r:Bool→V} {ws:Bool→List (List Nat)} {ps:Bool→dZ}
theorem mZ.grow(I:mZ K C F0 H0 F H bl kl ra v p q r ws ps)(g:aI F H F' H'):mZ K C F0 H0 F' H' bl kl ra v p q r ws ps :=
  ⟨I.gr.trans g,g.cz _ _ I.Tp,g.cz _ _ I.Tq,g.cz.seq I.YY,fun i=>aM g.cz _ _ (I.YZ i),I.ro,fun i=>(I.box i).mono g.cz,fun i=>(I.op i).grow g,fun i=>(I.oq i).grow g,I.ok,I.pq,I.pp,I.qq,I.zp,I.zq⟩
theorem mZ.eff(I:mZ K C F0 H0 F H bl kl ra v p q r ws ps)(i:Bool){BJ:dZ}(hk:FQ ((ws i).length:Int) BJ)(g:aI F (cR (cR H (p i)) (q i)) F' H')(a:gK K F' H' (p i) (BJ.map enc))(b:gK K F' H' (q i) (BJ.map enc)):mZ K C F0 H0 F' H' bl kl ra v p q r ws (fun j=>if j=i then BJ else ps j):=by
  have g0:aI F0 H0 F (cR (cR H (p i)) (q i)):=(I.gr.cR (I.zp i) (I.op i).1).cR (I.zq i) (I.oq i).1;refine⟨g0.trans g,g.cz _ _ I.Tp,g.cz _ _ I.Tq,g.cz.seq I.YY,fun j=>aM g.cz _ _ (I.YZ j),I.ro,fun j=>(I.box j).mono g.cz,fun j=>?_,fun j=>?_,fun j=>?_,I.pq,I.pp,I.qq,I.zp,I.zq⟩
  · by_cases e:j=i
    ·subst e;simp only[cw];exact a
    ·simp only[e,il];exact(((I.op j).cR (I.pp j i e)).cR (I.pq j i)).grow g
  · by_cases e:j=i
    ·subst e;simp only[cw];exact b
    ·simp only[e,il];exact(((I.oq j).cR (cT (I.pq i j))).cR (I.qq j i e)).grow g
  · by_cases e:j=i
    ·subst e;simp only[cw];exact hk
    ·simp only[e,il];exact I.ok j
theorem mZ.same{i:Bool}(I:mZ K C F0 H0 F H bl kl ra v p q r ws (fun j=>if j=i then ps i else ps j)):mZ K C F0 H0 F H bl kl ra v p q r ws ps:=by
  have e:(fun j=>if j=i then ps i else ps j)=ps:=by
    funext j;by_cases e:j=i
    ·rw[az e,e]
    ·rw[ax e]
  rw[e] at I;exact I
def OD(i:Bool):Int:=if i=true then 1 else 0
theorem qX{α:Type}(f:Bool→α)(i:Bool):rJ [f false,f true] (OD i)=some (f i):=by cases i<;>rfl
theorem VB{o1 o2:HO}{x y:Addr}(b:Base F H)(h1:F x=none)(h2:F y=none):bH F (upd (upd H x o1) y o2):=fun c u e=>by rw[ai (aQ e h2),ai (aQ e h1)];exact b.sub c u e
theorem pC{a:vp}{tb tk:TE}{ti:TE}{b:Bool}{Q:VK}{E:XK}(i:Bool)(I:mZ K a.aG F0 H0 F H bl kl ra v p q r ws ps)(hl:(ps i).length≤60)(hb:∀H2 Q,bH F H2→Q (v i) H2→tb σ H2 Q)(hk:∀H2 Q,bH F H2→Q (.ref (q i)) H2→tk σ H2 Q)(hi:∀H2 Q,bH F H2→Q (.bl b) H2→ti σ H2 Q)(k:∀H' F',mZ K a.aG F0 H0 F' H' bl kl ra v p q r ws ps→bH F F'→Q (.bl true) H'):Bw (Bw (uo (spS K 3 (lH a)) [] E (jh tb (jh tk (jh ti zK))))) σ H Q:=by
  obtain⟨f1,w1,h1,d1⟩:=I.op i;obtain⟨f2,w2,h2,d2⟩:=I.oq i;refine⟨p i,w1,h1,fun o1=>⟨q i,w2,by rw[ai (cT (I.pq i i))];exact h2,fun o2=>?_⟩⟩;have s2:=VB (o1:=.gM o1 (.dT w1)) (o2:=.gM o2 (.dT w2)) I.gr.base f1 f2;refine hb _ _ s2 (hk _ _ s2 (hi _ _ s2 ?_));exact KJ (ds:=[.bl b]) (vs:=[.bl b]) I.gr.base (I.pq i i) f1 h1 d1 f2 h2 d2 (I.box i) (iq (bu.mpr rfl)) rfl (Oy (I.ro i) (I.ok i) hl b)
    (fun H' F' g a b=>k H' F' (mZ.same (i:=i) (I.eff i (I.ok i) g a b)) g.cz) o1 o2
end
abbrev VC:R2:=fun x y H Q=>y=.non∧Q (.bl (!decide (x=.non))) H
def VD(K:PySem.W.Frag)(a:vp):TS :=
  Ic (xT (fun σ H Q=>∃z,vE K z (bD qM (ag (eV 6) (ag (eC (.int 12)) aN))) σ H Q) (nS 7))
  (Ic (xT (fun σ H Q=>∃z,vE K z (ae cM (ae iS (aB 7) (eC (.int 10))) (eC (.int 2))) σ H Q) (nS 8))
  (Ic (Mb (Pl (Ed VC (uo (spS K 5 (qR a)) [] E0 (jh (Ed (B7 K) (jZ 4) (jZ 8)) (jh (Ed (B7 K) (jZ 5) (jZ 8)) (jh (Ed (B7 K) (jZ 2) (jZ 8)) (jh (jZ 7) (jh (jZ 6) zK)))))) (tC .non))) (Ie (tC (.bl false))) D9)
  (Mb (Qi (tB (Bw (Bw (uo (spS K 3 (lH a)) [] E0 (jh (Ed (B7 K) (jZ 4) (jZ 8)) (jh (Ed (B7 K) (jZ 5) (jZ 8)) (jh (Ed Xf (Ed (rI (fun _ j=>0<j) fun i j=>.int (i%j)) (Ed (B7 K) (jZ 7) (tC (.int 11))) (tC (.int 2))) (tC (.int 1))) zK)))))))) (Ie (tC (.bl false))) D9)))
theorem Y0{t:TE}{u w:TS}{W:Ends}(h:t σ H fun x H1=>∃c,x=.bl c∧if (!c)=true then u W σ H1 else w W σ H1):Mb (Qi (tB t)) u w W σ H:=h
theorem mod2(y:Int):∃i:Bool,y%2=OD i:=by
  have h0:=pI y (show(2:Int)≠0 by decide);have h1:=tf y (show(0:Int)<2 by decide);by_cases h:y%2=1
  ·exact⟨true,h⟩
  ·exact⟨false,by show y%2=0;omega⟩
theorem OG{K:PySem.W.Frag}{a:vp}{F0 H0:Hp}{bl kl ra:Addr}{v:Bool→V}{p q:Bool→Addr}{r:Bool→V}{ws:Bool→List (List Nat)}{ps:Bool→dZ}{s0 s1 s3 c7 c8:Option V}{cell:Int}{W:Ends}(I:mZ K a.aG F0 H0 F H bl kl ra v p q r ws ps)(hl:∀i,(ps i).length≤58)(k:∀H' F' BJ c7' c8',mZ K a.aG F0 H0 F' H' bl kl ra v p q r ws BJ→bH F F'→(∀i,(BJ i).length≤(ps i).length+1)→W.nx [s0,s1,some (.ref ra),s3,some (.ref bl),some (.ref kl),some (.int cell),c7',c8'] H'):VD K a W [s0,s1,some (.ref ra),s3,some (.ref bl),some (.ref kl),some (.int cell),c7,c8] H:=by
  obtain⟨xs,hx,em⟩:=Ov cell;have e1:bD qM (ag (eV 6) (ag (eC (.int 12)) aN)) [none,none,none,none,none,none,some (.sh (.int cell)),none,none]=some (.lst (xs.map D.int)):=by simp only[bD,ag,aN,eV,eC,cV,dO,cj,eF,em]
  refine A9 (η:=[none,none,none,none,none,none,some (.sh (.int cell)),none,none]) (d:=.lst (xs.map D.int)) I.gr.base ⟨aD.mpr rfl,trivial⟩ e1 fun v7 H1 F1 g1 d7=>?_;have I1:=I.grow g1;have at_:∀k:Nat,k<12→∀{α:Type} (f:Int→α),rJ (xs.map f) (k:Int)=some (f (xs.getD k 0)):=fun k hk α f=>by
    have HM:k<xs.length:=by omega
    refine kP ?_;rw[eU,jd,eQ HM];rfl
  have Tr:=at_ 10 (by decide) D.int;have m2:∀x,iy x 2=true:=fun _=>rfl;rw[show((10:Nat):Int)=10 from rfl] at Tr;obtain⟨i,hi⟩:=mod2 (xs.getD 10 0);have e2:ae cM (ae iS (aB 7) (eC (.int 10))) (eC (.int 2)) [none,none,none,none,none,none,none,some (.sh (.lst (xs.map D.int))),none]=some (.int (OD i)):=by simp only[ae,aB,eC,cV,dO,cj,uO,Tr,cq (m2 _),hi]
  refine A9 (η:=[none,none,none,none,none,none,none,some (.sh (.lst (xs.map D.int))),none]) (d:=.int (OD i)) g1.base ⟨d7,trivial⟩ e2 fun v8 H2 F2 g2 d8=>?_;have I2:=I1.grow g2;have e8:=aD.mp d8;subst e8;have d7':=aM g2.cz _ _ d7;obtain⟨BJ,hk,hlen,ev⟩:=Ow (a:=a) (p:=p i) (q:=q i) (I2.ro i) (I2.ok i) (by have:=hl i;omega) hx cell;have sb:=I2.gr.base.sub;refine⟨.ref bl,rfl,.int (OD i),rfl,bl,_,_,v i,rfl,rfl,eY.of (sb _ _ I2.Tp),qX v i,.ref kl,rfl,.int (OD i),rfl,kl,_,_,.ref (q i),rfl,rfl,eY.of (sb _ _ I2.Tq),qX (fun j=>V.ref (q j)) i,.ref ra,rfl,.int (OD i),rfl,ra,_,_,r i,rfl,rfl,sb.seq I2.YY,qX r i,v7,rfl,.int cell,rfl,?_⟩;refine KD (ds:=[.lst (wD (ws i)),.lst (xs.map D.int),.int cell]) (vs:=[r i,v7,.int cell]) I2.gr.base (I2.pq i i) (I2.op i) (I2.oq i) (I2.box i) (av.mpr ⟨_,_,rfl,I2.YZ i,av.mpr ⟨_,_,rfl,d7',iq (aD.mpr rfl)⟩⟩) rfl ev fun H3 F3 g3 o1 o2=>?_;have I3:=I2.eff i hk g3 o1 o2;refine⟨rfl,false,rfl,QR ?_⟩;have d73:=aM g3.cz _ _ d7';obtain⟨a7,vs7,e7,sq7,dl7⟩:=aL.mp d73;rw[jk dl7] at sq7;have Ts:=at_ 11 (by decide) V.int;rw[show((11:Nat):Int)=11 from rfl] at Ts;have hl3:((fun j=>if j=i then BJ else ps j) i).length≤60:=by have:=hl i;simp only[cw];omega
  dsimp only[D9];refine Y0 ?_;refine pC (b:=decide (V.int (xs.getD 11 0%2)=V.int 1)) i I3 hl3 (fun H2 Q s q'=>⟨.ref bl,rfl,.int (OD i),rfl,bl,_,_,v i,rfl,rfl,eY.of (s _ _ I3.Tp),qX v i,q'⟩) (fun H2 Q s q'=>⟨.ref kl,rfl,.int (OD i),rfl,kl,_,_,.ref (q i),rfl,rfl,eY.of (s _ _ I3.Tq),qX (fun j=>V.ref (q j)) i,q'⟩)
    (fun H2 Q s q'=>⟨v7,rfl,a7,_,_,_,e7,rfl,s.seq sq7,Ts,_,_,rfl,rfl,(show(0:Int)<2 by decide),rfl,q'⟩) fun H4 F4 I4 s4=>⟨true,rfl,QR ?_⟩
  refine k H4 F4 _ _ _ I4 ((g1.cz.trans g2.cz).trans (g3.cz.trans s4)) fun j=>?_;by_cases e:j=i
  ·subst e;simp only[cw];exact hlen
  ·simp only[e,il];omega
theorem jG{h:Addr}(g:aI F H F' H')(o:F h=none∧H h=some (.lst vs)):F' h=none∧H' h=some (.lst vs):=⟨ja (K:=([]:PySem.W.Frag)) g o.1 o.2 rfl,g.ent _ _ o.2⟩
theorem Y1{c:Addr}{oa ob oc od:HO}(bs:Base F H)(ha:F a=none)(hb:F b=none)(hc:F c=none)(hd:F d=none)(L4:H a=some oa)(Bz:H b=some ob)(HD:H c=some oc)(HC:H d=some od)(ta:BE oa=false)(tb:BE ob=false)(tc:BE oc=false)(td:BE od=false)(ab:b≠a)(ac:c≠a)(ad:d≠a)(bc:c≠b)(bd:d≠b)(cd:d≠c):aI F (cR (cR (cR (cR H a) b) c) d) F H:=by
  have g1:=kJ bs ha L4 ta;have g2:=kJ (di bs ha) hb (by rw[cG ab];exact Bz) tb;have g3:=kJ (di (di bs ha) hb) hc (by rw[cG bc,cG ac];exact HD) tc;have g4:=kJ (di (di (di bs ha) hb) hc) hd (by rw[cG cd,cG bd,cG ad];exact HC) td;exact((g4.trans g3).trans g2).trans g1
theorem Bx{K:PySem.W.Frag}{l:Addr}{t:TA}{Q:VK}(b:Base F H)(hr:kM ws)(hd:Den K H (.lst (wD ws)) (.ref l))(ha:∀Q',Q' [.ref l] H→t σ H Q')(k:∀x d H' F',aI F H F' H'→iu K F' (.ref x) C (wD ws) d→H d=none→gK K F' H' d []→Q (.ref x) H'):zM C (pA K C) [] E0 t σ H Q:=ha _ (Sy (Q:=Q) b hr hd k)
theorem LD{K:PySem.W.Frag}{l0:Addr}{zz:List (List Nat)}{t0 t1:TA}{u:TS}{W:Ends}(b:Base F H)(hr:kM ws)(hr':kM zz)(h0:Den K H (.lst (wD ws)) (.ref l0))(h1:Den K H (.lst (wD zz)) (.ref l1))(a0:∀H2 Q,bH H H2→Q [.ref l0] H2→t0 σ H2 Q)(a1:∀H2 Q,bH H H2→Q [.ref l1] H2→t1 σ H2 Q)(k:∀x0 d0 H6 F6 x1 d1 H7 F7 bl,aI F H F6 H6→iu K F6 (.ref x0) C (wD ws) d0→H d0=none→gK K F6 H6 d0 []→aI F6 H6 F7 H7→iu K F7 (.ref x1) C (wD zz) d1→H6 d1=none→gK K F7 H7 d1 []→H7 bl=none→u W (σ.set 4 (some (.ref bl))) (upd H7 bl (.lst [.ref x0,.ref x1]))):Ic (xT (Ud (jh (zM C (pA K C) [] E0 t0) (jh (zM C (pA K C) [] E0 t1) zK))) (nS 4)) u W σ H:=by
  refine Bx (Q:=fun x H1=>jh (zM C (pA K C) [] E0 t1) zK σ H1 fun xs H2=>(x::xs).length≤sizeLine∧∀p,H2 p=none→u W (σ.set 4 (some (.ref p))) (upd H2 p (.lst (x::xs)))) b hr h0 (fun Q q'=>a0 H Q (bH.refl _) q') fun x0 d0 H6 F6 g6 Y2 nd0 WH=>?_;refine Bx (Q:=fun y H2=>[.ref x0,y].length≤sizeLine∧∀p,H2 p=none→u W (σ.set 4 (some (.ref p))) (upd H2 p (.lst [.ref x0,y]))) g6.base hr' (aM g6.ent _ _ h1) (fun Q q'=>a1 H6 Q g6.ent q') fun x1 d1 H7 F7 g7 Y3 Y4 Y5=>?_;exact⟨show 2≤sizeLine by rw[fU];decide,fun bl Y6=>k x0 d0 H6 F6 x1 d1 H7 F7 bl g6 Y2 nd0 WH g7 Y3 Y4 Y5 Y6⟩
theorem Sz{ta tb:TE}{W:Ends}(h:ta σ H fun x H1=>∃c,x=.bl c∧if c=true then tb σ H1 W.rt else W.rt (.bl false) H1):Ie (HZ ta tb) W σ H:=h
section
variable {P:Program} {w:World} {K:PySem.W.Frag} {mg:Str→fQ} {base:Heap} {f:Addr} {fd fdi:FuncData} {a:vp}
theorem LG(F:lX K "law" "law" iV f fd)(T:Txt K mg a)(nG:mE P w K mg base 1 a.hX ["_law_script","_law_k"] (gJ K [true,true] cZ))(OI:mE P w K mg base 1 a.t7 ["_law_cell","_law_many"] (gJ K [true,true] qM))(OJ:mE P w K mg base 2 a.t8 ["_law_script","_law_at","_law_many"] (gJ K [true,true,true] uc))(OL:AQ P w K mg base 3 a.ub ["_law_box","_law_kept","_law_roll","_law_xs","_law_cell"] (spS K 5 (qR a)))(OO:AQ P w K mg base 8 a.nD ["_law_box","_law_kept","_law_first"] (spS K 3 (lH a)))(Gi:cE P w K mg base mz 3 a.mS fdi ["self","words"] (pA K a.aG))(bi:Binds K fdi ["self","words"] []):cE P w K mg base mz 9 f fd ["_law_script"] (VA K):=by
  obtain⟨fdm,Gm,bm,km⟩:=OL.ex;obtain⟨fdr,Gr,br,kr⟩:=OO.ex;refine F.ok gu (fun vs H Q E h=>?_) (fun dk A outer s H vs Q E hr h=>?_)
  ·obtain⟨l,ns,F,rfl,_⟩:=h;rfl
  · obtain⟨l,ns,F,rfl,QQ,b,hsc,kk⟩:=h;have hu:=hr.units;refine⟨_,(df (jg (i:=1) gu.nd rfl (Or.inl rfl) (PE.Vj fun z=>cn OJ (hr.mono (by decide)) rfl T.t8 (bw (bZ 0) (bw ak (bw (cY (DE.bo ak) (DE.bo (cx (DE.bo (cn nG (hr.mono (by decide)) rfl T.hX (bw (bZ 0) (bw ak aO)))) (DE.bo ak)))) aO)))))
      (df (jg (i:=2) gu.nd rfl (Or.inl rfl) (PE.Vj fun z=>DO.sh (oR (n:=2) (bw (bZ 1) (bw (DO.sh (J1 (bZ 1))) aO)))))
      (df (jg (i:=3) gu.nd rfl (Or.inl rfl) (xY (aW (PE.YC fun z=>EI rfl rfl T.mU (bZ 1)) (aW (PE.YC fun z=>J1 (bZ 1)) cP))))
      (df (jg (i:=4) gu.nd rfl (Or.inl rfl) (xY (aW (Ei T.su Gi (hr.mono (by decide)) rfl T.aG bi .nil IU (aW (ip du (pv 3) gR (fun _ _=>rfl)) cP)) (aW (Ei T.su Gi (hr.mono (by decide)) rfl T.aG bi .nil IU (aW (ip du (pv 3) gR (fun _ _=>rfl)) cP)) cP))))
      (df (kN (Ca PySem.F.plainAttrs_list PySem.F.slot_list_reverse PySem.F.type_list_reverse Cb (ip du (pv 3) gR (fun _ _=>rfl))))
      (df (kN (Ca PySem.F.plainAttrs_list PySem.F.slot_list_clear PySem.F.type_list_clear zS (ip du (pv 3) gR (fun _ _=>rfl))))
      (df (jg (i:=5) gu.nd rfl (Or.inl rfl) (xY (aW pT (aW pT cP))))
      (df (Ik PassesOwn.never rfl (PI.rJ fun z=>kY (DO.sh (Ap (bZ 0) (jN (DE.bo ak)) (jN (DE.bo ak))))) (Ea (i:=6) gu.nd rfl (Or.inl rfl)) (df (jg (i:=7) gu.nd rfl (Or.inl rfl) (PE.Vj fun z=>cn OI (hr.mono (by decide)) rfl T.t7 (bw (bZ 6) (bw ak aO))))
      (df (jg (i:=8) gu.nd rfl (Or.inl rfl) (PE.Vj fun z=>cx (iN (aA 7) (DE.bo ak)) (DE.bo ak)))
      (df (Ig (Eg Mj (pN Gm (hr.mono (by decide)) rfl T.ub km bm .nil pd (aW (ip du (pv 4) (pv 8) (fun _ _=>rfl)) (aW (ip du (pv 5) (pv 8) (fun _ _=>rfl)) (aW (ip du (pv 2) (pv 8) (fun _ _=>rfl)) (aW (pv 7) (aW (pv 6) cP)))))) HV (j4 _)) (m4 (mv zI)) xR)
      (m4 (Ig (HY (HX (sg (sg (pN Gr (hr.mono (by decide)) rfl T.nD kr br .nil pd (aW (ip du (pv 4) (pv 8) (fun _ _=>rfl)) (aW (ip du (pv 5) (pv 8) (fun _ _=>rfl)) (aW (Ef Io (Pj Il (ip du (pv 7) gR (fun _ _=>rfl)) gR) gR (j4 _)) cP)))))))) (m4 (mv zI)) xR))))))
      (m4 (mv (Ib (sg (sg (pN Gr (hr.mono (by decide)) rfl T.nD kr br .nil pd (aW (ip du (pv 4) gR (fun _ _=>rfl)) (aW (ip du (pv 5) gR (fun _ _=>rfl)) (aW zI cP)))))) (Ia (sg (sg (pN Gr (hr.mono (by decide)) rfl T.nD kr br .nil pd (aW (ip du (pv 4) gR (fun _ _=>rfl)) (aW (ip du (pv 5) gR (fun _ _=>rfl)) (aW zI cP)))))))))))))))))),?_⟩
    obtain⟨m,Sl,hm6,em⟩:∃m:Nat,1≤m∧m≤6∧1+ns.getD 0 0%6=(m:Int):=by have h0:=pI (ns.getD 0 0) (show(6:Int)≠0 by decide);have h1:=tf (ns.getD 0 0) (show(0:Int)<6 by decide);exact⟨(1+ns.getD 0 0%6).toNat,by omega,by omega,by omega⟩
    obtain⟨ws,Sx,ew⟩:=Ou ns Sl hm6;have m6:∀x,iy x 6=true:=fun _=>rfl;have ec:cZ [.lst (ns.map D.int),.int 0]=some (.sh (.int (ns.getD 0 0))):=DH ns 0;have e1:bD uc (ag (eV 0) (ag (eC (.int 1)) (ag (ae gd (eC (.int 1)) (ae cM (bD cZ (ag (eV 0) (ag (eC (.int 0)) aN))) (eC (.int 6)))) aN))) [some (.sh (.lst (ns.map D.int))),none,none,none,none,none,none,none,none]=some (.lst (wD ws)):=by simp only[bD,ag,aN,eV,eC,ae,cV,cj,eF,ec,cq (m6 _),eD,em,ew]
    refine A9 (η:=[some (.sh (.lst (ns.map D.int))),none,none,none,none,none,none,none,none]) (d:=.lst (wD ws)) b ⟨hsc,trivial⟩ e1 fun rv H1 F1 g1 dr1=>?_;have e2:eL (uE (ag (eV 1) (ag (eL (Nk (eV 1))) aN))) [none,some (.sh (.lst (wD ws))),none,none,none,none,none,none,none]=some (.lst [.lst (wD ws),.lst (wD ws).reverse]):=rfl;refine A9 (η:=[none,some (.sh (.lst (wD ws))),none,none,none,none,none,none,none]) (d:=.lst [.lst (wD ws),.lst (wD ws).reverse]) g1.base ⟨dr1,trivial⟩ e2 fun rlv H2 F2 g2 drl=>?_;have dr2:=aM g2.cz _ _ dr1;have e3:xj (eV 1) [none,some (.sh (.lst (wD ws))),none,none,none,none,none,none,none]=some (wD ws):=rfl;refine KC (η:=[none,some (.sh (.lst (wD ws))),none,none,none,none,none,none,none]) (ds:=wD ws) g2.base ⟨dr2,trivial⟩ e3 fun h0 N1 H3 F3 g3 n0 f0 Y7 dv0=>?_;have dr3:=aM g3.cz _ _ dr2;have e4:Nk (eV 1) [none,some (.sh (.lst (wD ws))),none,none,none,none,none,none,none]=some (wD ws).reverse:=rfl;refine KC (η:=[none,some (.sh (.lst (wD ws))),none,none,none,none,none,none,none]) (ds:=(wD ws).reverse) g3.base ⟨dr3,trivial⟩ e4 fun h1 vs1 H4 F4 g4 n1 f1 Tf dv1=>?_;refine⟨show 2≤sizeLine by rw[fU];decide,fun hl nl=>?_⟩;have g5:=aI.own g4.base nl (.lst [.ref h0,.ref h1]) (show 2≤sizeLine by rw[fU];decide) rfl;have o0:=jG (g4.trans g5) ⟨f0,Y7⟩;have o1:=jG g5 ⟨f1,Tf⟩;have ol:F4 hl=none∧upd H4 hl (.lst [.ref h0,.ref h1]) hl=some (.lst [.ref h0,.ref h1]):=⟨g4.base.sub.free nl,ay⟩
    have h10:h1≠h0:=fun e=>by rw[e,Y7] at n1;cases n1
    have Vt:hl≠h0:=fun e=>by rw[e,g4.ent _ _ Y7] at nl;cases nl
    have oM:hl≠h1:=fun e=>by rw[e,Tf] at nl;cases nl
    have dn0:Den K (upd H4 hl (.lst [.ref h0,.ref h1])) (.lst (wD ws)) (.ref h0):=aL.mpr ⟨h0,N1,rfl,eY.of o0.2,bp ((g4.trans g5).cz.trans g5.base.sub) _ _ dv0⟩;have dn1:Den K (upd H4 hl (.lst [.ref h0,.ref h1])) (.lst (wD ws.reverse)) (.ref h1):=by rw[←Lp];exact aL.mpr ⟨h1,vs1,rfl,eY.of o1.2,bp (g5.cz.trans g5.base.sub) _ _ dv1⟩
    have sc5:Den K F4 (.lst (ns.map D.int)) (.ref l):=aM (g1.cz.trans (g2.cz.trans (g3.cz.trans g4.cz))) _ _ hsc;have rl5:=aM (g3.cz.trans g4.cz) _ _ drl;generalize upd H4 hl (.lst [.ref h0,.ref h1])=H5 at g5 o0 o1 ol dn0 dn1
    -- the abN
    dsimp only[nS];refine LD g5.base Sx Sx.rev dn0 dn1 (fun H2 Q s q'=>⟨.ref hl,rfl,hl,_,0,.ref h0,rfl,rfl,eY.of (s _ _ ol.2),rfl,q'⟩) (fun H2 Q s q'=>⟨.ref hl,rfl,hl,_,1,.ref h1,rfl,rfl,eY.of (s _ _ ol.2),rfl,q'⟩) fun x0 d0 H6 F6 x1 d1 H7 F7 bl g6 Y2 nd0 WH g7 Y3 Y4 Y5 Y6=>?_;have g8:=aI.put g7.base Y6 (.lst [.ref x0,.ref x1]) (show 2≤sizeLine by rw[fU];decide);have VF:upd F7 bl (.lst [.ref x0,.ref x1]) bl=some (.lst [.ref x0,.ref x1]):=ay;generalize upd F7 bl (.lst [.ref x0,.ref x1])=F8 at g8 VF;show _;have Tt:=g6.trans (g7.trans g8);have P6:=jG Tt o0;have VG:=jG Tt o1;have Y8:=jG Tt ol;have OQ:=WH.grow (g7.trans g8);have OS:=Y5.grow g8;have Y9:=Y2.mono (g7.trans g8).cz;have Za:=Y3.mono g8.cz;have OU:d0≠d1:=fun e=>by obtain⟨_,w,hw,_⟩:=WH;rw[e,Y4] at hw;cases hw
    have sc8:=aM Tt.cz _ _ sc5;have rl8:=aM Tt.cz _ _ rl5;have b8:=g8.base;have VH:∀(d:Addr) ao (h:Addr) vs,gK K F8 (upd H7 bl (.lst [.ref x0,.ref x1])) d ao→(F8 h=none∧upd H7 bl (.lst [.ref x0,.ref x1]) h=some (.lst vs))→d≠h:=fun d ao h vs ⟨_,w,hw,_⟩ ⟨_,hh⟩ e=>by rw[e,hh] at hw;cases hw
    generalize upd H7 bl (.lst [.ref x0,.ref x1])=H8 at g8 Tt P6 VG Y8 OQ OS b8 VH
    -- the lists that were handed in are turned about
    refine⟨.ref hl,rfl,hl,_,0,.ref h0,rfl,rfl,eY.of Y8.2,rfl,.inl ⟨rfl,_,eY.of P6.2⟩,h0,_,rfl,rfl,P6.2,?_⟩;have b9:=vm b8 P6.1 P6.2 rfl (u:=.lst N1.reverse) (by show N1.reverse.length≤sizeLine;rw[List.length_reverse];exact b8.sU _ _ P6.2) rfl;have ol9:upd H8 h0 (.lst N1.reverse) hl=some (.lst [.ref h0,.ref h1]):=by rw[ai Vt];exact Y8.2
    have Zb:upd H8 h0 (.lst N1.reverse) h1=some (.lst vs1):=by rw[ai h10];exact VG.2
    refine⟨.ref hl,rfl,hl,_,1,.ref h1,rfl,rfl,eY.of ol9,rfl,.inl ⟨rfl,_,eY.of Zb⟩,h1,_,rfl,rfl,Zb,?_⟩;have VJ:=vm b9 VG.1 Zb rfl (u:=.lst []) (ik _) rfl;have FR:=(OQ.put (VH _ _ _ _ OQ P6) (.lst N1.reverse)).put (VH _ _ _ _ OQ VG) (.lst []);have FT:=(OS.put (VH _ _ _ _ OS P6) (.lst N1.reverse)).put (VH _ _ _ _ OS VG) (.lst []);generalize upd (upd H8 h0 (.lst N1.reverse)) h1 (.lst [])=Tv at VJ FR FT
    -- the law's own dicts
    intro q0 WK;have WL:=aI.own VJ WK (.dT []) (ik _) rfl;intro q1 VL;have Zd:=aI.own WL.base VL (.dT []) (ik _) rfl;refine⟨show 2≤sizeLine by rw[fU];decide,fun kl nkl=>?_⟩;have gk:=aI.put Zd.base nkl (.lst [.ref q0,.ref q1]) (show 2≤sizeLine by rw[fU];decide);have oq0:gK K F8 (upd Tv q0 (.dT [])) q0 []:=⟨VJ.sub.free WK,[],ay,.nil⟩
    have oq1:gK K F8 (upd (upd Tv q0 (.dT [])) q1 (.dT [])) q1 []:=⟨WL.base.sub.free VL,[],ay,.nil⟩
    have gA:=WL.trans (Zd.trans gk);have OV:=FR.grow gA;have OW:=FT.grow gA;have OX:=oq0.grow (Zd.trans gk);have OY:=oq1.grow gk;have OZ:∀(d:Addr) ao (c:Addr),gK K F8 Tv d ao→Tv c=none→d≠c:=fun d ao c ⟨_,w,hw,_⟩ hc e=>by rw[e,hc] at hw;cases hw
    have VM:Tv q1=none:=WL.ent.free VL;have Ze:=OZ _ _ _ FR WK;have Zf:=OZ _ _ _ FR VM;have SD:=OZ _ _ _ FT WK;have Zg:=OZ _ _ _ FT VM;have WM:q0≠q1:=fun e=>by rw[←e,ay] at VL;cases VL
    have hkl:upd F8 kl (.lst [.ref q0,.ref q1]) kl=some (.lst [.ref q0,.ref q1]):=ay;have scE:=aM gA.cz _ _ sc8;have rlE:=aM gA.cz _ _ rl8;have blE:=gA.cz _ _ VF;have VN:=Y9.mono gA.cz;have VP:=Za.mono gA.cz;have bE:=gA.base;generalize upd (upd (upd Tv q0 (.dT [])) q1 (.dT [])) kl (.lst [.ref q0,.ref q1])=P7 at OV OW OX OY bE;generalize upd F8 kl (.lst [.ref q0,.ref q1])=O0 at OV OW OX OY bE hkl scE rlE blE VN VP;obtain⟨ra,rvs,rfl,rsq,VQ⟩:=aL.mp rlE;obtain⟨r0,rr,rfl,rd0,VQ⟩:=av.mp VQ;obtain⟨r1,rr,rfl,rd1,VQ⟩:=av.mp VQ;rw[aP.mp VQ] at rsq;rw[Lp] at rd1;have gH:aI O0 (cR (cR (cR (cR P7 d0) d1) q0) q1) O0 P7:=by obtain⟨a1,_,a2,_⟩:=OV;obtain⟨b1,_,b2,_⟩:=OW;obtain⟨c1,_,c2,_⟩:=OX;obtain⟨e1,_,e2,_⟩:=OY;exact Y1 bE a1 b1 c1 e1 a2 b2 c2 e2 rfl rfl rfl rfl (cT OU) (cT Ze) (cT Zf) (cT SD) (cT Zg) (cT WM)
    have I:mZ K a.aG O0 (cR (cR (cR (cR P7 d0) d1) q0) q1) O0 P7 bl kl ra (fun i=>if i=true then .ref x1 else .ref x0) (fun i=>if i=true then d1 else d0) (fun i=>if i=true then q1 else q0) (fun i=>if i=true then r1 else r0) (fun i=>if i=true then ws.reverse else ws) (fun _=>[]):=by
      refine⟨gH,blE,hkl,rsq,fun i=>?_,fun i=>?_,fun i=>?_,fun i=>?_,fun i=>?_,fun i=>⟨List.nodup_nil,fun _ h=>nomatch h⟩,fun i j=>?_,fun i j pE=>?_,fun i j pE=>?_,fun i=>?_,fun i=>?_⟩
      · cases i
        ·exact rd0
        ·exact rd1
      · cases i
        ·exact Sx
        ·exact Sx.rev
      · cases i
        ·exact VN
        ·exact VP
      · cases i
        ·exact OV
        ·exact OW
      · cases i
        ·exact OX
        ·exact OY
      · cases i<;>cases j
        ·exact Ze
        ·exact Zf
        ·exact SD
        ·exact Zg
      · cases i<;>cases j
        ·exact absurd rfl pE
        ·exact OU
        ·exact cT OU
        ·exact absurd rfl pE
      · cases i<;>cases j
        ·exact absurd rfl pE
        ·exact WM
        ·exact cT WM
        ·exact absurd rfl pE
      · cases i
        ·show cR (cR (cR (cR P7 d0) d1) q0) q1 d0=none;rw[cG Zf,cG Ze,cG OU,bR]
        ·show cR (cR (cR (cR P7 d0) d1) q0) q1 d1=none;rw[cG Zg,cG SD,bR]
      · cases i
        ·show cR (cR (cR (cR P7 d0) d1) q0) q1 q0=none;rw[cG WM,bR]
        ·exact bR
    generalize cR (cR (cR (cR P7 d0) d1) q0) q1=H0 at gH I;generalize (fun i:Bool=>if i=true then V.ref x1 else V.ref x0)=vB at I;generalize (fun i:Bool=>if i=true then d1 else d0)=pB at I;generalize (fun i:Bool=>if i=true then q1 else q0)=qB at I;generalize (fun i:Bool=>if i=true then r1 else r0)=rB at I;generalize (fun i:Bool=>if i=true then ws.reverse else ws)=wB at I
    -- the loop
    let cs:bL:=(ns.drop (HT.rg ns.length 0 (some 6))).take (HT.rg ns.length ns.length (some 63)-HT.rg ns.length 0 (some 6))
    have XS:cs.length≤57:=by refine fR (List.length_take_le _ _) ?_;rw[show(63:Int)=((63:Nat):Int) from rfl,show(6:Int)=((6:Nat):Int) from rfl,HT.tT,HT.tT];omega
    have e5:lU (eL (mG (eV 0) (gN (eC (.int 6))) (gN (eC (.int 63))))) [some (.sh (.lst (ns.map D.int))),none,none,none,none,none,none,none,none]=some (cs.map D.int):=by simp only[lU,eL,mG,eV,gN,eC,cV,cj,eF,fK,EZ];rfl
    refine⟨⟨O0,H0,Ez⟩,[some (.sh (.lst (ns.map D.int))),none,none,none,none,none,none,none,none],O0,cs.map D.int,iU.rel (z:=⟨O0,H0,Ez⟩) ⟨scE,trivial⟩ gH,e5,fun J H14 Zh g14 wk=>?_⟩;have I14:=I.grow g14;refine⟨fun n mm σ' H'=>mm=cs.length-n∧n≤cs.length∧∃F' ps c6 c7 c8,mZ K a.aG O0 H0 F' H' bl kl ra vB pB qB rB wB ps∧bH Zh F'∧(∀i,(ps i).length≤n)∧σ'=[some (.ref l),some rv,some (.ref ra),some (.ref hl),some (.ref bl),some (.ref kl),c6,c7,c8],⟨cs.length,rfl,ik _,Zh,fun _=>[],none,none,none,I14,bH.refl _,fun _=>bJ _,rfl⟩,?_⟩;rintro n mm σ' H' ⟨rfl,hn,F',ps,c6,c7,c8,I',s',hp,rfl⟩;have Rj:(cs.map D.int).length=cs.length:=bY _;by_cases dQ:n<cs.length
    ·refine .inr ⟨wk.go F' H' s' I'.gr n (by rw[Rj];exact dQ),fun σ2 H2=>n+1≤cs.length∧∃F2 ps c6 c7 c8,mZ K a.aG O0 H0 F2 H2 bl kl ra vB pB qB rB wB ps∧bH Zh F2∧(∀i,(ps i).length≤n+1)∧σ2=[some (.ref l),some rv,some (.ref ra),some (.ref hl),some (.ref bl),some (.ref kl),c6,c7,c8],fun σ2 H2 h=>⟨cs.length-(n+1),by omega,rfl,h⟩,fun x BH y=>?_⟩;obtain⟨Jy,g3',it⟩:=wk.BP F' H' s' I'.gr n (.int cs[n]) x BH (by rw[eU,eQ dQ];rfl) y;have ex:=(aD (K:=K) (F:=Jy)).mp it;subst ex;refine OG (I'.grow g3') (fun i=>by have:=hp i;omega) fun H5' F5' BJ c7' c8' I5 s5 hp5=>⟨dQ,F5',BJ,_,_,_,I5,s'.trans (g3'.cz.trans s5),fun i=>by have:=hp i;have:=hp5 i;omega,rfl⟩
    · have en:n=cs.length:=by omega
      subst en;have stop:=wk.stop F' H' s' I'.gr;rw[Rj] at stop;refine .inl ⟨stop,?_⟩;show Ie (HZ (Bw (Bw (uo (spS K 3 (lH a)) [] E0 _))) (Bw (Bw (uo (spS K 3 (lH a)) [] E0 _)))) _ _ _;refine Sz ?_;refine pC (b:=true) false I' (by have:=hp false;omega) (fun H2 Q s q'=>⟨.ref bl,rfl,bl,_,_,_,rfl,rfl,eY.of (s _ _ I'.Tp),qX vB false,q'⟩) (fun H2 Q s q'=>⟨.ref kl,rfl,kl,_,_,_,rfl,rfl,eY.of (s _ _ I'.Tq),qX (fun j=>V.ref (qB j)) false,q'⟩) (fun H2 Q s q'=>q') fun Hx Fx Ix sx=>⟨true,rfl,Uv ?_⟩
      exact pC (b:=false) true Ix (by have:=hp true;omega) (fun H2 Q s q'=>⟨.ref bl,rfl,bl,_,_,_,rfl,rfl,eY.of (s _ _ Ix.Tp),qX vB true,q'⟩) (fun H2 Q s q'=>⟨.ref kl,rfl,kl,_,_,_,rfl,rfl,eY.of (s _ _ Ix.Tq),qX (fun j=>V.ref (qB j)) true,q'⟩) (fun H2 Q s q'=>q') fun Hy Fy Iy sy=>kk Hy
end
section
variable {K:PySem.W.Frag} {kV doc pm dk ct oc:Value} {an od:Option Addr} {xM:Array fQ} {dt:Addr} {n:Nat} {u:Tok}
theorem l3{P:cA→Prop}(h:∀x0 x1 x2:Value,P [x0,x1,x2]):∀us:cA,us.length=3→P us
  |[x0,x1,x2],_=>h x0 x1 x2
theorem l2{P:cA→Prop}(h:∀x0 x1:Value,P [x0,x1]):∀us:cA,us.length=2→P us
  |[x0,x1],_=>h x0 x1
theorem VR(l:K.lookup dt=some ⟨oc,od,.seq #[.int 1 u] n,xM⟩):Binds K (fnOf "put" "Box.put" (bM aV) (bA aV) (aj aV) (.ref dt) kV doc pm an dk ct) ["self","text","many"] []:=fun s us X hl =>
  l3 (P:=fun us=>BindsTo s (fnOf "put" "Box.put" (bM aV) (bA aV) (aj aV) (.ref dt) kV doc pm an dk ct) ⟨us,[]⟩ (List.zip ["self","text","many"] (us++[]))) (fun _ _ _=>binds_K X rfl l rfl rfl rfl) us (by simpa using hl)
theorem VW(l:K.lookup dt=some ⟨oc,od,.seq #[.int 1 u] n,xM⟩):Binds K (fnOf "put" "Box.put" (bM aV) (bA aV) (aj aV) (.ref dt) kV doc pm an dk ct) ["self","text","many"] [.int 1 u]:=fun s us X hl =>
  l2 (P:=fun us=>BindsTo s (fnOf "put" "Box.put" (bM aV) (bA aV) (aj aV) (.ref dt) kV doc pm an dk ct) ⟨us,[]⟩ (List.zip ["self","text","many"] (us++[.int 1 u]))) (fun _ _=>binds_K X rfl l rfl rfl rfl) us (by simpa using hl)
theorem SG(l:K.lookup dt=some ⟨oc,od,.seq #[.int 1 u] n,xM⟩):Binds K (fnOf "take" "Box.take" (bM aS) (bA aS) (aj aS) (.ref dt) kV doc pm an dk ct) ["self","text","many"] []:=fun s us X hl =>
  l3 (P:=fun us=>BindsTo s (fnOf "take" "Box.take" (bM aS) (bA aS) (aj aS) (.ref dt) kV doc pm an dk ct) ⟨us,[]⟩ (List.zip ["self","text","many"] (us++[]))) (fun _ _ _=>binds_K X rfl l rfl rfl rfl) us (by simpa using hl)
theorem SJ(l:K.lookup dt=some ⟨oc,od,.seq #[.int 1 u] n,xM⟩):Binds K (fnOf "take" "Box.take" (bM aS) (bA aS) (aj aS) (.ref dt) kV doc pm an dk ct) ["self","text","many"] [.int 1 u]:=fun s us X hl =>
  l2 (P:=fun us=>BindsTo s (fnOf "take" "Box.take" (bM aS) (bA aS) (aj aS) (.ref dt) kV doc pm an dk ct) ⟨us,[]⟩ (List.zip ["self","text","many"] (us++[.int 1 u]))) (fun _ _=>binds_K X rfl l rfl rfl rfl) us (by simpa using hl)
end
theorem SK{K:PySem.W.Frag}{E:XK}(hl:ns.length≤63)(hO:Mz H)(hS:eY K H a (ns.map V.int)):VA K [.ref a] H (fun v _=>v=.bl true) E:=by
  have b:Base H H:=⟨bH.refl _,fun _ _ h _=>h,fun c o hc=>by
    rcases hO c with z|⟨ob,xs,z,hl⟩|⟨ps,z⟩
    ·rw[hc] at z;cases z
    ·rw[hc] at z;cases z;exact hl
    ·rw[hc] at z;cases z;exact True.intro⟩
  exact⟨a,ns,H,rfl,hl,b,aL.mpr ⟨a,_,rfl,hS,i9 _⟩,fun _=>rfl⟩
theorem ar1{P:cA→Prop}(h:∀x0:Value,P [x0]):∀us:cA,us.length=1→P us
  |[x0],_=>h x0
theorem ar2{P:cA→Prop}(h:∀x0 x1:Value,P [x0,x1]):∀us:cA,us.length=2→P us
  |[x0,x1],_=>h x0 x1
theorem ar3{P:cA→Prop}(h:∀x0 x1 x2:Value,P [x0,x1,x2]):∀us:cA,us.length=3→P us
  |[x0,x1,x2],_=>h x0 x1 x2
theorem ar4{P:cA→Prop}(h:∀x0 x1 x2 x3:Value,P [x0,x1,x2,x3]):∀us:cA,us.length=4→P us
  |[x0,x1,x2,x3],_=>h x0 x1 x2 x3
theorem ar5{P:cA→Prop}(h:∀x0 x1 x2 x3 x4:Value,P [x0,x1,x2,x3,x4]):∀us:cA,us.length=5→P us
  |[x0,x1,x2,x3,x4],_=>h x0 x1 x2 x3 x4
structure DN (K:PySem.W.Frag) (x:Str) (st:Stmt) (f:Addr):Prop where
  a:nsIn K mainGlobals x=some (some (.ref f))
  e:∃fd,lX K x x st f fd
structure DM (K:PySem.W.Frag) (C:Addr) (x q:Str) (st:Stmt) (f:Addr):Prop where
  a:PySem.W.findIn K (.ref C) x=some (some (.ref f))
  i:isFn K (.ref f)=true
  e:∃fd,lX K x q st f fd
section
variable {K:PySem.W.Frag} {x q:Str} {st:Stmt} {f C:Addr} {oc:Value} {od an:Option Addr} {xM:Array fQ} {kV doc pm dk ct:Value}
theorem eP(a:nsIn K mainGlobals x=some (some (.ref f)))(l:K.lookup f=some ⟨oc,od,.func (fnOf x x (bM st) (bA st) (aj st) .none kV doc pm an dk ct),xM⟩)(c:codeIn K dk x=true)(k:keepIn K (.ref f)=true):DN K x st f:=⟨a,_,yb l c k⟩
theorem P8(a:PySem.W.findIn K (.ref C) x=some (some (.ref f)))(i:isFn K (.ref f)=true)(l:K.lookup f=some ⟨oc,od,.func (fnOf x q (bM st) (bA st) (aj st) .none kV doc pm an dk ct),xM⟩)(c:codeIn K dk q=true)(k:keepIn K (.ref f)=true):DM K C x q st f:=⟨a,i,_,yb l c k⟩
end
theorem cm(P:Program)(w:World)(base:Heap){K:PySem.W.Frag}{f:Addr}{ps:dB}{sp:Sp}(h:cE P w K mg base mz n f fd ps sp)(b:Binds K fd ps [])(k:keepIn K (.ref f)=true):mE P w K mg base n f ps sp:=⟨fd,h,b,k⟩
theorem WN(P:Program)(w:World)(base:Heap){K:PySem.W.Frag}{f:Addr}{ps:dB}{sp:Sp}(h:cE P w K mg base (CY P w) n f fd ps sp)(b:Binds K fd ps [])(k:keepIn K (.ref f)=true):AQ P w K mg base n f ps sp:=⟨fd,h,b,k⟩
theorem LH{ps:dB}(h:∀x0:Value,bindArgs fd ⟨[x0],[]⟩=pure (ps.zip [x0]))(us:cA)(hl:us.length=1):bindArgs fd ⟨us,[]⟩=pure (ps.zip us):=ar1 (P:=fun us=>bindArgs fd ⟨us,[]⟩=pure (ps.zip us)) h us hl
theorem O1{ps:dB}(h:∀x0 x1:Value,bindArgs fd ⟨[x0,x1],[]⟩=pure (ps.zip [x0,x1]))(us:cA)(hl:us.length=2):bindArgs fd ⟨us,[]⟩=pure (ps.zip us):=ar2 (P:=fun us=>bindArgs fd ⟨us,[]⟩=pure (ps.zip us)) h us hl
theorem ba3{ps:dB}(h:∀x0 x1 x2:Value,bindArgs fd ⟨[x0,x1,x2],[]⟩=pure (ps.zip [x0,x1,x2]))(us:cA)(hl:us.length=3):bindArgs fd ⟨us,[]⟩=pure (ps.zip us):=ar3 (P:=fun us=>bindArgs fd ⟨us,[]⟩=pure (ps.zip us)) h us hl
theorem ba4{ps:dB}(h:∀x0 x1 x2 x3:Value,bindArgs fd ⟨[x0,x1,x2,x3],[]⟩=pure (ps.zip [x0,x1,x2,x3]))(us:cA)(hl:us.length=4):bindArgs fd ⟨us,[]⟩=pure (ps.zip us):=ar4 (P:=fun us=>bindArgs fd ⟨us,[]⟩=pure (ps.zip us)) h us hl
theorem ba5{ps:dB}(h:∀x0 x1 x2 x3 x4:Value,bindArgs fd ⟨[x0,x1,x2,x3,x4],[]⟩=pure (ps.zip [x0,x1,x2,x3,x4]))(us:cA)(hl:us.length=5):bindArgs fd ⟨us,[]⟩=pure (ps.zip us):=ar5 (P:=fun us=>bindArgs fd ⟨us,[]⟩=pure (ps.zip us)) h us hl
theorem all_mk{l:PySem.W.OpenLaw}{K:PySem.W.Frag}{fa f0 f1 f2 f3 f4 f5 f6 f7 f8 f9 f10 f11 f12 f13 f14 f15 f16 f17 f18 f19 f20 f21 Zi f23 f24 VX VY mS aG:Addr}(X:K.In h)(G:h.Ns mainGlobals mg)(hfa:mg "law"=some (.ref fa))(d0:DN K "heaps_of" lA f0)(d1:DN K "rank" vn f1)(d2:DN K "check_count" iK f2)(d3:DN K "check_names" iL f3)(d4:DN K "check_ballots" gi f4)(d5:DN K "put_together" hW f5)(d6:DN K "check_roll" jt f6)(d7:DN K "is_word" mQ f7)(d8:DN K "names_in" lB f8)(d9:DN K "check_many" ju f9)(d10:DN K "_law_cell_at" sr f10)(d11:DN K "_law_mixed" yU f11)(d12:DN K "_law_base" Dn f12)(d13:DN K "_law_word" Dp f13)(d14:DN K "_law_words" yV f14)(d15:DN K "_law_whole" yW f15)(d16:DN K "_law_same" s_same f16)(d17:DN K "_law_before" vo f17)(d18:DN K "_law_heaps" yX f18)(d19:DN K "_law_like" Dq f19)(d20:DN K "_law_right" yZ f20)(d21:DN K "_law_moved" y0 f21){Zj VZ:Option Addr}{Zk:Array fQ}{Zm V0 V1 V2 SM V3:Value}(WO:nsIn K mainGlobals "law"=some (some (.ref Zi)))(Zn:K.lookup Zi=some ⟨Zm,Zj,.func (fnOf "law" "law" (bM iV) (bA iV) (aj iV) .none V0 V1 V2 VZ SM V3),Zk⟩)(Zo:codeIn K SM "law"=true)(Zq:keepIn K (.ref Zi)=true)(d23:DM K aG "count" "Box.count" ke f23)(d24:DM K aG "heaps" "Box.heaps" kf f24){Zr Zt:Option Addr}{Zu:Array fQ}{Zv Zw Zx Zy V4 Zz:Value}{qY:Addr}{zr:Option Addr}{zt:Nat}{zu:Array fQ}{wN:Value}{By:Tok}(ZC:PySem.W.findIn K (.ref aG) "put"=some (some (.ref VX)))(ZD:isFn K (.ref VX)=true)(ZE:K.lookup VX=some ⟨Zv,Zr,.func (fnOf "put" "Box.put" (bM aV) (bA aV) (aj aV) (.ref qY) Zw Zx Zy Zt V4 Zz),Zu⟩)(ZF:codeIn K V4 "Box.put"=true)(WQ:keepIn K (.ref VX)=true)(iZ:K.lookup qY=some ⟨wN,zr,.seq #[.int 1 By] zt,zu⟩){ZG ZH:Option Addr}{ZI:Array fQ}{ZJ ZK ZL ZM V5 ZN:Value}{ou:Addr}{wO:Option Addr}{wQ:Nat}{wR:Array fQ}{vU:Value}{zv:Tok}(ZO:PySem.W.findIn K (.ref aG) "take"=some (some (.ref VY)))(ZP:isFn K (.ref VY)=true)(ZQ:K.lookup VY=some ⟨ZJ,ZG,.func (fnOf "take" "Box.take" (bM aS) (bA aS) (aj aS) (.ref ou) ZK ZL ZM ZH V5 ZN),ZI⟩)(ZR:codeIn K V5 "Box.take"=true)(WR:keepIn K (.ref VY)=true)(ig:K.lookup ou=some ⟨vU,wO,.seq #[.int 1 zv] wQ,wR⟩){ow:Tok}(lK:nsIn K mainGlobals "MOST_NAMES"=some (some (.int 6 ow))){oz:Tok}(lL:nsIn K mainGlobals "MOST_SIGNS"=some (some (.int 12 oz))){vV:Tok}(sL:nsIn K mainGlobals "LETTERS"=some (some (.str "abcdefghijklmnopqrstuvwxyz" vV)))(LJ:nsIn K mainGlobals "all"=some none)(DU:nsIn K mainGlobals "bool"=some none)(LK:nsIn K mainGlobals "int"=some none)(lM:nsIn K mainGlobals "isinstance"=some none)(LM:nsIn K mainGlobals "len"=some none)(DV:nsIn K mainGlobals "list"=some none)(LN:nsIn K mainGlobals "min"=some none)(zx:nsIn K mainGlobals "range"=some none)(LP:nsIn K mainGlobals "set"=some none)(vW:nsIn K mainGlobals "sorted"=some none)(LQ:nsIn K mainGlobals "str"=some none)(LR:nsIn K mainGlobals "sum"=some none)(zy:nsIn K mainGlobals "tuple"=some none)(LS:nsIn K mainGlobals "zip"=some none)(LV:nsIn K mainGlobals "Box"=some (some (.ref aG))){O2 O3:Option Addr}{O4:Array fQ}{O5 O6 O7 O8 FU O9:Value}(DX:plainGet K aG Str.empty=true)(DY:hasDictIn K aG=true)(DZ:plainOver K aG=true)(D0:PySem.W.findIn K (.ref aG) "__setattr__"=some (some (.builtin "object.__setattr__")))(su:makesIn K aG=true)(D1:PySem.W.findIn K (.ref aG) "__init__"=some (some (.ref mS)))(D2:keepIn K (.ref aG)=true)(D3:isFn K (.ref mS)=true)(D4:K.lookup mS=some ⟨O5,O2,.func (fnOf "__init__" "Box.__init__" (bM sJ) (bA sJ) (aj sJ) .none O6 O7 O8 O3 FU O9),O4⟩)(D5:codeIn K FU "Box.__init__"=true)(D6:keepIn K (.ref mS)=true)(SQ:PySem.W.findIn K (.ref aG) "lying"=some none)(SR:PySem.W.findIn K (.ref aG) "words"=some none):∃fd:FuncData,(∀(s:Shared) (v:Value),BindsTo s fd ⟨[v],[]⟩ [("_law_script",v)])∧∀base:Heap,K.In base→base.Ns mainGlobals mg→cE l.prog w K mg base mz 9 fa fd ["_law_script"] (VA K):=by
  have e:=hfa.symm.trans (mg_of X G WO);cases e;obtain⟨a0,_,E0⟩:=d0;obtain⟨a1,_,E1⟩:=d1;obtain⟨a2,_,E2⟩:=d2;obtain⟨a3,_,E3⟩:=d3;obtain⟨a4,_,E4⟩:=d4;obtain⟨a5,_,E5⟩:=d5;obtain⟨a6,_,E6⟩:=d6;obtain⟨a7,_,E7⟩:=d7;obtain⟨a8,_,E8⟩:=d8;obtain⟨a9,_,E9⟩:=d9;obtain⟨Tr,_,ZS⟩:=d10;obtain⟨Ts,_,ZT⟩:=d11;obtain⟨ZU,_,ZV⟩:=d12;obtain⟨ZW,_,ZX⟩:=d13;obtain⟨ZY,_,ZZ⟩:=d14;obtain⟨Z0,_,Z1⟩:=d15;obtain⟨Z2,_,Z3⟩:=d16;obtain⟨Z4,_,Z5⟩:=d17;obtain⟨Z6,_,Z7⟩:=d18;obtain⟨Z8,_,Z9⟩:=d19;obtain⟨a20,_,E20⟩:=d20;obtain⟨a21,_,E21⟩:=d21;obtain⟨a23,i23,_,WT⟩:=d23;obtain⟨a24,i24,_,WU⟩:=d24;have m:∀{x v},nsIn K mainGlobals x=some (some v)→mg x=some v:=mg_of X G;have mn:∀{x},nsIn K mainGlobals x=some none→mg x=none:=PySem.W.mg_none_of X G
  let a:vp:=⟨f0,f1,f2,f3,f4,f5,f6,f7,f8,f9,f10,f11,f12,f13,f14,f15,f16,f17,f18,f19,f20,f21,fa,f23,f24,VX,VY,mS,aG⟩
  have T:Txt K mg a:=⟨m a0,m a1,m a2,m a3,m a4,m a5,m a6,m a7,m a8,m a9,m Tr,m Ts,m ZU,m ZW,m ZY,m Z0,m Z2,m Z4,m Z6,m Z8,m a20,m a21,m WO,m LV,⟨DX,DY,DZ,D0⟩,⟨su,D1,D3,D2⟩,SQ,SR,⟨a23,i23,WT.kp⟩,⟨a24,i24,WU.kp⟩,⟨ZC,ZD,WQ⟩,⟨ZO,ZP,WR⟩,⟨ow,m lK⟩,⟨oz,m lL⟩,⟨vV,m sL⟩,mn LJ,mn DU,mn LK,mn lM,mn LM,mn DV,mn LN,mn zx,mn LP,mn vW,mn LQ,mn LR,mn zy,mn LS⟩
  have b0:=E0.binds (ps:=["count","rows"]) fun _ _ _ _ _ _=>O1 fun _ _=>rfl;have b1:=E1.binds (ps:=["names"]) fun _ _ _ _ _ _=>LH fun _=>rfl;have b2:=E2.binds (ps:=["count"]) fun _ _ _ _ _ _=>LH fun _=>rfl;have b3:=E3.binds (ps:=["count","rows"]) fun _ _ _ _ _ _=>O1 fun _ _=>rfl;have b4:=E4.binds (ps:=["rows"]) fun _ _ _ _ _ _=>LH fun _=>rfl;have b5:=E5.binds (ps:=["rows"]) fun _ _ _ _ _ _=>LH fun _=>rfl;have b6:=E6.binds (ps:=["words"]) fun _ _ _ _ _ _=>LH fun _=>rfl;have b7:=E7.binds (ps:=["word"]) fun _ _ _ _ _ _=>LH fun _=>rfl;have b8:=E8.binds (ps:=["words","text"]) fun _ _ _ _ _ _=>O1 fun _ _=>rfl;have b9:=E9.binds (ps:=["many"]) fun _ _ _ _ _ _=>LH fun _=>rfl;have VJ:=ZS.binds (ps:=["_law_script","_law_k"]) fun _ _ _ _ _ _=>O1 fun _ _=>rfl;have b11:=ZT.binds (ps:=["_law_cell","_law_many"]) fun _ _ _ _ _ _=>O1 fun _ _=>rfl;have b12:=ZV.binds (ps:=["_law_cell","_law_size"]) fun _ _ _ _ _ _=>O1 fun _ _=>rfl;have b13:=ZX.binds (ps:=["_law_base_here","_law_place","_law_size","_law_k"]) fun _ _ _ _ _ _=>ba4 fun _ _ _ _=>rfl;have b14:=ZZ.binds (ps:=["_law_script","_law_at","_law_many"]) fun _ _ _ _ _ _=>ba3 fun _ _ _=>rfl;have b15:=Z1.binds (ps:=["_law_found"]) fun _ _ _ _ _ _=>LH fun _=>rfl;have b16:=Z3.binds (ps:=["_law_found","_law_due"]) fun _ _ _ _ _ _=>O1 fun _ _=>rfl;have b17:=Z5.binds (ps:=["_law_one","_law_two"]) fun _ _ _ _ _ _=>O1 fun _ _=>rfl;have b18:=Z7.binds (ps:=["_law_rows"]) fun _ _ _ _ _ _=>LH fun _=>rfl;have b19:=Z9.binds (ps:=["_law_roll","_law_words_here"]) fun _ _ _ _ _ _=>O1 fun _ _=>rfl;have b20:=E20.binds (ps:=["_law_box","_law_kept","_law_first"]) fun _ _ _ _ _ _=>ba3 fun _ _ _=>rfl;have b21:=E21.binds (ps:=["_law_box","_law_kept","_law_roll","_law_xs","_law_cell"]) fun _ _ _ _ _ _=>ba5 fun _ _ _ _ _=>rfl;have E22:=yb (st:=iV) Zn Zo Zq;have b23:=WT.binds (ps:=["self"]) fun _ _ _ _ _ _=>LH fun _=>rfl;have b24:=WU.binds (ps:=["self"]) fun _ _ _ _ _ _=>LH fun _=>rfl;have hA:Vk a:=⟨⟩
  refine⟨fnOf "law" "law" (bM iV) (bA iV) (aj iV) .none V0 V1 V2 VZ SM V3,fun s v=>.of_eq rfl,fun base _ _=>?_⟩;have C4:=cm l.prog w base (pf E4 T) b4 E4.kp;have C2:=cm l.prog w base (sA E2 T) b2 E2.kp;have C3:=cm l.prog w base (sC E3 T) b3 E3.kp;have C5:=cm l.prog w base (qJ E5 T) b5 E5.kp;have C1:=cm l.prog w base (Hl E1 T) b1 E1.kp;have C0:=cm l.prog w base (wJ E0 T C4 C2 C3 C5 C1) b0 E0.kp;have C7:=cm l.prog w base (zb E7 T) b7 E7.kp;have C6:=cm l.prog w base (tO E6 T C7) b6 E6.kp;have C8:=cm l.prog w base (wK E8 T) b8 E8.kp;have C9:=cm l.prog w base (tQ E9 T) b9 E9.kp;have C10:=cm l.prog w base (Ds ZS T) VJ ZS.kp;have C11:=cm l.prog w base (KR ZT T) b11 ZT.kp;have C12:=cm l.prog w base (N4 ZV T) b12 ZV.kp;have C13:=cm l.prog w base (N5 ZX T) b13 ZX.kp;have C14:=cm l.prog w base (KS ZZ T C12 C10 C13) b14 ZZ.kp;have C15:=cm l.prog w base (KY Z1 T) b15 Z1.kp;have C16:mE l.prog w K mg base 7 a.jv ["_law_found","_law_due"] (gJ K [false,false] (dJ 6)):=Bc Z3 T b16 Z3.kp  6;have C17:=cm l.prog w base (Hm Z5 T) b17 Z5.kp;have C18:=cm l.prog w base (KZ Z7 T C17) b18 Z7.kp;have C19:=cm l.prog w base (N8 Z9 T) b19 Z9.kp;have C23:=WN l.prog w base (vD WT T) b23 WT.kp;have C24:=WN l.prog w base (vH WU T C23 C0) b24 WU.kp;have C20:=WN l.prog w base (K1 E20 T C23 C24 C18 C16 C15) b20 E20.kp;have C25:Hi l.prog w K mg base 2 a.mR ["self","text","many"] (spS K 3 (eE a)):=⟨_,zk ZE ZF T C9 C8,VR iZ,⟨_,VW iZ⟩,WQ⟩
  have C26:Hi l.prog w K mg base 2 a.lC ["self","text","many"] (spS K 3 (dN a)):=⟨_,wL ZQ ZR T C9 C8,SG ig,⟨_,SJ ig⟩,WR⟩
  have C21:=WN l.prog w base (K3 E21 T C25 C26 C19) b21 E21.kp;have LW:=yb (st:=sJ) D4 D5 D6;have SV:=LW.binds (ps:=["self","words"]) fun _ _ _ _ _ _ us hl=>ar2 (P:=fun us=>bindArgs _ ⟨us,[]⟩=pure (List.zip _ us)) (fun _ _=>rfl) us hl;exact LG E22 T C10 C11 C14 C21 C20 (OB LW T C6) SV
theorem walk{l:PySem.W.OpenLaw}{q:Program}{loose:dB}{d:DefRec}{K:Params→PySem.W.Frag}(hn:l.most=some 63)(Us:d.params.defaults=[])(hY:∀(w:World) (h:Heap),YP w h→(K w.params).In h)(F:∀(w:World) (mg:Str→fQ) (fa:Addr) (h:Heap),(K w.params).In h→h.Ns mainGlobals mg→mg d.name=some (.ref fa)→∃fd:FuncData,(∀(s:Shared) (u:Value),BindsTo s fd ⟨[u],[]⟩ [("_law_script",u)])∧∀base:Heap,(K w.params).In base→base.Ns mainGlobals mg→cE l.prog w (K w.params) mg base mz 9 fa fd ["_law_script"] (VA (K w.params))):PySem.W.WalkO q loose XP YP l.row.toRowW d [] (fun f vs=>PySem.call f vs) :=
  L2.MA (n:=63) (k:=9) (x:="_law_script") (CX:=fun _=>mz) (sp:=fun w=>VA (K w.params)) hn (by decide) Us ⟨rfl,by decide,by decide⟩ hY F (fun _ H a ns hl hO hS=>SK hl hO hS) fun _ _ _ _ _ z=>z
end sq
open PySem PySem.W PyProof.Rows
set_option maxRecDepth 100000 in
set_option maxHeartbeats 0 in
theorem PySem.Challenge.cw_fairbench_k52_whole_box_holds : PySem.Challenge.rw_fairbench_k52_whole_box.Holds := by
  w_on;o_law
  refine holds_open (r:=PySem.Challenge.rw_fairbench_k52_whole_box.row) (q:=HH.qv) (loose:=[]) (Xt:=fun s=>xlAt HH.qv [] s&&recOk (RowW.records PySem.Challenge.rw_fairbench_k52_whole_box.row.toRowW) s)
    (XP:=XL HH.qv []) (Yf:=(kmHook HH.KH HH.LX HH.xN []).obs) (Ya:=(kmHook HH.KH HH.LX HH.xN []).val) (YP:=(kmHook HH.KH HH.LX HH.xN []).says) (N:=5042) HH.TC (kmHook HH.KH HH.LX HH.xN []).of (kmHook HH.KH HH.LX HH.xN []).keeps
    (fun s h=>xl_of s (Bool.and_eq_true_iff.mp h).1) XL.keeps (by rfl) (by rfl) (by rfl)
    (fun s h=>recFacts_of (Bool.and_eq_true_iff.mp h).2) (by rfl)
    (by first|assumption|decide +kernel)
    (by decide +kernel) ⟨rfl,rfl,rfl,rfl,rfl,by decide +kernel⟩ ?hw ?hc
  (case hw=>w_witness2)
  k_fill
  refine sq.walk (l:=PySem.Challenge.rw_fairbench_k52_whole_box) rfl rfl (fun w h Y=>PySem.W.km_in_of Y) ?F
  case F =>
    intro w mg fa h KX G Ut;refine' sq.all_mk KX G Ut (sq.eP ?a0 ?l0 ?c0 ?k0) (sq.eP ?a1 ?l1 ?c1 ?k1) (sq.eP ?a2 ?l2 ?c2 ?k2) (sq.eP ?a3 ?l3 ?c3 ?k3) (sq.eP ?a4 ?l4 ?c4 ?k4) (sq.eP ?a5 ?l5 ?c5 ?k5) (sq.eP ?a6 ?l6 ?c6 ?k6) (sq.eP ?a7 ?l7 ?c7 ?k7) (sq.eP ?a8 ?l8 ?c8 ?k8) (sq.eP ?a9 ?l9 ?c9 ?k9) (sq.eP ?Tr ?l10 ?c10 ?k10) (sq.eP ?Ts ?l11 ?c11 ?k11) (sq.eP ?ZU ?l12 ?c12 ?k12) (sq.eP ?ZW ?l13 ?c13 ?k13) (sq.eP ?ZY ?l14 ?c14 ?k14) (sq.eP ?Z0 ?l15 ?c15 ?k15) (sq.eP ?Z2 ?l16 ?c16 ?k16) (sq.eP ?Z4 ?l17 ?c17 ?k17) (sq.eP ?Z6 ?l18 ?c18 ?k18) (sq.eP ?Z8 ?l19 ?c19 ?k19) (sq.eP ?a20 ?l20 ?c20 ?k20) (sq.eP ?a21 ?l21 ?c21 ?k21) ?WO ?Zn ?Zo ?Zq (sq.P8 ?a23 ?i23 ?l23 ?c23 ?k23) (sq.P8 ?a24 ?i24 ?l24 ?c24 ?k24) ?ZC ?ZD ?ZE ?ZF ?WQ ?iZ ?ZO ?ZP ?ZQ ?ZR ?WR ?ig ?lK ?lL ?sL ?LJ ?DU ?LK ?lM ?LM ?DV ?LN ?zx ?LP ?vW ?LQ ?LR ?zy ?LS ?LV ?DX ?DY ?DZ ?D0 ?su ?D1 ?D2 ?D3 ?D4 ?D5 ?D6 ?SQ ?SR
    (case LV|a0|l0|c0|k0|a1|l1|c1|k1|a2|l2|c2|k2|a3|l3|c3|k3|a4|l4|c4|k4|a5|l5|c5|k5|a6|l6|c6|k6|a7|l7|c7|k7|a8|l8|c8|k8|a9|l9|c9|k9|Tr|l10|c10|k10|Ts|l11|c11|k11|ZU|l12|c12|k12|ZW|l13|c13|k13|ZY|l14|c14|k14|Z0|l15|c15|k15|Z2|l16|c16|k16|Z4|l17|c17|k17|Z6|l18|c18|k18|Z8|l19|c19|k19|a20|l20|c20|k20|a21|l21|c21|k21|WO|Zn|Zo|Zq|a23|i23|l23|c23|k23|a24|i24|l24|c24|k24|ZC|ZD|ZE|ZF|WQ|iZ|ZO|ZP|ZQ|ZR|WR|ig|lK|lL|sL|LJ|DU|LK|lM|LM|DV|LN|zx|LP|vW|LQ|LR|zy|LS|DX|DY|DZ|D0|su|D1|D2|D3|D4|D5|D6|SQ|SR=>k_is)
