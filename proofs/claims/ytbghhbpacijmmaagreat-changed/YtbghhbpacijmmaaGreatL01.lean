import Derived.Test.YtbghhbpacijmmaaGreatRows
import Derived.WalkKit
import Derived.WalkSpells
import Derived.WalkLawsBesides
import Derived.Deep.QuietTactic
import Derived.BigQuiet
import Derived.Deep.RegionWith
import Derived.Deep.RegionLaw
import Derived.Deep.RegionHeld3
import Derived.Deep.AppendLies
import Derived.Deep.DrawnRows
import Derived.Laws.CopyOwn
import Derived.Laws.AppendOwnNone
import Derived.Maps.AppendAt
abbrev Eq.H:=@Eq.trans
abbrev Iff.H:=@Iff.trans
abbrev List.Perm.H:=@List.Perm.trans
abbrev List.Sublist.H:=@List.Sublist.trans
abbrev Go.RowKit.Hid.o:=@Go.RowKit.Hid.out
abbrev Go.Calls.L:=@Go.Calls.mono
abbrev Go.RowKit.Below.H:=@Go.RowKit.Below.trans
abbrev Go.RowKit.Below.L:=@Go.RowKit.Below.mono
open Go.Proofs.Tryz
namespace Go.Proofs.YtbghhbpacijmmaaGreat
set_option maxRecDepth 99999
set_option maxHeartbeats 0
set_option linter.defProp false
set_option linter.unusedVariables false
abbrev I:Int→Value:=.int .i64
abbrev U (b o:Nat):Addr:=⟨b,o,none⟩
abbrev O (b:Nat):Value:=.pointer (some ⟨b,0,none⟩)
abbrev G (b:Nat):Option Addr:=some ⟨b,0,none⟩
abbrev OO:Value:=.slice none 0 0
abbrev iw:Ending:=.returned (.tuple #[])
abbrev gX:Value→Ending:=.returned
abbrev gN:Option Addr→Nat→Nat→Value:=.slice
abbrev im (a:Array Value) (t:TypeId) (f:Nat×Nat:=(0,0)):Obj:=.cells a t f
abbrev iB:FuncId→Array Value→World→(Ending→World→Prop)→Prop:=Calls prog
theorem hU {α:Sort _} {β:Sort _} {P:α→Prop} {f:α→β}:∀b,P b→f b=f b:=fun _ _=>rfl
theorem C {p:Prop} (h:p:=by omega):p:=h
theorem gF {p:Prop} (h:p:=by decide):p:=h
theorem gG {p:Prop} (h:p:=by simp):p:=h
theorem jQ {p:Prop} (h:p:=by rfl):p:=h
theorem ix {p:Prop} (h:p:=by kernel_rfl):p:=h
theorem iD {p:Prop} (h:p:=by go_num):p:=h
theorem iC {p:Prop} (h:p:=by simp[Go.RowKit.intOf];omega):p:=h
theorem Yq {α:Type _} {a b:α} (h:a=b:=by kernel_rfl):some a=some b:=congrArg some h
theorem ig {p:Prop} (h:p:=by simp;omega):p:=h
theorem gS {p q:Prop} (x:q) (h:q→p:=by intro;omega):p:=h x
theorem gJ {α:Sort _} (a:α):∃b,a=b:=⟨a,rfl⟩
theorem mm {α:Type _} {l:List α} {i:Nat} (h:i<l.length):∃x,l[i]?=some x:=⟨_,List.getElem?_eq_getElem h⟩
def ae:=@Array.getElem?_eq_some_iff
def af:=@Nat.lt_of_lt_of_le
def ah:=@List.getElem?_eq_getElem
def aj:=@List.getElem?_eq_some_iff
def ao:=@Go.heap_alloc_new
def ax:=@Go.cell_of_row
def ay:=@List.length_map
def az:=@if_neg
def aA:=@Int.le_refl
def aB:=@List.getElem?_append_left
def aC:=@List.getElem?_append_right
def aD:=@List.mem_map
def aE:=@if_pos
def aF:=@Nat.le_trans
def aH:=@List.getElem?_set_ne
def aJ:=@Option.some.injEq
def aK:=@List.getElem?_map
def aL:=@List.getElem_mem
def aM:=@List.take_succ_eq_append_getElem
def aN:=@List.mem_cons_self
def aO:=@List.length_append
def aP:=@Go.frozen_of_row
def aQ:=@List.getElem?_set_self
def aR:=@List.mem_of_getElem?
def aS:=@List.getD_eq_getElem?_getD
def aT:=@List.mem_append
def aU:=@List.mem_filter
def aV:=@List.mem_iff_getElem
def aW:=@List.length_eq_zero_iff
def aX:=@List.mem_cons_of_mem
def aZ:=@List.map_append
def bf:=@List.map_congr_left
def bh:=@List.mem_cons
def bj:=@List.map_cons
def bk:=@Classical.byContradiction
def br:=@List.map_map
def bt:=@Int.le_trans
def bu:=@List.mem_of_find?_eq_some
def bF:=@List.length_filter_le
def bG:=@Option.map_some
def bH:=@List.length_take
def bI:=@List.take_of_length_le
def bJ:=@List.ext_getElem?
def bK:=@List.length_set
def bL:=@Bool.and_eq_true
def bM:=@List.ne_nil_of_mem
def bN:=@Option.map_eq_some_iff
def bP:=@Nat.zero_add
def bQ:=@List.exists_cons_of_ne_nil
def bS:=@List.getElem?_modify
def bU:=@List.find?_eq_none
def bY:=@List.nodup_cons
def bZ:=@List.take_length
def cj:=@List.pairwise_map
def cm:=@List.drop_eq_getElem_cons
def cu:=@List.pairwise_append
def cw:=@List.mem_singleton
def cy:=@List.length_modify
def cz:=@List.filter_append
def cA:=@List.getElem_set_self
def cB:=@List.getElem?_eq_none
def cC:=@List.getElem_set_ne
def cD:=@List.getElem?_range
def cE:=@List.filter_sublist
def cF:=@List.append_nil
def cG:=@Nat.add_assoc
def cH:=@Go.heap_setCell_same
def cI:=@List.pairwise_cons
def cJ:=@List.length_pos_of_mem
def cK:=@List.any_eq_true
def cL:=@Go.heap_alloc_old
def cM:=@List.mem_append_right
def cN:=@Nat.mul_comm
def cO:=@Array.getElem?_setIfInBounds_ne
def cQ:=@List.mem_of_mem_take
def cR:=@List.find?_some
def cT:=@List.filter_cons
def cU:=@List.length_pos_iff
def cW:=@List.take_add_one
def cX:=@List.nodup_append
def cY:=@Nat.le_of_eq
def cZ:=@List.getElem?_take
def de:=@Int.emod_lt_of_pos
def df:=@List.length_cons
def dh:=@List.getElem?_cons_zero
def di:=@List.mem_range
def dm:=@List.any_eq_false
def dp:=@List.range_succ
def dq:=@Int.emod_nonneg
def dr:=@Bool.eq_iff_iff
def du:=@List.getElem?_drop
def dx:=@List.getElem?_cons_succ
def dy:=@List.Sublist.refl
def dz:=@List.nil_append
def dA:=@List.length_nil
def dB:=@List.not_mem_nil
def dC:=@List.getElem_map
def dD:=@List.length_singleton
def dE:=@List.pairwise_iff_getElem
def dF:=@List.foldl_cons
def dG:=@List.mem_append_left
def dH:=@List.filter_congr
def dI:=@List.getElem_append_left
def dJ:=@List.length_mapIdx
def dK:=@List.take_append_drop
def dL:=@Option.map_eq_map
def dM:=@List.getElem_take
def dN:=@List.foldl_append
def dP:=@List.flatMap_cons
def dQ:=@Nat.mul_pos
def dR:=@Nat.sub_self
def dT:=@Nat.le_of_not_lt
def dU:=@List.nodup_range
def dV:=@List.cons_append
def dW:=@Array.getElem?_eq_getElem
def dX:=@List.getElem?_take_of_lt
def dY:=@Option.some.inj
def dZ:=@List.filter_map
def ed:=@List.take_sublist
def eh:=@List.length_filter_eq_length_iff
def eo:=@List.drop_eq_nil_of_le
def et:=@Int.toNat_natCast
def ey:=@Go.ByteArray.toList_eq
def eA:=@List.set_append_right
def eB:=@List.mem_flatMap
def eC:=@List.mem_of_mem_drop
def eD:=@List.filter_eq_self
def eE:=@List.take_zero
def eF:=@Int.tdiv_eq_ediv_of_nonneg
def eG:=@Int.natCast_nonneg
def eH:=@Int.lt_of_lt_of_le
def eI:=@List.map_id
def eJ:=@List.append_assoc
def eK:=@Bool.not_eq_true'
def eL:=@List.mem_of_mem_eraseIdx
def eM:=@List.any_cons
def eN:=@Option.getD_some
def eO:=@List.zipIdx_cons
def eP:=@List.ext_getElem
def eQ:=@List.drop_length
def eR:=@Nat.lt_trans
def eS:=@Nat.le_of_lt
def eT:=@List.map_nil
def eU:=@Nat.min_eq_left
def eV:=@Bool.or_eq_true
def eX:=@List.take_take
def eY:=@List.take_succ_cons
def eZ:=@List.flatMap_append
def fb:=@Bool.false_or
def fc:=@Nat.lt_of_le_of_ne
def fe:=@List.append_of_mem
def fg:=@Bool.false_eq_true
def fh:=@Nat.lt_trichotomy
def fj:=@Nat.add_zero
def fk:=@List.set_set
def fo:=@Nat.lt_succ_self
def fp:=@List.nil_sublist
def fq:=@List.mem_flatten
def fs:=@Nat.sub_sub
def ft:=@List.take_append_of_le_length
def fA:=@List.foldr_cons
def fB:=@List.any_append
def fC:=@Int.ediv_nonneg
def fD:=@Array.getElem?_setIfInBounds
def fE:=@List.sublist_flatten_of_mem
def fF:=@Nat.mul_le_mul
def fG:=@List.perm_ext_iff_of_nodup
def fH:=@List.nodup_nil
def fI:=@List.mergeSort_of_pairwise
def fK:=@List.Perm.refl
def fL:=@Int.tmod_eq_emod_of_nonneg
def fM:=@List.mem_take_iff_getElem
def fN:=@List.mem_or_eq_of_mem_set
def fO:=@List.getLast?_eq_getElem?
def fP:=@Array.filter_eq_empty_iff
def fQ:=@Nat.lt_irrefl
def fR:=@List.sublist_append_left
def fS:=@List.map_take
def fT:=@List.eq_of_mem_replicate
def fU:=@List.contains_eq_any_beq
def fV:=@List.pairwise_singleton
def fX:=@List.getElem_cons_drop
def fY:=@List.any_map
def fZ:=@Int.le_of_lt
def gf:=@Array.size_eq_zero_iff
def gh:=@Array.getElem?_eq_none
def gk:=@List.perm_append_comm
def gp:=@Int.ediv_lt_of_lt_mul
def gv:=@Array.getElem_push_lt
def gw:=@Array.getElem?_toList
def gy:=@Nat.mul_le_mul_right
def gz:=@List.getElem?_mapIdx
def gA:=@Nat.mul_le_mul_left
def gB:=@List.replicate_succ
def gC:=@List.findSome?_cons
def gD:=@List.Sublist.append
def gE:=@Int.toNat_of_nonneg
def aG:=@Go.bodyPost_ret
def aI:=@Go.MapKept.run_getObj_map
def bO:=@Go.Value.slice.injEq
def eW:=@Go.MapKept.run_checkKey
def fa:=@Go.MapKept.run_findKey
def fm:=@Go.wpList_append_lies
def fx:=@Go.info_parts
def fy:=@Go.heap_setCell_same
def fJ:=@Go.RowKit.Below.heap_alloc
def fW:=@Go.World.news_of_block
def Z8:=@Go.RowKit.Below.heap_setCell
def Z7:=@Go.MapKept.run_setObj_map
def Z6:=@Go.wp_loop_rounds
def Z5:=@congrArg
def Z4:=@Go.run_underlying
def Z3:=@Go.IntWalk.i64_in
def Z0:=@Go.Addr.mk.injEq
def ZZ:=@Go.rounds_succ
def ZY:=@Go.RowKit.Below.setCell
def ZX:=@decide_eq_true_eq
def ZW:=@Go.wpAny_take
def ZV:=@Go.cell_one_new
def ZU:=@true_and
def ZT:=@beq_iff_eq
def ZS:=@and_true
def ZR:=@Go.MapKept.findNow_spec
open Go.RowKit
attribute [local go_sem ↓] Go.wp_at_zero Go.wp_at_succ
variable {w w' a b w1 W w3:World} {xs ys cs:List Value} {v v' v1:Value} {S T:Nat->Prop} {e e':TypeId} {K K':Nat->Value} {n g k t i j m:Nat} {p q r s:Prop} {f:Nat×Nat} {R:Ending->World->Prop} {c c0:Array Value} {Q:World->Prop} {jt ds:List Int} {d:Int}
section
def gP(h:p):Hid p:=h
def Sl(w:World)(v:Value)(cs:List Value):Prop:=
 (∃a c,v=.slice a 0 c/\cs=[])\/∃b o c,v=.slice (some (U b o)) cs.length c/\b<w.heap.size/\∀j,(h:j<cs.length)->w.cell? (U b (o+j))=some cs[j]
def Bl(w w':World):Prop:=Below w.heap.size w w'
def Bl.refl(w):Bl w w:=Below.refl _ _
def Bl.H{c:World}(h:Bl a b)(k:Bl b c):Bl a c:=Below.H h (Below.L k h.size)
def Bl.drewN(h:Bl a w)(n):Bl a (w.drewN n):=⟨h.os,h.tape,h.output,h.size,h.block⟩
def Bl.drew(h:Bl a w):Bl a w.drew:=Below.drew h
def Bl.alloc(h:Bl a w)(o):Bl a (w.alloc o):=Below.alloc h h.size o
def Bl.lt(h:Bl w w'):w.heap.size<=w'.heap.size:=h.size
def Bl.cell(h:Bl w w'){b o:Nat}(y:b<w.heap.size):w'.cell? (U b o)=w.cell? (U b o):=Below.cell h y
def Bl.frozen(h:Bl w w'){b o:Nat}(y:b<w.heap.size):w'.frozen? (U b o)=w.frozen? (U b o):=Below.frozen h y
def Bl.heap(h:Bl w w'){b:Nat}(y:b<w.heap.size):w'.heap[b]?=w.heap[b]?:=h.block b y
def Sl.bl(h:Sl w v cs)(y:Bl w w'):Sl w' v cs:=by
 rcases h with h|⟨b,o,c,rfl,A,F⟩
 .exact Or.inl h
 refine Or.inr ⟨b,o,c,rfl,af A y.lt,λj H=>?_⟩;rw[<-F j H];exact y.cell A
def lE{a b:Bool}(h:a=b):gX (.bool a)=gX (.bool b):=by rw[h]
def RT{k:IntKind}{a b:Int}(h:a=b):gX (.int k a)=gX (.int k b):=by rw[h]
def Sl.empty(h:Sl w v []):∃a c,v=gN a 0 c:=by
 rcases h with⟨a,c,rfl,_⟩|⟨b,o,c,rfl,_⟩
 .simp
 simp
def Sl.len(h:Sl w v cs):∃a c,v=gN a cs.length c:=by
 rcases h with⟨y,A,rfl,rfl⟩|⟨b,o,c,rfl,_⟩
 .simp
 simp
structure gL(S:Nat->Prop)(w w':World):Prop where
 os:w'.os=w.os
 tape:w'.tape=w.tape
 output:w'.output=w.output
 size:w.heap.size<=w'.heap.size
 block:∀k,k<w.heap.size->¬S k->w'.heap[k]?=w.heap[k]?
def gL.refl(S)(w):gL S w w:=⟨rfl,rfl,rfl,Nat.le_refl _,λ_ _ _=>rfl⟩
def gL.H{c:World}(h:gL S a b)(k:gL S b c):gL S a c:=
 ⟨k.os.H h.os,k.tape.H h.tape,k.output.H h.output,aF h.size k.size,λi y A=>(k.block i (af y h.size) A).H (h.block i y A)⟩
def gL.L(h:gL S a b)(y:∀k,k<a.heap.size->S k->T k):gL T a b:=
 ⟨h.os,h.tape,h.output,h.size,λi A F=>h.block i A λe=>F (y i A e)⟩
def gL.B(h:Bl a b):gL S a b:=⟨h.os,h.tape,h.output,h.size,λi y _=>h.block i y⟩
def gL.A{row:Option Nat}(h:a.grownBy b row):gL (λk=>some k=row) a b:=⟨h.os,h.tape,h.output,h.size,λi y A=>h.block i y A⟩
def gL.te(h:gL S a b)(A:∀k,k<a.heap.size->¬S k):Bl a b:=⟨h.os,h.tape,h.output,h.size,λi y=>h.block i y (A i y)⟩
def gL.setCell(h:gL S a w)(p)(y:S p.block\/a.heap.size<=p.block)(u):gL S a (w.setCell p u):=
 ⟨h.os,h.tape,h.output,by have:=h.size;simp;omega,λk F A=>by rw[Z8 _ _ _ _ (by rintro rfl;rcases y with y|y;exact A y;omega)];exact h.block k F A⟩
def gL.alloc(h:gL S a w)(o):gL S a (w.alloc o):=h.H (gL.B ((Bl.refl _).alloc _))
def gL.drew(h:gL S a w):gL S a w.drew:=h.H (gL.B ((Bl.refl _).drew))
def gL.cell(h:gL S w w'){b o:Nat}(y:b<w.heap.size)(A:¬S b):w'.cell? (U b o)=w.cell? (U b o):=World.cell?_of_block (h.block b y A)
def lY{base:Nat}{size:Nat}(h:w.ownsRow base e size v n xs)(A:∀b,v.ownBlock=some b->w'.heap[b]?=w.heap[b]?):w'.ownsRow base e size v n xs:=by
 refine⟨h.1,?_⟩;rcases h.2 with L|⟨g,cap,y,rfl,F,H,rest⟩
 .simp_all
 exact .inr ⟨g,cap,y,rfl,F,by rw[A g rfl];exact H,rest⟩
def gZ{base base':Nat}{size:Nat}(h:w.ownsRow base e size v n xs)(A:∀b,v.ownBlock=some b->base'<=b):w.ownsRow base' e size v n xs:=by
 refine⟨h.1,?_⟩;rcases h.2 with H|⟨g,cap,y,rfl,L,F,rest⟩
 .simp_all
 exact .inr ⟨g,cap,y,rfl,A g rfl,F,rest⟩
def gL.iX(A:gL S w w'){base:Nat}{size:Nat}(h:w.ownsRow base e size v n xs)(F:∀b,v.ownBlock=some b->¬S b):w'.ownsRow base e size v n xs:=
 lY h λb y=>A.block b (h.lt b y).2 (F b y)
def kH{base base':Nat}{size y:Nat}{M:Nat}{A:List Value}(h:w.ownsRow base e size v n xs)(P:w.ownsRow base' e' y v' M A)(V:e≠e')(b)(Y:v.ownBlock=some b):v'.ownBlock≠some b:=by
 intro F;rcases h.2 with⟨rfl,_⟩|⟨g,cap,Z,rfl,_,hg,_⟩
 .contradiction
 rcases P.2 with⟨rfl,_⟩|⟨g',H,L,rfl,_,a0,_⟩
 .contradiction
 simp[Value.ownBlock]at Y F;simp_all
def jh{base:Nat}(h:w.ownsRow base e 1 v n xs):xs.length=n:=by have:=h.1;omega
def i7{base:Nat}(h:w.ownsRow base e 1 v n xs):Sl w v xs:=by
 have y:=jh h;rcases h.2 with⟨rfl,rfl⟩|⟨g,cap,A,rfl,_,F,_⟩
 .exact .inl ⟨_,_,rfl,aW.1 y⟩
 refine .inr ⟨g,0,cap,by rw[y],(ae.1 F).1,λj H=>?_⟩;rw[bP,h.cellAt j C];simp
def Di{base:Nat}{size:Nat}(h:w.ownsRow base e size v n xs):v.oneCell'=true:=by rcases h.2 with⟨rfl,_⟩|⟨g,cap,y,rfl,_⟩<;>rfl
def Bl.A{c:World}(h:Bl a b)(k:gL S b c)(A:∀n,S n->a.heap.size<=n):Bl a c:=
 ⟨k.os.H h.os,k.tape.H h.tape,k.output.H h.output,aF h.lt k.size,λi y=>(k.block i (af y h.lt) λe=>by have:=A i e;omega).H (h.block i y)⟩
def DX{base:Nat}(h:w.ownsRow base e 1 (gN (G g) n n) n xs):w.heap[g]?=some (im xs.toArray e (0,0)):=by
 rcases h.2 with⟨A,_⟩|⟨M,F,H,A,_,L,_,_,P,y⟩
 .simp_all
 simp at A;obtain⟨rfl,rfl⟩:=A;rw[bI ig]at y;rw[L,<-y]
def mK(b o j):((U b o):Addr).add j=(U b (o+j)):=by unfold Addr.add;split<;>simp_all
def mo{base:Nat}(h:w.ownsRow base e 1 v n xs)(F:0<n):∃g cap,v=gN (G g) n cap:=by
 rcases h.2 with⟨_,y⟩|⟨g,cap,A,y,_⟩
 .omega
 simp_all
def AN{W':World}{row:Option Nat}(y:Bl W W')(F:W'.grownBy w3 row){b o:Nat}(A:b<W.heap.size)(h:row≠some b):w3.cell? (U b o)=W.cell? (U b o)/\w3.frozen? (U b o)=W.frozen? (U b o):=
 ⟨(F.cell_far _ (af A y.lt) (Ne.symm h)).H (y.cell A),(F.frozen_far _ (af A y.lt) (Ne.symm h)).H (y.frozen A)⟩
def gY{base:Nat}{size:Nat}(h:w.ownsRow base e size v n xs){R:Nat}(H:w.heap[R]?=some (im c e' f))(y:e≠e'):v.ownBlock≠some R:=by
 intro A;rcases h.2 with⟨rfl,_⟩|⟨g,cap,F,rfl,_,L,_⟩
 .contradiction
 simp[Value.ownBlock]at A;simp_all
def nZ{base:Nat}{size:Nat}(h:w.ownsRow base e size v n xs)(b)(y:v.ownBlock=some b):∃c,w.heap[b]?=some (im c e (0,0)):=by
 rcases h.2 with⟨rfl,_⟩|⟨g,cap,A,rfl,_,F,_⟩
 .contradiction
 simp[Value.ownBlock]at y;simp_all
open Go.RowKit
def il.CD:(prog.info? 5).map (λi=>(i.zero,i.size,i.bytes))=some (some (.int .u8 0),1,1):=rfl
def B8(x:Int):Value:= .int .u8 x
def sU(n:Int)(j:Nat):Int:=IntKind.u64.wrap n/2^(56-8*j)%256
def sC(n:Int):List Int:=(List.range 8).map (sU n)
def nD(n):(sC n).length=8:=rfl
def Lz(n)(j)(h:j<8):(sC n).take (j+1)=(sC n).take j++[sU n j]:=by rw[aM (by rw[nD];exact h)];simp[sC]
structure qa(base:Nat)(e:TypeId)(w w':World)(v v':Value)(n:Nat)(xs:List Value):Prop where
 ie:w'.ownsRow base e 1 v' n xs
 only:gL (λb=>v.ownBlock=some b) w w'
 a:∀b,v'.ownBlock=some b->v.ownBlock=some b\/w.heap.size<=b
 B:∃a c,v'=.slice a n c
def qa.H{base:Nat}{w2:World}{A:Value}(h:qa base e w w1 v v1 n xs)(k:qa base e w1 w2 v1 A m ys):qa base e w w2 v A m ys:=by
 refine⟨k.ie,⟨k.only.os.H h.only.os,k.only.tape.H h.only.tape,k.only.output.H h.only.output,aF h.only.size k.only.size,λi F H=>?_⟩,λb L=>?_,k.B⟩
 .rw[k.only.block i (af F h.only.size) λe=>?_,h.only.block i F H];rcases h.a i e with e'|e'
  .simp_all
  omega
 rcases k.a b L with y|y
 .exact h.a b y
 exact .inr (aF h.only.size y)
def qa.TP{base:Nat}{o:Obj}{cap:Nat}(A:w1.ownsRow base e 1 (gN (G g) n cap) n xs)(y:(w.alloc o).grownBy w1 v.ownBlock)(F:v.ownBlock=some g\/g=w.heap.size+1):qa base e w w1 v (gN (G g) n cap) n xs:=
 ⟨A,(gL.B ((Bl.refl _).alloc o)).H ((gL.A y).L λk _ e=>e.symm),λb M=>by
  simp[Value.ownBlock]at M
  subst M
  rcases F with h|h
  .simp_all
  .exact .inr C,⟨_,_,rfl⟩⟩
def qa.refl{base:Nat}(h:w.ownsRow base e 1 v n xs):qa base e w w v v n xs:=
 ⟨h,gL.refl _ _,λb y=>.inl y,by
  obtain⟨a,c,e⟩:=(i7 h).len
  rw[jh h]at e
  exact⟨a,c,e⟩⟩
theorem xo(base)(v)(k)(xs)(n)(w)(hv:w.ownsRow base 5 1 v k xs)(hb:base<=w.heap.size)(hk:k<=1100000000000):iB 264 #[v,I n] w λe w'=>∃v',e=gX v'/\qa base 5 w w' v v' (k+8) (xs++(sC n).map B8):=by
 obtain⟨i5,ji,H,L,M⟩:=fx il.CD;have Hv:=gP hv;clear hv;go_enter func264,ntmps264;go_wp2;go_loopw[0,6](λd P wr=>∃(j:Nat),j<=8/\P=I (56-8*(j:Int))/\qa base 5 w wr v d (k+j) (xs++((sC n).take j).map B8)) λ_ P _=>(intOf P+8).toNat
 case atStart=>exact⟨0,C,rfl,by simpa using qa.refl Hv.o⟩
 obtain⟨j,hj,rfl,hG⟩:=hrel;have A:=gP hG;clear hG;by_cases ja:j<8
 .have V:Hid ((k+j+1)*1<=140737488355328):=by unfold Hid;omega
  have Y:Hid (k+j+1<=maxLen):=by unfold Hid maxLen;omega
  have a2:=aF hb A.o.only.size;have hd:decide (8*(j:Int)<=56)=true:=ig;go_wp2_with(at_builtin;refine fm _ rfl _ _ 40 rfl base 5 i5 (.int .u8 0) 1 1 underlying40 ji H L M rfl gF _ (k+j) _ rfl (A.o.ie.alloc _) (U wr.heap.size 0) 1 1 [B8 (sU n j)] rfl rfl (ZV _ _ _) (by simp[B8,Value.oneCell']) gF Y.o V.o ig (wr.heap.size+1) gG ?_);intro g cap w1 y h F a1;have Z:=gP (A.o.H (qa.TP y h F));have HE:=gP (Lz n j ja);clear y h F A;go_wp2;go_roundw
  case rel=>exact⟨j+1,C,iD,by rw[HE.o];simpa [cG]using Z.o⟩
  simp[intOf];omega
 have a0:j=8:=C;subst a0;go_wp2;go_ret;refine⟨_,rfl,?_⟩;have:=A.o;rw[bI (by rw[nD];omega)]at this;exact this
def wL(n:Int)(j:Nat):Int:=IntKind.u64.wrap n/2^(64-8*j)
def Ap(n):IntKind.u64.wrap n=n%18446744073709551616:=rfl
def ym(n)(h:0<=n)(y:n<18446744073709551616):IntKind.u64.wrap n=n:=by rw[Ap,Int.emod_eq_of_lt h y]
def Gw(n):∃W:Nat,IntKind.u64.wrap n=(W:Int)/\W<18446744073709551616:=by rw[Ap];exact⟨(n%18446744073709551616).toNat,C,C⟩
def Qh(n)(k)(h:k<8):bits .or .u64 (IntKind.u64.wrap (wL n k*256)) (IntKind.u64.wrap (sU n k))=wL n (k+1):=by
 obtain⟨W,A,F⟩:=Gw n;unfold wL sU;rw[A];have H:(2:Int)^(64-8*k)=((2^(56-8*k)*256:Nat):Int):=by have:64-8*k=(56-8*k)+8:=C;rw[this,Int.pow_add];simp
 have L:(2:Int)^(56-8*k)=((2^(56-8*k):Nat):Int):=gG;have M:64-8*(k+1)=56-8*k:=C;rw[M,H,L];generalize y:W/2^(56-8*k)=X;have P:X<18446744073709551616:=by rw[<-y];exact Nat.lt_of_le_of_lt (Nat.div_le_self _ _) F
 have V:(W:Int)/((2^(56-8*k)*256:Nat):Int)=((X/256:Nat):Int):=by rw[<-y,Nat.div_div_eq_div_mul];rfl
 have Y:(W:Int)/((2^(56-8*k):Nat):Int)=(X:Int):=by rw[<-y];rfl
 rw[V,Y];have Z:((X/256:Nat):Int)*256=((256*(X/256):Nat):Int):=C;have f4:(X:Int)%256=((X%256:Nat):Int):=C;rw[Z,f4,ym _ C C,ym _ C C,u64_or_nat _ _ C C];have g:=Nat.two_pow_add_eq_or_of_lt (i:=8) (show X%256<2^8 by omega) (X/256);have:(2:Nat)^8=256:=rfl;rw[this]at g;rw[<-g];omega
def OC(n):wL n 0=0:=by obtain⟨W,h,y⟩:=Gw n;unfold wL;omega
def MY(n)(h:(Lit.int .i64 n).wf=true):wrap64 (wL n 8)=n:=by
 have y:-9223372036854775808<=n/\n<=9223372036854775807:=by simpa [Lit.wf,IntKind.min,IntKind.bits,IntKind.signed]using h
 have e:wL n 8=n%18446744073709551616:=by unfold wL;rw[Ap];simp
 unfold wrap64;omega
theorem IC(v)(n)(w)(M:Sl w v ((sC n).map B8))(P:(Lit.int .i64 n).wf=true):iB 285 #[v] w λe w'=>e=gX (I n)/\w'=w:=by
 rcases M with⟨a,c,rfl,V⟩|⟨b,o,c,rfl,Y,y⟩
 .have:=Z5 List.length V;simp[nD]at this
 simp only[ay,nD]at y|-;go_enter func285,ntmps285;go_wp2;go_loop[3,8] (λt i=>∃k:Nat,k<=8/\i=I k/\t=.int .u64 (wL n k)) λ_ i=>8-(intOf i).toNat
 case atStart=>exact⟨0,C,rfl,by rw[OC]⟩
 obtain⟨k,Z,rfl,rfl⟩:=hrel;by_cases H:k<8
 .have h:=y k H;have L:((sC n).map B8)[k]'(by simp[nD];omega)=.int .u8 (sU n k):=by simp[sC,B8]
  rw[L]at h;have A:=gP (Qh n k H);clear L y;go_wp2;go_round
  case rel=>exact⟨k+1,C,iD,by rw[A.o]⟩
  simp[intOf];omega
 have F:k=8:=C;subst F;have A:=gP (MY n P);go_wp2;go_ret;exact⟨RT A.o,rfl⟩
def gO(a:p)(b:q):Hid p/\Hid q:=⟨a,b⟩
def iz(a:p)(b:q)(c:r):Hid p/\Hid q/\Hid r:=⟨a,b,c⟩
def jR(a:p)(b:q)(c:r)(d:s):Hid p/\Hid q/\Hid r/\Hid s:=⟨a,b,c,d⟩
def Bl.B(h:Bl w w')(l:g<w.heap.size){a b:Option Value}(y:w.cell? (U g i)=a)(A:w.cell? (U g j)=b):w'.cell? (U g i)=a/\w'.cell? (U g j)=b:=⟨(h.cell l).H y,(h.cell l).H A⟩
def Bl.D(h:Bl w w')(l:g<w.heap.size){a b c:Option Value}(y:w.cell? (U g i)=a)(A:w.cell? (U g j)=b)(F:w.cell? (U g k)=c):w'.cell? (U g i)=a/\w'.cell? (U g j)=b/\w'.cell? (U g k)=c:=⟨(h.cell l).H y,(h.cell l).H A,(h.cell l).H F⟩
def Bl.M(h:Bl w w')(l:g<w.heap.size){a b c d:Option Value}(y:w.cell? (U g i)=a)(A:w.cell? (U g j)=b)(F:w.cell? (U g k)=c)(L:w.cell? (U g m)=d):w'.cell? (U g i)=a/\w'.cell? (U g j)=b/\w'.cell? (U g k)=c/\w'.cell? (U g m)=d:=⟨(h.cell l).H y,(h.cell l).H A,(h.cell l).H F,(h.cell l).H L⟩
def gL.D(h:gL S w w')(l:g<w.heap.size)(n:¬S g){a b c:Option Value}(y:w.cell? (U g i)=a)(A:w.cell? (U g j)=b)(F:w.cell? (U g k)=c):w'.cell? (U g i)=a/\w'.cell? (U g j)=b/\w'.cell? (U g k)=c:=⟨(h.cell l n).H y,(h.cell l n).H A,(h.cell l n).H F⟩
def gL.M(h:gL S w w')(l:g<w.heap.size)(n:¬S g){a b c d:Option Value}(y:w.cell? (U g i)=a)(A:w.cell? (U g j)=b)(F:w.cell? (U g k)=c)(L:w.cell? (U g m)=d):w'.cell? (U g i)=a/\w'.cell? (U g j)=b/\w'.cell? (U g k)=c/\w'.cell? (U g m)=d:=⟨(h.cell l n).H y,(h.cell l n).H A,(h.cell l n).H F,(h.cell l n).H L⟩
def qJ{A:Array Value}(h:w.heap[g]?=some (im A t f))(i j:Nat){a b:Value}(e:(A[i]?,A[j]?)=(some a,some b)):w.cell? (U g i)=some a/\w.cell? (U g j)=some b:=by simp at e;exact⟨(ax w g i _ t f h).H e.1,(ax w g j _ t f h).H e.2⟩
def oR{A:Array Value}(h:w.heap[g]?=some (im A t f))(i j k:Nat){a b c:Value}(e:(A[i]?,A[j]?,A[k]?)=(some a,some b,some c)):w.cell? (U g i)=some a/\w.cell? (U g j)=some b/\w.cell? (U g k)=some c:=by simp at e;exact⟨(ax w g i _ t f h).H e.1,(ax w g j _ t f h).H e.2.1,(ax w g k _ t f h).H e.2.2⟩
def lV{A:Array Value}(h:w.heap[g]?=some (im A t f))(i j k m:Nat){a b c d:Value}(e:(A[i]?,A[j]?,A[k]?,A[m]?)=(some a,some b,some c,some d)):w.cell? (U g i)=some a/\w.cell? (U g j)=some b/\w.cell? (U g k)=some c/\w.cell? (U g m)=some d:=by simp at e;exact⟨(ax w g i _ t f h).H e.1,(ax w g j _ t f h).H e.2.1,(ax w g k _ t f h).H e.2.2.1,(ax w g m _ t f h).H e.2.2.2⟩
def WI{A:Array Value}(h:w.heap[g]?=some (im A t (0,0)))(i j:Nat):w.frozen? (U g i)=false/\w.frozen? (U g j)=false:=⟨aP w g i _ t h,aP w g j _ t h⟩
def B9{A:Array Value}(h:w.heap[g]?=some (im A t (0,0)))(i j k:Nat):w.frozen? (U g i)=false/\w.frozen? (U g j)=false/\w.frozen? (U g k)=false:=⟨aP w g i _ t h,aP w g j _ t h,aP w g k _ t h⟩
def yo{A:Array Value}(h:w.heap[g]?=some (im A t (0,0)))(i j k m:Nat):w.frozen? (U g i)=false/\w.frozen? (U g j)=false/\w.frozen? (U g k)=false/\w.frozen? (U g m)=false:=⟨aP w g i _ t h,aP w g j _ t h,aP w g k _ t h,aP w g m _ t h⟩
def gT{f:FuncId}{a:Array Value}(h:iB f a w λe w'=>e=gX v/\Q w')(k:∀w',Q w'->R (gX v) w'):iB f a w R:=h.L λ_ w'⟨x,y⟩=>by rw[x];exact k w' y
def iO{f:FuncId}{a:Array Value}(h:iB f a w λe w'=>e=gX v/\Q w')(k:∀w',Hid (Q w')->R (gX v) w'):iB f a w R:=gT h k
def jg(h:Bl a b:=by first|exact Bl.refl _|exact(Bl.refl _).drew|exact(Bl.refl _).drewN _):Bl a b:=h
def m8(h:Bl a b:=by repeat(first|exact Bl.refl _|refine Bl.drew ?_|refine Bl.drewN ?_ _|refine Bl.alloc ?_ _)):Bl a b:=h
def iT(h:Bl a b):gL (λ_=>False) a b:=gL.B h
def lT(h:p:=by omega):Hid p:=h
def mV(h:p:=by unfold maxLen;omega):Hid p:=h
def m9(a:p)(b:q):Hid (p/\q):=⟨a,b⟩
def my(a:p)(b:q)(c:r):Hid (p/\q/\r):=⟨a,b,c⟩
def nK(a:p)(b:q)(c:r)(d:s):Hid (p/\q/\r/\s):=⟨a,b,c,d⟩
def KV{t:Prop}(a:p)(b:q)(c:r)(d:s)(e:t):Hid (p/\q/\r/\s/\t):=⟨a,b,c,d,e⟩
def Ts{t u:Prop}(a:p)(b:q)(c:r)(d:s)(e:t)(f:u):Hid (p/\q/\r/\s/\t/\u):=⟨a,b,c,d,e,f⟩
def iU(x:q)(h:q->p:=by intro h;simpa using h):p:=h x
def jk(x:q)(y:r)(h:q->r->p:=by intro a b;rw[a];exact b):p:=h x y
def jJ(x:q)(y:r)(h:q->r->p:=by intro a b;rw[<-a];exact b):p:=h x y
def ny(x:q)(h:q->p:=by intro h;simp[Value.ownBlock]at h):p:=h x
def pS(x:q)(y:r)(h:q->r->p:=by intro a b;rw[a]at b;exact absurd b (by decide)):p:=h x y
def mG(x:q)(h:q->p:=by intro a;rw[a];decide):p:=h x
def jS(x:q)(y:r)(h:q->r->p:=by intro a b;rw[a,b]):p:=h x y
def yG(x:q)(h:q->p:=by intro a;rw[a];exact aN ..):p:=h x
def rS(h:p:=by simp[Value.oneCell']):p:=h
def vB(h:p:=by rw[IntKind.wrap_i64];omega):p:=h
def um(h:p:=by simp[MapKept.IsKey]):p:=h
def mi(x:q)(h:q->p:=by intro h;simp at h):p:=h x
def nG(x:q)(h:q->p:=by intro a;rw[a];simp):p:=h x
def nN(x:q)(h:q->p:=by intro a;simp[a]):p:=h x
def mf(x:q)(h:q->p:=by intro a;rw[a]):p:=h x
def Wu(x:q)(h:q->p:=by intro a;rw[<-a];omega):p:=h x
def pI(x:q)(h:q->p:=by intro a;rw[a];omega):p:=h x
def iK{a:Int}:a<=a:=aA a
def jl{a:Nat}:a<=a:=Nat.le_refl a
def ju{a:Nat}:0<=a:=Nat.zero_le a
def oC{a:Nat}:a<=a+1:=Nat.le_succ a
def mT{b:Nat}{s:Nat}:w.ownsRow b e s OO 0 []:=World.ownsRow_nil w b e s
def ug:gL S w w:=gL.refl S w
def jC:Bl w w:=Bl.refl w
abbrev AM(p0)(p1)(p2)(p3)(p4)(p5)(p6)(p7)(p8){q9:Type}(p9:List q9)(p10):=im #[.int .i64 p0,.int .i64 p1,.int .i64 p2,.int .i64 p3,.int .i64 p4,.int .i64 p5,.int .i64 p6,.int .i64 p7,gN p8 p9.length p10] 100
abbrev GH :=im #[I 0,I 0,I 0,I 0,I 0,I 0,OO] 215
abbrev ry(p0)(p1)(p2)(p3){q4:Type}(p4:List q4)(p5):=#[I p0,I p1,I p2,gN p3 p4.length p5]
abbrev lF(p0){q1:Type}(p1:List q1)(p2):=gN p0 p1.length p2
abbrev TC :=#[I 0,I 0,I 0,I 0,I 0,I 0,I 0,I 0,OO]
abbrev UM(p0:World)(p1)(p2)(p3)(p4)(p5)(p6)(p7)(p8)(p9)(p10){q11:Type}(p11:List q11)(p12):=(p0.alloc (im #[O p1] 233)).alloc (im #[I p2,I p3,I p4,I p5,I p6,I p7,I p8,I p9,gN p10 p11.length p12] 100)
abbrev zD :=im #[I 0,I 0,I 0,OO] 222
abbrev wO :=im #[I 0,OO,OO] 320
abbrev rz(p0)(p1)(p2)(p3):=im #[I p0,I p1,I p2,I p3] 27
abbrev AR(p0)(p1){q2:Type}(p2:List q2)(p3)(p4){q5:Type}(p5:List q5)(p6):=im #[I p0,gN p1 p2.length p3,gN p4 p5.length p6] 320
end
section
def Bs(w:World)(v:Value)(ys:List Value):Prop:=
 (v= OO/\ys=[])\/∃ad c,v=.slice (some ad) ys.length c/\∀j u,ys[j]?=some u->w.cell? (ad.add j)=some u
def Bs.len(h:Bs w v ys):∃a c,v=gN a ys.length c:=by
 obtain⟨rfl,rfl⟩|⟨y,c,rfl,_⟩:=h
 .simp
 simp
def Bs.only(h:Bs w v ys)(A:gL S w w')(F:∀b,v.ownBlock=some b->¬S b):Bs w' v ys:=by
 obtain h|⟨y,c,rfl,H⟩:=h
 .exact .inl h
 refine .inr ⟨y,c,rfl,λj u L=>?_⟩;have M:=H j u L;have e:(y.add j).block=y.block:=by unfold Addr.add;split<;>rfl
 rw[World.cell?_of_block (A.block _ (World.block_lt_of_cell? w _ M) (by rw[e];exact F y.block rfl))];omega
def Bs.bl(h:Bs w v ys)(y:Bl w w'):Bs w' v ys:=h.only (gL.B y) λ_ _ e=>e
theorem Bs.sl(h:Bs w v ys):Sl w v ys:=by
 obtain⟨rfl,rfl⟩|⟨F,c,rfl,H⟩:=h
 .exact .inl ⟨_,_,rfl,rfl⟩
 cases L:ys with
 |nil=>exact .inl ⟨_,_,rfl,rfl⟩
 |cons y r=>
  have A:=H 0 y (by rw[L];rfl);have M:∃b o,F=(U b o):=by
   let⟨b,o,P⟩:=F
   cases P with
   |none=>exact⟨b,o,rfl⟩
   |some s=>unfold World.cell? Addr.add at A;simp at A;split at A<;>simp_all
  obtain⟨b,o,rfl⟩:=M;have V:=World.block_lt_of_cell? w _ A;rw[<-L];refine .inr ⟨b,o,c,rfl,V,λj Y=>?_⟩;have:=H j ys[j] (ah Y);rwa[mK]at this
def mH{base:Nat}(h:w.ownsRow base e 1 v n xs):Bs w v xs:=by
 have y:=jh h;obtain⟨rfl,rfl⟩|⟨g,cap,A,rfl,_⟩:=h.2
 .exact .inl ⟨rfl,aW.1 y⟩
 refine .inr ⟨(U g 0),cap,mf y,λj u F=>?_⟩;rw[mK,bP,h.cellAt j (gS ((aj.1 F).1))];omega
def mN{P:Program}(w){A:Array Oper}{rest:List Oper}{o:Oper}{a:Act}{Q:Exit->Act->World->Prop}(V:o.guard=none)(s y)(t)(F:o.op=Op.call {callee:=Callee.builtin Builtin.append,args:=#[s,y],argTypes:=#[t,t]})(base)(e)(i)(z)(bytes)(Y:P.underlying t=some (.slice e))(Z:P.info? e=some i)(h3:i.zero=some z)(h4:i.size=1)(h5:i.bytes=bytes)(h6:z.cells.size=1)(v)(n)(xs)(hs:a.eval s=v)(h:w.ownsRow base e 1 v n xs)(u)(ys)(hu:a.eval y=u)(hy:Bs w u ys)(H:∀q∈ys,q.oneCell'=true)(b1:n+ys.length<=maxLen)(b2:(n+ys.length)*bytes<=140737488355328)(hb:base<=w.heap.size)(hK:∀v' w',qa base e w w' v v' (n+ys.length) (xs++ys)->wpList P A Q rest (a.put o.dst v') w'):wpList P A Q (o::rest) a w:=by
 obtain⟨rfl,rfl⟩|⟨ad,c,rfl,hc⟩:=hy
 .refine wpList_append_own_none V s y t F base e i 1 Y Z v n xs hs h hu ?_;exact hK v w (by simpa using qa.refl h)
 refine wpList_append_own_at w V s y t F base e i z 1 bytes Y Z h3 h4 h5 h6 C v n xs hs h ad ys.length c ys hu gG hc H b1 b2 hb ?_;intro v' w' M r2 r3 r4;refine hK v' w' ⟨M,(gL.A r2).L λk _ e=>e.symm,λb a0=>?_,?_⟩
 .obtain r4|r4:=r4
  .simp_all
  simp_all
 obtain⟨a',c',e'⟩:=(i7 M).len;rw[jh M]at e';exact⟨a',c',e'⟩
def xi(w:World)(e)(cs)(n)(h:n=cs.size):Bs (w.alloc (im cs e)) (gN (G w.heap.size) n n) cs.toList:=by subst h;refine .inr ⟨(U w.heap.size 0),cs.size,gG,λj u y=>?_⟩;rw[mK];simp_all
def qa.from{base:Nat}(A:Bl w W)(h:qa base e W w1 v v1 n xs):qa base e w w1 v v1 n xs:=
 ⟨h.ie,(gL.B A).H h.only,λb y=>(h.a b y).imp id λe=>aF A.lt e,h.B⟩
def qa.block{base:Nat}(h:qa base e w w1 v v1 n xs)(F:w.ownsRow base e 1 v m ys){R:Nat}(A:w.heap[R]?=some (im c e' f))(y:e≠e'):w1.heap[R]?=some (im c e' f):=by rw[h.only.block R (ae.1 A).1 (λe=>gY F A y e)];omega
def iV(kd:Int)(ns:List Int)(val:List Int):List Int:=[kd,ns.length,val.length]++(ns.flatMap sC++val)
def uZ(kd:Int)(ns:List Int)(val:List Int)(k:Nat):List Int:=[kd,ns.length,val.length]++(ns.take k).flatMap sC
def G9(kd)(ns val)(k)(h:k<ns.length):uZ kd ns val (k+1)=uZ kd ns val k++sC ns[k]:=by unfold uZ;rw[aM h,eZ];simp
theorem uk:∀h:List Int,(h.flatMap sC).length=8*h.length
 |[]=>rfl
 |n::r=>by rw[dP,aO,nD,uk r,df];omega
def Mu(kd)(ns val)(k)(h:k<=ns.length):(uZ kd ns val k).length=3+8*k:=by unfold uZ;rw[aO,uk,bH,eU h];simp
def JX(kd)(ns val):iV kd ns val=uZ kd ns val ns.length++val:=by unfold iV uZ;rw[bZ,eJ]
def oH(kd)(ns val):(iV kd ns val).length=3+8*ns.length+val.length:=by rw[JX,aO,Mu _ _ _ _ jl]
def DP(l:List Int):∀q∈l.map B8,q.oneCell'=true:=λq h=>by obtain⟨x,_,rfl⟩:=aD.1 h;rfl
theorem nE(base)(v)(k)(xs)(kd)(nv vv)(ns val)(w)(hv:w.ownsRow base 5 1 v k xs)(hb:base<=w.heap.size)(hk:k<=1000000000000)(H:Bs w nv (ns.map I))(h:Bs w vv (val.map B8))(h0:0<=kd)(h1:kd<=255)(ba:ns.length<=255)(bb:val.length<=255)(a6:∀b,v.ownBlock=some b->nv.ownBlock≠some b)(a7:∀b,v.ownBlock=some b->vv.ownBlock≠some b)(a8:∀b,nv.ownBlock=some b->b<w.heap.size)(aa:∀b,vv.ownBlock=some b->b<w.heap.size):iB 234 #[.agg #[I kd,nv,vv],v] w λe w'=>∃v',e=gX v'/\qa base 5 w w' v v' (k+(iV kd ns val).length) (xs++(iV kd ns val).map B8):=by
 obtain⟨i5,ji,ab,ac,ad⟩:=fx il.CD;obtain⟨M,P,en⟩:=H.len;obtain⟨V,Y,ev⟩:=h.len;simp only[ay]at en ev;subst en ev;let⟨Hv,aq,ag,ar⟩:=jR hv H h a6;let⟨au,bc,bd⟩:=iz a7 a8 aa;clear hv H h a6 a7 a8 aa;have av:Hid ((k+3)*1<=140737488355328):=lT;have aw:Hid (k+3<=maxLen):=mV;go_enter func234,ntmps234;have bX:=(Bl.refl w).alloc (AR kd M ns P V val Y);have hX:=ao w (AR kd M ns P V val Y);let⟨Z,HY⟩:=gO (Hv.alloc (AR kd M ns P V val Y)) (xi (w.alloc (AR kd M ns P V val Y)) 5 #[B8 kd,B8 ns.length,B8 val.length] 3 rfl);have A:Hid (∀q∈(#[B8 kd,B8 ns.length,B8 val.length]:Array Value).toList,q.oneCell'=true):=by intro q hq;simp at hq;obtain rfl|rfl|rfl:=hq<;>rfl
 rw[show(w.alloc (AR kd M ns P V val Y)).heap.size=w.heap.size+1 from by simp]at HY;let⟨HX,BX⟩:=gO hX bX;clear bX hX;go_wp2_with(at_builtin;refine mN _ rfl (.tmp 7) (.tmp 19) 40 rfl base 5 i5 (.int .u8 0) 1 underlying40 ji ab ac ad rfl v k xs rfl (Z.alloc _) _ _ rfl (by exact HY) A aw av ig ?_);intro v1 w1 hG;have HE:=gP (fJ (w.alloc (AR kd M ns P V val Y)) (im #[B8 kd,B8 ns.length,B8 val.length] 5) w.heap.size gG);obtain⟨a0,a2⟩:=gO (hG.block (Z.alloc _) (HE.H HX) gF) (qa.from (BX.alloc (im #[B8 kd,B8 ns.length,B8 val.length] 5)) hG);clear hG HY Z HE A;obtain⟨a1,c1,e1⟩:∃a c,v1=gN a (k+3) c:=a2.B;subst e1;let⟨x1,x2⟩:=qJ a0 1 2 rfl;simp at x1 x2;have ai:Hid (qa base 5 w w1 v (gN a1 (k+3) c1) (k+(3+8*0)) (xs++(uZ kd ns val 0).map B8)):=by have:=a2.o;refine gP ?_;simpa [uZ]using this
 clear a2;go_wp2;go_loopw[1,24](λd i wr=>∃(j:Nat),j<=ns.length/\i=I j/\wr.heap[w.heap.size]?=some (im #[I kd,gN M ns.length P,gN V val.length Y] 320 (0,0))/\qa base 5 w wr v d (k+(3+8*j)) (xs++(uZ kd ns val j).map B8)) λ_ i _=>ns.length-(intOf i).toNat
 case atStart=>exact⟨0,C,rfl,a0,ai⟩
 clear ai a0 x1 x2;obtain⟨j,hj,rfl,ak,hG⟩:=hrel;let⟨a3,y⟩:=gO ak hG;clear ak hG;have F:=aF hb y.only.size;by_cases ja:j<ns.length
 .have Hn:=gP ((aq.only y.only λb a4 e=>ar.o b e a4).sl);obtain⟨a9,c9,be,al⟩|⟨b1,o1,cc,am,bg,an⟩:=Hn.o
  .simp at al;simp[al]at ja
  have aY:=an j (iU ja);simp only[dC]at aY;simp only[bO]at am;obtain⟨rfl,b0,rfl⟩:=am;clear b0 an;have HE:=gP (G9 kd ns val j ja);generalize ns[j]=nj at*;go_wp2_with fail;refine(xo base _ _ _ nj _ y.ie F C).L ?_;rintro e w2⟨v2,rfl,a5⟩;let⟨b2,b3⟩:=gO (a5.block y.ie a3 gF) (y.H a5);clear a5 y a3 Hn;go_wp2;go_roundw
  case rel=>exact⟨j+1,C,iD,b2,by rw[HE.o];simpa [cG,Nat.mul_add]using b3.o⟩
  simp[intOf];omega
 have b4:j=ns.length:=C;subst b4;have x2:=ax wr w.heap.size 2 _ 320 (0,0) a3;simp at x2;have b5:=gP (ag.only y.only λb a4 e=>au.o b e a4);have b6:Hid ((k+(3+8*ns.length)+(val.map B8).length)*1<=140737488355328):=by unfold Hid;simp;omega
 have b7:Hid (k+(3+8*ns.length)+(val.map B8).length<=maxLen):=by unfold Hid maxLen;simp;omega
 let⟨HB,b8⟩:=gO (JX kd ns val) (oH kd ns val);go_wp2_with(at_builtin;refine mN _ rfl (.tmp 32) (.tmp 34) 40 rfl base 5 i5 (.int .u8 0) 1 underlying40 ji ab ac ad rfl _ _ _ rfl y.ie _ _ rfl b5 (DP val) b7 b6 F ?_);intro v3 w3 ap;have b9:=gP (y.H ap);clear ap y;go_wp2;go_ret;refine⟨_,rfl,?_⟩;rw[b8.o,HB.o];simpa [cG]using b9.o
open Go.RowKit
def qp(k n v:Int)(ds:List Int):Bool:=(ds.getD 0 0==k)&&(decide (ds.length<2)||(ds.getD 1 0==n))&&(decide (ds.length<3)||decide (ds.getD 2 0<=v))
def wN{b o:Nat}(y:∀j,(h:j<(ds.map B8).length)->w.cell? (U b (o+j))=some (ds.map B8)[j])(j)(h:j<ds.length):w.cell? (U b (o+j))=some (.int .u8 (ds.getD j 0)):=by have:=y j (iU h);rw[this];simp[B8,h]
theorem FW(k n v)(b o c m)(d0 d1 d2)(r)(w)(hm:0<m)(hl:m<=1100000000000)(hb:b<w.heap.size)(y0:w.cell? (U b o)=some (.int .u8 d0))(y:1<m->w.cell? (U b (o+1))=some (.int .u8 d1))(A:2<m->w.cell? (U b (o+2))=some (.int .u8 d2))(P:0<=d0/\d0<=255)(V:0<=d1/\d1<=255)(Y:0<=d2/\d2<=255)(h:Hid (((d0==k)&&(decide (m<2)||(d1==n))&&(decide (m<3)||decide (d2<=v)))=r)):iB 260 #[.agg #[I k,I n,I v],gN (some (U b o)) m c] w λe w'=>e=gX (.bool r)/\Bl w w':=by
 let⟨Z,a0⟩:=P;let⟨a1,a2⟩:=V;let⟨a3,a4⟩:=Y;have m0:(0:Int)<(m:Int):=C
 cases H:(d0==k)
 .have F:Hid (r=false):=by rw[Hid,<-h.o,H];rfl
  clear h y A;go_enter func260,ntmps260;go_wp2;go_quiet(fail);go_wp2;go_ret;exact⟨lE F.symm,(jC.alloc _).drewN _⟩
 by_cases l1:m<2
 .have F:Hid (r=true):=by rw[Hid,<-h.o,H];simp[l1];omega
  have m1:(m:Int)<2:=C;have M:(m:Int)<3:=C;clear h y A;go_enter func260,ntmps260;go_wp2;go_quiet(fail);go_wp2;go_ret;exact⟨lE F.symm,(jC.alloc _).drewN _⟩
 have z1:=y C;have m1:(1:Int)<(m:Int):=C;have n1:decide ((m:Int)<2)=false:=ig
 cases L:(d1==n)
 .have F:Hid (r=false):=by rw[Hid,<-h.o,H,L];simp[l1]
  clear h y A;go_enter func260,ntmps260;go_wp2;go_quiet(fail);go_wp2;go_ret;exact⟨lE F.symm,(jC.alloc _).drewN _⟩
 by_cases l2:m<3
 .have F:Hid (r=true):=by rw[Hid,<-h.o,H,L];simp[l2]
  have M:(m:Int)<3:=C;clear h y A;go_enter func260,ntmps260;go_wp2;go_quiet(fail);go_wp2;go_ret;exact⟨lE F.symm,(jC.alloc _).drewN _⟩
 have z2:=A C;have M:(2:Int)<(m:Int):=C;have n2:decide ((m:Int)<3)=false:=ig;have F:Hid (r=decide (d2<=v)):=by rw[Hid,<-h.o,H,L];simp[l2]
 clear h y A;go_enter func260,ntmps260;go_wp2;go_quiet(fail);go_wp2;go_ret;exact⟨lE F.symm,(jC.alloc _).drewN _⟩
def Ja(k n v)(u)(ds)(w)(H:Sl w u (ds.map B8))(F:0<ds.length)(L:ds.length<=1100000000000)(M:∀d∈ds,0<=d/\d<=255):iB 260 #[.agg #[I k,I n,I v],u] w λe w'=>e=gX (.bool (qp k n v ds))/\Bl w w':=by
 obtain⟨a,c,rfl,Y⟩|⟨b,o,c,rfl,P,A⟩:=H
 .simp_all
 have y:∀j,0<=ds.getD j 0/\ds.getD j 0<=255:=λj=>by by_cases h:j<ds.length;all_goals simp_all
 have V:=wN A 0 F;rw[ay];exact FW k n v b o c ds.length _ _ _ _ w F L P V (λh=>wN A 1 h) (λh=>wN A 2 h) (y 0) (y 1) (y 2) (gP rfl)
theorem zP(k n v)(p)(u)(ds)(w)(V:p<w.heap.size)(Y:w.cell? (U p 0)=some u)(y:Sl w u (ds.map B8))(F:0<ds.length)(L:ds.length<=1100000000000)(h:∀d∈ds,0<=d/\d<=255):iB 259 #[.agg #[I k,I n,I v],O p] w λe w'=>e=gX (.bool (qp k n v ds))/\Bl w w':=by
 obtain⟨a,c,e⟩:=y.len;simp only[ay]at e;subst e;let⟨M,A⟩:=gO y h;clear y h;go_enter func259,ntmps259;go_wp2_with fail;refine gT (Ja k n v _ ds _ (M.bl (jC.alloc _)) F L A) λw' P=>?_;go_wp2;go_ret;exact⟨rfl,(jC.alloc _).H P⟩
def mn(w:World)(b o:Nat)(lG:List (Int×Int×Int)):Prop:=
 b<w.heap.size/\∀j,(h:j<lG.length)->w.cell? (U b (o+j*3))=some (I lG[j].1)/\w.cell? (U b (o+j*3+1))=some (I lG[j].2.1)/\w.cell? (U b (o+j*3+2))=some (I lG[j].2.2)
theorem AF(b o c)(lG)(p)(u)(ds)(w)(F:mn w b o lG)(hp:p<w.heap.size)(M:w.cell? (U p 0)=some u)(hu:Sl w u (ds.map B8))(h0:0<ds.length)(hl:ds.length<=1100000000000)(P:∀d∈ds,0<=d/\d<=255)(hs:lG.length<=1000):iB 284 #[gN (some (U b o)) lG.length c,.func (.func 259) #[] #[O p]] w λe w'=>∃n:Int,e=gX (I n)/\(0<=n↔∃s∈lG,qp s.1 s.2.1 s.2.2 ds=true)/\Bl w w':=by
 let⟨a1,Hu,V,Y⟩:=jR F hu P M;have a2:=F.1;clear F hu P M;go_enter func284,ntmps284;go_wp2;go_loopw[8](λi wr=>∃k:Nat,k<=lG.length/\i=I k/\Bl w wr/\∀s∈lG.take k,¬qp s.1 s.2.1 s.2.2 ds=true) λi _=>lG.length-(intOf i).toNat
 case atStart=>exact⟨0,ju,rfl,jC,gG⟩
 obtain⟨k,hk,rfl,h,Z⟩:=hrel;have a0:=gP Z;clear Z;by_cases ja:k<lG.length
 .obtain⟨q0,q1,q2⟩:=a1.2 k ja;let⟨g0,g1,g2⟩:=h.D a2 q0 q1 q2;have Hm:Hid (lG[k]∈lG):=aL ja;have Ht:Hid (lG.take (k+1)=lG.take k++[lG[k]]):=aM ja;clear q0 q1 q2;generalize lG[k]=sh at*;let⟨s1,s2,s3⟩:=sh
  cases hf:qp s1 s2 s3 ds
  .have Hf:=gP hf;clear hf;go_wp2_with fail;refine(zP s1 s2 s3 p u ds _ (af hp h.lt) ((h.cell hp).H Y) (Hu.bl h) h0 hl V).L ?_;rw[Hf.o];rintro e w'⟨rfl,A⟩;go_wp2;go_roundw
   case rel=>
    refine⟨k+1,C,iD,h.H A,?_⟩;rw[Ht.o];intro y hy;obtain hy|hy:=aT.1 hy
    .exact a0 y hy
    simp at hy;subst hy;rw[Hf.o];simp
   case measure=>simp[intOf];omega
  have Hf:=gP hf;clear hf;go_wp2_with fail;refine(zP s1 s2 s3 p u ds _ (af hp h.lt) ((h.cell hp).H Y) (Hu.bl h) h0 hl V).L ?_;rw[Hf.o];rintro e w'⟨rfl,A⟩;go_wp2;go_ret;exact⟨_,rfl,iff_of_true C ⟨_,Hm,Hf⟩,h.H A⟩
 go_wp2;go_ret;refine⟨_,rfl,iff_of_false C ?_,h⟩;rintro⟨y,hy,hz⟩;refine a0 y ?_ hz;rw[bI C];exact hy
theorem rL(b o c)(lG)(p)(u)(ds)(w)(h:mn w b o lG)(M:p<w.heap.size)(y:w.cell? (U p 0)=some u)(P:Sl w u (ds.map B8))(V:0<ds.length)(Y:ds.length<=1100000000000)(A:∀d∈ds,0<=d/\d<=255)(Z:lG.length<=1000):iB 261 #[gN (some (U b o)) lG.length c,.func (.func 259) #[] #[O p]] w λe w'=>e=gX (.bool (lG.any λs=>qp s.1 s.2.1 s.2.2 ds))/\Bl w w':=by
 go_enter func261,ntmps261;go_wp2_with fail;refine(AF b o c lG p u ds _ h M y P V Y A Z).L ?_;rintro e w'⟨n,rfl,H,F⟩;have Hn:=gP H;clear H;go_wp2;go_ret;refine⟨lE ?_,F⟩;rw[dr];simpa using Hn.o
end
section
def il.WB(w)(a)(n c n' c'):(binOp .eql 40 (gN a n c) (gN none n' c')).run prog w=.ok (.bool a.isNone) w:=Lib.run_eql_slice_nil w _ _ a n c n' c' underlying40
theorem oS(v)(ys:List Int)(w)(hv:Bs w v (ys.map B8))(hl:ys.length<=1100000000000):iB 87 #[v] w λe w'=>∃v',e=gX v'/\Bl w w'/\w'.ownsRow w.heap.size 5 1 v' ys.length (ys.map B8):=by
 have M:=il.WB;obtain⟨i5,ji,h,y,F⟩:=fx il.CD;obtain⟨rfl,P⟩|⟨V,c,rfl,Y⟩:=hv
 .simp at P;subst P;go_enter func87,ntmps87;go_wp2;go_ret;exact⟨_,rfl,jC,mT⟩
 have HB:Hid (Bs w (gN (some V) (ys.map B8).length c) (ys.map B8)):= .inr ⟨V,c,rfl,Y⟩;have H:Hid ((0+(ys.map B8).length)*1<=140737488355328):=by unfold Hid;simp;omega
 have L:Hid (0+(ys.map B8).length<=maxLen):=by unfold Hid maxLen;simp;omega
 have HO:=gP (World.ownsRow_lit (base:=w.heap.size) (e:=5) (size:=1) w #[] 0 jl (by unfold maxLen;omega) rfl);clear Y;go_enter func87,ntmps87;go_wp2_with(at_builtin;refine mN _ rfl (.tmp 5) (.tmp 6) 40 rfl w.heap.size 5 i5 (.int .u8 0) 1 underlying40 ji h y F rfl _ 0 [] rfl HO _ _ rfl (HB.bl (jC.alloc _)) (DP ys) L H gG ?_);intro v' w' Z;have HG:=gP Z;clear Z;go_wp2;go_ret;refine⟨_,rfl,(jC.alloc _).A HG.only λn hn=>by simp[Value.ownBlock]at hn;omega,?_⟩;have:=HG.ie;simpa using this
def jq(ys:List Int):ByteArray:=ys.foldl (λr n=>r.push (UInt8.ofNat n.toNat)) ByteArray.empty
theorem kX(u)(ys)(w)(L:Sl w u (ys.map B8)):(convert 40 9 u).run prog w=.ok (.string (jq ys)) w:=by
 have y:∀a c,(∀j v,(ys.map B8)[j]?=some v->w.cell? (a.add j)=some v)->(convert 40 9 (gN (some a) ys.length c)).run prog w=.ok (.string (jq ys)) w:=by intro a c h;have F:=run_loadCells_list (P:=prog) (w:=w) a (ys.map B8) h;rw[ay]at F;exact run_bytesToString w a ys.length c ys F
 obtain⟨a,c,rfl,H⟩|⟨b,o,c,rfl,V,M⟩:=L
 .simp at H;subst H
  cases a with
  |none=>rw[run_convert_bytes_string w 40 9 5 none 0 c underlying40 underlying5 underlying9];simp[Conv.bytesToString];rfl
  |some a=>exact y a c λj v h=>mi h
 rw[ay];refine y (U b o) c λj v h=>?_;obtain⟨A,rfl⟩:=aj.1 h;rw[mK];exact M j A
def B7(u v)(ys:List Int)(w)(h:Sl w u (ys.map B8))(y:Sl w v (ys.map B8)):Calls prog 231 #[u,v] w λe w'=>e=gX (.bool true)/\w'=w:=by
 obtain⟨a,c,e⟩:=h.len;obtain⟨H,c',e'⟩:=y.len;have A:=kX u ys w h;have F:=kX v ys w y;subst e e';simp at A F|-;go_wp2;go_ret;simp_all
def AW(u)(ds:List Int)(w)(y:Sl w u (ds.map B8))(h:ds.length<3):Calls prog 262 #[u] w λe w'=>e=gX (.tuple #[I 0,.bool false])/\Bl w w':=by
 obtain⟨a,c,e⟩:=y.len;go_wp2;go_ret2;exact⟨rfl,jC⟩
theorem Eu(u)(ds:List Int)(w)(H:Sl w u (ds.map B8))(h:3<=ds.length)(hl:ds.length<=1100000000000)(y:∀d∈ds,0<=d/\d<=255):iB 262 #[u] w λe w'=>e=gX (.tuple #[I (3+ds.getD 1 0*8+ds.getD 2 0),.bool (decide (3+ds.getD 1 0*8+ds.getD 2 0<=ds.length))])/\Bl w w':=by
 obtain⟨a,c,rfl,F⟩|⟨b,o,c,rfl,hb,A⟩:=H
 .simp at F;simp[F]at h
 have y1:=wN A 1 C;have y2:=wN A 2 C;have L:=y (ds.getD 1 0) (by rw[List.getD,ah C];exact aL _);have M:=y (ds.getD 2 0) (by rw[List.getD,ah C];exact aL _);generalize ds.getD 1 0=d1 at*;generalize ds.getD 2 0=d2 at*;let⟨P,V⟩:=L;let⟨Y,Z⟩:=M;simp only[ay]at A|-;clear A y;go_enter func262,ntmps262;go_wp2;go_quiet(fail);go_wp2;go_ret2;exact⟨rfl,jC.drewN _⟩
open Go.RowKit
attribute [local go_sem ↓] Go.wp_at_zero Go.wp_at_succ
def il.tY:(prog.info? 3).map (λi=>(i.zero,i.size,i.bytes))=some (some (I 0),1,8):=rfl
def BM(kd)(ns val):(iV kd ns val)[0]?=some kd:=rfl
def xj(kd)(ns val):(iV kd ns val)[1]?=some (ns.length:Int):=rfl
theorem Qu(y:List Int):∀(j i:Nat) (h:j<y.length),i<8->(y.flatMap sC)[8*j+i]?=(sC y[j])[i]?:=by
 induction y with
 |nil=>intro j i h;simp at h
 |cons n r A=>
  intro j i h F;rw[dP]
  cases j with
  |zero=>rw[aB (by rw[nD];omega)];simp
  |succ j=>rw[aC (by rw[nD];omega),nD,show 8*_+i-8=8*j+i by omega,A j i (iU h) F];simp
def Oi(kd)(ns val)(j i)(h:j<ns.length)(y:i<8):(iV kd ns val)[3+8*j+i]?=(sC ns[j])[i]?:=by unfold iV;rw[aC ig,aB (by rw[uk];simp;omega),<-Qu ns j i h y];congr 1;simp;omega
def OE(kd)(ns val)(i):(iV kd ns val)[3+8*ns.length+i]?=val[i]?:=by unfold iV;rw[aC ig,aC (by rw[uk];simp;omega)];congr 1;rw[uk];simp;omega
def SW(q l c l' c')(A B)(h:l=l')(y:c=c'):gN (if q=8 then some A else some B) l c=gN (some (if q=8 then A else B)) l' c':=by subst h y;split<;>rfl
def LY{wr W':World}{kd:Int}{y V:Value}(F:Bl w wr)(h:Bl wr W')(H:wr.heap[w.heap.size]?=some (im c0 320 (0,0)))(L:wr.heap[w.heap.size+1]?=some (im #[I kd,y,OO] 320 (0,0)))(M:wr.ownsRow w.heap.size 3 1 y k ys)(P:W'.grownBy w3 y.ownBlock)(Z:w3.ownsRow w.heap.size 3 1 V n xs):Bl w (w3.setCell (U (w.heap.size+1) 1) V)/\(w3.setCell (U (w.heap.size+1) 1) V).heap[w.heap.size]?=some (im c0 320 (0,0))/\(w3.setCell (U (w.heap.size+1) 1) V).heap[w.heap.size+1]?=some (im #[I kd,V,OO] 320 (0,0))/\(w3.setCell (U (w.heap.size+1) 1) V).ownsRow w.heap.size 3 1 V n xs:=by
 have la:=(ae.1 H).1;have lb:=(ae.1 L).1;have A3:w3.heap[w.heap.size]?=some (im c0 320 (0,0)):=by rw[P.block _ (af la h.lt) λe=>gY M H gF e.symm,h.heap la];exact H
 have B3:w3.heap[w.heap.size+1]?=some (im #[I kd,y,OO] 320 (0,0)):=by rw[P.block _ (af lb h.lt) λe=>gY M L gF e.symm,h.heap lb];exact L
 refine⟨?_,?_,?_,?_⟩
 .have b3:Bl w w3:=(F.H h).A (gL.A P) λb e=>(M.lt b e.symm).1;exact ZY b3 oC _
 .rw[Z8 _ _ _ _ gG];exact A3
 .exact fy w3 (w.heap.size+1) 1 _ 320 _ B3
 exact lY Z λb Y=>Z8 _ _ _ _ λe=>gY Z B3 gF (jS Y e)
theorem P8(b o c)(kd)(ns val)(w)(hb:b<w.heap.size)(hc:∀j d,(iV kd ns val)[j]?=some d->w.cell? (U b (o+j))=some (B8 d))(hm:(iV kd ns val).length<=c)(h0:0<=kd)(h1:kd<=255)(aY:1<=ns.length)(b0:ns.length<=255)(b1:val.length<=255)(ai:∀n∈ns,(Lit.int .i64 n).wf=true)(b3:c<=9223372036854775807):iB 263 #[gN (some (U b o)) (iV kd ns val).length c] w λe w'=>∃nv vv,e=gX (.agg #[I kd,nv,vv])/\Bl w w'/\w'.ownsRow w.heap.size 3 1 nv ns.length (ns.map I)/\w'.ownsRow w.heap.size 5 1 vv val.length (val.map B8):=by
 obtain⟨i3,ji,ak,al,am⟩:=fx il.tY;have y0:=hc 0 _ (BM kd ns val);have y1:=hc 1 _ (xj kd ns val);unfold B8 at y0 y1;rw[fj]at y0;have a8:=oH kd ns val;have Hc:=gP hc;clear hc;generalize hM:(iV kd ns val).length=m at*;let⟨HM,a9⟩:=gO hM a8;have b4:11<=m:=C;have b5:m<=3+8*255+255:=C;clear hM a8;have i1:(1:Int)<(m:Int):=C;have i0:(0:Int)<(m:Int):=C;have b6:(3:Int)<=(m:Int):=C;have i4:(m:Int)<=(c:Int):=C;go_enter func263,ntmps263;have c3:¬c=3:=C;have bR:Bl w ((w.alloc wO).alloc (im #[I kd,OO,OO] 320)):=((Bl.refl w).alloc _).alloc _;have BR:=gP bR;have h2:=(fJ (w.alloc wO) (im #[I kd,OO,OO] 320) w.heap.size gG).H (ao w _);have h3:((w.alloc wO).alloc (im #[I kd,OO,OO] 320)).heap[w.heap.size+1]?=some (im #[I kd,OO,OO] 320 (0,0)):=by have:=ao (w.alloc wO) (im #[I kd,OO,OO] 320);simpa using this
 let⟨H2,H3⟩:=gO h2 h3;clear bR h2 h3;go_wp2;go_loopw[4,16](λrest i wr=>∃(j:Nat) (nv:Value) (ad:Addr),j<=ns.length/\i=I j/\rest=gN (some ad) (m-3-8*j) (c-3-8*j)/\(0<m-3-8*j->ad=(U b (o+3+8*j)))/\Bl w wr/\
  wr.heap[w.heap.size]?=some (im #[I 0,OO,OO] 320 (0,0))/\wr.heap[w.heap.size+1]?=some (im #[I kd,nv,OO] 320 (0,0))/\wr.ownsRow w.heap.size 3 1 nv j ((ns.take j).map I)) λ_ i _=>ns.length-(intOf i).toNat
 case atStart=>exact⟨0,_,_,C,rfl,rfl,λ_=>rfl,BR,H2,H3,mT⟩
 clear BR H2 H3;obtain⟨j,nv,ad,hj,rfl,rfl,mw,M,hA,hB,V⟩:=hrel;let⟨HA,HB,y⟩:=iz hA hB V;obtain⟨na,nc,en⟩:∃a c,nv=gN a j c:=by obtain⟨a',c',e'⟩:=(i7 V).len;rw[jh V]at e';exact⟨a',c',e'⟩
 subst en;clear hA hB V;by_cases ja:j<ns.length
 .have Y:=a9.o;have b7:8<=m-3-8*j:=C;have aa:=mw C;subst aa;have b8:8<=c-3-8*j:=C;have a6:Hid (Sl wr (gN (some (U b (o+3+8*j))) 8 (c-3-8*j)) ((sC ns[j]).map B8)):=by
   refine .inr ⟨b,o+3+8*j,_,by rw[ay,nD],af hb M.lt,λi hi=>?_⟩;have ab:i<8:=by simpa [nD]using hi
   have:=Hc (3+8*j+i) _ ((Oi kd ns val j i ja ab).H (ah (by rw[nD];exact ab)));rw[M.cell hb,show o+3+8*j+i=o+(3+8*j+i) by omega,this];simp
  obtain⟨an,Ht⟩:=gO (ai _ (aL ja)) (aM ja);have q1:=ax wr (w.heap.size+1) 1 _ 320 (0,0) HB;have f1:=aP wr (w.heap.size+1) 1 _ 320 HB;simp at q1;have lR:w.heap.size+1<wr.heap.size:=(ae.1 HB).1;have nR:=gP (gY y HB gF);have ap:Hid ((j+1)*8<=140737488355328):=lT;have aq:Hid (j+1<=maxLen):=mV;generalize ns[j]=nj at*;have b9:(8:Int)<=((c-3-8*j:Nat):Int):=C;have ba:(8:Int)<=((m-3-8*j:Nat):Int):=C;have bb:((m-3-8*j:Nat):Int)<=((c-3-8*j:Nat):Int):=C;clear mw Y y0 y1;go_wp2;go_region_law
   ((first
     |(refine step_append_lies _ jQ _ _ _ jQ w.heap.size 3 i3 _ 1 8 underlying24 ji ak al am rfl C _ j _ jQ ((y.alloc _).drew) (U wr.heap.size 0) 1 1 [I nj] jQ jQ (fW (cs:=#[I nj]) (t:=3) (fr:=(0,0)) (ao wr _)) rS C aq ap ig (wr.heap.size+1) gG ?_;intro gg cap w3 Z A ar aw;have kc:=(AN (((Bl.refl wr).alloc _).drew) A (o:=1) lR nR).1.H q1;have kf:=(AN (((Bl.refl wr).alloc _).drew) A (o:=1) lR nR).2.H f1)
     |(go_simp;go_at_call 285;refine(IC _ nj _ (by exact a6.bl (jC.drew)) an).L ?_;rintro e w'⟨rfl,rfl⟩)))
  all_goals
   have HP:=LY M (((Bl.refl wr).alloc _).drew) HA HB y A Z;let⟨P1,P2,P3,P4⟩:=jR HP.1 HP.2.1 HP.2.2.1 HP.2.2.2;clear HP A Z ar kc kf HA HB y a6 M q1 f1;go_wp2
  all_goals
   go_roundw
   case rel=>refine⟨j+1,_,_,C,iD,SW _ _ _ _ _ _ _ C C,λh=>?_,P1,P2,P3,by rw[Ht.o,aZ];exact P4⟩;rw[az C,show o+3+8*j+8=o+3+8*(j+1) by omega]
   case measure=>simp[intOf];omega
 have au:j=ns.length:=C;subst au;have Y:=a9.o;have a7:m-3-8*ns.length=val.length:=C;have HV:Hid (Bs wr (gN (some ad) (m-3-8*ns.length) (c-3-8*ns.length)) (val.map B8)):=by refine .inr ⟨ad,_,by rw[ay,a7],λi u hi=>?_⟩;rw[aK]at hi;obtain⟨d,hd,rfl⟩:=bN.1 hi;have bc:=(aj.1 hd).1;rw[mw C,mK,M.cell hb,show o+3+8*ns.length+i=o+(3+8*ns.length+i) by omega];exact Hc _ _ ((OE kd ns val i).H hd)
 let⟨q0,q1⟩:=qJ HB 0 1 rfl;have lR:w.heap.size+1<wr.heap.size:=(ae.1 HB).1;clear mw Y y0 y1 a7;go_wp2_with fail;refine(oS _ val _ HV C).L ?_;rintro e w2⟨vv,rfl,b2,a3⟩;obtain⟨av,a4,a5⟩:=iz ((iT b2).iX y λ_ _ e=>e) ((b2.heap C).H HA) ((b2.heap lR).H HB);let⟨ac,ag⟩:=gO a3 (M.H b2);obtain⟨va,vc,ev⟩:∃a c,vv=gN a val.length c:=by obtain⟨a',c',e'⟩:=(i7 a3).len;rw[jh a3]at e';exact⟨a',c',e'⟩
 subst ev;let⟨p0,p1,p2⟩:=oR a5 0 1 2 rfl;have g2:=aP w2 (w.heap.size+1) 2 _ 320 a5;let⟨a0,a1,a2⟩:=oR a4 0 1 2 rfl;let⟨k0,k1,k2⟩:=B9 a4 0 1 2;simp at p0 p1 p2 a0 a1 a2;clear q0 q1 a3 b2 HV HA HB y M;go_wp2;have F:gL (λb=>b=w.heap.size\/b=w.heap.size+1) w2 _:=((((gL.refl (λb=>b=w.heap.size\/b=w.heap.size+1) w2).setCell (U (w.heap.size+1) 2) (.inl (.inr rfl)) (lF va val vc)).setCell (U w.heap.size 0) (.inl (.inl rfl)) (I kd)).setCell (U w.heap.size 1) (.inl (.inl rfl)) (lF na ns nc)).setCell (U w.heap.size 2) (.inl (.inl rfl)) (lF va val vc);refine aG (v:= .agg #[I kd,gN na ns.length nc,gN va val.length vc]) (by simp[results,results263,go_sem,a0,a1,a2]) rfl ⟨_,_,rfl,?_,?_,?_⟩
 .exact ag.A F (λn hn=>by obtain h|h:=hn<;>omega)
 .have ht:ns.take ns.length=ns:=bZ;have:=av.o;rw[ht]at this;refine F.iX this λb P e=>?_;obtain e|e:=e
  .exact gY this a4 gF (jS P e)
  exact gY this a5 gF (jS P e)
 have this:=gZ (base':=w.heap.size) ac λb P=>aF C (ac.lt b P).1;refine F.iX this λb P e=>?_;obtain e|e:=e
 .exact gY this a4 gF (jS P e)
 exact gY this a5 gF (jS P e)
abbrev EO(p0)(p1):=bytesRow (jq p0) (grownCap p1 5 0 5)
end
section
structure Rc where
 kd:Int
 ns:List Int
 val:List Int
def Rc.bytes(r:Rc):List Int:=iV r.kd r.ns r.val
def iE(rs:List Rc):List Int:=rs.flatMap Rc.bytes
def ML(r)(rs):iE (r::rs)=r.bytes++iE rs:=rfl
def Rc.len(r:Rc):r.bytes.length=3+8*r.ns.length+r.val.length:=oH _ _ _
structure Rc.Ok(lG:List (Int×Int×Int))(r:Rc):Prop where
 k0:0<=r.kd
 k1:r.kd<=255
 n0:1<=r.ns.length
 n1:r.ns.length<=255
 v1:r.val.length<=255
 wf:∀n∈r.ns,(Lit.int .i64 n).wf=true
 UZ:∀d∈r.val,0<=d/\d<=255
 fits:∃s∈lG,s.1=r.kd/\s.2.1=r.ns.length/\(r.val.length:Int)<=s.2.2
def wJ(n)(j):0<=sU n j/\sU n j<=255:=by unfold sU;omega
def Rc.range{lG:List (Int×Int×Int)}{r:Rc}(h:r.Ok lG):∀d∈r.bytes,0<=d/\d<=255:=by
 intro d hd;simp only[Rc.bytes,iV,aT,bh,dB,or_false,eB]at hd;have:=h.k0;have:=h.k1;have:=h.n1;have:=h.v1;obtain (rfl|rfl|rfl)|⟨n,_,hd⟩|hd:=hd
 .omega
 .omega
 .omega
 .simp only[sC,aD]at hd;obtain⟨j,_,rfl⟩:=hd;exact wJ n j
 exact h.UZ d hd
def Rc.OX{lG:List (Int×Int×Int)}{r:Rc}(h:r.Ok lG)(n)(L:0<n)(rest)(ds)(y:ds=(r.bytes++rest).take n):(lG.any λs=>qp s.1 s.2.1 s.2.2 ds)=true:=by
 obtain⟨s,M,P,V,e3⟩:=h.fits;rw[cK];refine⟨s,M,?_⟩;have hl:=r.len;have Y:ds[0]?=some r.kd:=by rw[y,cZ,aE L,aB C];exact BM _ _ _
 have Z:1<n->ds[1]?=some (r.ns.length:Int):=λA=>by rw[y,cZ,aE A,aB C];exact xj _ _ _
 have g2:2<n->ds[2]?=some (r.val.length:Int):=λF=>by rw[y,cZ,aE F,aB C];simp[Rc.bytes,iV]
 have H:ds.length<=n:=by rw[y];exact List.length_take_le _ _
 unfold qp;rw[bL,bL];refine⟨⟨by simp[List.getD,Y,P],?_⟩,?_⟩
 .by_cases A:ds.length<2
  .simp[A]
  simp[List.getD,Z C,V]
 by_cases F:ds.length<3
 .simp[F]
 simp[List.getD,g2 C];right;omega
open Go.RowKit
attribute [local go_sem ↓] Go.wp_at_zero Go.wp_at_succ
def il.TI:(prog.info? 320).map (λi=>(i.zero,i.size,i.bytes))=some (some (.agg #[I 0,OO,OO]),3,56):=rfl
def off(rs:List Rc)(k:Nat):Nat:=(iE (rs.take k)).length
def tX(rs):off rs 0=0:=rfl
def lO(a b):iE (a++b)=iE a++iE b:=by simp[iE]
def si(rs)(k)(h:k<rs.length):off rs (k+1)=off rs k+rs[k].bytes.length:=by unfold off;rw[aM h,lO];simp[iE]
def Ko(rs):off rs rs.length=(iE rs).length:=by simp[off]
def DF(rs)(k)(h:k<rs.length):iE rs=iE (rs.take k)++(rs[k].bytes++iE (rs.drop (k+1))):=by
 conv=>lhs;rw[<-dK k rs,cm h]
 rw[lO,ML]
def PO(rs)(k)(h:k<rs.length):off rs k<(iE rs).length:=by have:=rs[k].len;rw[DF rs k h,aO,aO];unfold off;omega
def left(rs:List Rc)(n k:Nat)(h:k<rs.length):List Int:=(rs[k].bytes++iE (rs.drop (k+1))).take (n-off rs k)
def zj{rs:List Rc}(h:k<rs.length)(y:n<=(iE rs).length):(left rs n k h).length=n-off rs k:=by have e:=Z5 List.length (DF rs k h);rw[aO]at e;unfold left;rw[bH];unfold off;omega
def ED{rs:List Rc}(h:k<rs.length)(j)(y:j<n-off rs k):(left rs n k h)[j]?=(iE rs)[off rs k+j]?:=by unfold left;have e:=DF rs k h;generalize rs[k].bytes++iE _=z at*;rw[cZ,aE y,e,aC (by unfold off;omega)];congr 1;unfold off;omega
def Jk{lG:List (Int×Int×Int)}{rs:List Rc}(h:k<rs.length)(y:∀r∈rs,r.Ok lG):∀d∈left rs n k h,0<=d/\d<=255:=by
 intro d hd;have hd:=cQ hd;obtain hd|hd:=aT.1 hd
 .exact Rc.range (y _ (aL h)) d hd
 obtain⟨r,A,hd⟩:=eB.1 hd;exact Rc.range (y r (eC A)) d hd
def L6{rs:List Rc}(h:k<rs.length)(F:3<=n-off rs k):3+(left rs n k h).getD 1 0*8+(left rs n k h).getD 2 0=(rs[k].bytes.length:Int):=by
 have H:=rs[k].len;have y:(left rs n k h)[1]?=some (rs[k].ns.length:Int):=by unfold left;rw[cZ,aE C,aB C];exact xj _ _ _
 have A:(left rs n k h)[2]?=some (rs[k].val.length:Int):=by unfold left;rw[cZ,aE C];simp[Rc.bytes,iV]
 simp only[List.getD,y,A,eN];omega
structure tz(base:Nat)(w:World)(v:Value)(rs:List Rc)(xs:List Value):Prop where
 ie:w.ownsRow base 320 3 v rs.length xs
 len:xs.length=3*rs.length
 ns:∀j,(h:j<rs.length)->∃nv,xs[3*j+1]?=some nv/\w.ownsRow base 3 1 nv rs[j].ns.length (rs[j].ns.map I)
 val:∀j,(h:j<rs.length)->∃vv,xs[3*j+2]?=some vv/\w.ownsRow base 5 1 vv rs[j].val.length (rs[j].val.map B8)
 kd:∀j,(h:j<rs.length)->xs[3*j]?=some (I rs[j].kd)
def tz.nil(base)(w):tz base w OO [] []:=⟨mT,rfl,λj h=>mi h,λj h=>mi h,λj h=>mi h⟩
def tz.only{base:Nat}{rs:List Rc}(h:tz base w v rs xs)(P:gL S w w')(V:∀b,b<w.heap.size->S b->base<=b->∃c e f,w.heap[b]?=some (im c e f)/\e≠320/\e≠3/\e≠5):tz base w' v rs xs:=by
 have y:∀{e:TypeId} {size:Nat} {u:Value} {n:Nat} {ys:List Value},(e=320\/e=3\/e=5)->w.ownsRow base e size u n ys->w'.ownsRow base e size u n ys:=by intro e size u n ys Y A;refine P.iX A λb M Z=>?_;obtain⟨F,H⟩:=A.lt b M;let⟨c,e',f,hh,n1,n2,n3⟩:=V b H Z F;refine gY A hh ?_ M;obtain rfl|rfl|rfl:=Y<;>exact λh=>by subst h;contradiction
 refine⟨y (.inl rfl) h.ie,h.len,λj L=>?_,λj L=>?_,h.kd⟩
 .obtain⟨nv,a,b⟩:=h.ns j L;exact⟨nv,a,y (.inr (.inl rfl)) b⟩
 obtain⟨vv,a,b⟩:=h.val j L;exact⟨vv,a,y (.inr (.inr rfl)) b⟩
def tz.bl{base:Nat}{rs:List Rc}(h:tz base w v rs xs)(y:Bl w w'):tz base w' v rs xs:=
 h.only (iT y) λ_ _ e=>e.elim
def tz.push{base:Nat}{V F H:Value}{rs:List Rc}{r:Rc}(h:tz base w v rs xs)(hn:w.ownsRow base 3 1 F r.ns.length (r.ns.map I))(hv:w.ownsRow base 5 1 H r.val.length (r.val.map B8))(P:w.grownBy w3 v.ownBlock)(Y:w3.ownsRow base 320 3 V (rs.length+1) (xs++[I r.kd,F,H])):tz base w3 V (rs++[r]) (xs++[I r.kd,F,H]):=by
 have A:∀{e:TypeId} {size:Nat} {u:Value} {n:Nat} {ys:List Value},e≠320->w.ownsRow base e size u n ys->w3.ownsRow base e size u n ys:=by intro e size u n ys Z M;exact(gL.A P).iX M λb hb hS=>kH h.ie M (Ne.symm Z) b hS.symm hb
 have a0:=h.len;refine⟨by rw[aO];exact Y,by simp[h.len];omega,λj L=>?_,λj L=>?_,λj L=>?_⟩;all_goals
  rw[aO,dD]at L;by_cases y:j<rs.length
 .obtain⟨u,a,b⟩:=h.ns j y;rw[aB C];exact⟨u,a,by simp only[dI y];exact A gF b⟩
 .obtain rfl:j=rs.length:=C;simp_all
 .obtain⟨u,a,b⟩:=h.val j y;rw[aB C];exact⟨u,a,by simp only[dI y];exact A gF b⟩
 .obtain rfl:j=rs.length:=C;simp_all
 .rw[aB C];simp only[dI y];exact h.kd j y
 obtain rfl:j=rs.length:=C;rw[aC C,show 3*rs.length-xs.length=0 by omega];simp
theorem CX(rs):∀k,k<=rs.length->3*k<=off rs k:=by
 intro k;induction k with
 |zero=>intro _;omega
 |succ k y=>intro h;rw[si rs k h];have:=rs[k].len;omega
def lenOf:Value->Nat
 | .slice _ n _=>n
 |_=>0
def Tj{wr:World}{rs:List Rc}{b o c:Nat}(A:b<w.heap.size)(F:n<=(iE rs).length)(M:∀j d,j<n->(iE rs)[j]?=some d->w.cell? (U b (o+j))=some (B8 d))(y:Bl w wr)(h:k<rs.length):Sl wr (gN (some (U b (o+off rs k))) (n-off rs k) (c-off rs k)) ((left rs n k h).map B8):=by refine .inr ⟨b,o+off rs k,_,by rw[ay,zj h F],af A y.lt,λi H=>?_⟩;rw[ay,zj h F]at H;have L:off rs k+i<(iE rs).length:=C;have e:=ED h i H;rw[y.cell A,cG,M _ _ C (ah L)];rw[ah L]at e;have:=(aj.1 e).2;simp_all
theorem xD(ad)(b o c n bs os cs)(rs)(lG)(w)(hn:n<=(iE rs).length)(bD:n<=c)(bE:n<=1100000000000)(bT:c<=9223372036854775807)(mw:0<n->ad=some (U b o)/\b<w.heap.size)(hc:∀j d,j<n->(iE rs)[j]?=some d->w.cell? (U b (o+j))=some (B8 d))(b3:mn w bs os lG)(hs:lG.length<=1000)(ok:∀r∈rs,r.Ok lG):iB 233 #[gN ad n c,gN (some (U bs os)) lG.length cs] w λe w'=>∃k v xs,e=gX (.tuple #[v,.bool true])/\k<=rs.length/\off rs k<=n/\(∀h:k<rs.length,n<off rs k+rs[k].bytes.length)/\tz w.heap.size w' v (rs.take k) xs/\Bl w w':=by
 obtain⟨bl,ji,bm,bn,bo⟩:=fx il.TI;let⟨Hc,b4,a5⟩:=iz hc mw b3;let⟨Ok,Hn⟩:=gO ok hn;clear hc mw b3 ok hn;go_enter func233,ntmps233;have bR:Hid (Bl w (w.alloc (im #[gN ad n c] 40))):=((Bl.refl w).alloc _);have hX:=gP (ao w (im #[gN ad n c] 40));go_wp2;go_loopw[6](λv wr=>∃(k:Nat) (xs:List Value) (ad va:Option Addr) (vc:Nat),v=gN va k vc/\k<=rs.length/\off rs k<=n/\(0<n-off rs k->ad=some (U b (o+off rs k))/\b<w.heap.size)/\wr.heap[w.heap.size]?=some (im #[gN ad (n-off rs k) (c-off rs k)] 40 (0,0))/\Bl w wr/\tz w.heap.size wr v (rs.take k) xs) λv _=>rs.length-lenOf v
 case atStart=>exact⟨0,[],ad,none,0,rfl,ju,by rw[tX];omega,by rw[tX];exact b4,by rw[tX];exact hX,bR,tz.nil _ _⟩
 clear bR hX b4;obtain⟨k,xs,bV,va,vc,rfl,hk,a6,mw,hX,V,hR⟩:=hrel;let⟨HX,HR⟩:=gO hX hR;have x0:=ax wr w.heap.size 0 _ 40 (0,0) hX;have xf:=aP wr w.heap.size 0 _ 40 hX;simp at x0;have lX:w.heap.size<wr.heap.size:=(ae.1 hX).1;clear hX hR;by_cases ja:off rs k<n
 .have y:k<rs.length:=by
   obtain h|h:=Nat.lt_or_ge k rs.length
   .exact h
   obtain rfl:k=rs.length:=C;have:=Hn.o;rw[Ko]at ja;omega
  let⟨b5,hb⟩:=mw C;subst b5;let⟨HL,Y,ap⟩:=iz (Tj (c:=c) hb Hn Hc V y) (zj y Hn) (Jk (n:=n) y Ok);obtain⟨ai,b6⟩:=gO (Rc.OX (Ok _ (aL y)) (n-off rs k) C (iE (rs.drop (k+1))) (left rs n k y) rfl) λh=>L6 (n:=n) y h;have ak:Hid (mn wr bs os lG):=⟨af a5.1 V.lt,λj h=>by rw[V.cell a5.1,V.cell a5.1,V.cell a5.1];exact a5.2 j h⟩;have bB:(0:Int)<((n-off rs k:Nat):Int):=C;clear mw;go_wp2_with fail;refine(rL bs os cs lG w.heap.size _ (left rs n k y) wr ak lX x0 HL (pI Y.o) (pI Y.o) ap hs).L ?_;rw[ai.o];rintro e w2⟨rfl,Z⟩;have x2:=(Z.cell lX).H x0;let⟨aq,ar,b7⟩:=iz (HL.bl Z) (HR.bl Z) ((Z.heap lX).H HX);have al:=V.H Z;have aa:=af lX Z.lt;clear HL HR HX ak V Z x0 xf lX ai;by_cases h3:n-off rs k<3
  .go_wp2_with fail;refine gT (AW _ (left rs n k y) w2 aq (jk Y.o h3)) λw3 M=>?_;let⟨a7,F⟩:=gO (ar.bl M) (al.H M);have au:Hid (n<off rs k+rs[k].bytes.length):=by have:=rs[k].len;unfold Hid;omega
   go_wp2;go_ret2;exact⟨k,_,xs,rfl,hk,a6,λ_=>au.o,a7,F⟩
  go_wp2_with fail;refine(Eu _ (left rs n k y) w2 aq (pI Y.o) (pI Y.o) ap).L ?_;rw[b6.o C,Y.o];rintro e w3⟨rfl,M⟩;let⟨a7,b8⟩:=gO (ar.bl M) ((M.heap aa).H b7);have x3:=(M.cell aa).H x2;have F:=al.H M;have a2:=af aa M.lt;by_cases bW:n-off rs k<rs[k].bytes.length
  .have a0:decide (((rs[k].bytes.length:Nat):Int)<=((n-off rs k:Nat):Int))=false:=ig;have au:Hid (n<off rs k+rs[k].bytes.length):=lT;rw[a0];generalize hM:rs[k].bytes.length=m at*;have HM:=gP hM;clear hM;go_wp2;go_ret2;exact⟨k,_,xs,rfl,hk,a6,λ_=>jk HM.o au,a7,F⟩
  have a0:decide (((rs[k].bytes.length:Nat):Int)<=((n-off rs k:Nat):Int))=true:=ig;rw[a0];have av:Hid (rs[k].bytes.length=(iV rs[k].kd rs[k].ns rs[k].val).length):=rfl;have b9:Hid (∀j d,(iV rs[k].kd rs[k].ns rs[k].val)[j]?=some d->w3.cell? (U b (o+off rs k+j))=some (B8 d)):=by intro j d hj;have bp:=(aj.1 hj).1;have ba:j<rs[k].bytes.length:=bp;have e:=ED (n:=n) y j C;unfold left at e;rw[cZ,aE C,aB ba]at e;rw[F.cell hb,cG];exact Hc _ _ C (e.symm.H hj)
  obtain⟨a3,Ht,aw⟩:=iz (Ok _ (aL y)) (aM y) (si rs k y);have bX:3<=rs[k].bytes.length:=by have:=rs[k].len;omega
  have c1:((rs[k].bytes.length:Nat):Int)<=((c-off rs k:Nat):Int):=C;have c2:((rs[k].bytes.length:Nat):Int)<=((n-off rs k:Nat):Int):=C;generalize bb:rs[k]=r at*;have c3:=gP bb;clear bb;generalize hM:r.bytes.length=m at*;have HM:=gP hM;clear hM a0 x2 aq ar b7 M aa;have aY:=gP (λ(bq:m<=c-off rs k)=>P8 b (o+off rs k) (c-off rs k) r.kd r.ns r.val w3 (af hb F.lt) b9 (jJ av.o bq) a3.k0 a3.k1 a3.n0 a3.n1 a3.v1 a3.wf C);rw[<-av.o]at aY;have bc:Hid ((rs.take k).length=k):=by unfold Hid;rw[bH];omega
  clear b9 av ap Y b6;go_wp2_with fail;refine(aY C).L ?_;rintro e w4⟨nv,vv,rfl,a4,a8,a9⟩;obtain⟨na,nc,en⟩:∃a c,nv=gN a r.ns.length c:=by obtain⟨a',c',e'⟩:=(i7 a8).len;rw[jh a8]at e';exact⟨a',c',e'⟩
  subst en;obtain⟨wa,wc,ew⟩:∃a c,vv=gN a r.val.length c:=by obtain⟨a',c',e'⟩:=(i7 a9).len;rw[jh a9]at e';exact⟨a',c',e'⟩
  subst ew;let⟨bd,be,b0,ab⟩:=jR (gZ (base':=w.heap.size) a8 λb b1=>aF (eS a2) (a8.lt b b1).1) (gZ (base':=w.heap.size) a9 λb b1=>aF (eS a2) (a9.lt b b1).1) (a7.bl a4) ((a4.heap a2).H b8);have x4:=(a4.cell a2).H x3;have am:=gP (F.H a4);have ac:=af a2 a4.lt;have bg:=aP w4 w.heap.size 0 _ 40 ab;have a1:Hid (w4.ownsRow w.heap.size 320 3 (gN va k vc) k xs):=by have:=b0.ie;rwa[bc.o]at this
  have b2:=gP (gY a1 ab gF);have bv:Hid ((k+1)*56<=140737488355328):=by have:=CX rs k hk;unfold Hid;omega
  have bw:Hid (k+1<=maxLen):=by have:=CX rs k hk;unfold Hid maxLen;omega
  clear a8 a9 a4 a7 b8 x3 F aY a2;go_wp2_with(at_builtin;refine fm _ rfl _ _ 316 rfl w.heap.size 320 bl _ 3 56 underlying316 ji bm bn bo rfl gF _ k xs rfl (a1.alloc _) (U w4.heap.size 0) 1 1 [I r.kd,gN na r.ns.length nc,gN wa r.val.length wc] rfl rfl (fW (cs:=#[I r.kd,gN na r.ns.length nc,gN wa r.val.length wc]) (t:=320) (fr:=(0,0)) (ao w4 _)) rS gF bw bv ig (w4.heap.size+1) gG ?_);intro g cap w5 an P bx bC;have x5:=(AN ((Bl.refl w4).alloc _) P (o:=0) ac b2).1.H x4;have c4:=(AN ((Bl.refl w4).alloc _) P (o:=0) ac b2).2.H bg;let⟨ag,bi⟩:=gO P an;clear an P bx x4 bg;have bA:Bl w4 (w4.alloc (im #[I r.kd,gN na r.ns.length nc,gN wa r.val.length wc] 320)):=(Bl.refl w4).alloc _;have X5:Hid (w5.heap[w.heap.size]?=some (im #[gN (some (U b (o+off rs k))) (n-off rs k) (c-off rs k)] 40 (0,0))):=by show _=_;rw[ag.block _ (af ac bA.lt) λe=>b2.o e.symm,bA.heap ac];exact ab
  have B5:=gP (((am.H bA).A (gL.A ag) λb e=>(a1.lt b e.symm).1));have R5:=gP ((b0.bl bA).push ((iT bA).iX bd λ_ _ e=>e) ((iT bA).iX be λ_ _ e=>e) ag (jk bc.o bi));rw[<-Ht.o]at R5;clear ag bi bA ab b0 bd be a1 am;go_wp2;refine⟨⟨k+1,xs++[I r.kd,gN na r.ns.length nc,gN wa r.val.length wc],if c-off rs k=m then some (U b (o+off rs k))else some (U b (o+off rs k+m)),G g,cap,rfl,C,pI aw.o,λh=>?_,?_,?_,?_⟩,by simp[lenOf];omega⟩
  .rw[aw.o]at h|-;rw[az C,cG];exact⟨rfl,hb⟩
  .rw[aw.o,<-fs,<-fs];exact fy w5 w.heap.size 0 _ 40 _ X5
  .exact ZY B5 jl _
  refine R5.only ((gL.refl (λb=>b=w.heap.size) w5).setCell _ (.inl rfl) _) λb _ e _=>?_;subst e;exact⟨_,_,_,X5,gF,gF,gF⟩
 have bz:∀h:k<rs.length,Hid (n<off rs k+rs[k].bytes.length):=λh=>by have:=rs[k].len;unfold Hid;omega
 have hz:n-off rs k=0:=C;rw[hz]at x0;clear mw;go_wp2;go_ret2;exact⟨k,_,xs,rfl,hk,a6,λh=>(bz h).o,HR,V⟩
end
section
def pH(n m)(w)(h:1<=n)(y:n<=m):Calls prog 145 #[I n,I m] w λe w'=>e=gX (.bool true)/\w'=w:=by
 go_wp2;go_ret;simp_all
theorem JT(n m)(w)(h:n<1\/m<n):Calls prog 145 #[I n,I m] w λe w'=>e=gX (.bool false)/\w'=w:=by
 by_cases y:1<=n
 .have A:decide (n<=m)=false:=ig;clear h;go_wp2;go_ret;exact⟨rfl,rfl⟩
 clear h;go_enter func145,ntmps145;go_wp2;go_ret;exact⟨rfl,rfl⟩
theorem Nf(a b c d)(w)(h:1<=a)(y:a<=3)(A:1<=b)(F:b<=3)(H:1<=c)(M:c<=5)(Y:c%2=1)(P:1<=d)(V:d<=16):iB 80 #[.agg #[I a,I b,I c,I d]] w λe w'=>e=gX (.bool true)/\Bl w w':=by
 go_enter func80,ntmps80;go_wp2_with fail;refine(pH a 3 _ h y).L ?_;rintro e w'⟨rfl,rfl⟩;go_wp2_with fail;refine(pH b 3 _ A F).L ?_;rintro e w'⟨rfl,rfl⟩;go_wp2_with fail;refine(pH c 5 _ H M).L ?_;rintro e w'⟨rfl,rfl⟩;go_wp2_with fail;refine(pH d 16 _ P V).L ?_;rintro e w'⟨rfl,rfl⟩;go_wp2;go_ret;exact⟨rfl,jC.alloc _⟩
theorem Lm(a b c d)(w)(h:a<1\/3<a):iB 80 #[.agg #[I a,I b,I c,I d]] w λe w'=>e=gX (.bool false)/\Bl w w':=by
 go_enter func80,ntmps80;go_wp2_with fail;refine(JT a 3 _ h).L ?_;rintro e w'⟨rfl,rfl⟩;go_wp2;go_ret;exact⟨rfl,jC.alloc _⟩
theorem Me(a b c d)(w)(y:1<=a)(A:a<=3)(h:b<1\/3<b):iB 80 #[.agg #[I a,I b,I c,I d]] w λe w'=>e=gX (.bool false)/\Bl w w':=by
 go_enter func80,ntmps80;go_wp2_with fail;refine(pH a 3 _ y A).L ?_;rintro e w'⟨rfl,rfl⟩;go_wp2_with fail;refine(JT b 3 _ h).L ?_;rintro e w'⟨rfl,rfl⟩;go_wp2;go_ret;exact⟨rfl,jC.alloc _⟩
theorem Li(a b c d)(w)(y:1<=a)(A:a<=3)(F:1<=b)(H:b<=3)(h:c<1\/5<c):iB 80 #[.agg #[I a,I b,I c,I d]] w λe w'=>e=gX (.bool false)/\Bl w w':=by
 go_enter func80,ntmps80;go_wp2_with fail;refine(pH a 3 _ y A).L ?_;rintro e w'⟨rfl,rfl⟩;go_wp2_with fail;refine(pH b 3 _ F H).L ?_;rintro e w'⟨rfl,rfl⟩;go_wp2_with fail;refine(JT c 5 _ h).L ?_;rintro e w'⟨rfl,rfl⟩;go_wp2;go_ret;exact⟨rfl,jC.alloc _⟩
theorem Nn(a b c d)(w)(y:1<=a)(A:a<=3)(F:1<=b)(H:b<=3)(M:1<=c)(P:c<=5)(h:¬c%2=1):iB 80 #[.agg #[I a,I b,I c,I d]] w λe w'=>e=gX (.bool false)/\Bl w w':=by
 have V:(c%2==1)=false:=ig;clear h;go_enter func80,ntmps80;go_wp2_with fail;refine(pH a 3 _ y A).L ?_;rintro e w'⟨rfl,rfl⟩;go_wp2_with fail;refine(pH b 3 _ F H).L ?_;rintro e w'⟨rfl,rfl⟩;go_wp2_with fail;refine(pH c 5 _ M P).L ?_;rintro e w'⟨rfl,rfl⟩;go_wp2;go_ret;exact⟨rfl,jC.alloc _⟩
theorem Nt(a b c d)(w)(y:1<=a)(A:a<=3)(F:1<=b)(H:b<=3)(M:1<=c)(P:c<=5)(V:c%2=1)(h:d<1\/16<d):iB 80 #[.agg #[I a,I b,I c,I d]] w λe w'=>e=gX (.bool false)/\Bl w w':=by
 go_enter func80,ntmps80;go_wp2_with fail;refine(pH a 3 _ y A).L ?_;rintro e w'⟨rfl,rfl⟩;go_wp2_with fail;refine(pH b 3 _ F H).L ?_;rintro e w'⟨rfl,rfl⟩;go_wp2_with fail;refine(pH c 5 _ M P).L ?_;rintro e w'⟨rfl,rfl⟩;go_wp2_with fail;refine(JT d 16 _ h).L ?_;rintro e w'⟨rfl,rfl⟩;go_wp2;go_ret;exact⟨rfl,jC.alloc _⟩
def nB(a b c d:Int):Bool:=decide ((1<=a/\a<=3)/\(1<=b/\b<=3)/\(1<=c/\c<=5)/\c%2=1/\(1<=d/\d<=16))
def mO(a b c d)(w):iB 80 #[.agg #[I a,I b,I c,I d]] w λe w'=>e=gX (.bool (nB a b c d))/\Bl w w':=by
 by_cases h:1<=a/\a<=3
 .by_cases y:1<=b/\b<=3
  .by_cases A:1<=c/\c<=5
   .by_cases F:c%2=1
    .by_cases H:1<=d/\d<=16
     .rw[show nB a b c d=true from by simp[nB, *]];exact Nf a b c d w h.1 h.2 y.1 y.2 A.1 A.2 F H.1 H.2
     rw[show nB a b c d=false from by simp[nB];omega];exact Nt a b c d w h.1 h.2 y.1 y.2 A.1 A.2 F C
    rw[show nB a b c d=false from by simp[nB];omega];exact Nn a b c d w h.1 h.2 y.1 y.2 A.1 A.2 F
   rw[show nB a b c d=false from by simp[nB];omega];exact Li a b c d w h.1 h.2 y.1 y.2 C
  rw[show nB a b c d=false from by simp[nB];omega];exact Me a b c d w h.1 h.2 C
 rw[show nB a b c d=false from by simp[nB];omega];exact Lm a b c d w C
def oT(a b c d x:Int):Int×Int×Int:=
 if nB a b c d=true then(if x<0\/a*d<=x then(0,0,2)else(x%a,x/a,0))else(0,0,1)
def vN{a b c:Int}(h:nB a b c d=true):1<=a/\a<=3/\1<=d/\d<=16:=by simp[nB]at h;omega
def KL(r:Int×Int×Int):Ending:=gX (.tuple #[I r.1,I r.2.1,I r.2.2])
def tG{a:Int}(h:1<=a)(y:a<=3)(A:1<=d)(F:d<=16):1<=a*d/\a*d<=48:=by have:=Int.mul_le_mul y F C C;have:=Int.mul_le_mul h A C C;omega
theorem lI(a b c d x)(w):iB 88 #[.agg #[I a,I b,I c,I d],I x] w λe w'=>e=KL (oT a b c d x)/\Bl w w':=by
 cases y:nB a b c d
 .go_enter func88,ntmps88;go_wp2_with fail;refine gT (mO a b c d _) λw' h=>?_;go_wp2;go_ret3;exact⟨by simp[KL,oT,y],(jC.alloc _).H h⟩
 let⟨Y,Z,h3,h4⟩:=vN y;have hm:=tG Y Z h3 h4;by_cases P:x<0
 .have A:Hid (oT a b c d x=(0,0,2)):=by simp[Hid,oT,y,P]
  go_enter func88,ntmps88;go_wp2_with fail;refine gT (mO a b c d _) λw' h=>?_;have F:=(h.cell (b:=w.heap.size) (o:=0) gG);have L:=(h.cell (b:=w.heap.size) (o:=3) gG);go_wp2;go_ret3;exact⟨by rw[A.o];rfl,(jC.alloc _).H h⟩
 by_cases M:a*d<=x
 .have A:Hid (oT a b c d x=(0,0,2)):=by simp[Hid,oT,y,M]
  go_enter func88,ntmps88;go_wp2_with fail;refine gT (mO a b c d _) λw' h=>?_;have F:=(h.cell (b:=w.heap.size) (o:=0) gG);have L:=(h.cell (b:=w.heap.size) (o:=3) gG);go_wp2;go_ret3;exact⟨by rw[A.o];rfl,(jC.alloc _).H h⟩
 have A:Hid (oT a b c d x=(x%a,x/a,0)):=by simp[Hid,oT,y,M,P]
 have a0:0<=x:=C;have a1:x<48:=C;have V:decide (a*d<=x)=false:=iU M;have a2:(a==0)=false:=ig;go_enter func88,ntmps88;go_wp2_with fail;refine gT (mO a b c d _) λw' h=>?_;have F:=(h.cell (b:=w.heap.size) (o:=0) gG);have L:=(h.cell (b:=w.heap.size) (o:=3) gG);go_wp2;go_quiet(fail);go_wp2;go_ret3;exact⟨by rw[A.o];rfl,((jC.alloc _).H h).drewN _⟩
def Ku{a b c:Int}(h:nB a b c d=true):1<=b/\b<=3:=by simp[nB]at h;omega
def Bi(a b c d u:Int):Int×Int:=
 if nB a b c d=true then(if u<0\/a*b<=u then(0,1)else(u/b,0))else(0,1)
def QG(r:Int×Int):Ending:=gX (.tuple #[I r.1,I r.2])
theorem ux(a b c d u)(w):iB 90 #[.agg #[I a,I b,I c,I d],I u] w λe w'=>e=QG (Bi a b c d u)/\Bl w w':=by
 cases y:nB a b c d
 .go_enter func90,ntmps90;go_wp2_with fail;refine gT (mO a b c d _) λw' h=>?_;go_wp2;go_ret2;exact⟨by simp[QG,Bi,y],(jC.alloc _).H h⟩
 let⟨Y,Z,_,_⟩:=vN y;let⟨h3,h4⟩:=Ku y;have hm:=tG Y Z h3 C;by_cases P:u<0
 .have A:Hid (Bi a b c d u=(0,1)):=by simp[Hid,Bi,y,P]
  go_enter func90,ntmps90;go_wp2_with fail;refine gT (mO a b c d _) λw' h=>?_;have F:=(h.cell (b:=w.heap.size) (o:=0) gG);have L:=(h.cell (b:=w.heap.size) (o:=1) gG);go_wp2;go_ret2;exact⟨by rw[A.o];rfl,(jC.alloc _).H h⟩
 by_cases M:a*b<=u
 .have A:Hid (Bi a b c d u=(0,1)):=by simp[Hid,Bi,y,M]
  go_enter func90,ntmps90;go_wp2_with fail;refine gT (mO a b c d _) λw' h=>?_;have F:=(h.cell (b:=w.heap.size) (o:=0) gG);have L:=(h.cell (b:=w.heap.size) (o:=1) gG);go_wp2;go_ret2;exact⟨by rw[A.o];rfl,(jC.alloc _).H h⟩
 have A:Hid (Bi a b c d u=(u/b,0)):=by simp[Hid,Bi,y,M,P]
 have a0:0<=u:=C;have a1:u<48:=C;have V:decide (a*b<=u)=false:=iU M;have a2:(b==0)=false:=ig;go_enter func90,ntmps90;go_wp2_with fail;refine gT (mO a b c d _) λw' h=>?_;have F:=(h.cell (b:=w.heap.size) (o:=0) gG);have L:=(h.cell (b:=w.heap.size) (o:=1) gG);go_wp2;go_ret2;exact⟨by rw[A.o];rfl,(jC.alloc _).H h⟩
open Go.RowKit
attribute [local go_sem ↓] Go.wp_at_zero Go.wp_at_succ
def lG:List (Int×Int×Int):=[(1,1,0),(2,2,0),(3,5,8)]
theorem IE(w):iB 184 #[] w λe w'=>e=gX (gN (G w.heap.size) 3 3)/\mn w' w.heap.size 0 lG/\Bl w w':=by
 go_enter func184,ntmps184;go_wp2;go_ret;refine⟨rfl,⟨gG,λj h=>?_⟩,jC.alloc _⟩;have y:j=0\/j=1\/j=2:=by simp[lG]at h;omega
 obtain rfl|rfl|rfl:=y<;>simp[lG,go_sem]
def sy(kd:Int)(n:Nat):Bool:=if kd=8 then decide (1<=n/\n<=8)else if kd=9 then decide (n=0)else false
theorem vu(kd cl ca)(a)(n c)(w)(L:n<=1100000000000):iB 225 #[.agg #[I kd,I cl,I ca,gN a n c]] w λe w'=>e=gX (.bool (sy kd n))/\Bl w w':=by
 by_cases h:kd=8
 .subst h;by_cases M:1<=n
  .by_cases P:n<=8;all_goals
    have F:Hid (sy 8 n=decide (n<=8)):=by simp[Hid,sy];omega
    go_enter func225,ntmps225;go_wp2;go_ret;exact⟨lE (by rw[F.o];simp;try omega),jC.alloc _⟩
  have F:Hid (sy 8 n=false):=by simp[Hid,sy];omega
  have A:n=0:=C;subst A;go_enter func225,ntmps225;go_wp2;go_ret;exact⟨lE (mf F.o),jC.alloc _⟩
 by_cases y:kd=9
 .subst y;clear h;by_cases H:n=0
  .subst H;go_enter func225,ntmps225;go_wp2;go_ret;exact⟨lE rfl,jC.alloc _⟩
  have F:Hid (sy 9 n=false):=by simp[Hid,sy,H]
  have V:((n:Int)==0)=false:=iU H;go_enter func225,ntmps225;go_wp2;go_ret;exact⟨lE (mf F.o),jC.alloc _⟩
 have F:Hid (sy kd n=false):=by simp[Hid,sy,h,y]
 have Y:(kd==8)=false:=iU h;have Z:(kd==9)=false:=iU y;clear h y;go_enter func225,ntmps225;go_wp2;go_ret;exact⟨lE F.symm,jC.alloc _⟩
theorem Ao(kd cl ca)(v)(ys:List Int)(w)(hv:Bs w v (ys.map B8))(hl:ys.length<=1100000000000):iB 258 #[.agg #[I kd,I cl,I ca,v]] w λe w'=>∃v',e=gX (.agg #[I kd,I cl,I ca,v'])/\Bl w w'/\w'.ownsRow w.heap.size 5 1 v' ys.length (ys.map B8):=by
 obtain⟨a,c,e⟩:=hv.len;rw[ay]at e;subst e;have Hv:=gP hv;clear hv;go_enter func258,ntmps258;have bW:Bl w ((w.alloc (im #[I kd,I cl,I ca,gN a ys.length c] 91)).alloc (im #[I 0,I 0,I 0,OO] 91)):=((Bl.refl w).alloc _).alloc _;have hA:=(fJ (w.alloc (im #[I kd,I cl,I ca,gN a ys.length c] 91)) (im #[I 0,I 0,I 0,OO] 91) w.heap.size gG).H (ao w _);have hB:((w.alloc (im #[I kd,I cl,I ca,gN a ys.length c] 91)).alloc (im #[I 0,I 0,I 0,OO] 91)).heap[w.heap.size+1]?=some (im #[I 0,I 0,I 0,OO] 91 (0,0)):=by have:=ao (w.alloc (im #[I kd,I cl,I ca,gN a ys.length c] 91)) (im #[I 0,I 0,I 0,OO] 91);simpa using this
 obtain⟨Z,HA,HB⟩:=iz bW hA hB;clear bW hA hB;go_wp2_with fail;refine(oS _ ys _ (Hv.bl Z) hl).L ?_;rintro e w2⟨vv,rfl,b2,y⟩;obtain⟨va,vc,ev⟩:∃a c,vv=gN a ys.length c:=by obtain⟨a',c',e'⟩:=(i7 y).len;rw[jh y]at e';exact⟨a',c',e'⟩
 subst ev;have lB:=(ae.1 HB).1;obtain⟨M,P,V,Y⟩:=jR ((b2.heap (eR (fo _) lB)).H HA) ((b2.heap lB).H HB) y (Z.H b2);have a4:=Z.lt;obtain⟨a0,a1,a2,a3⟩:=lV M 0 1 2 3 rfl;have f3:=aP w2 w.heap.size 3 _ 91 M;obtain⟨p0,p1,p2,p3⟩:=lV P 0 1 2 3 rfl;obtain⟨g0,g1,g2,g3⟩:=yo P 0 1 2 3;simp at a0 a1 a2 a3 p0 p1 p2 p3;clear y b2 Z HA HB lB;go_wp2;have F:gL (λb=>b=w.heap.size\/b=w.heap.size+1) w2 _:=(((((gL.refl (λb=>b=w.heap.size\/b=w.heap.size+1) w2).setCell (U w.heap.size 3) (.inl (.inl rfl)) (gN va ys.length vc)).setCell (U (w.heap.size+1) 0) (.inl (.inr rfl)) (I kd)).setCell (U (w.heap.size+1) 1) (.inl (.inr rfl)) (I cl)).setCell (U (w.heap.size+1) 2) (.inl (.inr rfl)) (I ca)).setCell (U (w.heap.size+1) 3) (.inl (.inr rfl)) (gN va ys.length vc);refine aG (v:= .agg #[I kd,I cl,I ca,gN va ys.length vc]) (by simp[results,results258,go_sem,p0,p1,p2,p3]) rfl ⟨_,rfl,?_,?_⟩
 .exact Y.A F (λn hn=>by obtain h|h:=hn<;>omega)
 have this:=gZ (base':=w.heap.size) V λb A=>aF a4 (V.lt b A).1;refine F.iX this λb A e=>?_;obtain e|e:=e
 .exact gY this M gF (jS A e)
 exact gY this P gF (jS A e)
end
section
def At(w:World)(p:Nat)(K:Nat->Value):Prop:=
 ∃arr t,w.heap[p]?=some (.cells arr t (0,0))/\(t=248\/t=250)/\∀i,i<72->arr[i]?=some (K i)
def vj(K:Nat->Value)(i:Nat)(u:Value):Nat->Value:=λj=>if j=i then u else K j
def mq(K)(i)(u):vj K i u i=u:=by simp[vj]
def jd(K)(i j)(u)(h:j≠i):vj K i u j=K j:=by simp[vj,h]
def At.lt{p:Nat}(h:At w p K):p<w.heap.size:=by let⟨y,t,A,_⟩:=h;exact(ae.1 A).1
def At.cell{p:Nat}(h:At w p K)(i)(y:i<72):w.cell? (U p i)=some (K i):=by let⟨A,t,F,_,H⟩:=h;rw[ax w p i _ t _ F];exact H i y
def At.frozen{p:Nat}(h:At w p K)(i):w.frozen? (U p i)=false:=by let⟨y,t,A,_,F⟩:=h;exact aP w p i _ t A
def At.oU{p:Nat}(h:At w p K)(e:w'.heap[p]?=w.heap[p]?):At w' p K:=by let⟨y,t,A,r⟩:=h;exact⟨y,t,e.H A,r⟩
def At.only{p:Nat}(h:At w p K)(y:gL S w w')(A:¬S p):At w' p K:=h.oU (y.block p h.lt A)
def At.bl{p:Nat}(h:At w p K)(y:Bl w w'):At w' p K:=h.oU (y.heap h.lt)
def At.set{p:Nat}(h:At w p K)(i)(u):At (w.setCell (U p i) u) p (vj K i u):=by
 let⟨F,t,H,L,y⟩:=h;refine⟨_,t,cH w p i _ t u H,L,λj A=>?_⟩;unfold vj;rw[fD];have M:=(ae.1 (y j A)).1;by_cases e:i=j
 .simp_all
 rw[az e,az (Ne.symm e)];exact y j A
def At.oF{p:Nat}(h:At w p K){base:Nat}{size:Nat}(y:w.ownsRow base e size v n xs)(L:e≠248/\e≠250):v.ownBlock≠some p:=by let⟨A,t,F,H,_⟩:=h;refine gY y F ?_;obtain rfl|rfl:=H;all_goals simp_all
def jK(wh ep mk kd cl ca:Int)(v:Value):Value:= .agg #[I wh,I ep,I mk,I kd,I cl,I ca,v]
theorem sH(p)(K)(ep)(w)(h:At w p K)(y:K 5=I ep):iB 222 #[O p] w λe w'=>e=gX (jK 5 ep 0 0 0 0 OO)/\Bl w w':=by
 have F:=h.lt;have A:=h.cell 5 gF;rw[y]at A;clear h y;go_enter func222,ntmps222;go_wp2;exact aG (by simp[results,results222,go_sem,jK]) rfl ⟨rfl,jC.alloc _⟩
structure Cu(base:Nat)(w w':World)(p:Nat)(K:Nat->Value)(v v':Value)(n:Nat)(xs:List Value):Prop where
 jU:At w' p (vj K 71 v')
 ie:w'.ownsRow base 5 1 v' n xs
 only:gL (λb=>b=p\/v.ownBlock=some b) w w'
 a:∀b,v'.ownBlock=some b->v.ownBlock=some b\/w.heap.size<=b
def Cu.of{base:Nat}{p:Nat}(A:Bl w W)(h:At w' p K)(y:qa base 5 W w' v v' n xs):Cu base w (w'.setCell (U p 71) v') p K v v' n xs where
 jU:=h.set 71 v'
 ie:=((gL.refl (λb=>b=p) w').setCell (U p 71) (.inl rfl) v').iX y.ie λb e e'=>h.oF y.ie gF (jS e e')
 only:=((gL.B A).H (y.only.L λb _ e=>.inr e)).setCell (U p 71) (.inl (.inl rfl)) v'
 a:=λb e=>(y.a b e).imp id λh=>aF A.lt h
structure Kept(base:Nat)(w w':World)(p o:Nat)(v v':Value)(n:Nat)(xs:List Value):Prop where
 ex:∃W w1,Bl w W/\qa base 5 W w1 v v' n xs/\w'=w1.setCell (U p o) v'
theorem Ah(base p o)(arr)(t)(v)(k)(xs)(kd)(nv vv)(ns val)(w)(h:w.heap[p]?=some (im arr t (0,0)))(hi:arr[o]?=some v)(ht:5≠t)(M:w.ownsRow base 5 1 v k xs)(hb:base<=w.heap.size)(hk:k<=1000000000000)(F:Bs w nv (ns.map I))(y:Bs w vv (val.map B8))(h0:0<=kd)(h1:kd<=255)(a4:ns.length<=255)(a5:val.length<=255)(V:∀b,v.ownBlock=some b->nv.ownBlock≠some b)(Y:∀b,v.ownBlock=some b->vv.ownBlock≠some b)(Z:∀b,nv.ownBlock=some b->b<w.heap.size)(a0:∀b,vv.ownBlock=some b->b<w.heap.size):iB 257 #[.pointer (some (U p o)),.agg #[I kd,nv,vv]] w λe w'=>∃v',e=iw/\Kept base w w' p o v v' (k+(iV kd ns val).length) (xs++(iV kd ns val).map B8):=by
 have hp:p<w.heap.size:=(ae.1 h).1;have a7:w.cell? (U p o)=some v:=by rw[ax w p o _ t (0,0) h];exact hi
 have a8:w.frozen? (U p o)=false:=aP w p o _ t h;have H:=gP h;obtain⟨na,nc,en⟩:=F.len;obtain⟨va,vc,ev⟩:=y.len;simp only[ay]at en ev;subst en ev;obtain⟨ia,ic,ei⟩:∃a c,v=gN a k c:=by obtain⟨a',c',e'⟩:=(i7 M).len;rw[jh M]at e';exact⟨a',c',e'⟩
 have Hi:=gP hi;clear hi;subst ei;have a6:=gP (gY M h ht);have HB:Hid (∀W w' v' n' a1,Bl (w.alloc (AR kd na ns nc va val vc)) W->qa base 5 W w' (gN ia k ic) v' n' a1->w'.cell? (U p o)=some (gN ia k ic)/\w'.frozen? (U p o)=false):=by intro W w' v' n' a1 A P;have a2:=((Bl.refl w).alloc (AR kd na ns nc va val vc)).H A;have a3:=(P.only.block p (af hp a2.lt) a6).H ((a2.heap hp).H h);exact⟨by rw[ax w' p o _ t (0,0) a3];exact Hi,aP w' p o _ t a3⟩
 clear h;have lA:(w.alloc (AR kd na ns nc va val vc)).heap.size=w.heap.size+1:=gG;have Hr:Hid (∀W,Bl (w.alloc (AR kd na ns nc va val vc)) W->_):=λW A=>nE base (gN ia k ic) k xs kd (lF na ns nc) (lF va val vc) ns val W ((iT A).iX (M.alloc _) λ_ _ e=>e) (gS A.lt) hk (F.bl ((jC.alloc _).H A)) (y.bl ((jC.alloc _).H A)) h0 h1 a4 a5 V Y (λb e=>by have:=Z b e;have:=A.lt;omega) (λb e=>by have:=a0 b e;have:=A.lt;omega);have Hv:=gP M;clear M F y V Y Z a0;go_enter func257,ntmps257;go_wp2;go_region_with(go_at_call 234;refine(Hr _ (by exact jC.drewN _)).L ?_;rintro e w'⟨v',rfl,P⟩;obtain⟨a',c',e'⟩:=P.B;subst e';obtain⟨c1,f1⟩:=HB _ _ _ _ _ (by exact jC.drewN _) P;have HG:=gP P;clear P);all_goals
  go_end0;exact⟨_,rfl,⟨_,_,(jC.alloc _).drew,HG,rfl⟩⟩
def Ad(base p)(K)(v)(k)(xs)(kd)(nv vv)(ns val)(w)(h:At w p K)(hi:K 71=v)(hv:w.ownsRow base 5 1 v k xs)(hb:base<=w.heap.size)(hk:k<=1000000000000)(A:Bs w nv (ns.map I))(y:Bs w vv (val.map B8))(h0:0<=kd)(h1:kd<=255)(F:ns.length<=255)(H:val.length<=255)(M:∀b,v.ownBlock=some b->nv.ownBlock≠some b)(P:∀b,v.ownBlock=some b->vv.ownBlock≠some b)(V:∀b,nv.ownBlock=some b->b<w.heap.size)(Y:∀b,vv.ownBlock=some b->b<w.heap.size):iB 257 #[.pointer (some (U p 71)),.agg #[I kd,nv,vv]] w λe w'=>∃v',e=iw/\Cu base w w' p K v v' (k+(iV kd ns val).length) (xs++(iV kd ns val).map B8):=by
 obtain⟨Z,t,hh,ht,hc⟩:=id h;refine(Ah base p 71 Z t v k xs kd nv vv ns val w hh (by rw[hc 71 gF,hi]) (by obtain rfl|rfl:=ht<;>decide) hv hb hk A y h0 h1 F H M P V Y).L ?_;rintro e w'⟨v',rfl,⟨W,w1,hW,hG,rfl⟩⟩;exact⟨v',rfl,Cu.of hW ((h.bl hW).only hG.only (h.oF hv gF)) hG⟩
open Go.RowKit
attribute [local go_sem ↓] Go.wp_at_zero Go.wp_at_succ
structure Ct where
 kd:Int
 cl:Int
 ca:Int
 val:List Int
structure Ks(base:Nat)(w:World)(p:Nat)(a b c d ch ep mk:Int)(ct:Nat->Ct)(jt:List Int)(K:Nat->Value):Prop where
 jU:At w p K
 k0:K 0=I a
 k1:K 1=I b
 k2:K 2=I c
 k3:K 3=I d
 k4:K 4=I ch
 k5:K 5=I ep
 k6:K 6=I mk
 ie:w.ownsRow base 5 1 (K 71) jt.length (jt.map B8)
 kd:∀i,i<16->K (7+4*i)=I (ct i).kd
 cl:∀i,i<16->K (8+4*i)=I (ct i).cl
 ca:∀i,i<16->K (9+4*i)=I (ct i).ca
 val:∀i,i<16->w.ownsRow base 5 1 (K (10+4*i)) (ct i).val.length ((ct i).val.map B8)
 mu:∀i,i<16->∀g,(K (10+4*i)).ownBlock=some g->(K 71).ownBlock≠some g
def KF(K:Nat->Value)(g:Nat):Prop:=(K 71).ownBlock=some g\/∃i,i<16/\(K (10+4*i)).ownBlock=some g
structure Gk(p:Nat)(K K':Nat->Value)(w w':World):Prop where
 only:gL (λb=>b=p\/(K 71).ownBlock=some b) w w'
 a:∀g,KF K' g->KF K g\/w.heap.size<=g
def Gk.refl(p)(K)(w):Gk p K K w w:=⟨ug,λ_ h=>.inl h⟩
def Gk.B{p:Nat}(h:Bl w w'):Gk p K K w w':=⟨gL.B h,λ_ h=>.inl h⟩
def Gk.D{p:Nat}(h:Gk p K K' W w')(y:Bl w W):Gk p K K' w w':=⟨(gL.B y).H h.only,λg A=>(h.a g A).imp id (aF y.lt)⟩
def Gk.post{p:Nat}(h:Gk p K K' w w1)(y:Bl w1 w'):Gk p K K' w w':=⟨h.only.H (gL.B y),h.a⟩
def Gk.new{p:Nat}(h:Gk p K K' w w1)(k:gL T w1 w')(A:∀n,T n->w.heap.size<=n):Gk p K K' w w':=
 ⟨⟨k.os.H h.only.os,k.tape.H h.only.tape,k.output.H h.only.output,aF h.only.size k.size,λi y F=>by rw[k.block i (af y h.only.size) λe=>by have:=A i e;omega,h.only.block i y F]⟩,h.a⟩
def Ks.IJ{base:Nat}{p:Nat}{a b c ch A mk:Int}{ct:Nat->Ct}(h:Ks base w p a b c d ch A mk ct jt K)(y:KF K g):base<=g/\g<w.heap.size:=by
 obtain y|⟨i,F,y⟩:=y
 .exact h.ie.lt g y
 exact(h.val i F).lt g y
def Ks.oL{base:Nat}{p:Nat}{a b c ch Y mk ep' mk':Int}{ct:Nat->Ct}{L:List Int}(h:Ks base w p a b c d ch Y mk ct jt K)(P:gL (λb=>b=p) w W)(Z:K' 5=I ep')(h6:K' 6=I mk')(ho:∀j,j≠5->j≠6->K' j=K j)(M:Cu base W w' p K' (K 71) v' n xs)(hn:n=jt.length+L.length)(hx:xs=jt.map B8++L.map B8):Ks base w' p a b c d ch ep' mk' ct (jt++L) (vj K' 71 v')/\Gk p K (vj K' 71 v') w w':=by
 have V:=(P.L (T:=λb=>b=p\/(K 71).ownBlock=some b) λb _ e=>.inl e).H M.only;have F:∀j,j≠71->j≠5->j≠6->vj K' 71 v' j=K j:=λj h1 h2 h3=>by rw[jd _ _ _ _ h1,ho j h2 h3]
 have q:∀i,i<16->vj K' 71 v' (10+4*i)=K (10+4*i):=λi y=>F _ C C C;refine⟨⟨M.jU,by rw[F 0 gF gF gF];exact h.k0,by rw[F 1 gF gF gF];exact h.k1,by rw[F 2 gF gF gF];exact h.k2,by rw[F 3 gF gF gF];exact h.k3,by rw[F 4 gF gF gF];exact h.k4,by rw[jd _ _ _ _ gF];exact Z,by rw[jd _ _ _ _ gF];exact h6,?_,λi y=>by rw[F _ C C C];exact h.kd i y,λi y=>by rw[F _ C C C];exact h.cl i y,λi y=>by rw[F _ C C C];exact h.ca i y,λi y=>?_,λi y g A=>?_⟩,V,λg A=>?_⟩
 .rw[mq,aO,aZ,<-hx,<-hn];exact M.ie
 .rw[q i y];refine V.iX (h.val i y) λg A e=>?_;obtain e|e:=e
  .exact h.jU.oF (h.val i y) gF (jS A e)
  exact h.mu i y g A e
 .rw[q i y]at A;rw[mq];intro e;obtain e|e:=M.a g e
  .exact h.mu i y g A e
  have:=P.size;have:=((h.val i y).lt g A).2;omega
 obtain A|⟨i,y,A⟩:=A
 .rw[mq]at A;obtain e|e:=M.a g A
  .exact .inl (.inl e)
  exact .inr (aF P.size e)
 rw[q i y]at A;exact .inl (.inr ⟨i,y,A⟩)
theorem uJ(base p)(a b c d ch ep mk)(ct)(jt)(K)(ep')(w)(h:Ks base w p a b c d ch ep mk ct jt K)(hb:base<=w.heap.size)(Z:jt.length<=1000000000000):iB 223 #[O p,I ep'] w λe w'=>∃K',e=iw/\Ks base w' p a b c d ch ep' mk ct (jt++if ep'=ep then []else iV 1 [ep'] []) K'/\Gk p K K' w w'/\(ep'=ep->K'=K/\Bl w w'):=by
 have H:=gP h;have hp:=h.jU.lt;have c5:=h.jU.cell 5 gF;have f5:=h.jU.frozen 5;rw[h.k5]at c5;by_cases y:ep'=ep
 .subst y;rw[aE rfl,cF];clear h;go_enter func223,ntmps223;go_wp2;exact aG (v:= .tuple #[]) (results_none rfl _ _ _) rfl ⟨K,rfl,H,Gk.refl _ _ _,λ_=>⟨rfl,jC⟩⟩
 rw[az y];have A:=gP y;have hz:(ep'==ep)=false:=iU y;clear h y;go_enter func223,ntmps223;go_wp2_with fail;have F:gL (λb=>b=p) w ((w.setCell (U p 5) (I ep')).alloc (im #[I ep'] 3)):=((gL.refl (λb=>b=p) w).setCell (U p 5) (.inl rfl) (I ep')).alloc _;have M:=(H.jU.set 5 (I ep')).bl (jC.alloc (im #[I ep'] 3));have P:=F.iX H.ie λg e e'=>H.jU.oF H.ie gF (jS e e');have V:Bs ((w.setCell (U p 5) (I ep')).alloc (im #[I ep'] 3)) (gN (G w.heap.size) 1 1) ([ep'].map I):=by have:=xi (w.setCell (U p 5) (I ep')) 3 #[I ep'] 1 rfl;simpa using this
 have lW:((w.setCell (U p 5) (I ep')).alloc (im #[I ep'] 3)).heap.size=w.heap.size+1:=gG;refine(Ad base p (vj K 5 (I ep')) (K 71) jt.length (jt.map B8) 1 _ _ [ep'] [] _ M (jd _ _ _ _ gF) P C Z V (.inl ⟨rfl,rfl⟩) gF gF gG gG (λg e e'=>?_) (λg e e'=>ny e') (λg e=>by simp[Value.ownBlock]at e;omega) λg e=>ny e).L ?_
 .simp[Value.ownBlock]at e';have:=(H.ie.lt g e).2;omega
 rintro e w'⟨v',rfl,Y⟩;have R:=gP (H.oL (ep':=ep') (mk':=mk) F (mq _ _ _) ((jd _ _ _ _ gF).H H.k6) (λj h1 _=>jd _ _ _ _ h1) Y rfl rfl);clear F M P V lW Y;go_wp2;go_end0;exact⟨_,rfl,R.1,R.2,λe=>absurd e A⟩
theorem Sj(base p)(a b c d ch ep mk)(ct)(jt)(K)(ep' mk')(w)(h:Ks base w p a b c d ch ep mk ct jt K)(hb:base<=w.heap.size)(V:jt.length<=1000000000000):iB 227 #[O p,I ep',I mk'] w λe w'=>∃K',e=iw/\Ks base w' p a b c d ch ep' mk' ct (jt++iV 2 [ep',mk'] []) K'/\Gk p K K' w w':=by
 have H:=gP h;have hp:=h.jU.lt;have Y:=h.jU.cell 5 gF;have f5:=h.jU.frozen 5;rw[h.k5]at Y;have Z:=h.jU.cell 6 gF;have f6:=h.jU.frozen 6;rw[h.k6]at Z;clear h;go_enter func227,ntmps227;go_wp2_with fail;have y:gL (λb=>b=p) w (((w.setCell (U p 5) (I ep')).setCell (U p 6) (I mk')).alloc (im #[I ep',I mk'] 3)):=(((gL.refl (λb=>b=p) w).setCell (U p 5) (.inl rfl) (I ep')).setCell (U p 6) (.inl rfl) (I mk')).alloc _;have A:=((H.jU.set 5 (I ep')).set 6 (I mk')).bl (jC.alloc (im #[I ep',I mk'] 3));have F:=y.iX H.ie λg e e'=>H.jU.oF H.ie gF (jS e e');have M:Bs (((w.setCell (U p 5) (I ep')).setCell (U p 6) (I mk')).alloc (im #[I ep',I mk'] 3)) (gN (G w.heap.size) 2 2) ([ep',mk'].map I):=by have:=xi ((w.setCell (U p 5) (I ep')).setCell (U p 6) (I mk')) 3 #[I ep',I mk'] 2 rfl;simpa using this
 have lW:(((w.setCell (U p 5) (I ep')).setCell (U p 6) (I mk')).alloc (im #[I ep',I mk'] 3)).heap.size=w.heap.size+1:=gG;refine(Ad base p (vj (vj K 5 (I ep')) 6 (I mk')) (K 71) jt.length (jt.map B8) 2 _ _ [ep',mk'] [] _ A ((jd _ _ _ _ gF).H (jd _ _ _ _ gF)) F C V M (.inl ⟨rfl,rfl⟩) gF gF gG gG (λg e e'=>?_) (λg e e'=>ny e') (λg e=>by simp[Value.ownBlock]at e;omega) λg e=>ny e).L ?_
 .simp[Value.ownBlock]at e';have:=(H.ie.lt g e).2;omega
 rintro e w'⟨v',rfl,P⟩;have R:=gP (H.oL (ep':=ep') (mk':=mk') y ((jd _ _ _ _ gF).H (mq _ _ _)) (mq _ _ _) (λj h1 h2=>(jd _ _ _ _ h2).H (jd _ _ _ _ h1)) P rfl rfl);clear y A F M lW P;go_wp2;go_end0;exact⟨_,rfl,R.1,R.2⟩
end
end Go.Proofs.YtbghhbpacijmmaaGreat
