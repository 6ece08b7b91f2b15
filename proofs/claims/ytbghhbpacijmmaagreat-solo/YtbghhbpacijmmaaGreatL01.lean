import Derived.Test.YtbghhbpacijmmaaGreatRows
import Derived.WalkSpells
import Derived.WalkLawsBesides
import Derived.BigQuiet
import Derived.Deep.RegionHeld3
import Derived.Deep.AppendLies
import Derived.Deep.DrawnRows
import Derived.Laws.CopyOwn
import Derived.Laws.AppendOwnNone
abbrev Eq.H:=@Eq.trans
abbrev Iff.H:=@Iff.trans
abbrev List.Perm.H:=@List.Perm.trans
abbrev List.Sublist.H:=@List.Sublist.trans
abbrev Go.RowKit.Hid.o:=@Go.RowKit.Hid.out
abbrev Go.Calls.L:=@Go.Calls.mono
abbrev Go.RowKit.Below.H:=@Go.RowKit.Below.trans
abbrev Go.RowKit.Below.L:=@Go.RowKit.Below.mono
open Go.Proofs.Tryz
namespace Go.Proofs.YtbghhbpacijmmaaGreat
set_option maxRecDepth 99999
set_option maxHeartbeats 0
set_option linter.defProp false
abbrev I:Int→Value:=.int .i64
abbrev U (b o:Nat):Addr:=⟨b,o,none⟩
abbrev O (b:Nat):Value:=.pointer (some ⟨b,0,none⟩)
abbrev G (b:Nat):Option Addr:=some ⟨b,0,none⟩
abbrev OO:Value:=.slice none 0 0
abbrev gS:Ending:=.returned (.tuple #[])
abbrev gG:Value→Ending:=.returned
abbrev dk:Option Addr→Nat→Nat→Value:=.slice
abbrev gO (a:Array Value) (t:TypeId) (f:Nat×Nat:=(0,0)):Obj:=.cells a t f
abbrev ib:FuncId→Array Value→World→(Ending→World→Prop)→Prop:=Calls prog
theorem gK {α:Sort _} {β:Sort _} {P:α→Prop} {f:α→β}:∀b,P b→f b=f b:=fun _ _=>rfl
theorem C {p:Prop} (h:p:=by omega):p:=h
theorem au {p:Prop} (h:p:=by decide):p:=h
theorem aq {p:Prop} (h:p:=by simp):p:=h
theorem jz {p:Prop} (h:p:=by rfl):p:=h
theorem ij {p:Prop} (h:p:=by kernel_rfl):p:=h
theorem gX {p:Prop} (h:p:=by go_num):p:=h
theorem gW {p:Prop} (h:p:=by simp[Go.RowKit.intOf];omega):p:=h
theorem WC {α:Type _} {a b:α} (h:a=b:=by kernel_rfl):some a=some b:=congrArg some h
theorem gM {p:Prop} (h:p:=by simp;omega):p:=h
theorem gI {p q:Prop} (x:q) (h:q→p:=by intro;omega):p:=h x
theorem dS {α:Sort _} (a:α):∃b,a=b:=⟨a,rfl⟩
theorem m9 {α:Type _} {l:List α} {i:Nat} (h:i<l.length):∃x,l[i]?=some x:=⟨_,List.getElem?_eq_getElem h⟩
def ae:=@Array.getElem?_eq_some_iff
def af:=@Nat.lt_of_lt_of_le
def ah:=@List.getElem?_eq_getElem
def aj:=@List.getElem?_eq_some_iff
def ao:=@Go.heap_alloc_new
def ax:=@Go.cell_of_row
def ay:=@List.length_map
def az:=@if_neg
def aA:=@Int.le_refl
def aB:=@List.getElem?_append_left
def aC:=@List.getElem?_append_right
def aD:=@List.mem_map
def aE:=@if_pos
def aF:=@Nat.le_trans
def aH:=@List.getElem?_set_ne
def aJ:=@Option.some.injEq
def aK:=@List.getElem?_map
def aL:=@List.getElem_mem
def aM:=@List.take_succ_eq_append_getElem
def aN:=@List.mem_cons_self
def aO:=@List.length_append
def aP:=@Go.frozen_of_row
def aQ:=@List.getElem?_set_self
def aR:=@List.mem_of_getElem?
def aS:=@List.getD_eq_getElem?_getD
def aT:=@List.mem_append
def aU:=@List.mem_filter
def aV:=@List.mem_iff_getElem
def aW:=@List.length_eq_zero_iff
def aX:=@List.mem_cons_of_mem
def aZ:=@List.map_append
def bf:=@List.map_congr_left
def bh:=@List.mem_cons
def bj:=@List.map_cons
def bk:=@Classical.byContradiction
def br:=@List.map_map
def bt:=@Int.le_trans
def bu:=@List.mem_of_find?_eq_some
def bF:=@List.length_filter_le
def bG:=@Option.map_some
def bH:=@List.length_take
def bI:=@List.take_of_length_le
def bJ:=@List.ext_getElem?
def bK:=@List.length_set
def bL:=@Bool.and_eq_true
def bM:=@List.ne_nil_of_mem
def bN:=@Option.map_eq_some_iff
def bP:=@Nat.zero_add
def bQ:=@List.exists_cons_of_ne_nil
def bS:=@List.getElem?_modify
def bU:=@List.find?_eq_none
def bY:=@List.nodup_cons
def bZ:=@List.take_length
def cj:=@List.pairwise_map
def cm:=@List.drop_eq_getElem_cons
def cu:=@List.pairwise_append
def cw:=@List.mem_singleton
def cy:=@List.length_modify
def cz:=@List.filter_append
def cA:=@List.getElem_set_self
def cB:=@List.getElem?_eq_none
def cC:=@List.getElem_set_ne
def cD:=@List.getElem?_range
def cE:=@List.filter_sublist
def cF:=@List.append_nil
def cG:=@Nat.add_assoc
def cH:=@Go.heap_setCell_same
def cI:=@List.pairwise_cons
def cJ:=@List.length_pos_of_mem
def cK:=@List.any_eq_true
def cL:=@Go.heap_alloc_old
def cM:=@List.mem_append_right
def cN:=@Nat.mul_comm
def cO:=@Array.getElem?_setIfInBounds_ne
def cQ:=@List.mem_of_mem_take
def cR:=@List.find?_some
def cT:=@List.filter_cons
def cU:=@List.length_pos_iff
def cW:=@List.take_add_one
def cX:=@List.nodup_append
def cY:=@Nat.le_of_eq
def cZ:=@List.getElem?_take
def de:=@Int.emod_lt_of_pos
def df:=@List.length_cons
def dh:=@List.getElem?_cons_zero
def di:=@List.mem_range
def dm:=@List.any_eq_false
def dp:=@List.range_succ
def dq:=@Int.emod_nonneg
def dr:=@Bool.eq_iff_iff
def du:=@List.getElem?_drop
def dx:=@List.getElem?_cons_succ
def dy:=@List.Sublist.refl
def dz:=@List.nil_append
def dA:=@List.length_nil
def dB:=@List.not_mem_nil
def dC:=@List.getElem_map
def dD:=@List.length_singleton
def dE:=@List.pairwise_iff_getElem
def dF:=@List.foldl_cons
def dG:=@List.mem_append_left
def dH:=@List.filter_congr
def dI:=@List.getElem_append_left
def dJ:=@List.length_mapIdx
def dK:=@List.take_append_drop
def dL:=@Option.map_eq_map
def dM:=@List.getElem_take
def dN:=@List.foldl_append
def dP:=@List.flatMap_cons
def dQ:=@Nat.mul_pos
def dR:=@Nat.sub_self
def dT:=@Nat.le_of_not_lt
def dU:=@List.nodup_range
def dV:=@List.cons_append
def dW:=@Array.getElem?_eq_getElem
def dX:=@List.getElem?_take_of_lt
def dY:=@Option.some.inj
def dZ:=@List.filter_map
def ed:=@List.take_sublist
def eh:=@List.length_filter_eq_length_iff
def eo:=@List.drop_eq_nil_of_le
def et:=@Int.toNat_natCast
def ey:=@Go.ByteArray.toList_eq
def eA:=@List.set_append_right
def eB:=@List.mem_flatMap
def eC:=@List.mem_of_mem_drop
def eD:=@List.filter_eq_self
def eE:=@List.take_zero
def eF:=@Int.tdiv_eq_ediv_of_nonneg
def eG:=@Int.natCast_nonneg
def eH:=@Int.lt_of_lt_of_le
def eI:=@List.map_id
def eJ:=@List.append_assoc
def eK:=@Bool.not_eq_true'
def eL:=@List.mem_of_mem_eraseIdx
def eM:=@List.any_cons
def eN:=@Option.getD_some
def eO:=@List.zipIdx_cons
def eP:=@List.ext_getElem
def eQ:=@List.drop_length
def eR:=@Nat.lt_trans
def eS:=@Nat.le_of_lt
def eT:=@List.map_nil
def eU:=@Nat.min_eq_left
def eV:=@Bool.or_eq_true
def eX:=@List.take_take
def eY:=@List.take_succ_cons
def eZ:=@List.flatMap_append
def fb:=@Bool.false_or
def fc:=@Nat.lt_of_le_of_ne
def fe:=@List.append_of_mem
def fg:=@Bool.false_eq_true
def fh:=@Nat.lt_trichotomy
def fj:=@Nat.add_zero
def fk:=@List.set_set
def fo:=@Nat.lt_succ_self
def fp:=@List.nil_sublist
def fq:=@List.mem_flatten
def fs:=@Nat.sub_sub
def ft:=@List.take_append_of_le_length
def fA:=@List.foldr_cons
def fB:=@List.any_append
def fC:=@Int.ediv_nonneg
def fD:=@Array.getElem?_setIfInBounds
def fE:=@List.sublist_flatten_of_mem
def fF:=@Nat.mul_le_mul
def fG:=@List.perm_ext_iff_of_nodup
def fH:=@List.nodup_nil
def fI:=@List.mergeSort_of_pairwise
def fK:=@List.Perm.refl
def fL:=@Int.tmod_eq_emod_of_nonneg
def fM:=@List.mem_take_iff_getElem
def fN:=@List.mem_or_eq_of_mem_set
def fO:=@List.getLast?_eq_getElem?
def fP:=@Array.filter_eq_empty_iff
def fQ:=@Nat.lt_irrefl
def fR:=@List.sublist_append_left
def fS:=@List.map_take
def fT:=@List.eq_of_mem_replicate
def fU:=@List.contains_eq_any_beq
def fV:=@List.pairwise_singleton
def fX:=@List.getElem_cons_drop
def fY:=@List.any_map
def fZ:=@Int.le_of_lt
def gf:=@Array.size_eq_zero_iff
def gh:=@Array.getElem?_eq_none
def gk:=@List.perm_append_comm
def gp:=@Int.ediv_lt_of_lt_mul
def gv:=@Array.getElem_push_lt
def gw:=@Array.getElem?_toList
def gy:=@Nat.mul_le_mul_right
def gz:=@List.getElem?_mapIdx
def gA:=@Nat.mul_le_mul_left
def gB:=@List.replicate_succ
def gC:=@List.findSome?_cons
def gD:=@List.Sublist.append
def gE:=@Int.toNat_of_nonneg
def aG:=@Go.bodyPost_ret
def aI:=@Go.MapKept.run_getObj_map
def bO:=@Go.Value.slice.injEq
def eW:=@Go.MapKept.run_checkKey
def fa:=@Go.MapKept.run_findKey
def fm:=@Go.wpList_append_lies
def fx:=@Go.info_parts
def fy:=@Go.heap_setCell_same
def fJ:=@Go.RowKit.Below.heap_alloc
def fW:=@Go.World.news_of_block
def Z8:=@Go.RowKit.Below.heap_setCell
def Z7:=@Go.MapKept.run_setObj_map
def Z6:=@Go.wp_loop_rounds
def Z5:=@congrArg
def Z4:=@Go.run_underlying
def Z3:=@Go.IntWalk.i64_in
def Z0:=@Go.Addr.mk.injEq
def ZZ:=@Go.rounds_succ
def ZY:=@Go.RowKit.Below.setCell
def ZX:=@decide_eq_true_eq
def ZW:=@Go.wpAny_take
def ZV:=@Go.cell_one_new
def ZU:=@true_and
def ZT:=@beq_iff_eq
def ZS:=@and_true
def ZR:=@Go.MapKept.findNow_spec
open Go.RowKit
attribute [local go_sem ↓] Go.wp_at_zero Go.wp_at_succ
variable {w w' a b w1 W w3:World} {xs ys cs:List Value} {v v' v1:Value} {e e':TypeId} {S T:Nat->Prop} {n g k t i j m:Nat} {K K':Nat->Value} {p q r s:Prop} {A c c0:Array Value} {f:Nat×Nat} {R:Ending->World->Prop} {Q:World->Prop} {zs iT ds:List Int} {d x:Int}
section
def fu(h:p):Hid p:=h
def Sl(w:World)(v:Value)(cs:List Value):Prop:=
 (∃a c,v=.slice a 0 c/\cs=[])\/∃b o c,v=.slice (some (U b o)) cs.length c/\b<w.heap.size/\∀j,(h:j<cs.length)->w.cell? (U b (o+j))=some cs[j]
def Bl(w w':World):Prop:=Below w.heap.size w w'
def Bl.refl(w):Bl w w:=Below.refl _ _
def Bl.H{c:World}(h:Bl a b)(k:Bl b c):Bl a c:=Below.H h (Below.L k h.size)
def Bl.drewN(h:Bl a w)(n):Bl a (w.drewN n):=⟨h.os,h.tape,h.output,h.size,h.block⟩
def Bl.drew(h:Bl a w):Bl a w.drew:=Below.drew h
def Bl.alloc(h:Bl a w)(o):Bl a (w.alloc o):=Below.alloc h h.size o
def Bl.lt(h:Bl w w'):w.heap.size<=w'.heap.size:=h.size
def Bl.cell(h:Bl w w'){b o:Nat}(y:b<w.heap.size):w'.cell? (U b o)=w.cell? (U b o):=Below.cell h y
def Bl.frozen(h:Bl w w'){b o:Nat}(y:b<w.heap.size):w'.frozen? (U b o)=w.frozen? (U b o):=Below.frozen h y
def Bl.heap(h:Bl w w'){b:Nat}(y:b<w.heap.size):w'.heap[b]?=w.heap[b]?:=h.block b y
def Sl.bl(h:Sl w v cs)(y:Bl w w'):Sl w' v cs:=by
 rcases h with h|⟨b,o,c,rfl,D,F⟩
 .exact Or.inl h
 refine Or.inr ⟨b,o,c,rfl,af D y.lt,λj H=>?_⟩;rw[<-F j H];exact y.cell D
def kG{a b:Bool}(h:a=b):gG (.bool a)=gG (.bool b):=by rw[h]
def QX{k:IntKind}{a b:Int}(h:a=b):gG (.int k a)=gG (.int k b):=by rw[h]
def I2(y:k<zs.length)(h:¬x∈zs.take k)(D:(zs[k]==x)=false):¬x∈zs.take (k+1):=by rw[aM y,aT];rintro(e|e);all_goals simp_all
def SN(D:k<zs.length)(y:(zs[k]==x)=true):x∈zs:=by simp at y;rw[<-y];exact aL D
def Sl.empty(h:Sl w v []):∃a c,v=dk a 0 c:=by
 rcases h with⟨a,c,rfl,_⟩|⟨b,o,c,rfl,_⟩
 .simp
 simp
def Sl.len(h:Sl w v cs):∃a c,v=dk a cs.length c:=by
 rcases h with⟨y,D,rfl,rfl⟩|⟨b,o,c,rfl,_⟩
 .simp
 simp
structure bz(S:Nat->Prop)(w w':World):Prop where
 os:w'.os=w.os
 tape:w'.tape=w.tape
 output:w'.output=w.output
 size:w.heap.size<=w'.heap.size
 block:∀k,k<w.heap.size->¬S k->w'.heap[k]?=w.heap[k]?
def bz.refl(S)(w):bz S w w:=⟨rfl,rfl,rfl,Nat.le_refl _,λ_ _ _=>rfl⟩
def bz.H{c:World}(h:bz S a b)(k:bz S b c):bz S a c:=
 ⟨k.os.H h.os,k.tape.H h.tape,k.output.H h.output,aF h.size k.size,λi y D=>(k.block i (af y h.size) D).H (h.block i y D)⟩
def bz.L(h:bz S a b)(y:∀k,k<a.heap.size->S k->T k):bz T a b:=
 ⟨h.os,h.tape,h.output,h.size,λi D F=>h.block i D λe=>F (y i D e)⟩
def bz.E(h:Bl a b):bz S a b:=⟨h.os,h.tape,h.output,h.size,λi y _=>h.block i y⟩
def bz.B{row:Option Nat}(h:a.grownBy b row):bz (λk=>some k=row) a b:=⟨h.os,h.tape,h.output,h.size,λi y D=>h.block i y D⟩
def bz.qp(h:bz S a b)(D:∀k,k<a.heap.size->¬S k):Bl a b:=⟨h.os,h.tape,h.output,h.size,λi y=>h.block i y (D i y)⟩
def bz.setCell(h:bz S a w)(p)(y:S p.block\/a.heap.size<=p.block)(u):bz S a (w.setCell p u):=
 ⟨h.os,h.tape,h.output,by have:=h.size;simp;omega,λk F D=>by rw[Z8 _ _ _ _ (by rintro rfl;rcases y with y|y;exact D y;omega)];exact h.block k F D⟩
def bz.alloc(h:bz S a w)(o):bz S a (w.alloc o):=h.H (bz.E ((Bl.refl _).alloc _))
def bz.drewN(h:bz S a w)(n):bz S a (w.drewN n):=h.H (bz.E ((Bl.refl _).drewN _))
def bz.drew(h:bz S a w):bz S a w.drew:=h.H (bz.E ((Bl.refl _).drew))
def bz.cell(h:bz S w w'){b o:Nat}(y:b<w.heap.size)(D:¬S b):w'.cell? (U b o)=w.cell? (U b o):=World.cell?_of_block (h.block b y D)
def bz.frozen(h:bz S w w'){b o:Nat}(y:b<w.heap.size)(D:¬S b):w'.frozen? (U b o)=w.frozen? (U b o):=World.frozen?_of_block (h.block b y D)
def lD{base:Nat}{size:Nat}(h:w.ownsRow base e size v n xs)(D:∀b,v.ownBlock=some b->w'.heap[b]?=w.heap[b]?):w'.ownsRow base e size v n xs:=by
 refine⟨h.1,?_⟩;rcases h.2 with L|⟨g,cap,y,rfl,F,H,rest⟩
 .simp_all
 exact .inr ⟨g,cap,y,rfl,F,by rw[D g rfl];exact H,rest⟩
def gL{base base':Nat}{size:Nat}(h:w.ownsRow base e size v n xs)(D:∀b,v.ownBlock=some b->base'<=b):w.ownsRow base' e size v n xs:=by
 refine⟨h.1,?_⟩;rcases h.2 with H|⟨g,cap,y,rfl,L,F,rest⟩
 .simp_all
 exact .inr ⟨g,cap,y,rfl,D g rfl,F,rest⟩
def bz.iJ(D:bz S w w'){base:Nat}{size:Nat}(h:w.ownsRow base e size v n xs)(F:∀b,v.ownBlock=some b->¬S b):w'.ownsRow base e size v n xs:=
 lD h λb y=>D.block b (h.lt b y).2 (F b y)
def j6{base base':Nat}{size y:Nat}{M:Nat}{D:List Value}(h:w.ownsRow base e size v n xs)(P:w.ownsRow base' e' y v' M D)(V:e≠e')(b)(Y:v.ownBlock=some b):v'.ownBlock≠some b:=by
 intro F;rcases h.2 with⟨rfl,_⟩|⟨g,cap,Z,rfl,_,hg,_⟩
 .contradiction
 rcases P.2 with⟨rfl,_⟩|⟨g',H,L,rfl,_,a0,_⟩
 .contradiction
 simp[Value.ownBlock]at Y F;simp_all
def iF{base:Nat}(h:w.ownsRow base e 1 v n xs):xs.length=n:=by have:=h.1;omega
def iC{base:Nat}(h:w.ownsRow base e 1 v n xs):Sl w v xs:=by
 have y:=iF h;rcases h.2 with⟨rfl,rfl⟩|⟨g,cap,D,rfl,_,F,_⟩
 .exact .inl ⟨_,_,rfl,aW.1 y⟩
 refine .inr ⟨g,0,cap,by rw[y],(ae.1 F).1,λj H=>?_⟩;rw[bP,h.cellAt j C];simp
def CX{base:Nat}{size:Nat}(h:w.ownsRow base e size v n xs):v.oneCell'=true:=by rcases h.2 with⟨rfl,_⟩|⟨g,cap,y,rfl,_⟩<;>rfl
def Bl.B{c:World}(h:Bl a b)(k:bz S b c)(D:∀n,S n->a.heap.size<=n):Bl a c:=
 ⟨k.os.H h.os,k.tape.H h.tape,k.output.H h.output,aF h.lt k.size,λi y=>(k.block i (af y h.lt) λe=>by have:=D i e;omega).H (h.block i y)⟩
def CD{base:Nat}(h:w.ownsRow base e 1 (dk (G g) n n) n xs):w.heap[g]?=some (gO xs.toArray e (0,0)):=by
 rcases h.2 with⟨D,_⟩|⟨M,F,H,D,_,L,_,_,P,y⟩
 .simp_all
 simp at D;obtain⟨rfl,rfl⟩:=D;rw[bI gM]at y;rw[L,<-y]
def Q7{base:Nat}(h:w.heap[g]?=some (gO xs.toArray e (0,0)))(y:base<=g)(D:xs.length=n)(F:n<=maxLen):w.ownsRow base e 1 (dk (G g) n n) n xs:=
 ⟨C,.inr ⟨g,n,xs.toArray,rfl,y,h,Nat.le_refl _,F,by simpa using D,by simp;exact bI C⟩⟩
def Se{base:Nat}(h:w.ownsRow base e 1 (dk (G g) n n) n xs)(k)(L:k<=n):w.ownsRow base e 1 (dk (G g) k n) k (xs.take k):=by
 rcases h.2 with⟨D,_⟩|⟨Z,H,F,D,M,P,_,V,Y,y⟩
 .simp_all
 simp at D;obtain⟨rfl,rfl⟩:=D;have:=iF h;refine⟨gM,.inr ⟨g,n,F,rfl,M,P,L,V,Y,?_⟩⟩;rw[<-y,eX];simp_all
def mU(b o j):((U b o):Addr).add j=(U b (o+j)):=by unfold Addr.add;split<;>simp_all
def UG{base:Nat}{c:Nat}(h:w.ownsRow base e 1 (dk (G g) n c) n xs)(j)(y:j<n):∃py,w.cell? (U g j)=some py:=by have:=iF h;exact⟨xs[j],by rw[h.cellAt j C,ah]⟩
def lL{base:Nat}(h:w.ownsRow base e 1 v n xs)(F:0<n):∃g cap,v=dk (G g) n cap:=by
 rcases h.2 with⟨_,y⟩|⟨g,cap,D,y,_⟩
 .omega
 simp_all
def zM{L:World}{row:Option Nat}(D:Bl W L)(M:L.grownBy w3 row){b o:Nat}(F:b<W.heap.size)(y:row≠some b):w3.cell? (U b o)=W.cell? (U b o)/\w3.frozen? (U b o)=W.frozen? (U b o):=
 ⟨(M.cell_far _ (af F D.lt) (Ne.symm y)).H (D.cell F),(M.frozen_far _ (af F D.lt) (Ne.symm y)).H (D.frozen F)⟩
def gJ{base:Nat}{size:Nat}(h:w.ownsRow base e size v n xs){R:Nat}(H:w.heap[R]?=some (gO c e' f))(y:e≠e'):v.ownBlock≠some R:=by
 intro D;rcases h.2 with⟨rfl,_⟩|⟨g,cap,F,rfl,_,L,_⟩
 .contradiction
 simp[Value.ownBlock]at D;simp_all
def ny{base:Nat}{size:Nat}(h:w.ownsRow base e size v n xs)(b)(y:v.ownBlock=some b):∃c,w.heap[b]?=some (gO c e (0,0)):=by
 rcases h.2 with⟨rfl,_⟩|⟨g,cap,D,rfl,_,F,_⟩
 .contradiction
 simp[Value.ownBlock]at y;simp_all
open Go.RowKit
def Tryz.Be:(prog.info? 5).map (λi=>(i.zero,i.size,i.bytes))=some (some (.int .u8 0),1,1):=rfl
def B8(x:Int):Value:= .int .u8 x
def rB(n:Int)(j:Nat):Int:=IntKind.u64.wrap n/2^(56-8*j)%256
def rD(n:Int):List Int:=(List.range 8).map (rB n)
def mL(n):(rD n).length=8:=rfl
def Jz(n)(j)(h:j<8):(rD n).take (j+1)=(rD n).take j++[rB n j]:=by rw[aM (by rw[mL];exact h)];simp[rD]
structure ph(base:Nat)(e:TypeId)(w w':World)(v v':Value)(n:Nat)(xs:List Value):Prop where
 gZ:w'.ownsRow base e 1 v' n xs
 only:bz (λb=>v.ownBlock=some b) w w'
 h:∀b,v'.ownBlock=some b->v.ownBlock=some b\/w.heap.size<=b
 E:∃a c,v'=.slice a n c
def ph.H{base:Nat}{w2:World}{D:Value}(h:ph base e w w1 v v1 n xs)(k:ph base e w1 w2 v1 D m ys):ph base e w w2 v D m ys:=by
 refine⟨k.gZ,⟨k.only.os.H h.only.os,k.only.tape.H h.only.tape,k.only.output.H h.only.output,aF h.only.size k.only.size,λi F H=>?_⟩,λb L=>?_,k.E⟩
 .rw[k.only.block i (af F h.only.size) λe=>?_,h.only.block i F H];rcases h.h i e with e'|e'
  .simp_all
  omega
 rcases k.h b L with y|y
 .exact h.h b y
 exact .inr (aF h.only.size y)
def ph.Pf{base:Nat}{o:Obj}{cap:Nat}(D:w1.ownsRow base e 1 (dk (G g) n cap) n xs)(y:(w.alloc o).grownBy w1 v.ownBlock)(F:v.ownBlock=some g\/g=w.heap.size+1):ph base e w w1 v (dk (G g) n cap) n xs:=
 ⟨D,(bz.E ((Bl.refl _).alloc o)).H ((bz.B y).L λk _ e=>e.symm),λb M=>by
  simp[Value.ownBlock]at M
  subst M
  rcases F with h|h
  .simp_all
  .exact .inr C,⟨_,_,rfl⟩⟩
def ph.refl{base:Nat}(h:w.ownsRow base e 1 v n xs):ph base e w w v v n xs:=
 ⟨h,bz.refl _ _,λb y=>.inl y,by
  obtain⟨a,c,e⟩:=(iC h).len
  rw[iF h]at e
  exact⟨a,c,e⟩⟩
theorem wv(base)(v)(k)(xs)(n)(w)(hv:w.ownsRow base 5 1 v k xs)(hb:base<=w.heap.size)(hk:k<=1100000000000):ib 264 #[v,I n] w λe w'=>∃v',e=gG v'/\ph base 5 w w' v v' (k+8) (xs++(rD n).map B8):=by
 obtain⟨i5,ji,L,M,P⟩:=fx Tryz.Be;have Hv:=fu hv;clear hv;go_enter func264,ntmps264;go_wp2;go_loopw[0,6](λd V wr=>∃(j:Nat),j<=8/\V=I (56-8*(j:Int))/\ph base 5 w wr v d (k+j) (xs++((rD n).take j).map B8)) λ_ V _=>(intOf V+8).toNat
 case atStart=>exact⟨0,C,rfl,by simpa using ph.refl Hv.o⟩
 obtain⟨j,hj,rfl,hG⟩:=hrel;have F:=fu hG;clear hG;by_cases iV:j<8
 .have Y:Hid ((k+j+1)*1<=140737488355328):=by unfold Hid;omega
  have Z:Hid (k+j+1<=maxLen):=by unfold Hid maxLen;omega
  have a3:=aF hb F.o.only.size;have hd:decide (8*(j:Int)<=56)=true:=gM;go_wp2_with(at_builtin;refine fm _ rfl _ _ 40 rfl base 5 i5 (.int .u8 0) 1 1 underlying40 ji L M P rfl au _ (k+j) _ rfl (F.o.gZ.alloc _) (U wr.heap.size 0) 1 1 [B8 (rB n j)] rfl rfl (ZV _ _ _) (by simp[B8,Value.oneCell']) au Z.o Y.o gM (wr.heap.size+1) aq ?_);intro g cap w1 D y H a2;have a0:=fu (F.o.H (ph.Pf D y H));have HE:=fu (Jz n j iV);clear D y H F;go_wp2;go_roundw
  case rel=>exact⟨j+1,C,gX,by rw[HE.o];simpa [cG]using a0.o⟩
  simp[intOf];omega
 have a1:j=8:=C;subst a1;go_wp2;go_ret;refine⟨_,rfl,?_⟩;have:=F.o;rw[bI (by rw[mL];omega)]at this;exact this
def vF(n:Int)(j:Nat):Int:=IntKind.u64.wrap n/2^(64-8*j)
def yo(n):IntKind.u64.wrap n=n%18446744073709551616:=rfl
def xC(n)(y:0<=n)(D:n<18446744073709551616):IntKind.u64.wrap n=n:=by rw[yo,Int.emod_eq_of_lt y D]
def Ev(n):∃W:Nat,IntKind.u64.wrap n=(W:Int)/\W<18446744073709551616:=by rw[yo];exact⟨(n%18446744073709551616).toNat,C,C⟩
def Mq(n)(k)(h:k<8):bits .or .u64 (IntKind.u64.wrap (vF n k*256)) (IntKind.u64.wrap (rB n k))=vF n (k+1):=by
 obtain⟨W,D,F⟩:=Ev n;unfold vF rB;rw[D];have H:(2:Int)^(64-8*k)=((2^(56-8*k)*256:Nat):Int):=by have:64-8*k=(56-8*k)+8:=C;rw[this,Int.pow_add];simp
 have L:(2:Int)^(56-8*k)=((2^(56-8*k):Nat):Int):=aq;have M:64-8*(k+1)=56-8*k:=C;rw[M,H,L];generalize y:W/2^(56-8*k)=X;have P:X<18446744073709551616:=by rw[<-y];exact Nat.lt_of_le_of_lt (Nat.div_le_self _ _) F
 have V:(W:Int)/((2^(56-8*k)*256:Nat):Int)=((X/256:Nat):Int):=by rw[<-y,Nat.div_div_eq_div_mul];rfl
 have Y:(W:Int)/((2^(56-8*k):Nat):Int)=(X:Int):=by rw[<-y];rfl
 rw[V,Y];have Z:((X/256:Nat):Int)*256=((256*(X/256):Nat):Int):=C;have f4:(X:Int)%256=((X%256:Nat):Int):=C;rw[Z,f4,xC _ C C,xC _ C C,u64_or_nat _ _ C C];have g:=Nat.two_pow_add_eq_or_of_lt (i:=8) (show X%256<2^8 by omega) (X/256);have:(2:Nat)^8=256:=rfl;rw[this]at g;rw[<-g];omega
def ML(n):vF n 0=0:=by obtain⟨W,y,D⟩:=Ev n;unfold vF;omega
def JP(n)(h:(Lit.int .i64 n).wf=true):wrap64 (vF n 8)=n:=by
 have y:-9223372036854775808<=n/\n<=9223372036854775807:=by simpa [Lit.wf,IntKind.min,IntKind.bits,IntKind.signed]using h
 have e:vF n 8=n%18446744073709551616:=by unfold vF;rw[yo];simp
 unfold wrap64;omega
theorem Ge(v)(n)(w)(P:Sl w v ((rD n).map B8))(V:(Lit.int .i64 n).wf=true):ib 285 #[v] w λe w'=>e=gG (I n)/\w'=w:=by
 rcases P with⟨a,c,rfl,Y⟩|⟨b,o,c,rfl,Z,D⟩
 .have:=Z5 List.length Y;simp[mL]at this
 simp only[ay,mL]at D|-;go_enter func285,ntmps285;go_wp2;go_loop[3,8] (λt i=>∃k:Nat,k<=8/\i=I k/\t=.int .u64 (vF n k)) λ_ i=>8-(intOf i).toNat
 case atStart=>exact⟨0,C,rfl,by rw[ML]⟩
 obtain⟨k,hk,rfl,rfl⟩:=hrel;by_cases L:k<8
 .have y:=D k L;have M:((rD n).map B8)[k]'(by simp[mL];omega)=.int .u8 (rB n k):=by simp[rD,B8]
  rw[M]at y;have F:=fu (Mq n k L);clear M D;go_wp2;go_round
  case rel=>exact⟨k+1,C,gX,by rw[F.o]⟩
  simp[intOf];omega
 have H:k=8:=C;subst H;have F:=fu (JP n V);go_wp2;go_ret;exact⟨QX F.o,rfl⟩
def fl(a:p)(b:q):Hid p/\Hid q:=⟨a,b⟩
def gV(a:p)(b:q)(c:r):Hid p/\Hid q/\Hid r:=⟨a,b,c⟩
def ju(a:p)(b:q)(c:r)(d:s):Hid p/\Hid q/\Hid r/\Hid s:=⟨a,b,c,d⟩
def Bl.E(h:Bl w w')(l:g<w.heap.size){a b:Option Value}(y:w.cell? (U g i)=a)(D:w.cell? (U g j)=b):w'.cell? (U g i)=a/\w'.cell? (U g j)=b:=⟨(h.cell l).H y,(h.cell l).H D⟩
def Bl.F(h:Bl w w')(l:g<w.heap.size){a b c:Option Value}(y:w.cell? (U g i)=a)(D:w.cell? (U g j)=b)(F:w.cell? (U g k)=c):w'.cell? (U g i)=a/\w'.cell? (U g j)=b/\w'.cell? (U g k)=c:=⟨(h.cell l).H y,(h.cell l).H D,(h.cell l).H F⟩
def Bl.J(h:Bl w w')(l:g<w.heap.size){a b c d:Option Value}(y:w.cell? (U g i)=a)(D:w.cell? (U g j)=b)(F:w.cell? (U g k)=c)(L:w.cell? (U g m)=d):w'.cell? (U g i)=a/\w'.cell? (U g j)=b/\w'.cell? (U g k)=c/\w'.cell? (U g m)=d:=⟨(h.cell l).H y,(h.cell l).H D,(h.cell l).H F,(h.cell l).H L⟩
def bz.F(h:bz S w w')(l:g<w.heap.size)(n:¬S g){a b c:Option Value}(y:w.cell? (U g i)=a)(D:w.cell? (U g j)=b)(F:w.cell? (U g k)=c):w'.cell? (U g i)=a/\w'.cell? (U g j)=b/\w'.cell? (U g k)=c:=⟨(h.cell l n).H y,(h.cell l n).H D,(h.cell l n).H F⟩
def bz.J(h:bz S w w')(l:g<w.heap.size)(n:¬S g){a b c d:Option Value}(y:w.cell? (U g i)=a)(D:w.cell? (U g j)=b)(F:w.cell? (U g k)=c)(L:w.cell? (U g m)=d):w'.cell? (U g i)=a/\w'.cell? (U g j)=b/\w'.cell? (U g k)=c/\w'.cell? (U g m)=d:=⟨(h.cell l n).H y,(h.cell l n).H D,(h.cell l n).H F,(h.cell l n).H L⟩
def rO(h:w.heap[g]?=some (gO A t f))(i j:Nat){a b:Value}(e:(A[i]?,A[j]?)=(some a,some b)):w.cell? (U g i)=some a/\w.cell? (U g j)=some b:=by simp at e;exact⟨(ax w g i _ t f h).H e.1,(ax w g j _ t f h).H e.2⟩
def px(h:w.heap[g]?=some (gO A t f))(i j k:Nat){a b c:Value}(e:(A[i]?,A[j]?,A[k]?)=(some a,some b,some c)):w.cell? (U g i)=some a/\w.cell? (U g j)=some b/\w.cell? (U g k)=some c:=by simp at e;exact⟨(ax w g i _ t f h).H e.1,(ax w g j _ t f h).H e.2.1,(ax w g k _ t f h).H e.2.2⟩
def nN(h:w.heap[g]?=some (gO A t f))(i j k m:Nat){a b c d:Value}(e:(A[i]?,A[j]?,A[k]?,A[m]?)=(some a,some b,some c,some d)):w.cell? (U g i)=some a/\w.cell? (U g j)=some b/\w.cell? (U g k)=some c/\w.cell? (U g m)=some d:=by simp at e;exact⟨(ax w g i _ t f h).H e.1,(ax w g j _ t f h).H e.2.1,(ax w g k _ t f h).H e.2.2.1,(ax w g m _ t f h).H e.2.2.2⟩
def UU(h:w.heap[g]?=some (gO A t (0,0)))(i j:Nat):w.frozen? (U g i)=false/\w.frozen? (U g j)=false:=⟨aP w g i _ t h,aP w g j _ t h⟩
def Au(h:w.heap[g]?=some (gO A t (0,0)))(i j k:Nat):w.frozen? (U g i)=false/\w.frozen? (U g j)=false/\w.frozen? (U g k)=false:=⟨aP w g i _ t h,aP w g j _ t h,aP w g k _ t h⟩
def xj(h:w.heap[g]?=some (gO A t (0,0)))(i j k m:Nat):w.frozen? (U g i)=false/\w.frozen? (U g j)=false/\w.frozen? (U g k)=false/\w.frozen? (U g m)=false:=⟨aP w g i _ t h,aP w g j _ t h,aP w g k _ t h,aP w g m _ t h⟩
def gF{f:FuncId}{a:Array Value}(h:ib f a w λe w'=>e=gG v/\Q w')(k:∀w',Q w'->R (gG v) w'):ib f a w R:=h.L λ_ w'⟨x,y⟩=>by rw[x];exact k w' y
def ix{f:FuncId}{a:Array Value}(h:ib f a w λe w'=>e=gG v/\Q w')(k:∀w',Hid (Q w')->R (gG v) w'):ib f a w R:=gF h k
def iZ(h:Bl a b:=by first|exact Bl.refl _|exact(Bl.refl _).drew|exact(Bl.refl _).drewN _):Bl a b:=h
def mG(h:Bl a b:=by repeat(first|exact Bl.refl _|refine Bl.drew ?_|refine Bl.drewN ?_ _|refine Bl.alloc ?_ _)):Bl a b:=h
def iD(h:Bl a b):bz (λ_=>False) a b:=bz.E h
def lQ(h:p:=by omega):Hid p:=h
def mQ(h:p:=by unfold maxLen;omega):Hid p:=h
def mF(a:p)(b:q):Hid (p/\q):=⟨a,b⟩
def lZ(a:p)(b:q)(c:r):Hid (p/\q/\r):=⟨a,b,c⟩
def ow(a:p)(b:q)(c:r)(d:s):Hid (p/\q/\r/\s):=⟨a,b,c,d⟩
def Il{t:Prop}(a:p)(b:q)(c:r)(d:s)(e:t):Hid (p/\q/\r/\s/\t):=⟨a,b,c,d,e⟩
def QA{t u:Prop}(a:p)(b:q)(c:r)(d:s)(e:t)(f:u):Hid (p/\q/\r/\s/\t/\u):=⟨a,b,c,d,e,f⟩
def iG(x:q)(h:q->p:=by intro h;simpa using h):p:=h x
def jP(x:q)(y:r)(h:q->r->p:=by intro a b;rw[a];exact b):p:=h x y
def qO(x:q)(y:r)(h:q->r->p:=by intro a b;rw[<-a];exact b):p:=h x y
def mX(x:q)(h:q->p:=by intro h;simp[Value.ownBlock]at h):p:=h x
def T2(x:q)(h:q->p:=by intro a;rw[a];decide):p:=h x
def j4(x:q)(y:r)(h:q->r->p:=by intro a b;rw[a,b]):p:=h x y
def qR(h:p:=by simp[Value.oneCell']):p:=h
def Aj(h:p:=by rw[IntKind.wrap_i64];omega):p:=h
def sj(h:p:=by simp[MapKept.IsKey]):p:=h
def lY(x:q)(h:q->p:=by intro h;simp at h):p:=h x
def nI(x:q)(h:q->p:=by intro a;rw[a];simp):p:=h x
def mY(x:q)(h:q->p:=by intro a;simp[a]):p:=h x
def qz(x:q)(h:q->p:=by intro a;rw[a]):p:=h x
def Vz(x:q)(h:q->p:=by intro a;rw[<-a];omega):p:=h x
def qj(x:q)(h:q->p:=by intro a;rw[a];omega):p:=h x
def iI{a:Int}:a<=a:=aA a
def jc{a:Nat}:a<=a:=Nat.le_refl a
def jd{a:Nat}:0<=a:=Nat.zero_le a
def pK{a:Nat}:a<=a+1:=Nat.le_succ a
def mC{b:Nat}{s:Nat}:w.ownsRow b e s OO 0 []:=World.ownsRow_nil w b e s
def sQ:bz S w w:=bz.refl S w
def jo:Bl w w:=Bl.refl w
abbrev zL(p0)(p1)(p2)(p3)(p4)(p5)(p6)(p7)(p8){q9:Type}(p9:List q9)(p10):=gO #[.int .i64 p0,.int .i64 p1,.int .i64 p2,.int .i64 p3,.int .i64 p4,.int .i64 p5,.int .i64 p6,.int .i64 p7,dk p8 p9.length p10] 100
abbrev Ga :=gO #[I 0,I 0,I 0,I 0,I 0,I 0,OO] 215
abbrev qe(p0)(p1)(p2)(p3){q4:Type}(p4:List q4)(p5):=#[I p0,I p1,I p2,dk p3 p4.length p5]
abbrev Pd :=#[I 0,I 0,I 0,I 0,I 0,I 0,I 0,I 0,OO]
abbrev lI(p0){q1:Type}(p1:List q1)(p2):=dk p0 p1.length p2
abbrev TL(p0:World)(p1)(p2)(p3)(p4)(p5)(p6)(p7)(p8)(p9)(p10){q11:Type}(p11:List q11)(p12):=(p0.alloc (gO #[O p1] 233)).alloc (gO #[I p2,I p3,I p4,I p5,I p6,I p7,I p8,I p9,dk p10 p11.length p12] 100)
abbrev yr :=gO #[I 0,I 0,I 0,OO] 222
abbrev uX :=gO #[I 0,OO,OO] 320
abbrev qh(p0)(p1)(p2)(p3):=gO #[I p0,I p1,I p2,I p3] 27
abbrev zS(p0)(p1){q2:Type}(p2:List q2)(p3)(p4){q5:Type}(p5:List q5)(p6):=gO #[I p0,dk p1 p2.length p3,dk p4 p5.length p6] 320
end
section
def Bs(w:World)(v:Value)(ys:List Value):Prop:=
 (v= OO/\ys=[])\/∃ad c,v=.slice (some ad) ys.length c/\∀j u,ys[j]?=some u->w.cell? (ad.add j)=some u
def Bs.len(h:Bs w v ys):∃a c,v=dk a ys.length c:=by
 obtain⟨rfl,rfl⟩|⟨y,c,rfl,_⟩:=h
 .simp
 simp
def Bs.only(h:Bs w v ys)(D:bz S w w')(F:∀b,v.ownBlock=some b->¬S b):Bs w' v ys:=by
 obtain h|⟨y,c,rfl,H⟩:=h
 .exact .inl h
 refine .inr ⟨y,c,rfl,λj u L=>?_⟩;have M:=H j u L;have e:(y.add j).block=y.block:=by unfold Addr.add;split<;>rfl
 rw[World.cell?_of_block (D.block _ (World.block_lt_of_cell? w _ M) (by rw[e];exact F y.block rfl))];omega
def Bs.bl(h:Bs w v ys)(y:Bl w w'):Bs w' v ys:=h.only (bz.E y) λ_ _ e=>e
theorem Bs.sl(h:Bs w v ys):Sl w v ys:=by
 obtain⟨rfl,rfl⟩|⟨F,c,rfl,H⟩:=h
 .exact .inl ⟨_,_,rfl,rfl⟩
 cases L:ys with
 |nil=>exact .inl ⟨_,_,rfl,rfl⟩
 |cons y r=>
  have D:=H 0 y (by rw[L];rfl);have M:∃b o,F=(U b o):=by
   obtain⟨b,o,P⟩:=F
   cases P with
   |none=>exact⟨b,o,rfl⟩
   |some s=>unfold World.cell? Addr.add at D;simp at D;split at D<;>simp_all
  obtain⟨b,o,rfl⟩:=M;have V:=World.block_lt_of_cell? w _ D;rw[<-L];refine .inr ⟨b,o,c,rfl,V,λj Y=>?_⟩;have:=H j ys[j] (ah Y);rwa[mU]at this
def mi{base:Nat}(h:w.ownsRow base e 1 v n xs):Bs w v xs:=by
 have y:=iF h;obtain⟨rfl,rfl⟩|⟨g,cap,D,rfl,_⟩:=h.2
 .exact .inl ⟨rfl,aW.1 y⟩
 refine .inr ⟨(U g 0),cap,qz y,λj u F=>?_⟩;rw[mU,bP,h.cellAt j (gI ((aj.1 F).1))];omega
def mo{P:Program}(w){F:Array Oper}{rest:List Oper}{o:Oper}{a:Act}{Q:Exit->Act->World->Prop}(Y:o.guard=none)(s y)(t)(H:o.op=Op.call {callee:=Callee.builtin Builtin.append,args:=#[s,y],argTypes:=#[t,t]})(base)(e)(i)(z)(bytes)(Z:P.underlying t=some (.slice e))(h2:P.info? e=some i)(h3:i.zero=some z)(h4:i.size=1)(h5:i.bytes=bytes)(h6:z.cells.size=1)(v)(n)(xs)(hs:a.eval s=v)(D:w.ownsRow base e 1 v n xs)(u)(ys)(hu:a.eval y=u)(hy:Bs w u ys)(M:∀q∈ys,q.oneCell'=true)(b1:n+ys.length<=maxLen)(b2:(n+ys.length)*bytes<=140737488355328)(hb:base<=w.heap.size)(hK:∀v' w',ph base e w w' v v' (n+ys.length) (xs++ys)->wpList P F Q rest (a.put o.dst v') w'):wpList P F Q (o::rest) a w:=by
 obtain⟨rfl,rfl⟩|⟨ad,c,rfl,hc⟩:=hy
 .refine wpList_append_own_none Y s y t H base e i 1 Z h2 v n xs hs D hu ?_;exact hK v w (by simpa using ph.refl D)
 refine wpList_append_own_at w Y s y t H base e i z 1 bytes Z h2 h3 h4 h5 h6 C v n xs hs D ad ys.length c ys hu aq hc M b1 b2 hb ?_;intro v' w' V r2 r3 r4;refine hK v' w' ⟨V,(bz.B r2).L λk _ e=>e.symm,λb a0=>?_,?_⟩
 .obtain r4|r4:=r4
  .simp_all
  simp_all
 obtain⟨a',c',e'⟩:=(iC V).len;rw[iF V]at e';exact⟨a',c',e'⟩
def vR(w:World)(e)(cs)(n)(y:n=cs.size):Bs (w.alloc (gO cs e)) (dk (G w.heap.size) n n) cs.toList:=by subst y;refine .inr ⟨(U w.heap.size 0),cs.size,aq,λj u D=>?_⟩;rw[mU];simp_all
def ph.from{base:Nat}(D:Bl w W)(h:ph base e W w1 v v1 n xs):ph base e w w1 v v1 n xs:=
 ⟨h.gZ,(bz.E D).H h.only,λb y=>(h.h b y).imp id λe=>aF D.lt e,h.E⟩
def ph.block{base:Nat}(h:ph base e w w1 v v1 n xs)(F:w.ownsRow base e 1 v m ys){R:Nat}(D:w.heap[R]?=some (gO c e' f))(y:e≠e'):w1.heap[R]?=some (gO c e' f):=by rw[h.only.block R (ae.1 D).1 (λe=>gJ F D y e)];omega
def iB(kd:Int)(ns:List Int)(val:List Int):List Int:=[kd,ns.length,val.length]++(ns.flatMap rD++val)
def tY(kd:Int)(ns:List Int)(val:List Int)(k:Nat):List Int:=[kd,ns.length,val.length]++(ns.take k).flatMap rD
def FW(kd)(ns val)(k)(h:k<ns.length):tY kd ns val (k+1)=tY kd ns val k++rD ns[k]:=by unfold tY;rw[aM h,eZ];simp
theorem sg:∀ns:List Int,(ns.flatMap rD).length=8*ns.length
 |[]=>rfl
 |n::r=>by rw[dP,aO,mL,sg r,df];omega
def LK(kd)(ns val)(k)(h:k<=ns.length):(tY kd ns val k).length=3+8*k:=by unfold tY;rw[aO,sg,bH,eU h];simp
def Ii(kd)(ns val):iB kd ns val=tY kd ns val ns.length++val:=by unfold iB tY;rw[bZ,eJ]
def nO(kd)(ns val):(iB kd ns val).length=3+8*ns.length+val.length:=by rw[Ii,aO,LK _ _ _ _ jc]
def CH(l:List Int):∀q∈l.map B8,q.oneCell'=true:=λq y=>by obtain⟨x,_,rfl⟩:=aD.1 y;rfl
theorem mT(base)(v)(k)(xs)(kd)(nv vv)(ns val)(w)(hv:w.ownsRow base 5 1 v k xs)(hb:base<=w.heap.size)(hk:k<=1000000000000)(M:Bs w nv (ns.map I))(y:Bs w vv (val.map B8))(h0:0<=kd)(h1:kd<=255)(be:ns.length<=255)(bg:val.length<=255)(a7:∀b,v.ownBlock=some b->nv.ownBlock≠some b)(a8:∀b,v.ownBlock=some b->vv.ownBlock≠some b)(aa:∀b,nv.ownBlock=some b->b<w.heap.size)(ab:∀b,vv.ownBlock=some b->b<w.heap.size):ib 234 #[.agg #[I kd,nv,vv],v] w λe w'=>∃v',e=gG v'/\ph base 5 w w' v v' (k+(iB kd ns val).length) (xs++(iB kd ns val).map B8):=by
 obtain⟨i5,ji,ac,ad,ag⟩:=fx Tryz.Be;obtain⟨P,V,en⟩:=M.len;obtain⟨Y,Z,ev⟩:=y.len;simp only[ay]at en ev;subst en ev;obtain⟨Hv,av,ai,aw⟩:=ju hv M y a7;obtain⟨b0,bi,bl⟩:=gV a8 aa ab;clear hv M y a7 a8 aa ab;have b2:Hid ((k+3)*1<=140737488355328):=lQ;have b3:Hid (k+3<=maxLen):=mQ;go_enter func234,ntmps234;have bX:=(Bl.refl w).alloc (zS kd P ns V Y val Z);have hX:=ao w (zS kd P ns V Y val Z);obtain⟨a0,HY⟩:=fl (Hv.alloc (zS kd P ns V Y val Z)) (vR (w.alloc (zS kd P ns V Y val Z)) 5 #[B8 kd,B8 ns.length,B8 val.length] 3 rfl);have F:Hid (∀q∈(#[B8 kd,B8 ns.length,B8 val.length]:Array Value).toList,q.oneCell'=true):=by intro q hq;simp at hq;obtain rfl|rfl|rfl:=hq<;>rfl
 rw[show(w.alloc (zS kd P ns V Y val Z)).heap.size=w.heap.size+1 from by simp]at HY;obtain⟨HX,BX⟩:=fl hX bX;clear bX hX;go_wp2_with(at_builtin;refine mo _ rfl (.tmp 7) (.tmp 19) 40 rfl base 5 i5 (.int .u8 0) 1 underlying40 ji ac ad ag rfl v k xs rfl (a0.alloc _) _ _ rfl (by exact HY) F b3 b2 gM ?_);intro v1 w1 hG;have HE:=fu (fJ (w.alloc (zS kd P ns V Y val Z)) (gO #[B8 kd,B8 ns.length,B8 val.length] 5) w.heap.size aq);obtain⟨a2,a3⟩:=fl (hG.block (a0.alloc _) (HE.H HX) au) (ph.from (BX.alloc (gO #[B8 kd,B8 ns.length,B8 val.length] 5)) hG);clear hG HY a0 HE F;obtain⟨a1,c1,e1⟩:∃a c,v1=dk a (k+3) c:=a3.E;subst e1;obtain⟨x1,x2⟩:=rO a2 1 2 rfl;simp at x1 x2;have ak:Hid (ph base 5 w w1 v (dk a1 (k+3) c1) (k+(3+8*0)) (xs++(tY kd ns val 0).map B8)):=by have:=a3.o;refine fu ?_;simpa [tY]using this
 clear a3;go_wp2;go_loopw[1,24](λd i wr=>∃(j:Nat),j<=ns.length/\i=I j/\wr.heap[w.heap.size]?=some (gO #[I kd,dk P ns.length V,dk Y val.length Z] 320 (0,0))/\ph base 5 w wr v d (k+(3+8*j)) (xs++(tY kd ns val j).map B8)) λ_ i _=>ns.length-(intOf i).toNat
 case atStart=>exact⟨0,C,rfl,a2,ak⟩
 clear ak a2 x1 x2;obtain⟨j,hj,rfl,al,hG⟩:=hrel;obtain⟨a4,D⟩:=fl al hG;clear al hG;have H:=aF hb D.only.size;by_cases iV:j<ns.length
 .have Hn:=fu ((av.only D.only λb a5 e=>aw.o b e a5).sl);obtain⟨a9,c9,bm,am⟩|⟨b1,o1,cc,an,bn,ap⟩:=Hn.o
  .simp at am;simp[am]at iV
  have b4:=ap j (iG iV);simp only[dC]at b4;simp only[bO]at an;obtain⟨rfl,b5,rfl⟩:=an;clear b5 ap;have HE:=fu (FW kd ns val j iV);generalize ns[j]=nj at*;go_wp2_with fail;refine(wv base _ _ _ nj _ D.gZ H C).L ?_;rintro e w2⟨v2,rfl,a6⟩;obtain⟨b6,b7⟩:=fl (a6.block D.gZ a4 au) (D.H a6);clear a6 D a4 Hn;go_wp2;go_roundw
  case rel=>exact⟨j+1,C,gX,b6,by rw[HE.o];simpa [cG,Nat.mul_add]using b7.o⟩
  simp[intOf];omega
 have b8:j=ns.length:=C;subst b8;have x2:=ax wr w.heap.size 2 _ 320 (0,0) a4;simp at x2;have b9:=fu (ai.only D.only λb a5 e=>b0.o b e a5);have ba:Hid ((k+(3+8*ns.length)+(val.map B8).length)*1<=140737488355328):=by unfold Hid;simp;omega
 have bb:Hid (k+(3+8*ns.length)+(val.map B8).length<=maxLen):=by unfold Hid maxLen;simp;omega
 obtain⟨HB,bc⟩:=fl (Ii kd ns val) (nO kd ns val);go_wp2_with(at_builtin;refine mo _ rfl (.tmp 32) (.tmp 34) 40 rfl base 5 i5 (.int .u8 0) 1 underlying40 ji ac ad ag rfl _ _ _ rfl D.gZ _ _ rfl b9 (CH val) bb ba H ?_);intro v3 w3 ar;have bd:=fu (D.H ar);clear ar D;go_wp2;go_ret;refine⟨_,rfl,?_⟩;rw[bc.o,HB.o];simpa [cG]using bd.o
open Go.RowKit
def pH(k n v:Int)(ds:List Int):Bool:=(ds.getD 0 0==k)&&(decide (ds.length<2)||(ds.getD 1 0==n))&&(decide (ds.length<3)||decide (ds.getD 2 0<=v))
def uW{b o:Nat}(y:∀j,(h:j<(ds.map B8).length)->w.cell? (U b (o+j))=some (ds.map B8)[j])(j)(h:j<ds.length):w.cell? (U b (o+j))=some (.int .u8 (ds.getD j 0)):=by have:=y j (iG h);rw[this];simp[B8,h]
theorem EG(k n v)(b o c m)(d0 d1 d2)(r)(w)(hm:0<m)(hl:m<=1100000000000)(hb:b<w.heap.size)(y0:w.cell? (U b o)=some (.int .u8 d0))(D:1<m->w.cell? (U b (o+1))=some (.int .u8 d1))(H:2<m->w.cell? (U b (o+2))=some (.int .u8 d2))(V:0<=d0/\d0<=255)(Y:0<=d1/\d1<=255)(Z:0<=d2/\d2<=255)(y:Hid (((d0==k)&&(decide (m<2)||(d1==n))&&(decide (m<3)||decide (d2<=v)))=r)):ib 260 #[.agg #[I k,I n,I v],dk (some (U b o)) m c] w λe w'=>e=gG (.bool r)/\Bl w w':=by
 obtain⟨a0,a1⟩:=V;obtain⟨a2,a3⟩:=Y;obtain⟨a4,a5⟩:=Z;have m0:(0:Int)<(m:Int):=C
 cases L:(d0==k)
 .have F:Hid (r=false):=by rw[Hid,<-y.o,L];rfl
  clear y D H;go_enter func260,ntmps260;go_wp2;go_quiet(fail);go_wp2;go_ret;exact⟨kG F.symm,(jo.alloc _).drewN _⟩
 by_cases l1:m<2
 .have F:Hid (r=true):=by rw[Hid,<-y.o,L];simp[l1];omega
  have m1:(m:Int)<2:=C;have P:(m:Int)<3:=C;clear y D H;go_enter func260,ntmps260;go_wp2;go_quiet(fail);go_wp2;go_ret;exact⟨kG F.symm,(jo.alloc _).drewN _⟩
 have z1:=D C;have m1:(1:Int)<(m:Int):=C;have n1:decide ((m:Int)<2)=false:=gM
 cases M:(d1==n)
 .have F:Hid (r=false):=by rw[Hid,<-y.o,L,M];simp[l1]
  clear y D H;go_enter func260,ntmps260;go_wp2;go_quiet(fail);go_wp2;go_ret;exact⟨kG F.symm,(jo.alloc _).drewN _⟩
 by_cases l2:m<3
 .have F:Hid (r=true):=by rw[Hid,<-y.o,L,M];simp[l2]
  have P:(m:Int)<3:=C;clear y D H;go_enter func260,ntmps260;go_wp2;go_quiet(fail);go_wp2;go_ret;exact⟨kG F.symm,(jo.alloc _).drewN _⟩
 have z2:=H C;have P:(2:Int)<(m:Int):=C;have n2:decide ((m:Int)<3)=false:=gM;have F:Hid (r=decide (d2<=v)):=by rw[Hid,<-y.o,L,M];simp[l2]
 clear y D H;go_enter func260,ntmps260;go_wp2;go_quiet(fail);go_wp2;go_ret;exact⟨kG F.symm,(jo.alloc _).drewN _⟩
def Gg(k n v)(u)(ds)(w)(H:Sl w u (ds.map B8))(F:0<ds.length)(L:ds.length<=1100000000000)(M:∀d∈ds,0<=d/\d<=255):ib 260 #[.agg #[I k,I n,I v],u] w λe w'=>e=gG (.bool (pH k n v ds))/\Bl w w':=by
 obtain⟨a,c,rfl,Y⟩|⟨b,o,c,rfl,P,D⟩:=H
 .simp_all
 have y:∀j,0<=ds.getD j 0/\ds.getD j 0<=255:=λj=>by by_cases h:j<ds.length;all_goals simp_all
 have V:=uW D 0 F;rw[ay];exact EG k n v b o c ds.length _ _ _ _ w F L P V (λh=>uW D 1 h) (λh=>uW D 2 h) (y 0) (y 1) (y 2) (fu rfl)
theorem zw(k n v)(p)(u)(ds)(w)(Y:p<w.heap.size)(Z:w.cell? (U p 0)=some u)(D:Sl w u (ds.map B8))(L:0<ds.length)(M:ds.length<=1100000000000)(y:∀d∈ds,0<=d/\d<=255):ib 259 #[.agg #[I k,I n,I v],O p] w λe w'=>e=gG (.bool (pH k n v ds))/\Bl w w':=by
 obtain⟨a,c,e⟩:=D.len;simp only[ay]at e;subst e;obtain⟨P,F⟩:=fl D y;clear D y;go_enter func259,ntmps259;go_wp2_with fail;refine gF (Gg k n v _ ds _ (P.bl (jo.alloc _)) L M F) λw' V=>?_;go_wp2;go_ret;exact⟨rfl,(jo.alloc _).H V⟩
def lK(w:World)(b o:Nat)(kJ:List (Int×Int×Int)):Prop:=
 b<w.heap.size/\∀j,(h:j<kJ.length)->w.cell? (U b (o+j*3))=some (I kJ[j].1)/\w.cell? (U b (o+j*3+1))=some (I kJ[j].2.1)/\w.cell? (U b (o+j*3+2))=some (I kJ[j].2.2)
theorem zk(b o c)(kJ)(p)(u)(ds)(w)(M:lK w b o kJ)(hp:p<w.heap.size)(P:w.cell? (U p 0)=some u)(hu:Sl w u (ds.map B8))(h0:0<ds.length)(hl:ds.length<=1100000000000)(V:∀d∈ds,0<=d/\d<=255)(hs:kJ.length<=1000):ib 284 #[dk (some (U b o)) kJ.length c,.func (.func 259) #[] #[O p]] w λe w'=>∃n:Int,e=gG (I n)/\(0<=n↔∃s∈kJ,pH s.1 s.2.1 s.2.2 ds=true)/\Bl w w':=by
 obtain⟨a2,Hu,Y,Z⟩:=ju M hu V P;have a3:=M.1;clear M hu V P;go_enter func284,ntmps284;go_wp2;go_loopw[8](λi wr=>∃k:Nat,k<=kJ.length/\i=I k/\Bl w wr/\∀s∈kJ.take k,¬pH s.1 s.2.1 s.2.2 ds=true) λi _=>kJ.length-(intOf i).toNat
 case atStart=>exact⟨0,jd,rfl,jo,aq⟩
 obtain⟨k,hk,rfl,D,a0⟩:=hrel;have a1:=fu a0;clear a0;by_cases iV:k<kJ.length
 .obtain⟨q0,q1,q2⟩:=a2.2 k iV;obtain⟨g0,g1,g2⟩:=D.F a3 q0 q1 q2;have Hm:Hid (kJ[k]∈kJ):=aL iV;have Ht:Hid (kJ.take (k+1)=kJ.take k++[kJ[k]]):=aM iV;clear q0 q1 q2;generalize kJ[k]=sh at*;obtain⟨s1,s2,s3⟩:=sh
  cases hf:pH s1 s2 s3 ds
  .have Hf:=fu hf;clear hf;go_wp2_with fail;refine(zw s1 s2 s3 p u ds _ (af hp D.lt) ((D.cell hp).H Z) (Hu.bl D) h0 hl Y).L ?_;rw[Hf.o];rintro e w'⟨rfl,F⟩;go_wp2;go_roundw
   case rel=>
    refine⟨k+1,C,gX,D.H F,?_⟩;rw[Ht.o];intro y hy;obtain hy|hy:=aT.1 hy
    .exact a1 y hy
    simp at hy;subst hy;rw[Hf.o];simp
   case measure=>simp[intOf];omega
  have Hf:=fu hf;clear hf;go_wp2_with fail;refine(zw s1 s2 s3 p u ds _ (af hp D.lt) ((D.cell hp).H Z) (Hu.bl D) h0 hl Y).L ?_;rw[Hf.o];rintro e w'⟨rfl,F⟩;go_wp2;go_ret;exact⟨_,rfl,iff_of_true C ⟨_,Hm,Hf⟩,D.H F⟩
 go_wp2;go_ret;refine⟨_,rfl,iff_of_false C ?_,D⟩;rintro⟨y,hy,hz⟩;refine a1 y ?_ hz;rw[bI C];exact hy
theorem qq(b o c)(kJ)(p)(u)(ds)(w)(y:lK w b o kJ)(P:p<w.heap.size)(D:w.cell? (U p 0)=some u)(V:Sl w u (ds.map B8))(Y:0<ds.length)(Z:ds.length<=1100000000000)(F:∀d∈ds,0<=d/\d<=255)(hs:kJ.length<=1000):ib 261 #[dk (some (U b o)) kJ.length c,.func (.func 259) #[] #[O p]] w λe w'=>e=gG (.bool (kJ.any λs=>pH s.1 s.2.1 s.2.2 ds))/\Bl w w':=by
 go_enter func261,ntmps261;go_wp2_with fail;refine(zk b o c kJ p u ds _ y P D V Y Z F hs).L ?_;rintro e w'⟨n,rfl,M,H⟩;have Hn:=fu M;clear M;go_wp2;go_ret;refine⟨kG ?_,H⟩;rw[dr];simpa using Hn.o
end
section
def Tryz.Um(w)(a)(n c n' c'):(binOp .eql 40 (dk a n c) (dk none n' c')).run prog w=.ok (.bool a.isNone) w:=Lib.run_eql_slice_nil w _ _ a n c n' c' underlying40
theorem nY(v)(ys:List Int)(w)(hv:Bs w v (ys.map B8))(hl:ys.length<=1100000000000):ib 87 #[v] w λe w'=>∃v',e=gG v'/\Bl w w'/\w'.ownsRow w.heap.size 5 1 v' ys.length (ys.map B8):=by
 have M:=Tryz.Um;obtain⟨i5,ji,y,D,F⟩:=fx Tryz.Be;obtain⟨rfl,P⟩|⟨V,c,rfl,Y⟩:=hv
 .simp at P;subst P;go_enter func87,ntmps87;go_wp2;go_ret;exact⟨_,rfl,jo,mC⟩
 have HB:Hid (Bs w (dk (some V) (ys.map B8).length c) (ys.map B8)):= .inr ⟨V,c,rfl,Y⟩;have H:Hid ((0+(ys.map B8).length)*1<=140737488355328):=by unfold Hid;simp;omega
 have L:Hid (0+(ys.map B8).length<=maxLen):=by unfold Hid maxLen;simp;omega
 have HO:=fu (World.ownsRow_lit (base:=w.heap.size) (e:=5) (size:=1) w #[] 0 jc (by unfold maxLen;omega) rfl);clear Y;go_enter func87,ntmps87;go_wp2_with(at_builtin;refine mo _ rfl (.tmp 5) (.tmp 6) 40 rfl w.heap.size 5 i5 (.int .u8 0) 1 underlying40 ji y D F rfl _ 0 [] rfl HO _ _ rfl (HB.bl (jo.alloc _)) (CH ys) L H aq ?_);intro v' w' Z;have HG:=fu Z;clear Z;go_wp2;go_ret;refine⟨_,rfl,(jo.alloc _).B HG.only λn hn=>by simp[Value.ownBlock]at hn;omega,?_⟩;have:=HG.gZ;simpa using this
def ik(ys:List Int):ByteArray:=ys.foldl (λr n=>r.push (UInt8.ofNat n.toNat)) ByteArray.empty
theorem lC(u)(ys)(w)(L:Sl w u (ys.map B8)):(convert 40 9 u).run prog w=.ok (.string (ik ys)) w:=by
 have y:∀a c,(∀j v,(ys.map B8)[j]?=some v->w.cell? (a.add j)=some v)->(convert 40 9 (dk (some a) ys.length c)).run prog w=.ok (.string (ik ys)) w:=by intro a c h;have F:=run_loadCells_list (P:=prog) (w:=w) a (ys.map B8) h;rw[ay]at F;exact run_bytesToString w a ys.length c ys F
 obtain⟨a,c,rfl,H⟩|⟨b,o,c,rfl,V,M⟩:=L
 .simp at H;subst H
  cases a with
  |none=>rw[run_convert_bytes_string w 40 9 5 none 0 c underlying40 underlying5 underlying9];simp[Conv.bytesToString];rfl
  |some a=>exact y a c λj v h=>lY h
 rw[ay];refine y (U b o) c λj v h=>?_;obtain⟨D,rfl⟩:=aj.1 h;rw[mU];exact M j D
def AE(u v)(ys:List Int)(w)(y:Sl w u (ys.map B8))(D:Sl w v (ys.map B8)):Calls prog 231 #[u,v] w λe w'=>e=gG (.bool true)/\w'=w:=by
 obtain⟨a,c,e⟩:=y.len;obtain⟨L,c',e'⟩:=D.len;have F:=lC u ys w y;have H:=lC v ys w D;subst e e';simp at F H|-;go_wp2;go_ret;simp_all
def Ah(u)(ds:List Int)(w)(y:Sl w u (ds.map B8))(h:ds.length<3):Calls prog 262 #[u] w λe w'=>e=gG (.tuple #[I 0,.bool false])/\Bl w w':=by
 obtain⟨a,c,e⟩:=y.len;go_wp2;go_ret2;exact⟨rfl,jo⟩
theorem E7(u)(ds:List Int)(w)(H:Sl w u (ds.map B8))(h:3<=ds.length)(hl:ds.length<=1100000000000)(y:∀d∈ds,0<=d/\d<=255):ib 262 #[u] w λe w'=>e=gG (.tuple #[I (3+ds.getD 1 0*8+ds.getD 2 0),.bool (decide (3+ds.getD 1 0*8+ds.getD 2 0<=ds.length))])/\Bl w w':=by
 obtain⟨a,c,rfl,F⟩|⟨b,o,c,rfl,hb,D⟩:=H
 .simp at F;simp[F]at h
 have y1:=uW D 1 C;have y2:=uW D 2 C;have L:=y (ds.getD 1 0) (by rw[List.getD,ah C];exact aL _);have M:=y (ds.getD 2 0) (by rw[List.getD,ah C];exact aL _);generalize ds.getD 1 0=d1 at*;generalize ds.getD 2 0=d2 at*;obtain⟨P,V⟩:=L;obtain⟨Y,Z⟩:=M;simp only[ay]at D|-;clear D y;go_enter func262,ntmps262;go_wp2;go_quiet(fail);go_wp2;go_ret2;exact⟨rfl,jo.drewN _⟩
open Go.RowKit
attribute [local go_sem ↓] Go.wp_at_zero Go.wp_at_succ
def Tryz.sU:(prog.info? 3).map (λi=>(i.zero,i.size,i.bytes))=some (some (I 0),1,8):=rfl
def Ba(kd)(ns val):(iB kd ns val)[0]?=some kd:=rfl
def wk(kd)(ns val):(iB kd ns val)[1]?=some (ns.length:Int):=rfl
theorem M4(ns:List Int):∀(j i:Nat) (h:j<ns.length),i<8->(ns.flatMap rD)[8*j+i]?=(rD ns[j])[i]?:=by
 induction ns with
 |nil=>intro j i h;simp at h
 |cons n r y=>
  intro j i h D;rw[dP]
  cases j with
  |zero=>rw[aB (by rw[mL];omega)];simp
  |succ j=>rw[aC (by rw[mL];omega),mL,show 8*_+i-8=8*j+i by omega,y j i (iG h) D];simp
def NW(kd)(ns val)(j i)(h:j<ns.length)(y:i<8):(iB kd ns val)[3+8*j+i]?=(rD ns[j])[i]?:=by unfold iB;rw[aC gM,aB (by rw[sg];simp;omega),<-M4 ns j i h y];congr 1;simp;omega
def Me(kd)(ns val)(i):(iB kd ns val)[3+8*ns.length+i]?=val[i]?:=by unfold iB;rw[aC gM,aC (by rw[sg];simp;omega)];congr 1;rw[sg];simp;omega
def RQ(q l c l' c')(A B)(y:l=l')(D:c=c'):dk (if q=8 then some A else some B) l c=dk (some (if q=8 then A else B)) l' c':=by subst y D;split<;>rfl
def KD{wr W':World}{F:Int}{D V:Value}(H:Bl w wr)(y:Bl wr W')(L:wr.heap[w.heap.size]?=some (gO c0 320 (0,0)))(M:wr.heap[w.heap.size+1]?=some (gO #[I F,D,OO] 320 (0,0)))(P:wr.ownsRow w.heap.size 3 1 D k ys)(Y:W'.grownBy w3 D.ownBlock)(ho:w3.ownsRow w.heap.size 3 1 V n xs):Bl w (w3.setCell (U (w.heap.size+1) 1) V)/\(w3.setCell (U (w.heap.size+1) 1) V).heap[w.heap.size]?=some (gO c0 320 (0,0))/\(w3.setCell (U (w.heap.size+1) 1) V).heap[w.heap.size+1]?=some (gO #[I F,V,OO] 320 (0,0))/\(w3.setCell (U (w.heap.size+1) 1) V).ownsRow w.heap.size 3 1 V n xs:=by
 have la:=(ae.1 L).1;have lb:=(ae.1 M).1;have A3:w3.heap[w.heap.size]?=some (gO c0 320 (0,0)):=by rw[Y.block _ (af la y.lt) λe=>gJ P L au e.symm,y.heap la];exact L
 have B3:w3.heap[w.heap.size+1]?=some (gO #[I F,D,OO] 320 (0,0)):=by rw[Y.block _ (af lb y.lt) λe=>gJ P M au e.symm,y.heap lb];exact M
 refine⟨?_,?_,?_,?_⟩
 .have b3:Bl w w3:=(H.H y).B (bz.B Y) λb e=>(P.lt b e.symm).1;exact ZY b3 pK _
 .rw[Z8 _ _ _ _ aq];exact A3
 .exact fy w3 (w.heap.size+1) 1 _ 320 _ B3
 exact lD ho λb Z=>Z8 _ _ _ _ λe=>gJ ho B3 au (j4 Z e)
theorem Ol(b o c)(kd)(ns val)(w)(hb:b<w.heap.size)(hc:∀j d,(iB kd ns val)[j]?=some d->w.cell? (U b (o+j))=some (B8 d))(hm:(iB kd ns val).length<=c)(h0:0<=kd)(h1:kd<=255)(b3:1<=ns.length)(b4:ns.length<=255)(b5:val.length<=255)(ai:∀n∈ns,(Lit.int .i64 n).wf=true)(b6:c<=9223372036854775807):ib 263 #[dk (some (U b o)) (iB kd ns val).length c] w λe w'=>∃nv vv,e=gG (.agg #[I kd,nv,vv])/\Bl w w'/\w'.ownsRow w.heap.size 3 1 nv ns.length (ns.map I)/\w'.ownsRow w.heap.size 5 1 vv val.length (val.map B8):=by
 obtain⟨i3,ji,ak,al,am⟩:=fx Tryz.sU;have y0:=hc 0 _ (Ba kd ns val);have y1:=hc 1 _ (wk kd ns val);unfold B8 at y0 y1;rw[fj]at y0;have a8:=nO kd ns val;have Hc:=fu hc;clear hc;generalize hM:(iB kd ns val).length=m at*;obtain⟨HM,a9⟩:=fl hM a8;have b7:11<=m:=C;have b8:m<=3+8*255+255:=C;clear hM a8;have i1:(1:Int)<(m:Int):=C;have i0:(0:Int)<(m:Int):=C;have b9:(3:Int)<=(m:Int):=C;have i4:(m:Int)<=(c:Int):=C;go_enter func263,ntmps263;have c3:¬c=3:=C;have bR:Bl w ((w.alloc uX).alloc (gO #[I kd,OO,OO] 320)):=((Bl.refl w).alloc _).alloc _;have BR:=fu bR;have h2:=(fJ (w.alloc uX) (gO #[I kd,OO,OO] 320) w.heap.size aq).H (ao w _);have h3:((w.alloc uX).alloc (gO #[I kd,OO,OO] 320)).heap[w.heap.size+1]?=some (gO #[I kd,OO,OO] 320 (0,0)):=by have:=ao (w.alloc uX) (gO #[I kd,OO,OO] 320);simpa using this
 obtain⟨H2,H3⟩:=fl h2 h3;clear bR h2 h3;go_wp2;go_loopw[4,16](λrest i wr=>∃(j:Nat) (nv:Value) (ad:Addr),j<=ns.length/\i=I j/\rest=dk (some ad) (m-3-8*j) (c-3-8*j)/\(0<m-3-8*j->ad=(U b (o+3+8*j)))/\Bl w wr/\
  wr.heap[w.heap.size]?=some (gO #[I 0,OO,OO] 320 (0,0))/\wr.heap[w.heap.size+1]?=some (gO #[I kd,nv,OO] 320 (0,0))/\wr.ownsRow w.heap.size 3 1 nv j ((ns.take j).map I)) λ_ i _=>ns.length-(intOf i).toNat
 case atStart=>exact⟨0,_,_,C,rfl,rfl,λ_=>rfl,BR,H2,H3,mC⟩
 clear BR H2 H3;obtain⟨j,nv,ad,hj,rfl,rfl,kS,M,hA,hB,V⟩:=hrel;obtain⟨HA,HB,y⟩:=gV hA hB V;obtain⟨na,nc,en⟩:∃a c,nv=dk a j c:=by obtain⟨a',c',e'⟩:=(iC V).len;rw[iF V]at e';exact⟨a',c',e'⟩
 subst en;clear hA hB V;by_cases iV:j<ns.length
 .have Y:=a9.o;have ba:8<=m-3-8*j:=C;have aa:=kS C;subst aa;have bb:8<=c-3-8*j:=C;have a6:Hid (Sl wr (dk (some (U b (o+3+8*j))) 8 (c-3-8*j)) ((rD ns[j]).map B8)):=by
   refine .inr ⟨b,o+3+8*j,_,by rw[ay,mL],af hb M.lt,λi hi=>?_⟩;have ab:i<8:=by simpa [mL]using hi
   have:=Hc (3+8*j+i) _ ((NW kd ns val j i iV ab).H (ah (by rw[mL];exact ab)));rw[M.cell hb,show o+3+8*j+i=o+(3+8*j+i) by omega,this];simp
  obtain⟨an,Ht⟩:=fl (ai _ (aL iV)) (aM iV);have q1:=ax wr (w.heap.size+1) 1 _ 320 (0,0) HB;have f1:=aP wr (w.heap.size+1) 1 _ 320 HB;simp at q1;have lR:w.heap.size+1<wr.heap.size:=(ae.1 HB).1;have nR:=fu (gJ y HB au);have ap:Hid ((j+1)*8<=140737488355328):=lQ;have ar:Hid (j+1<=maxLen):=mQ;generalize ns[j]=nj at*;have bc:(8:Int)<=((c-3-8*j:Nat):Int):=C;have bd:(8:Int)<=((m-3-8*j:Nat):Int):=C;have be:((m-3-8*j:Nat):Int)<=((c-3-8*j:Nat):Int):=C;clear kS Y y0 y1;go_wp2;go_region_law
   ((first
     |(refine step_append_lies _ jz _ _ _ jz w.heap.size 3 i3 _ 1 8 underlying24 ji ak al am rfl C _ j _ jz ((y.alloc _).drew) (U wr.heap.size 0) 1 1 [I nj] jz jz (fW (cs:=#[I nj]) (t:=3) (fr:=(0,0)) (ao wr _)) qR C ar ap gM (wr.heap.size+1) aq ?_;intro gg cap w3 Z D av b1;have kc:=(zM (((Bl.refl wr).alloc _).drew) D (o:=1) lR nR).1.H q1;have kf:=(zM (((Bl.refl wr).alloc _).drew) D (o:=1) lR nR).2.H f1)
     |(go_simp;go_at_call 285;refine(Ge _ nj _ (by exact a6.bl (jo.drew)) an).L ?_;rintro e w'⟨rfl,rfl⟩)))
  all_goals
   have HP:=KD M (((Bl.refl wr).alloc _).drew) HA HB y D Z;obtain⟨P1,P2,P3,P4⟩:=ju HP.1 HP.2.1 HP.2.2.1 HP.2.2.2;clear HP D Z av kc kf HA HB y a6 M q1 f1;go_wp2
  all_goals
   go_roundw
   case rel=>refine⟨j+1,_,_,C,gX,RQ _ _ _ _ _ _ _ C C,λh=>?_,P1,P2,P3,by rw[Ht.o,aZ];exact P4⟩;rw[az C,show o+3+8*j+8=o+3+8*(j+1) by omega]
   case measure=>simp[intOf];omega
 have aw:j=ns.length:=C;subst aw;have Y:=a9.o;have a7:m-3-8*ns.length=val.length:=C;have HV:Hid (Bs wr (dk (some ad) (m-3-8*ns.length) (c-3-8*ns.length)) (val.map B8)):=by refine .inr ⟨ad,_,by rw[ay,a7],λi u hi=>?_⟩;rw[aK]at hi;obtain⟨d,hd,rfl⟩:=bN.1 hi;have bg:=(aj.1 hd).1;rw[kS C,mU,M.cell hb,show o+3+8*ns.length+i=o+(3+8*ns.length+i) by omega];exact Hc _ _ ((Me kd ns val i).H hd)
 obtain⟨q0,q1⟩:=rO HB 0 1 rfl;have lR:w.heap.size+1<wr.heap.size:=(ae.1 HB).1;clear kS Y y0 y1 a7;go_wp2_with fail;refine(nY _ val _ HV C).L ?_;rintro e w2⟨vv,rfl,b2,a3⟩;obtain⟨b0,a4,a5⟩:=gV ((iD b2).iJ y λ_ _ e=>e) ((b2.heap C).H HA) ((b2.heap lR).H HB);obtain⟨ac,ag⟩:=fl a3 (M.H b2);obtain⟨va,vc,ev⟩:∃a c,vv=dk a val.length c:=by obtain⟨a',c',e'⟩:=(iC a3).len;rw[iF a3]at e';exact⟨a',c',e'⟩
 subst ev;obtain⟨p0,p1,p2⟩:=px a5 0 1 2 rfl;have g2:=aP w2 (w.heap.size+1) 2 _ 320 a5;obtain⟨a0,a1,a2⟩:=px a4 0 1 2 rfl;obtain⟨k0,k1,k2⟩:=Au a4 0 1 2;simp at p0 p1 p2 a0 a1 a2;clear q0 q1 a3 b2 HV HA HB y M;go_wp2;have F:bz (λb=>b=w.heap.size\/b=w.heap.size+1) w2 _:=((((bz.refl (λb=>b=w.heap.size\/b=w.heap.size+1) w2).setCell (U (w.heap.size+1) 2) (.inl (.inr rfl)) (lI va val vc)).setCell (U w.heap.size 0) (.inl (.inl rfl)) (I kd)).setCell (U w.heap.size 1) (.inl (.inl rfl)) (lI na ns nc)).setCell (U w.heap.size 2) (.inl (.inl rfl)) (lI va val vc);refine aG (v:= .agg #[I kd,dk na ns.length nc,dk va val.length vc]) (by simp[results,results263,go_sem,a0,a1,a2]) rfl ⟨_,_,rfl,?_,?_,?_⟩
 .exact ag.B F (λn hn=>by obtain h|h:=hn<;>omega)
 .have ht:ns.take ns.length=ns:=bZ;have:=b0.o;rw[ht]at this;refine F.iJ this λb P e=>?_;obtain e|e:=e
  .exact gJ this a4 au (j4 P e)
  exact gJ this a5 au (j4 P e)
 have this:=gL (base':=w.heap.size) ac λb P=>aF C (ac.lt b P).1;refine F.iJ this λb P e=>?_;obtain e|e:=e
 .exact gJ this a4 au (j4 P e)
 exact gJ this a5 au (j4 P e)
end
section
structure Rc where
 kd:Int
 ns:List Int
 val:List Int
def Rc.bytes(r:Rc):List Int:=iB r.kd r.ns r.val
def gY(rs:List Rc):List Int:=rs.flatMap Rc.bytes
def JS(r)(rs):gY (r::rs)=r.bytes++gY rs:=rfl
def Rc.len(r:Rc):r.bytes.length=3+8*r.ns.length+r.val.length:=nO _ _ _
structure Rc.Ok(kJ:List (Int×Int×Int))(r:Rc):Prop where
 k0:0<=r.kd
 k1:r.kd<=255
 n0:1<=r.ns.length
 n1:r.ns.length<=255
 v1:r.val.length<=255
 wf:∀n∈r.ns,(Lit.int .i64 n).wf=true
 Tw:∀d∈r.val,0<=d/\d<=255
 fits:∃s∈kJ,s.1=r.kd/\s.2.1=r.ns.length/\(r.val.length:Int)<=s.2.2
def vB(n)(j):0<=rB n j/\rB n j<=255:=by unfold rB;omega
def Rc.range{kJ:List (Int×Int×Int)}{r:Rc}(h:r.Ok kJ):∀d∈r.bytes,0<=d/\d<=255:=by
 intro d hd;simp only[Rc.bytes,iB,aT,bh,dB,or_false,eB]at hd;have:=h.k0;have:=h.k1;have:=h.n1;have:=h.v1;obtain (rfl|rfl|rfl)|⟨n,_,hd⟩|hd:=hd
 .omega
 .omega
 .omega
 .simp only[rD,aD]at hd;obtain⟨j,_,rfl⟩:=hd;exact vB n j
 exact h.Tw d hd
def Rc.Mz{kJ:List (Int×Int×Int)}{r:Rc}(h:r.Ok kJ)(n)(L:0<n)(rest)(ds)(y:ds=(r.bytes++rest).take n):(kJ.any λs=>pH s.1 s.2.1 s.2.2 ds)=true:=by
 obtain⟨s,M,P,V,e3⟩:=h.fits;rw[cK];refine⟨s,M,?_⟩;have hl:=r.len;have Y:ds[0]?=some r.kd:=by rw[y,cZ,aE L,aB C];exact Ba _ _ _
 have Z:1<n->ds[1]?=some (r.ns.length:Int):=λD=>by rw[y,cZ,aE D,aB C];exact wk _ _ _
 have g2:2<n->ds[2]?=some (r.val.length:Int):=λF=>by rw[y,cZ,aE F,aB C];simp[Rc.bytes,iB]
 have H:ds.length<=n:=by rw[y];exact List.length_take_le _ _
 unfold pH;rw[bL,bL];refine⟨⟨by simp[List.getD,Y,P],?_⟩,?_⟩
 .by_cases D:ds.length<2
  .simp[D]
  simp[List.getD,Z C,V]
 by_cases F:ds.length<3
 .simp[F]
 simp[List.getD,g2 C];right;omega
open Go.RowKit
attribute [local go_sem ↓] Go.wp_at_zero Go.wp_at_succ
def Tryz.RX:(prog.info? 320).map (λi=>(i.zero,i.size,i.bytes))=some (some (.agg #[I 0,OO,OO]),3,56):=rfl
def off(rs:List Rc)(k:Nat):Nat:=(gY (rs.take k)).length
def sO(rs):off rs 0=0:=rfl
def kY(a b):gY (a++b)=gY a++gY b:=by simp[gY]
def qQ(rs)(k)(h:k<rs.length):off rs (k+1)=off rs k+rs[k].bytes.length:=by unfold off;rw[aM h,kY];simp[gY]
def IM(rs):off rs rs.length=(gY rs).length:=by simp[off]
def CK(rs)(k)(h:k<rs.length):gY rs=gY (rs.take k)++(rs[k].bytes++gY (rs.drop (k+1))):=by
 conv=>lhs;rw[<-dK k rs,cm h]
 rw[kY,JS]
def Oz(rs)(k)(h:k<rs.length):off rs k<(gY rs).length:=by have:=rs[k].len;rw[CK rs k h,aO,aO];unfold off;omega
def left(rs:List Rc)(n k:Nat)(h:k<rs.length):List Int:=(rs[k].bytes++gY (rs.drop (k+1))).take (n-off rs k)
def yT{rs:List Rc}(h:k<rs.length)(y:n<=(gY rs).length):(left rs n k h).length=n-off rs k:=by have e:=Z5 List.length (CK rs k h);rw[aO]at e;unfold left;rw[bH];unfold off;omega
def Eh{rs:List Rc}(h:k<rs.length)(j)(y:j<n-off rs k):(left rs n k h)[j]?=(gY rs)[off rs k+j]?:=by unfold left;have e:=CK rs k h;generalize rs[k].bytes++gY _=z at*;rw[cZ,aE y,e,aC (by unfold off;omega)];congr 1;unfold off;omega
def F5{kJ:List (Int×Int×Int)}{rs:List Rc}(h:k<rs.length)(y:∀r∈rs,r.Ok kJ):∀d∈left rs n k h,0<=d/\d<=255:=by
 intro d hd;have hd:=cQ hd;obtain hd|hd:=aT.1 hd
 .exact Rc.range (y _ (aL h)) d hd
 obtain⟨r,D,hd⟩:=eB.1 hd;exact Rc.range (y r (eC D)) d hd
def KG{rs:List Rc}(h:k<rs.length)(F:3<=n-off rs k):3+(left rs n k h).getD 1 0*8+(left rs n k h).getD 2 0=(rs[k].bytes.length:Int):=by
 have H:=rs[k].len;have y:(left rs n k h)[1]?=some (rs[k].ns.length:Int):=by unfold left;rw[cZ,aE C,aB C];exact wk _ _ _
 have D:(left rs n k h)[2]?=some (rs[k].val.length:Int):=by unfold left;rw[cZ,aE C];simp[Rc.bytes,iB]
 simp only[List.getD,y,D,eN];omega
structure rS(base:Nat)(w:World)(v:Value)(rs:List Rc)(xs:List Value):Prop where
 gZ:w.ownsRow base 320 3 v rs.length xs
 len:xs.length=3*rs.length
 ns:∀j,(h:j<rs.length)->∃nv,xs[3*j+1]?=some nv/\w.ownsRow base 3 1 nv rs[j].ns.length (rs[j].ns.map I)
 val:∀j,(h:j<rs.length)->∃vv,xs[3*j+2]?=some vv/\w.ownsRow base 5 1 vv rs[j].val.length (rs[j].val.map B8)
 kd:∀j,(h:j<rs.length)->xs[3*j]?=some (I rs[j].kd)
def rS.nil(base)(w):rS base w OO [] []:=⟨mC,rfl,λj h=>lY h,λj h=>lY h,λj h=>lY h⟩
def rS.only{base:Nat}{rs:List Rc}(h:rS base w v rs xs)(P:bz S w w')(V:∀b,b<w.heap.size->S b->base<=b->∃c e f,w.heap[b]?=some (gO c e f)/\e≠320/\e≠3/\e≠5):rS base w' v rs xs:=by
 have y:∀{e:TypeId} {size:Nat} {u:Value} {n:Nat} {ys:List Value},(e=320\/e=3\/e=5)->w.ownsRow base e size u n ys->w'.ownsRow base e size u n ys:=by intro e size u n ys Y D;refine P.iJ D λb M Z=>?_;obtain⟨F,H⟩:=D.lt b M;obtain⟨c,e',f,hh,n1,n2,n3⟩:=V b H Z F;refine gJ D hh ?_ M;obtain rfl|rfl|rfl:=Y<;>exact λh=>by subst h;contradiction
 refine⟨y (.inl rfl) h.gZ,h.len,λj L=>?_,λj L=>?_,h.kd⟩
 .obtain⟨nv,a,b⟩:=h.ns j L;exact⟨nv,a,y (.inr (.inl rfl)) b⟩
 obtain⟨vv,a,b⟩:=h.val j L;exact⟨vv,a,y (.inr (.inr rfl)) b⟩
def rS.bl{base:Nat}{rs:List Rc}(h:rS base w v rs xs)(y:Bl w w'):rS base w' v rs xs:=
 h.only (iD y) λ_ _ e=>e.elim
def rS.push{base:Nat}{V F H:Value}{rs:List Rc}{r:Rc}(h:rS base w v rs xs)(hn:w.ownsRow base 3 1 F r.ns.length (r.ns.map I))(hv:w.ownsRow base 5 1 H r.val.length (r.val.map B8))(P:w.grownBy w3 v.ownBlock)(Y:w3.ownsRow base 320 3 V (rs.length+1) (xs++[I r.kd,F,H])):rS base w3 V (rs++[r]) (xs++[I r.kd,F,H]):=by
 have D:∀{e:TypeId} {size:Nat} {u:Value} {n:Nat} {ys:List Value},e≠320->w.ownsRow base e size u n ys->w3.ownsRow base e size u n ys:=by intro e size u n ys Z M;exact(bz.B P).iJ M λb hb hS=>j6 h.gZ M (Ne.symm Z) b hS.symm hb
 have a0:=h.len;refine⟨by rw[aO];exact Y,by simp[h.len];omega,λj L=>?_,λj L=>?_,λj L=>?_⟩;all_goals
  rw[aO,dD]at L;by_cases y:j<rs.length
 .obtain⟨u,a,b⟩:=h.ns j y;rw[aB C];exact⟨u,a,by simp only[dI y];exact D au b⟩
 .obtain rfl:j=rs.length:=C;simp_all
 .obtain⟨u,a,b⟩:=h.val j y;rw[aB C];exact⟨u,a,by simp only[dI y];exact D au b⟩
 .obtain rfl:j=rs.length:=C;simp_all
 .rw[aB C];simp only[dI y];exact h.kd j y
 obtain rfl:j=rs.length:=C;rw[aC C,show 3*rs.length-xs.length=0 by omega];simp
theorem Ci(rs):∀k,k<=rs.length->3*k<=off rs k:=by
 intro k;induction k with
 |zero=>intro _;omega
 |succ k y=>intro h;rw[qQ rs k h];have:=rs[k].len;omega
def lenOf:Value->Nat
 | .slice _ n _=>n
 |_=>0
def Qx{wr:World}{rs:List Rc}{b o c:Nat}(D:b<w.heap.size)(F:n<=(gY rs).length)(M:∀j d,j<n->(gY rs)[j]?=some d->w.cell? (U b (o+j))=some (B8 d))(y:Bl w wr)(h:k<rs.length):Sl wr (dk (some (U b (o+off rs k))) (n-off rs k) (c-off rs k)) ((left rs n k h).map B8):=by refine .inr ⟨b,o+off rs k,_,by rw[ay,yT h F],af D y.lt,λi H=>?_⟩;rw[ay,yT h F]at H;have L:off rs k+i<(gY rs).length:=C;have e:=Eh h i H;rw[y.cell D,cG,M _ _ C (ah L)];rw[ah L]at e;have:=(aj.1 e).2;simp_all
theorem vS(ad)(b o c n bs os cs)(rs)(kJ)(w)(hn:n<=(gY rs).length)(bX:n<=c)(c1:n<=1100000000000)(c2:c<=9223372036854775807)(kS:0<n->ad=some (U b o)/\b<w.heap.size)(hc:∀j d,j<n->(gY rs)[j]?=some d->w.cell? (U b (o+j))=some (B8 d))(b5:lK w bs os kJ)(hs:kJ.length<=1000)(ok:∀r∈rs,r.Ok kJ):ib 233 #[dk ad n c,dk (some (U bs os)) kJ.length cs] w λe w'=>∃k v xs,e=gG (.tuple #[v,.bool true])/\k<=rs.length/\off rs k<=n/\(∀h:k<rs.length,n<off rs k+rs[k].bytes.length)/\rS w.heap.size w' v (rs.take k) xs/\Bl w w':=by
 obtain⟨bn,ji,bo,bq,bv⟩:=fx Tryz.RX;obtain⟨Hc,b6,a4⟩:=gV hc kS b5;obtain⟨Ok,Hn⟩:=fl ok hn;clear hc kS b5 ok hn;go_enter func233,ntmps233;have bR:Hid (Bl w (w.alloc (gO #[dk ad n c] 40))):=((Bl.refl w).alloc _);have hX:=fu (ao w (gO #[dk ad n c] 40));go_wp2;go_loopw[6](λv wr=>∃(k:Nat) (xs:List Value) (ad va:Option Addr) (vc:Nat),v=dk va k vc/\k<=rs.length/\off rs k<=n/\(0<n-off rs k->ad=some (U b (o+off rs k))/\b<w.heap.size)/\wr.heap[w.heap.size]?=some (gO #[dk ad (n-off rs k) (c-off rs k)] 40 (0,0))/\Bl w wr/\rS w.heap.size wr v (rs.take k) xs) λv _=>rs.length-lenOf v
 case atStart=>exact⟨0,[],ad,none,0,rfl,jd,by rw[sO];omega,by rw[sO];exact b6,by rw[sO];exact hX,bR,rS.nil _ _⟩
 clear bR hX b6;obtain⟨k,xs,c3,va,vc,rfl,hk,a5,kS,hX,P,hR⟩:=hrel;obtain⟨HX,HR⟩:=fl hX hR;have x0:=ax wr w.heap.size 0 _ 40 (0,0) hX;have xf:=aP wr w.heap.size 0 _ 40 hX;simp at x0;have lX:w.heap.size<wr.heap.size:=(ae.1 hX).1;clear hX hR;by_cases iV:off rs k<n
 .have y:k<rs.length:=by
   obtain h|h:=Nat.lt_or_ge k rs.length
   .exact h
   obtain rfl:k=rs.length:=C;have:=Hn.o;rw[IM]at iV;omega
  obtain⟨b7,hb⟩:=kS C;subst b7;obtain⟨HL,V,an⟩:=gV (Qx (c:=c) hb Hn Hc P y) (yT y Hn) (F5 (n:=n) y Ok);obtain⟨ag,b8⟩:=fl (Rc.Mz (Ok _ (aL y)) (n-off rs k) C (gY (rs.drop (k+1))) (left rs n k y) rfl) λh=>KG (n:=n) y h;have ai:Hid (lK wr bs os kJ):=⟨af a4.1 P.lt,λj h=>by rw[P.cell a4.1,P.cell a4.1,P.cell a4.1];exact a4.2 j h⟩;have bV:(0:Int)<((n-off rs k:Nat):Int):=C;clear kS;go_wp2_with fail;refine(qq bs os cs kJ w.heap.size _ (left rs n k y) wr ai lX x0 HL (qj V.o) (qj V.o) an hs).L ?_;rw[ag.o];rintro e w2⟨rfl,Y⟩;have x2:=(Y.cell lX).H x0;obtain⟨ap,ar,b9⟩:=gV (HL.bl Y) (HR.bl Y) ((Y.heap lX).H HX);have ak:=P.H Y;have a9:=af lX Y.lt;clear HL HR HX ai P Y x0 xf lX ag;by_cases h3:n-off rs k<3
  .go_wp2_with fail;refine gF (Ah _ (left rs n k y) w2 ap (jP V.o h3)) λw3 F=>?_;obtain⟨a6,D⟩:=fl (ar.bl F) (ak.H F);have av:Hid (n<off rs k+rs[k].bytes.length):=by have:=rs[k].len;unfold Hid;omega
   go_wp2;go_ret2;exact⟨k,_,xs,rfl,hk,a5,λ_=>av.o,a6,D⟩
  go_wp2_with fail;refine(E7 _ (left rs n k y) w2 ap (qj V.o) (qj V.o) an).L ?_;rw[b8.o C,V.o];rintro e w3⟨rfl,F⟩;obtain⟨a6,ba⟩:=fl (ar.bl F) ((F.heap a9).H b9);have x3:=(F.cell a9).H x2;have D:=ak.H F;have a1:=af a9 F.lt;by_cases c4:n-off rs k<rs[k].bytes.length
  .have Z:decide (((rs[k].bytes.length:Nat):Int)<=((n-off rs k:Nat):Int))=false:=gM;have av:Hid (n<off rs k+rs[k].bytes.length):=lQ;rw[Z];generalize hM:rs[k].bytes.length=m at*;have HM:=fu hM;clear hM;go_wp2;go_ret2;exact⟨k,_,xs,rfl,hk,a5,λ_=>jP HM.o av,a6,D⟩
  have Z:decide (((rs[k].bytes.length:Nat):Int)<=((n-off rs k:Nat):Int))=true:=gM;rw[Z];have aw:Hid (rs[k].bytes.length=(iB rs[k].kd rs[k].ns rs[k].val).length):=rfl;have bb:Hid (∀j d,(iB rs[k].kd rs[k].ns rs[k].val)[j]?=some d->w3.cell? (U b (o+off rs k+j))=some (B8 d)):=by intro j d hj;have bw:=(aj.1 hj).1;have bc:j<rs[k].bytes.length:=bw;have e:=Eh (n:=n) y j C;unfold left at e;rw[cZ,aE C,aB bc]at e;rw[D.cell hb,cG];exact Hc _ _ C (e.symm.H hj)
  obtain⟨a2,Ht,b0⟩:=gV (Ok _ (aL y)) (aM y) (qQ rs k y);have c5:3<=rs[k].bytes.length:=by have:=rs[k].len;omega
  have c6:((rs[k].bytes.length:Nat):Int)<=((c-off rs k:Nat):Int):=C;have c7:((rs[k].bytes.length:Nat):Int)<=((n-off rs k:Nat):Int):=C;generalize bd:rs[k]=r at*;have c8:=fu bd;clear bd;generalize hM:r.bytes.length=m at*;have HM:=fu hM;clear hM Z x2 ap ar b9 F a9;have b1:=fu (λ(bB:m<=c-off rs k)=>Ol b (o+off rs k) (c-off rs k) r.kd r.ns r.val w3 (af hb D.lt) bb (qO aw.o bB) a2.k0 a2.k1 a2.n0 a2.n1 a2.v1 a2.wf C);rw[<-aw.o]at b1;have be:Hid ((rs.take k).length=k):=by unfold Hid;rw[bH];omega
  clear bb aw an V b8;go_wp2_with fail;refine(b1 C).L ?_;rintro e w4⟨nv,vv,rfl,a3,a7,a8⟩;obtain⟨na,nc,en⟩:∃a c,nv=dk a r.ns.length c:=by obtain⟨a',c',e'⟩:=(iC a7).len;rw[iF a7]at e';exact⟨a',c',e'⟩
  subst en;obtain⟨wa,wc,ew⟩:∃a c,vv=dk a r.val.length c:=by obtain⟨a',c',e'⟩:=(iC a8).len;rw[iF a8]at e';exact⟨a',c',e'⟩
  subst ew;obtain⟨bg,bi,b2,aa⟩:=ju (gL (base':=w.heap.size) a7 λb b3=>aF (eS a1) (a7.lt b b3).1) (gL (base':=w.heap.size) a8 λb b3=>aF (eS a1) (a8.lt b b3).1) (a6.bl a3) ((a3.heap a1).H ba);have x4:=(a3.cell a1).H x3;have al:=fu (D.H a3);have ab:=af a1 a3.lt;have bl:=aP w4 w.heap.size 0 _ 40 aa;have a0:Hid (w4.ownsRow w.heap.size 320 3 (dk va k vc) k xs):=by have:=b2.gZ;rwa[be.o]at this
  have b4:=fu (gJ a0 aa au);have bC:Hid ((k+1)*56<=140737488355328):=by have:=Ci rs k hk;unfold Hid;omega
  have bD:Hid (k+1<=maxLen):=by have:=Ci rs k hk;unfold Hid maxLen;omega
  clear a7 a8 a3 a6 ba x3 D b1 a1;go_wp2_with(at_builtin;refine fm _ rfl _ _ 316 rfl w.heap.size 320 bn _ 3 56 underlying316 ji bo bq bv rfl au _ k xs rfl (a0.alloc _) (U w4.heap.size 0) 1 1 [I r.kd,dk na r.ns.length nc,dk wa r.val.length wc] rfl rfl (fW (cs:=#[I r.kd,dk na r.ns.length nc,dk wa r.val.length wc]) (t:=320) (fr:=(0,0)) (ao w4 _)) qR au bD bC gM (w4.heap.size+1) aq ?_);intro g cap w5 am M bE bW;have x5:=(zM ((Bl.refl w4).alloc _) M (o:=0) ab b4).1.H x4;have c9:=(zM ((Bl.refl w4).alloc _) M (o:=0) ab b4).2.H bl;obtain⟨ac,bm⟩:=fl M am;clear am M bE x4 bl;have bA:Bl w4 (w4.alloc (gO #[I r.kd,dk na r.ns.length nc,dk wa r.val.length wc] 320)):=(Bl.refl w4).alloc _;have X5:Hid (w5.heap[w.heap.size]?=some (gO #[dk (some (U b (o+off rs k))) (n-off rs k) (c-off rs k)] 40 (0,0))):=by show _=_;rw[ac.block _ (af ab bA.lt) λe=>b4.o e.symm,bA.heap ab];exact aa
  have B5:=fu (((al.H bA).B (bz.B ac) λb e=>(a0.lt b e.symm).1));have R5:=fu ((b2.bl bA).push ((iD bA).iJ bg λ_ _ e=>e) ((iD bA).iJ bi λ_ _ e=>e) ac (jP be.o bm));rw[<-Ht.o]at R5;clear ac bm bA aa b2 bg bi a0 al;go_wp2;refine⟨⟨k+1,xs++[I r.kd,dk na r.ns.length nc,dk wa r.val.length wc],if c-off rs k=m then some (U b (o+off rs k))else some (U b (o+off rs k+m)),G g,cap,rfl,C,qj b0.o,λh=>?_,?_,?_,?_⟩,by simp[lenOf];omega⟩
  .rw[b0.o]at h|-;rw[az C,cG];exact⟨rfl,hb⟩
  .rw[b0.o,<-fs,<-fs];exact fy w5 w.heap.size 0 _ 40 _ X5
  .exact ZY B5 jc _
  refine R5.only ((bz.refl (λb=>b=w.heap.size) w5).setCell _ (.inl rfl) _) λb _ e _=>?_;subst e;exact⟨_,_,_,X5,au,au,au⟩
 have bT:∀h:k<rs.length,Hid (n<off rs k+rs[k].bytes.length):=λh=>by have:=rs[k].len;unfold Hid;omega
 have hz:n-off rs k=0:=C;rw[hz]at x0;clear kS;go_wp2;go_ret2;exact⟨k,_,xs,rfl,hk,a5,λh=>(bT h).o,HR,P⟩
end
section
def oX(n m)(w)(y:1<=n)(D:n<=m):Calls prog 145 #[I n,I m] w λe w'=>e=gG (.bool true)/\w'=w:=by
 go_wp2;go_ret;simp_all
theorem Is(n m)(w)(h:n<1\/m<n):Calls prog 145 #[I n,I m] w λe w'=>e=gG (.bool false)/\w'=w:=by
 by_cases y:1<=n
 .have D:decide (n<=m)=false:=gM;clear h;go_wp2;go_ret;exact⟨rfl,rfl⟩
 clear h;go_enter func145,ntmps145;go_wp2;go_ret;exact⟨rfl,rfl⟩
theorem JD(a b c d)(w)(y:1<=a)(D:a<=3)(F:1<=b)(H:b<=3)(M:1<=c)(P:c<=5)(Z:c%2=1)(V:1<=d)(Y:d<=16):ib 80 #[.agg #[I a,I b,I c,I d]] w λe w'=>e=gG (.bool true)/\Bl w w':=by
 go_enter func80,ntmps80;go_wp2_with fail;refine(oX a 3 _ y D).L ?_;rintro e w'⟨rfl,rfl⟩;go_wp2_with fail;refine(oX b 3 _ F H).L ?_;rintro e w'⟨rfl,rfl⟩;go_wp2_with fail;refine(oX c 5 _ M P).L ?_;rintro e w'⟨rfl,rfl⟩;go_wp2_with fail;refine(oX d 16 _ V Y).L ?_;rintro e w'⟨rfl,rfl⟩;go_wp2;go_ret;exact⟨rfl,jo.alloc _⟩
theorem Ku(a b c d)(w)(h:a<1\/3<a):ib 80 #[.agg #[I a,I b,I c,I d]] w λe w'=>e=gG (.bool false)/\Bl w w':=by
 go_enter func80,ntmps80;go_wp2_with fail;refine(Is a 3 _ h).L ?_;rintro e w'⟨rfl,rfl⟩;go_wp2;go_ret;exact⟨rfl,jo.alloc _⟩
theorem KE(a b c d)(w)(y:1<=a)(D:a<=3)(h:b<1\/3<b):ib 80 #[.agg #[I a,I b,I c,I d]] w λe w'=>e=gG (.bool false)/\Bl w w':=by
 go_enter func80,ntmps80;go_wp2_with fail;refine(oX a 3 _ y D).L ?_;rintro e w'⟨rfl,rfl⟩;go_wp2_with fail;refine(Is b 3 _ h).L ?_;rintro e w'⟨rfl,rfl⟩;go_wp2;go_ret;exact⟨rfl,jo.alloc _⟩
theorem Li(a b c d)(w)(y:1<=a)(D:a<=3)(F:1<=b)(H:b<=3)(h:c<1\/5<c):ib 80 #[.agg #[I a,I b,I c,I d]] w λe w'=>e=gG (.bool false)/\Bl w w':=by
 go_enter func80,ntmps80;go_wp2_with fail;refine(oX a 3 _ y D).L ?_;rintro e w'⟨rfl,rfl⟩;go_wp2_with fail;refine(oX b 3 _ F H).L ?_;rintro e w'⟨rfl,rfl⟩;go_wp2_with fail;refine(Is c 5 _ h).L ?_;rintro e w'⟨rfl,rfl⟩;go_wp2;go_ret;exact⟨rfl,jo.alloc _⟩
theorem LA(a b c d)(w)(y:1<=a)(D:a<=3)(F:1<=b)(H:b<=3)(M:1<=c)(P:c<=5)(h:¬c%2=1):ib 80 #[.agg #[I a,I b,I c,I d]] w λe w'=>e=gG (.bool false)/\Bl w w':=by
 have V:(c%2==1)=false:=gM;clear h;go_enter func80,ntmps80;go_wp2_with fail;refine(oX a 3 _ y D).L ?_;rintro e w'⟨rfl,rfl⟩;go_wp2_with fail;refine(oX b 3 _ F H).L ?_;rintro e w'⟨rfl,rfl⟩;go_wp2_with fail;refine(oX c 5 _ M P).L ?_;rintro e w'⟨rfl,rfl⟩;go_wp2;go_ret;exact⟨rfl,jo.alloc _⟩
theorem JV(a b c d)(w)(y:1<=a)(D:a<=3)(F:1<=b)(H:b<=3)(M:1<=c)(P:c<=5)(V:c%2=1)(h:d<1\/16<d):ib 80 #[.agg #[I a,I b,I c,I d]] w λe w'=>e=gG (.bool false)/\Bl w w':=by
 go_enter func80,ntmps80;go_wp2_with fail;refine(oX a 3 _ y D).L ?_;rintro e w'⟨rfl,rfl⟩;go_wp2_with fail;refine(oX b 3 _ F H).L ?_;rintro e w'⟨rfl,rfl⟩;go_wp2_with fail;refine(oX c 5 _ M P).L ?_;rintro e w'⟨rfl,rfl⟩;go_wp2_with fail;refine(Is d 16 _ h).L ?_;rintro e w'⟨rfl,rfl⟩;go_wp2;go_ret;exact⟨rfl,jo.alloc _⟩
def mI(a b c d:Int):Bool:=decide ((1<=a/\a<=3)/\(1<=b/\b<=3)/\(1<=c/\c<=5)/\c%2=1/\(1<=d/\d<=16))
def mw(a b c d)(w):ib 80 #[.agg #[I a,I b,I c,I d]] w λe w'=>e=gG (.bool (mI a b c d))/\Bl w w':=by
 by_cases y:1<=a/\a<=3
 .by_cases D:1<=b/\b<=3
  .by_cases F:1<=c/\c<=5
   .by_cases H:c%2=1
    .by_cases L:1<=d/\d<=16
     .rw[show mI a b c d=true from by simp[mI, *]];exact JD a b c d w y.1 y.2 D.1 D.2 F.1 F.2 H L.1 L.2
     rw[show mI a b c d=false from by simp[mI];omega];exact JV a b c d w y.1 y.2 D.1 D.2 F.1 F.2 H C
    rw[show mI a b c d=false from by simp[mI];omega];exact LA a b c d w y.1 y.2 D.1 D.2 F.1 F.2 H
   rw[show mI a b c d=false from by simp[mI];omega];exact Li a b c d w y.1 y.2 D.1 D.2 C
  rw[show mI a b c d=false from by simp[mI];omega];exact KE a b c d w y.1 y.2 C
 rw[show mI a b c d=false from by simp[mI];omega];exact Ku a b c d w C
def n9(a b c d x:Int):Int×Int×Int:=
 if mI a b c d=true then(if x<0\/a*d<=x then(0,0,2)else(x%a,x/a,0))else(0,0,1)
def rY{a b c:Int}(h:mI a b c d=true):1<=a/\a<=3/\1<=d/\d<=16:=by simp[mI]at h;omega
def I4(r:Int×Int×Int):Ending:=gG (.tuple #[I r.1,I r.2.1,I r.2.2])
def qG{a:Int}(y:1<=a)(D:a<=3)(F:1<=d)(H:d<=16):1<=a*d/\a*d<=48:=by have:=Int.mul_le_mul D H C C;have:=Int.mul_le_mul y F C C;omega
theorem kM(a b c d x)(w):ib 88 #[.agg #[I a,I b,I c,I d],I x] w λe w'=>e=I4 (n9 a b c d x)/\Bl w w':=by
 cases D:mI a b c d
 .go_enter func88,ntmps88;go_wp2_with fail;refine gF (mw a b c d _) λw' y=>?_;go_wp2;go_ret3;exact⟨by simp[I4,n9,D],(jo.alloc _).H y⟩
 obtain⟨Z,h2,h3,h4⟩:=rY D;have hm:=qG Z h2 h3 h4;by_cases V:x<0
 .have F:Hid (n9 a b c d x=(0,0,2)):=by simp[Hid,n9,D,V]
  go_enter func88,ntmps88;go_wp2_with fail;refine gF (mw a b c d _) λw' y=>?_;have L:=(y.cell (b:=w.heap.size) (o:=0) aq);have M:=(y.cell (b:=w.heap.size) (o:=3) aq);go_wp2;go_ret3;exact⟨by rw[F.o];rfl,(jo.alloc _).H y⟩
 by_cases P:a*d<=x
 .have F:Hid (n9 a b c d x=(0,0,2)):=by simp[Hid,n9,D,P]
  go_enter func88,ntmps88;go_wp2_with fail;refine gF (mw a b c d _) λw' y=>?_;have L:=(y.cell (b:=w.heap.size) (o:=0) aq);have M:=(y.cell (b:=w.heap.size) (o:=3) aq);go_wp2;go_ret3;exact⟨by rw[F.o];rfl,(jo.alloc _).H y⟩
 have F:Hid (n9 a b c d x=(x%a,x/a,0)):=by simp[Hid,n9,D,P,V]
 have a0:0<=x:=C;have a1:x<48:=C;have Y:decide (a*d<=x)=false:=iG P;have a2:(a==0)=false:=gM;go_enter func88,ntmps88;go_wp2_with fail;refine gF (mw a b c d _) λw' y=>?_;have L:=(y.cell (b:=w.heap.size) (o:=0) aq);have M:=(y.cell (b:=w.heap.size) (o:=3) aq);go_wp2;go_quiet(fail);go_wp2;go_ret3;exact⟨by rw[F.o];rfl,((jo.alloc _).H y).drewN _⟩
def BP{a b c:Int}(h:mI a b c d=true):1<=b/\b<=3:=by simp[mI]at h;omega
def yY(a b c d u:Int):Int×Int:=
 if mI a b c d=true then(if u<0\/a*b<=u then(0,1)else(u/b,0))else(0,1)
def M1(r:Int×Int):Ending:=gG (.tuple #[I r.1,I r.2])
theorem ts(a b c d u)(w):ib 90 #[.agg #[I a,I b,I c,I d],I u] w λe w'=>e=M1 (yY a b c d u)/\Bl w w':=by
 cases D:mI a b c d
 .go_enter func90,ntmps90;go_wp2_with fail;refine gF (mw a b c d _) λw' y=>?_;go_wp2;go_ret2;exact⟨by simp[M1,yY,D],(jo.alloc _).H y⟩
 obtain⟨Z,h2,_,_⟩:=rY D;obtain⟨h3,h4⟩:=BP D;have hm:=qG Z h2 h3 C;by_cases V:u<0
 .have F:Hid (yY a b c d u=(0,1)):=by simp[Hid,yY,D,V]
  go_enter func90,ntmps90;go_wp2_with fail;refine gF (mw a b c d _) λw' y=>?_;have L:=(y.cell (b:=w.heap.size) (o:=0) aq);have M:=(y.cell (b:=w.heap.size) (o:=1) aq);go_wp2;go_ret2;exact⟨by rw[F.o];rfl,(jo.alloc _).H y⟩
 by_cases P:a*b<=u
 .have F:Hid (yY a b c d u=(0,1)):=by simp[Hid,yY,D,P]
  go_enter func90,ntmps90;go_wp2_with fail;refine gF (mw a b c d _) λw' y=>?_;have L:=(y.cell (b:=w.heap.size) (o:=0) aq);have M:=(y.cell (b:=w.heap.size) (o:=1) aq);go_wp2;go_ret2;exact⟨by rw[F.o];rfl,(jo.alloc _).H y⟩
 have F:Hid (yY a b c d u=(u/b,0)):=by simp[Hid,yY,D,P,V]
 have a0:0<=u:=C;have a1:u<48:=C;have Y:decide (a*b<=u)=false:=iG P;have a2:(b==0)=false:=gM;go_enter func90,ntmps90;go_wp2_with fail;refine gF (mw a b c d _) λw' y=>?_;have L:=(y.cell (b:=w.heap.size) (o:=0) aq);have M:=(y.cell (b:=w.heap.size) (o:=1) aq);go_wp2;go_ret2;exact⟨by rw[F.o];rfl,(jo.alloc _).H y⟩
open Go.RowKit
attribute [local go_sem ↓] Go.wp_at_zero Go.wp_at_succ
def kJ:List (Int×Int×Int):=[(1,1,0),(2,2,0),(3,5,8)]
theorem Hy(w):ib 184 #[] w λe w'=>e=gG (dk (G w.heap.size) 3 3)/\lK w' w.heap.size 0 kJ/\Bl w w':=by
 go_enter func184,ntmps184;go_wp2;go_ret;refine⟨rfl,⟨aq,λj h=>?_⟩,jo.alloc _⟩;have y:j=0\/j=1\/j=2:=by simp[kJ]at h;omega
 obtain rfl|rfl|rfl:=y<;>simp[kJ,go_sem]
def qd(kd:Int)(n:Nat):Bool:=if kd=8 then decide (1<=n/\n<=8)else if kd=9 then decide (n=0)else false
theorem qH(kd cl ca)(a)(n c)(w)(M:n<=1100000000000):ib 225 #[.agg #[I kd,I cl,I ca,dk a n c]] w λe w'=>e=gG (.bool (qd kd n))/\Bl w w':=by
 by_cases y:kd=8
 .subst y;by_cases P:1<=n
  .by_cases V:n<=8;all_goals
    have F:Hid (qd 8 n=decide (n<=8)):=by simp[Hid,qd];omega
    go_enter func225,ntmps225;go_wp2;go_ret;exact⟨kG (by rw[F.o];simp;try omega),jo.alloc _⟩
  have F:Hid (qd 8 n=false):=by simp[Hid,qd];omega
  have H:n=0:=C;subst H;go_enter func225,ntmps225;go_wp2;go_ret;exact⟨kG (qz F.o),jo.alloc _⟩
 by_cases D:kd=9
 .subst D;clear y;by_cases L:n=0
  .subst L;go_enter func225,ntmps225;go_wp2;go_ret;exact⟨kG rfl,jo.alloc _⟩
  have F:Hid (qd 9 n=false):=by simp[Hid,qd,L]
  have Y:((n:Int)==0)=false:=iG L;go_enter func225,ntmps225;go_wp2;go_ret;exact⟨kG (qz F.o),jo.alloc _⟩
 have F:Hid (qd kd n=false):=by simp[Hid,qd,y,D]
 have Z:(kd==8)=false:=iG y;have e9:(kd==9)=false:=iG D;clear y D;go_enter func225,ntmps225;go_wp2;go_ret;exact⟨kG F.symm,jo.alloc _⟩
theorem ze(kd cl ca)(v)(ys:List Int)(w)(hv:Bs w v (ys.map B8))(hl:ys.length<=1100000000000):ib 258 #[.agg #[I kd,I cl,I ca,v]] w λe w'=>∃v',e=gG (.agg #[I kd,I cl,I ca,v'])/\Bl w w'/\w'.ownsRow w.heap.size 5 1 v' ys.length (ys.map B8):=by
 obtain⟨a,c,e⟩:=hv.len;rw[ay]at e;subst e;have Hv:=fu hv;clear hv;go_enter func258,ntmps258;have bW:Bl w ((w.alloc (gO #[I kd,I cl,I ca,dk a ys.length c] 91)).alloc (gO #[I 0,I 0,I 0,OO] 91)):=((Bl.refl w).alloc _).alloc _;have hA:=(fJ (w.alloc (gO #[I kd,I cl,I ca,dk a ys.length c] 91)) (gO #[I 0,I 0,I 0,OO] 91) w.heap.size aq).H (ao w _);have hB:((w.alloc (gO #[I kd,I cl,I ca,dk a ys.length c] 91)).alloc (gO #[I 0,I 0,I 0,OO] 91)).heap[w.heap.size+1]?=some (gO #[I 0,I 0,I 0,OO] 91 (0,0)):=by have:=ao (w.alloc (gO #[I kd,I cl,I ca,dk a ys.length c] 91)) (gO #[I 0,I 0,I 0,OO] 91);simpa using this
 obtain⟨Z,HA,HB⟩:=gV bW hA hB;clear bW hA hB;go_wp2_with fail;refine(nY _ ys _ (Hv.bl Z) hl).L ?_;rintro e w2⟨vv,rfl,b2,y⟩;obtain⟨va,vc,ev⟩:∃a c,vv=dk a ys.length c:=by obtain⟨a',c',e'⟩:=(iC y).len;rw[iF y]at e';exact⟨a',c',e'⟩
 subst ev;have lB:=(ae.1 HB).1;obtain⟨M,P,V,Y⟩:=ju ((b2.heap (eR (fo _) lB)).H HA) ((b2.heap lB).H HB) y (Z.H b2);have a4:=Z.lt;obtain⟨a0,a1,a2,a3⟩:=nN M 0 1 2 3 rfl;have f3:=aP w2 w.heap.size 3 _ 91 M;obtain⟨p0,p1,p2,p3⟩:=nN P 0 1 2 3 rfl;obtain⟨g0,g1,g2,g3⟩:=xj P 0 1 2 3;simp at a0 a1 a2 a3 p0 p1 p2 p3;clear y b2 Z HA HB lB;go_wp2;have F:bz (λb=>b=w.heap.size\/b=w.heap.size+1) w2 _:=(((((bz.refl (λb=>b=w.heap.size\/b=w.heap.size+1) w2).setCell (U w.heap.size 3) (.inl (.inl rfl)) (dk va ys.length vc)).setCell (U (w.heap.size+1) 0) (.inl (.inr rfl)) (I kd)).setCell (U (w.heap.size+1) 1) (.inl (.inr rfl)) (I cl)).setCell (U (w.heap.size+1) 2) (.inl (.inr rfl)) (I ca)).setCell (U (w.heap.size+1) 3) (.inl (.inr rfl)) (dk va ys.length vc);refine aG (v:= .agg #[I kd,I cl,I ca,dk va ys.length vc]) (by simp[results,results258,go_sem,p0,p1,p2,p3]) rfl ⟨_,rfl,?_,?_⟩
 .exact Y.B F (λn hn=>by obtain h|h:=hn<;>omega)
 have this:=gL (base':=w.heap.size) V λb D=>aF a4 (V.lt b D).1;refine F.iJ this λb D e=>?_;obtain e|e:=e
 .exact gJ this M au (j4 D e)
 exact gJ this P au (j4 D e)
end
section
def At(w:World)(p:Nat)(K:Nat->Value):Prop:=
 ∃arr t,w.heap[p]?=some (.cells arr t (0,0))/\(t=248\/t=250)/\∀i,i<72->arr[i]?=some (K i)
def tZ(K:Nat->Value)(i:Nat)(u:Value):Nat->Value:=λj=>if j=i then u else K j
def lO(K)(i)(u):tZ K i u i=u:=by simp[tZ]
def iK(K)(i j)(u)(h:j≠i):tZ K i u j=K j:=by simp[tZ,h]
def At.lt{p:Nat}(h:At w p K):p<w.heap.size:=by obtain⟨y,t,D,_⟩:=h;exact(ae.1 D).1
def At.cell{p:Nat}(h:At w p K)(i)(y:i<72):w.cell? (U p i)=some (K i):=by obtain⟨D,t,F,_,H⟩:=h;rw[ax w p i _ t _ F];exact H i y
def At.frozen{p:Nat}(h:At w p K)(i):w.frozen? (U p i)=false:=by obtain⟨y,t,D,_,F⟩:=h;exact aP w p i _ t D
def At.ox{p:Nat}(h:At w p K)(e:w'.heap[p]?=w.heap[p]?):At w' p K:=by obtain⟨y,t,D,r⟩:=h;exact⟨y,t,e.H D,r⟩
def At.only{p:Nat}(h:At w p K)(y:bz S w w')(D:¬S p):At w' p K:=h.ox (y.block p h.lt D)
def At.bl{p:Nat}(h:At w p K)(y:Bl w w'):At w' p K:=h.ox (y.heap h.lt)
def At.set{p:Nat}(h:At w p K)(i)(u):At (w.setCell (U p i) u) p (tZ K i u):=by
 obtain⟨F,t,H,L,y⟩:=h;refine⟨_,t,cH w p i _ t u H,L,λj D=>?_⟩;unfold tZ;rw[fD];have M:=(ae.1 (y j D)).1;by_cases e:i=j
 .simp_all
 rw[az e,az (Ne.symm e)];exact y j D
def At.nG{p:Nat}(h:At w p K){base:Nat}{size:Nat}(y:w.ownsRow base e size v n xs)(L:e≠248/\e≠250):v.ownBlock≠some p:=by obtain⟨D,t,F,H,_⟩:=h;refine gJ y F ?_;obtain rfl|rfl:=H;all_goals simp_all
def jr(wh ep mk kd cl ca:Int)(v:Value):Value:= .agg #[I wh,I ep,I mk,I kd,I cl,I ca,v]
theorem rK(p)(K)(ep)(w)(h:At w p K)(y:K 5=I ep):ib 222 #[O p] w λe w'=>e=gG (jr 5 ep 0 0 0 0 OO)/\Bl w w':=by
 have F:=h.lt;have D:=h.cell 5 au;rw[y]at D;clear h y;go_enter func222,ntmps222;go_wp2;exact aG (by simp[results,results222,go_sem,jr]) rfl ⟨rfl,jo.alloc _⟩
structure AH(base:Nat)(w w':World)(p:Nat)(K:Nat->Value)(v v':Value)(n:Nat)(xs:List Value):Prop where
 f:At w' p (tZ K 71 v')
 gZ:w'.ownsRow base 5 1 v' n xs
 only:bz (λb=>b=p\/v.ownBlock=some b) w w'
 h:∀b,v'.ownBlock=some b->v.ownBlock=some b\/w.heap.size<=b
def AH.of{base:Nat}{p:Nat}(D:Bl w W)(h:At w' p K)(y:ph base 5 W w' v v' n xs):AH base w (w'.setCell (U p 71) v') p K v v' n xs where
 f:=h.set 71 v'
 gZ:=((bz.refl (λb=>b=p) w').setCell (U p 71) (.inl rfl) v').iJ y.gZ λb e e'=>h.nG y.gZ au (j4 e e')
 only:=((bz.E D).H (y.only.L λb _ e=>.inr e)).setCell (U p 71) (.inl (.inl rfl)) v'
 h:=λb e=>(y.h b e).imp id λh=>aF D.lt h
structure Kept(base:Nat)(w w':World)(p o:Nat)(v v':Value)(n:Nat)(xs:List Value):Prop where
 ex:∃W w1,Bl w W/\ph base 5 W w1 v v' n xs/\w'=w1.setCell (U p o) v'
theorem yt(base p o)(arr)(t)(v)(k)(xs)(kd)(nv vv)(ns val)(w)(h:w.heap[p]?=some (gO arr t (0,0)))(hi:arr[o]?=some v)(ht:5≠t)(M:w.ownsRow base 5 1 v k xs)(hb:base<=w.heap.size)(hk:k<=1000000000000)(F:Bs w nv (ns.map I))(y:Bs w vv (val.map B8))(h0:0<=kd)(h1:kd<=255)(a4:ns.length<=255)(a5:val.length<=255)(V:∀b,v.ownBlock=some b->nv.ownBlock≠some b)(Y:∀b,v.ownBlock=some b->vv.ownBlock≠some b)(Z:∀b,nv.ownBlock=some b->b<w.heap.size)(a0:∀b,vv.ownBlock=some b->b<w.heap.size):ib 257 #[.pointer (some (U p o)),.agg #[I kd,nv,vv]] w λe w'=>∃v',e=gS/\Kept base w w' p o v v' (k+(iB kd ns val).length) (xs++(iB kd ns val).map B8):=by
 have hp:p<w.heap.size:=(ae.1 h).1;have a7:w.cell? (U p o)=some v:=by rw[ax w p o _ t (0,0) h];exact hi
 have a8:w.frozen? (U p o)=false:=aP w p o _ t h;have H:=fu h;obtain⟨na,nc,en⟩:=F.len;obtain⟨va,vc,ev⟩:=y.len;simp only[ay]at en ev;subst en ev;obtain⟨ia,ic,ei⟩:∃a c,v=dk a k c:=by obtain⟨a',c',e'⟩:=(iC M).len;rw[iF M]at e';exact⟨a',c',e'⟩
 have Hi:=fu hi;clear hi;subst ei;have a6:=fu (gJ M h ht);have HB:Hid (∀W w' v' n' a1,Bl (w.alloc (zS kd na ns nc va val vc)) W->ph base 5 W w' (dk ia k ic) v' n' a1->w'.cell? (U p o)=some (dk ia k ic)/\w'.frozen? (U p o)=false):=by intro W w' v' n' a1 D P;have a2:=((Bl.refl w).alloc (zS kd na ns nc va val vc)).H D;have a3:=(P.only.block p (af hp a2.lt) a6).H ((a2.heap hp).H h);exact⟨by rw[ax w' p o _ t (0,0) a3];exact Hi,aP w' p o _ t a3⟩
 clear h;have lA:(w.alloc (zS kd na ns nc va val vc)).heap.size=w.heap.size+1:=aq;have Hr:Hid (∀W,Bl (w.alloc (zS kd na ns nc va val vc)) W->_):=λW D=>mT base (dk ia k ic) k xs kd (lI na ns nc) (lI va val vc) ns val W ((iD D).iJ (M.alloc _) λ_ _ e=>e) (gI D.lt) hk (F.bl ((jo.alloc _).H D)) (y.bl ((jo.alloc _).H D)) h0 h1 a4 a5 V Y (λb e=>by have:=Z b e;have:=D.lt;omega) (λb e=>by have:=a0 b e;have:=D.lt;omega);have Hv:=fu M;clear M F y V Y Z a0;go_enter func257,ntmps257;go_wp2;go_region_with(go_at_call 234;refine(Hr _ (by exact jo.drewN _)).L ?_;rintro e w'⟨v',rfl,P⟩;obtain⟨a',c',e'⟩:=P.E;subst e';obtain⟨c1,f1⟩:=HB _ _ _ _ _ (by exact jo.drewN _) P;have HG:=fu P;clear P);all_goals
  go_end0;exact⟨_,rfl,⟨_,_,(jo.alloc _).drew,HG,rfl⟩⟩
def yj(base p)(K)(v)(k)(xs)(kd)(nv vv)(ns val)(w)(h:At w p K)(hi:K 71=v)(hv:w.ownsRow base 5 1 v k xs)(hb:base<=w.heap.size)(hk:k<=1000000000000)(D:Bs w nv (ns.map I))(y:Bs w vv (val.map B8))(h0:0<=kd)(h1:kd<=255)(F:ns.length<=255)(H:val.length<=255)(M:∀b,v.ownBlock=some b->nv.ownBlock≠some b)(P:∀b,v.ownBlock=some b->vv.ownBlock≠some b)(V:∀b,nv.ownBlock=some b->b<w.heap.size)(Y:∀b,vv.ownBlock=some b->b<w.heap.size):ib 257 #[.pointer (some (U p 71)),.agg #[I kd,nv,vv]] w λe w'=>∃v',e=gS/\AH base w w' p K v v' (k+(iB kd ns val).length) (xs++(iB kd ns val).map B8):=by
 obtain⟨Z,t,hh,ht,hc⟩:=id h;refine(yt base p 71 Z t v k xs kd nv vv ns val w hh (by rw[hc 71 au,hi]) (by obtain rfl|rfl:=ht<;>decide) hv hb hk D y h0 h1 F H M P V Y).L ?_;rintro e w'⟨v',rfl,⟨W,w1,hW,hG,rfl⟩⟩;exact⟨v',rfl,AH.of hW ((h.bl hW).only hG.only (h.nG hv au)) hG⟩
open Go.RowKit
attribute [local go_sem ↓] Go.wp_at_zero Go.wp_at_succ
structure Ct where
 kd:Int
 cl:Int
 ca:Int
 val:List Int
structure Ks(base:Nat)(w:World)(p:Nat)(a b c d ch ep mk:Int)(ct:Nat->Ct)(iT:List Int)(K:Nat->Value):Prop where
 f:At w p K
 k0:K 0=I a
 k1:K 1=I b
 k2:K 2=I c
 k3:K 3=I d
 k4:K 4=I ch
 k5:K 5=I ep
 k6:K 6=I mk
 gZ:w.ownsRow base 5 1 (K 71) iT.length (iT.map B8)
 kd:∀i,i<16->K (7+4*i)=I (ct i).kd
 cl:∀i,i<16->K (8+4*i)=I (ct i).cl
 ca:∀i,i<16->K (9+4*i)=I (ct i).ca
 val:∀i,i<16->w.ownsRow base 5 1 (K (10+4*i)) (ct i).val.length ((ct i).val.map B8)
 lM:∀i,i<16->∀g,(K (10+4*i)).ownBlock=some g->(K 71).ownBlock≠some g
def KF(K:Nat->Value)(g:Nat):Prop:=(K 71).ownBlock=some g\/∃i,i<16/\(K (10+4*i)).ownBlock=some g
structure Gk(p:Nat)(K K':Nat->Value)(w w':World):Prop where
 only:bz (λb=>b=p\/(K 71).ownBlock=some b) w w'
 h:∀g,KF K' g->KF K g\/w.heap.size<=g
def Gk.refl(p)(K)(w):Gk p K K w w:=⟨sQ,λ_ h=>.inl h⟩
def Gk.E{p:Nat}(h:Bl w w'):Gk p K K w w':=⟨bz.E h,λ_ h=>.inl h⟩
def Gk.F{p:Nat}(h:Gk p K K' W w')(y:Bl w W):Gk p K K' w w':=⟨(bz.E y).H h.only,λg D=>(h.h g D).imp id (aF y.lt)⟩
def Gk.post{p:Nat}(h:Gk p K K' w w1)(y:Bl w1 w'):Gk p K K' w w':=⟨h.only.H (bz.E y),h.h⟩
def Gk.new{p:Nat}(h:Gk p K K' w w1)(k:bz T w1 w')(D:∀n,T n->w.heap.size<=n):Gk p K K' w w':=
 ⟨⟨k.os.H h.only.os,k.tape.H h.only.tape,k.output.H h.only.output,aF h.only.size k.size,λi y F=>by rw[k.block i (af y h.only.size) λe=>by have:=D i e;omega,h.only.block i y F]⟩,h.h⟩
def Ks.Fu{base:Nat}{p:Nat}{a b c ch D mk:Int}{F:Nat->Ct}(h:Ks base w p a b c d ch D mk F iT K)(y:KF K g):base<=g/\g<w.heap.size:=by
 obtain y|⟨i,H,y⟩:=y
 .exact h.gZ.lt g y
 exact(h.val i H).lt g y
def Ks.oj{base:Nat}{p:Nat}{a b c ch Z mk ep' mk':Int}{V:Nat->Ct}{L:List Int}(h:Ks base w p a b c d ch Z mk V iT K)(P:bz (λb=>b=p) w W)(h5:K' 5=I ep')(h6:K' 6=I mk')(ho:∀j,j≠5->j≠6->K' j=K j)(M:AH base W w' p K' (K 71) v' n xs)(hn:n=iT.length+L.length)(hx:xs=iT.map B8++L.map B8):Ks base w' p a b c d ch ep' mk' V (iT++L) (tZ K' 71 v')/\Gk p K (tZ K' 71 v') w w':=by
 have Y:=(P.L (T:=λb=>b=p\/(K 71).ownBlock=some b) λb _ e=>.inl e).H M.only;have F:∀j,j≠71->j≠5->j≠6->tZ K' 71 v' j=K j:=λj h1 h2 h3=>by rw[iK _ _ _ _ h1,ho j h2 h3]
 have q:∀i,i<16->tZ K' 71 v' (10+4*i)=K (10+4*i):=λi y=>F _ C C C;refine⟨⟨M.f,by rw[F 0 au au au];exact h.k0,by rw[F 1 au au au];exact h.k1,by rw[F 2 au au au];exact h.k2,by rw[F 3 au au au];exact h.k3,by rw[F 4 au au au];exact h.k4,by rw[iK _ _ _ _ au];exact h5,by rw[iK _ _ _ _ au];exact h6,?_,λi y=>by rw[F _ C C C];exact h.kd i y,λi y=>by rw[F _ C C C];exact h.cl i y,λi y=>by rw[F _ C C C];exact h.ca i y,λi y=>?_,λi y g D=>?_⟩,Y,λg D=>?_⟩
 .rw[lO,aO,aZ,<-hx,<-hn];exact M.gZ
 .rw[q i y];refine Y.iJ (h.val i y) λg D e=>?_;obtain e|e:=e
  .exact h.f.nG (h.val i y) au (j4 D e)
  exact h.lM i y g D e
 .rw[q i y]at D;rw[lO];intro e;obtain e|e:=M.h g e
  .exact h.lM i y g D e
  have:=P.size;have:=((h.val i y).lt g D).2;omega
 obtain D|⟨i,y,D⟩:=D
 .rw[lO]at D;obtain e|e:=M.h g D
  .exact .inl (.inl e)
  exact .inr (aF P.size e)
 rw[q i y]at D;exact .inl (.inr ⟨i,y,D⟩)
theorem qM(base p)(a b c d ch ep mk)(ct)(iT)(K)(ep')(w)(h:Ks base w p a b c d ch ep mk ct iT K)(hb:base<=w.heap.size)(Z:iT.length<=1000000000000):ib 223 #[O p,I ep'] w λe w'=>∃K',e=gS/\Ks base w' p a b c d ch ep' mk ct (iT++if ep'=ep then []else iB 1 [ep'] []) K'/\Gk p K K' w w'/\(ep'=ep->K'=K/\Bl w w'):=by
 have H:=fu h;have hp:=h.f.lt;have c5:=h.f.cell 5 au;have f5:=h.f.frozen 5;rw[h.k5]at c5;by_cases y:ep'=ep
 .subst y;rw[aE rfl,cF];clear h;go_enter func223,ntmps223;go_wp2;exact aG (v:= .tuple #[]) (results_none rfl _ _ _) rfl ⟨K,rfl,H,Gk.refl _ _ _,λ_=>⟨rfl,jo⟩⟩
 rw[az y];have D:=fu y;have hz:(ep'==ep)=false:=iG y;clear h y;go_enter func223,ntmps223;go_wp2_with fail;have F:bz (λb=>b=p) w ((w.setCell (U p 5) (I ep')).alloc (gO #[I ep'] 3)):=((bz.refl (λb=>b=p) w).setCell (U p 5) (.inl rfl) (I ep')).alloc _;have M:=(H.f.set 5 (I ep')).bl (jo.alloc (gO #[I ep'] 3));have P:=F.iJ H.gZ λg e e'=>H.f.nG H.gZ au (j4 e e');have V:Bs ((w.setCell (U p 5) (I ep')).alloc (gO #[I ep'] 3)) (dk (G w.heap.size) 1 1) ([ep'].map I):=by have:=vR (w.setCell (U p 5) (I ep')) 3 #[I ep'] 1 rfl;simpa using this
 have lW:((w.setCell (U p 5) (I ep')).alloc (gO #[I ep'] 3)).heap.size=w.heap.size+1:=aq;refine(yj base p (tZ K 5 (I ep')) (K 71) iT.length (iT.map B8) 1 _ _ [ep'] [] _ M (iK _ _ _ _ au) P C Z V (.inl ⟨rfl,rfl⟩) au au aq aq (λg e e'=>?_) (λg e e'=>mX e') (λg e=>by simp[Value.ownBlock]at e;omega) λg e=>mX e).L ?_
 .simp[Value.ownBlock]at e';have:=(H.gZ.lt g e).2;omega
 rintro e w'⟨v',rfl,Y⟩;have R:=fu (H.oj (ep':=ep') (mk':=mk) F (lO _ _ _) ((iK _ _ _ _ au).H H.k6) (λj h1 _=>iK _ _ _ _ h1) Y rfl rfl);clear F M P V lW Y;go_wp2;go_end0;exact⟨_,rfl,R.1,R.2,λe=>absurd e D⟩
theorem QL(base p)(a b c d ch ep mk)(ct)(iT)(K)(ep' mk')(w)(h:Ks base w p a b c d ch ep mk ct iT K)(hb:base<=w.heap.size)(V:iT.length<=1000000000000):ib 227 #[O p,I ep',I mk'] w λe w'=>∃K',e=gS/\Ks base w' p a b c d ch ep' mk' ct (iT++iB 2 [ep',mk'] []) K'/\Gk p K K' w w':=by
 have H:=fu h;have hp:=h.f.lt;have Y:=h.f.cell 5 au;have f5:=h.f.frozen 5;rw[h.k5]at Y;have Z:=h.f.cell 6 au;have f6:=h.f.frozen 6;rw[h.k6]at Z;clear h;go_enter func227,ntmps227;go_wp2_with fail;have y:bz (λb=>b=p) w (((w.setCell (U p 5) (I ep')).setCell (U p 6) (I mk')).alloc (gO #[I ep',I mk'] 3)):=(((bz.refl (λb=>b=p) w).setCell (U p 5) (.inl rfl) (I ep')).setCell (U p 6) (.inl rfl) (I mk')).alloc _;have D:=((H.f.set 5 (I ep')).set 6 (I mk')).bl (jo.alloc (gO #[I ep',I mk'] 3));have F:=y.iJ H.gZ λg e e'=>H.f.nG H.gZ au (j4 e e');have M:Bs (((w.setCell (U p 5) (I ep')).setCell (U p 6) (I mk')).alloc (gO #[I ep',I mk'] 3)) (dk (G w.heap.size) 2 2) ([ep',mk'].map I):=by have:=vR ((w.setCell (U p 5) (I ep')).setCell (U p 6) (I mk')) 3 #[I ep',I mk'] 2 rfl;simpa using this
 have lW:(((w.setCell (U p 5) (I ep')).setCell (U p 6) (I mk')).alloc (gO #[I ep',I mk'] 3)).heap.size=w.heap.size+1:=aq;refine(yj base p (tZ (tZ K 5 (I ep')) 6 (I mk')) (K 71) iT.length (iT.map B8) 2 _ _ [ep',mk'] [] _ D ((iK _ _ _ _ au).H (iK _ _ _ _ au)) F C V M (.inl ⟨rfl,rfl⟩) au au aq aq (λg e e'=>?_) (λg e e'=>mX e') (λg e=>by simp[Value.ownBlock]at e;omega) λg e=>mX e).L ?_
 .simp[Value.ownBlock]at e';have:=(H.gZ.lt g e).2;omega
 rintro e w'⟨v',rfl,P⟩;have R:=fu (H.oj (ep':=ep') (mk':=mk') y ((iK _ _ _ _ au).H (lO _ _ _)) (lO _ _ _) (λj h1 h2=>(iK _ _ _ _ h2).H (iK _ _ _ _ h1)) P rfl rfl);clear y D F M lW P;go_wp2;go_end0;exact⟨_,rfl,R.1,R.2⟩
end
end Go.Proofs.YtbghhbpacijmmaaGreat
