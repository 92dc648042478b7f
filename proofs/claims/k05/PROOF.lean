import PyProof.Rows.All
import Wide.All
import OpenK.AllK
import Wide.FinOn
import PySem.Challenge.RW_slopewords_k05_whole_slopes_of_functions
import HandS.ForMost
import HandS.Evl
import HandS.Zip
import HandS.TupMul
import HandS.TupAny
import HandS.TupLe
import HandS.Walk
import HandS.IntHex
import HandS.Wide
import HandS.Conv
import HandS.Defaults
import HandS.IsInst
import KE.GoesZip
import KE.GoesEnum
import KE.GoesEnumKw
import KE.GoesMore
import HandS.Style
import HandS.Head0
import HandS.Head1
import HandS.Head2
import HandS.HeadEnd
import HandS.HeadHook1
import HandS.HeadHook2
import HandS.HeadHook3
import HandS.HeadHook4
import HandS.HeadNt
import KE.KOpsOwn
import HandS.Property
import HandS.ClsMeth
import HandS.Codes
import HandS.Small
import PyProof.StrHeap
import PyProof.InstNe
import KE.KExcStr
import KE.KxField
import HandS.FStr
import HandS.StrMore
import HandS.Records
import HandS.Flow
import HandS.CallLocal
import HandS.More
import HandS.TryOnly
import HandS.Star
import HandS.MakeKwOnly
set_option Elab.async false
set_option linter.all false
set_option maxRecDepth 100000
set_option maxHeartbeats 0
namespace Kt
open PySem PySem.Spec PyProof.Rows L2
open Evl (Ex Ev EvL EvU EvT EvA ex_l ex_t sq_of st_of sz_of sz_lt fresh_back given)
/-- a walk over wi from σ, H and whatever comes beside: n turns, giving Y -/
def Wk (wi : TI) (σ : L2.St) (H : Hp) (n : Nat) (Y : Nat → Hp → V → Hp → Prop) : Prop :=
  ∀ H1, Ex H H1 → ∀ R : It → Hp → Prop, (∀ J H2 G, Ex H1 H2 → Walk J n G Y → (∀ H', Ex H2 H' → G H') → R J H2) → wi σ H1 R
section
variable {K : PySem.W.Frag} {σ : L2.St} {H : Hp} {n : Nat} {Y : Nat → Hp → V → Hp → Prop} {wi : TI} {g : TG} {tl tm te : TE} {ta : TA} {tt : TT} {vs : List Nat} {a b : Addr} {xs ys : List V} {x : V}
theorem Wk.mono {H' : Hp} (e : Ex H H') (h : Wk wi σ H n Y) : Wk wi σ H' n Y := fun H1 a R q => h H1 (e.trans a) R q
theorem wk_tup (h : Ev tl σ H (.ref a)) (hx : SqT K H a xs) : Wk (iTup K tl) σ H xs.length (YAt xs) := fun H1 e R q =>
  h H1 e _ fun H2 e2 => ⟨a, rfl, ⟨xs, ex_t (e.trans e2) hx⟩, q _ H2 _ e2 walk_tup fun H' e' => ex_t ((e.trans e2).trans e') hx⟩
theorem wk_tupU (h : EvU tl σ H xs) : Wk (iTup K tl) σ H xs.length (YAt xs) := fun H1 e R q =>
  h H1 e _ fun p H2 _ e2 hp => ⟨p, rfl, ⟨xs, st_of hp⟩, q _ H2 _ e2 walk_tup fun H' e' => ex_t e' (st_of hp)⟩
theorem wk_list (h : Ev tl σ H (.ref a)) (hx : SqL K H a xs) : Wk (iList K tl) σ H xs.length (YAt xs) := fun H1 e R q =>
  h H1 e _ fun H2 e2 => ⟨a, rfl, ⟨xs, ex_l (e.trans e2) hx⟩, q _ H2 _ e2 walk_list fun H' e' => ex_l ((e.trans e2).trans e') hx⟩
theorem wk_listN (h : EvL tl σ H xs) : Wk (iList K tl) σ H xs.length (YAt xs) := fun H1 e R q =>
  h H1 e _ fun p H2 _ e2 hp => ⟨p, rfl, ⟨xs, sq_of hp⟩, q _ H2 _ e2 walk_list fun H' e' => ex_l e' (sq_of hp)⟩
theorem wk_rng1 {n : Int} (h : EvA ta σ H [.int n]) (hn : -100000 ≤ n ∧ n ≤ 100000) : Wk (iRng1 ta) σ H n.toNat (YFn fun i => .int (i : Int)) := fun H1 e R q =>
  h H1 e _ fun H2 e2 => ⟨n, rfl, by omega, by omega, q _ H2 _ e2 ((walk_range (lo := 0) (n := n.toNat)).mono (fun _ _ => trivial) fun i H x H' _ _ y => ⟨y.1, by
    have z := y.2
    rw [z]
    show V.int (0 + (i : Int)) = V.int (i : Int)
    rw [Int.zero_add]⟩) fun _ _ => trivial⟩
theorem wk_rng2 {lo n : Int} (h : EvA ta σ H [.int lo, .int n]) (hn : -100000 ≤ n ∧ n ≤ 100000 ∧ -100000 ≤ lo ∧ lo ≤ 100000) : Wk (iRng2 ta) σ H (n - lo).toNat (YFn fun i => .int (lo + (i : Int))) := fun H1 e R q =>
  h H1 e _ fun H2 e2 => ⟨lo, n, rfl, ⟨by omega, by omega, by omega, by omega⟩, q _ H2 _ e2 (walk_range.mono (fun _ _ => trivial) fun i H x H' _ _ y => y) fun _ _ => trivial⟩
theorem wk_rng3 {lo j c : Int} {n : Nat} (h : EvA ta σ H [.int lo, .int j, .int c]) (hn : RgC lo j c n) : Wk (iRng3 ta) σ H n (YFn fun i => .int (lo + (i : Nat) * c)) := fun H1 e R q =>
  h H1 e _ fun H2 e2 => ⟨lo, j, c, n, rfl, hn, q _ H2 _ e2 (walk_rangeC.mono (fun _ _ => trivial) fun i H x H' _ _ y => y) fun _ _ => trivial⟩
theorem walk_zipT {n : Nat} (hn : n = min xs.length ys.length) : Walk (RZ.ItzT K a b) n (fun H => SqT K H a xs ∧ SqT K H b ys) (YPair (fun i => xs[i]?) (fun i => ys[i]?)) := by
  subst hn
  refine ⟨fun i _ hi q => ?_, fun _ q => ⟨xs, ys, q.1, q.2, by omega⟩, fun i H v H' _ q y => ?_⟩
  · have h1 : i < xs.length := by omega
    have h2 : i < ys.length := by omega
    exact ⟨xs, ys, xs[i], ys[i], q.1, q.2, by simp [h1], by simp [h2]⟩
  · obtain ⟨T, x, z, h1, h2, h3, h4, h5⟩ := y
    exact ⟨T, x, z, h1, h2, h3, h4 xs q.1, h5 ys q.2⟩
/-- zip of two tuples -/
theorem wk_zipTT (h : EvA ta σ H [.ref a, .ref b]) (hx : SqT K H a xs) (hy : SqT K H b ys) : Wk (RZ.iZipA K ta) σ H (min xs.length ys.length) (YPair (fun i => xs[i]?) (fun i => ys[i]?)) := fun H1 e R q =>
  h H1 e _ fun H2 e2 => ⟨a, b, xs, ys, rfl, .inr ⟨ex_t (e.trans e2) hx, ex_t (e.trans e2) hy, q _ H2 _ e2 (walk_zipT rfl) fun H' e' => ⟨ex_t ((e.trans e2).trans e') hx, ex_t ((e.trans e2).trans e') hy⟩⟩⟩
/-- a comprehension -/
theorem el_comp (hw : Wk wi σ H n Y) (f : Nat → Bool) (v : Nat → V) (hn : n ≤ 50000)
    (ht : ∀ i x H1 H2, i < n → Ex H H1 → Y i H1 x H2 → ∀ R : L2.St → Hp → Prop, (∀ σ2 H3, wipe σ2 vs = wipe σ vs → Ex H1 H3 → EvT tt σ2 H3 (f i) → (f i = true → Ev te σ2 H3 (v i)) → R σ2 H3) → g x (wipe σ vs) H2 R) :
    EvL (tLc wi g tt te vs) σ H (given n f v) := fun H0 e Q q =>
  hw H0 e _ fun J H1 G e1 w hG D hD => by
    refine lc_it w (fun i H' => H1 D = none ∧ Ex H1 H' ∧ H' D = some (.lst (given i f v))) ⟨hD, Ex.new hD, upd_same⟩ (fun i H' _ p => hG H' p.2.1) (fun i x Ha Hb hi p y => ?_) (fun H' p => q D H' (fresh_back e1 p.1) (e1.trans p.2.1) p.2.2)
    obtain ⟨p1, p2, p3⟩ := p
    refine ht i x Ha Hb hi ((e.trans e1).trans p2) y _ fun σ2 H3 hσ e3 hb hv => ⟨hσ, hb H3 (Ex.refl H3) _ fun H4 e4 => ?_⟩
    have e14 : Ex H1 H4 := (p2.trans e3).trans e4
    cases hf : f i with
    | true =>
      refine iteT (hv hf H4 e4 _ fun H5 e5 => ⟨given i f v, e5 D _ (e4 D _ (e3 D _ p3)), sz_lt (by have := Evl.given_len i f v; omega), p1, Ex.mut (e14.trans e5) p1, ?_⟩)
      rw [Evl.given_yes hf]
      exact upd_same
    | false =>
      refine iteF ⟨p1, e14, ?_⟩
      rw [Evl.given_no hf]
      exact e4 D _ (e3 D _ p3)
theorem given_all (n : Nat) (v : Nat → V) : given n (fun _ => true) v = (List.range n).map v := by
  unfold given
  rw [List.filter_eq_self.mpr (fun _ _ => rfl)]
theorem et_yes : EvT tYes σ H true := fun H1 _ _ q => q H1 (Ex.refl H1)
/-- [e for x in ..] over ints -/
theorem el_mapI {ns : List Int} {j : Nat} (hw : Wk wi σ H (ns.map V.int).length (YAt (ns.map V.int))) (f : Int → Int) (hn : ns.length ≤ 50000) (hv : ∀ x, wipe ((wipe σ vs).set j (some x)) vs = wipe σ vs)
    (he : ∀ x ∈ ns, ∀ H1, Ex H H1 → Ev te ((wipe σ vs).set j (some (.int x))) H1 (.int (f x))) : EvL (tLc wi (gName j) tYes te vs) σ H ((ns.map f).map V.int) := by
  have z := el_comp (vs := vs) (g := gName j) (tt := tYes) (te := te) hw (fun _ => true) (fun i => .int (f (ns.getD i 0))) (by rw [List.length_map]; exact hn) (fun i x H1 H2 hi e y R q => by
    obtain ⟨rfl, hx⟩ := y
    rw [List.length_map] at hi
    have hxi : ns[i]? = some ns[i] := List.getElem?_eq_getElem hi
    rw [List.getElem?_map, hxi] at hx
    have ex : V.int ns[i] = x := Option.some.inj hx
    subst ex
    have eg : ns.getD i 0 = ns[i] := by simp [List.getD, hxi]
    refine q _ _ (hv _) (Ex.refl _) et_yes fun _ => ?_
    show Ev te _ _ (.int (f (ns.getD i 0)))
    rw [eg]
    exact he _ (List.getElem_mem hi) _ e)
  rw [given_all] at z
  have el : (List.range (ns.map V.int).length).map (fun i => V.int (f (ns.getD i 0))) = (ns.map f).map V.int := by
    apply List.ext_getElem
    · simp
    · intro i h1 h2
      simp at h1 h2 ⊢
      simp [h1]
  rw [el] at z
  exact z
/-- [e for x, y in ..] over pairs of ints -/
theorem el_zipI {as bs : List Int} {j k : Nat} (hw : Wk wi σ H (min (as.map V.int).length (bs.map V.int).length) (YPair (fun i => (as.map V.int)[i]?) (fun i => (bs.map V.int)[i]?))) (f : Int → Int → Int) (hn : as.length ≤ 50000)
    (hv : ∀ x y, wipe (((wipe σ vs).set j (some x)).set k (some y)) vs = wipe σ vs)
    (he : ∀ x ∈ as, ∀ y ∈ bs, ∀ H1, Ex H H1 → Ev te (((wipe σ vs).set j (some (.int x))).set k (some (.int y))) H1 (.int (f x y))) : EvL (tLc wi (gTup K 2 (gCons (gName j) (gCons (gName k) gNil))) tYes te vs) σ H ((List.zipWith f as bs).map V.int) := by
  have z := el_comp (vs := vs) (g := gTup K 2 (gCons (gName j) (gCons (gName k) gNil))) (tt := tYes) (te := te) hw (fun _ => true) (fun i => .int (f (as.getD i 0) (bs.getD i 0))) (by rw [List.length_map, List.length_map]; omega) (fun i v H1 H2 hi e y R q => by
    obtain ⟨T, x, y, rfl, hT, rfl, hx, hy⟩ := y
    rw [List.length_map, List.length_map] at hi
    have hxi : as[i]? = some (as[i]'(by omega)) := List.getElem?_eq_getElem (by omega)
    have hyi : bs[i]? = some (bs[i]'(by omega)) := List.getElem?_eq_getElem (by omega)
    have hx' : (as.map V.int)[i]? = some x := hx
    have hy' : (bs.map V.int)[i]? = some y := hy
    rw [List.getElem?_map, hxi] at hx'
    rw [List.getElem?_map, hyi] at hy'
    have ex : V.int (as[i]'(by omega)) = x := Option.some.inj hx'
    have ey : V.int (bs[i]'(by omega)) = y := Option.some.inj hy'
    subst ex
    subst ey
    have eg : as.getD i 0 = as[i]'(by omega) := by simp [List.getD, hxi]
    have eg2 : bs.getD i 0 = bs[i]'(by omega) := by simp [List.getD, hyi]
    refine ⟨T, _, rfl, st_of upd_same, rfl, _, _, rfl, _, _, rfl, rfl, q _ _ (hv _ _) (Ex.new hT) et_yes fun _ => ?_⟩
    show Ev te _ _ (.int (f (as.getD i 0) (bs.getD i 0)))
    rw [eg, eg2]
    exact he _ (List.getElem_mem _) _ (List.getElem_mem _) _ (e.trans (Ex.new hT)))
  rw [given_all] at z
  have el : (List.range (min (as.map V.int).length (bs.map V.int).length)).map (fun i => V.int (f (as.getD i 0) (bs.getD i 0))) = (List.zipWith f as bs).map V.int := by
    apply List.ext_getElem
    · simp
    · intro i h1 h2
      simp only [List.length_map, List.length_range] at h1
      have h3 : i < as.length := by omega
      have h4 : i < bs.length := by omega
      simp [h3, h4]
  rw [el] at z
  exact z
end
end Kt
namespace Kt
open PySem PySem.Spec PyProof.Rows L2
theorem tuple_mul1 (l : Addr) (items : Array Value) (n : Nat) (sl : Array (Option Value)) (dd : Option Addr) (x : Int) (u : Tok) (c0 : (decide (x < -(2 ^ 63)) || decide (x ≥ 2 ^ 63)) = false) (c1 : (items.isEmpty || x == 1) = true) :
    Meets (Builtin.«tuple.__mul__» ⟨[.ref l, .int x u], []⟩) (fun _ R s => s.heap.get? l = some { cls := .type "tuple", dict := dd, data := .seq items n, slots := sl } ∧ R (.ok (.ret (Value.ref l))) s) :=
  .of_wp fun prog w A R s h => by
    obtain ⟨hp, g, d, tk, os⟩ := s
    obtain ⟨hl, h⟩ := h
    have f1 := AutoSeq1.idx_int
    wp_walk using wpAny_loadPart' hl
    repeat (first
      | (refine wpAny_ite_false (decide_eq_false (by rw [c0]; exact Bool.false_ne_true)) ?_; wp_walk using wpAny_loadPart' hl)
      | (refine wpAny_ite_true (decide_eq_true (by rw [c1])) ?_; wp_walk using wpAny_loadPart' hl))
    exact ⟨_, rfl, h⟩
theorem tuple_mul0 (l : Addr) (items : Array Value) (n : Nat) (sl : Array (Option Value)) (dd : Option Addr) (x : Int) (u : Tok) (c0 : (decide (x < -(2 ^ 63)) || decide (x ≥ 2 ^ 63)) = false) (c1 : (items.isEmpty || x == 1) = false) (c2 : (decide (x ≤ 0) || items.isEmpty) = true) :
    Meets (Builtin.«tuple.__mul__» ⟨[.ref l, .int x u], []⟩) (fun _ R s => s.heap.get? l = some { cls := .type "tuple", dict := dd, data := .seq items n, slots := sl } ∧
      R (.ok (.ret (Value.ref s.heap.objs.size))) { s with heap := s.heap.push { cls := Value.type "tuple", data := Data.seq #[] }, toks := s.toks }) :=
  .of_wp fun prog w A R s h => by
    obtain ⟨hp, g, d, tk, os⟩ := s
    obtain ⟨hl, h⟩ := h
    have f1 := AutoSeq1.idx_int
    wp_walk using wpAny_loadPart' hl
    repeat (first
      | (refine wpAny_ite_false (decide_eq_false (by rw [c0]; exact Bool.false_ne_true)) ?_; wp_walk using wpAny_loadPart' hl)
      | (refine wpAny_ite_false (decide_eq_false (by rw [c1]; exact Bool.false_ne_true)) ?_; wp_walk using wpAny_loadPart' hl)
      | (refine wpAny_ite_true (decide_eq_true (by rw [c2])) ?_; wp_walk using wpAny_loadPart' hl))
    exact ⟨_, rfl, h⟩
theorem ifD {c A B : Prop} [Decidable c] (h1 : c → A) (h2 : ¬ c → B) : if decide c = true then A else B := by
  by_cases h : c
  · rw [decide_eq_true h]
    exact iteT (h1 h)
  · rw [decide_eq_false h]
    exact iteF (h2 h)
theorem ifN {c A B : Prop} [Decidable c] (h1 : ¬ c → A) (h2 : c → B) : if (!decide c) = true then A else B := by
  by_cases h : c
  · rw [decide_eq_true h]
    exact iteF (h2 h)
  · rw [decide_eq_false h]
    exact iteT (h1 h)
/-- tuple * int, whatever the int: once gives itself -/
def rRepA (K : PySem.W.Frag) : R2 := fun x y H Q => ∃ l k xs, x = .ref l ∧ y = .int k ∧ SqT K H l xs ∧ xs ≠ [] ∧ -100000 ≤ k ∧ k ≤ 1000 ∧ xs.length ≤ 1000 ∧ (k = 1 → Q (.ref l) H) ∧ (k ≠ 1 → ∀ p, H p = none → Q (.ref p) (upd H p (.tup (List.replicate k.toNat xs).flatten)))
theorem op_repA {X : Cx} : OpR X (binaryOp .Mult) (rRepA X.K) := by
  intro pins s σ H x y v u Q I rx ry h
  obtain ⟨l, k, xs, rfl, rfl, hT, hne, h1, h2, hz, q1, q⟩ := h
  by_cases hk : 2 ≤ k
  · exact op_repT pins s σ H (.ref l) (.int k) v u Q I rx ry ⟨l, k, xs, rfl, rfl, hT, hne, hk, h2, hz, q (by omega)⟩
  · cases rx
    obtain ⟨t, rfl⟩ := ry
    obtain ⟨its, r, ⟨⟨cls, dd, data, sl⟩, ho, hc, n, hd⟩, hs⟩ := I.tuple hT
    simp only at hc hd
    subst hc hd
    have hle : its.length = xs.length := r.length.symm
    have hn : its ≠ [] := fun e => hne (by
      rw [e] at hle
      exact List.eq_nil_of_length_eq_zero hle.symm)
    have hi : its.toArray.isEmpty = false := by
      cases its with
      | nil => exact absurd rfl hn
      | cons a b => rfl
    have c0 : (decide (k < -(2 ^ 63)) || decide (k ≥ 2 ^ 63)) = false := by
      rw [decide_eq_false (by omega), decide_eq_false (by omega)] <;> rfl
    by_cases h11 : k = 1
    · have c1 : (its.toArray.isEmpty || k == 1) = true := by rw [hi, h11] <;> rfl
      exact wpAny_binaryOp_repeat_ref (T := "tuple") (U := "int") (by decide) ⟨_, ho, rfl⟩ (fun s' => typeIs_int s' k t) noFill_tuple_mul F.fills_int_mul F.slot_int_rmul repeat_tuple F.slot_int_index.lookup
        (call_meets F.slot_int_rmul (typeIs_int s k t) F.entry_int_rmul (F.args_int_rmul_2 _ _) (int_rmul_tuple k t l its.toArray n dd sl)
          ⟨ho, rfl, ⟨_, ho, rfl⟩, call_meets F.slot_tuple_mul ⟨_, ho, rfl⟩ F.entry_tuple_mul (F.args_tuple_mul_2 _ _) (tuple_mul1 l its.toArray n sl dd k t c0 c1) ⟨ho, ⟨.ref l, H, I, rfl, q1 h11⟩⟩⟩)
    · have c1 : (its.toArray.isEmpty || k == 1) = false := by
        rw [hi, Bool.false_or]
        exact beq_eq_false_iff_ne.mpr h11
      have c2 : (decide (k ≤ 0) || its.toArray.isEmpty) = true := by
        rw [decide_eq_true (by omega), Bool.true_or]
      refine wpAny_binaryOp_repeat_ref (T := "tuple") (U := "int") (by decide) ⟨_, ho, rfl⟩ (fun s' => typeIs_int s' k t) noFill_tuple_mul F.fills_int_mul F.slot_int_rmul repeat_tuple F.slot_int_index.lookup
        (call_meets F.slot_int_rmul (typeIs_int s k t) F.entry_int_rmul (F.args_int_rmul_2 _ _) (int_rmul_tuple k t l its.toArray n dd sl)
          ⟨ho, rfl, ⟨_, ho, rfl⟩, call_meets F.slot_tuple_mul ⟨_, ho, rfl⟩ F.entry_tuple_mul (F.args_tuple_mul_2 _ _) (tuple_mul0 l its.toArray n sl dd k t c0 c1 c2) ⟨ho, ?_⟩⟩)
      have e0 : (List.replicate k.toNat xs).flatten = [] := by
        rw [show k.toNat = 0 by omega] <;> rfl
      have q' := q h11 s.heap.objs.size (I.hok.fresh (Nat.le_refl _))
      rw [e0] at q'
      refine ⟨.ref s.heap.objs.size, _, I.laid (t' := s.toks) (o := .tup []) (fun b ob q => Heap.get?_push_of_some _ q) (Nat.le_refl _) ?_, rfl, q'⟩
      exact ⟨Nat.zero_le _, [], .nil, IsTup.new _ _⟩
end Kt
namespace Kt
open PySem PySem.Spec PyProof.Rows L2
open Evl (Ex Ev EvL EvU EvT EvA ex_l ex_t sq_of st_of sz_of sz_lt fresh_back given)
/-- what a value is, whatever comes beside -/
structure VR where
  R : V → Hp → Prop
  st : ∀ {v : V} {H H' : Hp}, Ex H H' → R v H → R v H'
def vC (c : V) : VR := ⟨fun v _ => v = c, fun _ h => h⟩
abbrev vI (i : Int) : VR := vC (.int i)
abbrev vB (b : Bool) : VR := vC (.bl b)
abbrev vS (z : Str) : VR := vC (.str z)
abbrev vN : VR := vC .non
def Alls : List VR → List V → Hp → Prop
  | [], vs, _ => vs = []
  | r :: rs, vs, H => ∃ v ws, vs = v :: ws ∧ r.R v H ∧ Alls rs ws H
theorem Alls.mono : ∀ {rs : List VR} {vs : List V} {H H' : Hp}, Ex H H' → Alls rs vs H → Alls rs vs H'
  | [], _, _, _, _, h => h
  | r :: rs, _, _, _, e, ⟨v, ws, h1, h2, h3⟩ => ⟨v, ws, h1, r.st e h2, Alls.mono e h3⟩
theorem Alls.len : ∀ {rs : List VR} {vs : List V} {H : Hp}, Alls rs vs H → vs.length = rs.length
  | [], _, _, h => by
    have h' : _ = [] := h
    rw [h'] <;> rfl
  | r :: rs, _, _, ⟨v, ws, h1, h2, h3⟩ => by rw [h1, List.length_cons, List.length_cons, Alls.len h3]
theorem Alls.ints : ∀ {ns : List Int} {vs : List V} {H : Hp}, Alls (ns.map vI) vs H → vs = ns.map V.int
  | [], _, _, h => h
  | n :: ns, _, _, ⟨v, ws, h1, h2, h3⟩ => by rw [h1, h2, Alls.ints h3] <;> rfl
theorem Alls.ofInts : ∀ (ns : List Int) (H : Hp), Alls (ns.map vI) (ns.map V.int) H
  | [], _ => rfl
  | n :: ns, H => ⟨_, _, rfl, rfl, Alls.ofInts ns H⟩
/-- a tuple of ints; a tuple; a list of ints; a list -/
def vP (K : PySem.W.Frag) (ns : List Int) : VR := ⟨fun v H => ∃ a, v = .ref a ∧ SqT K H a (ns.map V.int), fun e ⟨a, h1, h2⟩ => ⟨a, h1, ex_t e h2⟩⟩
def vT (K : PySem.W.Frag) (rs : List VR) : VR := ⟨fun v H => ∃ a xs, v = .ref a ∧ SqT K H a xs ∧ Alls rs xs H, fun e ⟨a, xs, h1, h2, h3⟩ => ⟨a, xs, h1, ex_t e h2, h3.mono e⟩⟩
def vL (K : PySem.W.Frag) (ns : List Int) : VR := ⟨fun v H => ∃ a, v = .ref a ∧ SqL K H a (ns.map V.int), fun e ⟨a, h1, h2⟩ => ⟨a, h1, ex_l e h2⟩⟩
def vLs (K : PySem.W.Frag) (rs : List VR) : VR := ⟨fun v H => ∃ a xs, v = .ref a ∧ SqL K H a xs ∧ Alls rs xs H, fun e ⟨a, xs, h1, h2, h3⟩ => ⟨a, xs, h1, ex_l e h2, h3.mono e⟩⟩
def EvR (te : TE) (σ : L2.St) (H : Hp) (r : VR) : Prop := ∀ H1, Ex H H1 → ∀ Q : VK, (∀ v H2, Ex H1 H2 → r.R v H2 → Q v H2) → te σ H1 Q
def EvRs (ta : TA) (σ : L2.St) (H : Hp) (rs : List VR) : Prop := ∀ H1, Ex H H1 → ∀ Q : List V → Hp → Prop, (∀ vs H2, Ex H1 H2 → Alls rs vs H2 → Q vs H2) → ta σ H1 Q
/-- an operation on values; a call on values -/
def OpV (r : R2) (ra rb rc : VR) (H : Hp) : Prop := ∀ x y H1, Ex H H1 → ra.R x H1 → rb.R y H1 → ∀ Q : VK, (∀ v H2, Ex H1 H2 → rc.R v H2 → Q v H2) → r x y H1 Q
def CallV (r : List V → Hp → VK → Prop) (rs : List VR) (rc : VR) (H : Hp) : Prop := ∀ vs H1, Ex H H1 → Alls rs vs H1 → ∀ Q : VK, (∀ v H2, Ex H1 H2 → rc.R v H2 → Q v H2) → r vs H1 Q
/-- a def's promise: what it is handed, what it hands back -/
def Con {G : Type} (pre : G → Prop) (args : G → List VR) (res : G → VR) : Sp := fun vs H Q _ => ∃ g, pre g ∧ Alls (args g) vs H ∧ ∀ v H', Ex H H' → (res g).R v H' → Q v H'
section
variable {K : PySem.W.Frag} {σ : L2.St} {H H' : Hp} {te ta tb tc : TE} {t u : TT} {tas : TA} {r r1 r2 r3 ra rb rc : VR} {rs : List VR} {op : R2} {v : V} {i : Nat} {b : Bool}
theorem EvR.mono (e : Ex H H') (h : EvR te σ H r) : EvR te σ H' r := fun H1 a Q q => h H1 (e.trans a) Q q
theorem EvRs.mono (e : Ex H H') (h : EvRs tas σ H rs) : EvRs tas σ H' rs := fun H1 a Q q => h H1 (e.trans a) Q q
theorem EvR.ev {c : V} (h : EvR te σ H (vC c)) : Ev te σ H c := fun H1 e Q q => h H1 e Q fun v H2 e2 hv => by
  have z : v = c := hv
  rw [z]
  exact q H2 e2
theorem EvR.of {c : V} (h : Ev te σ H c) (hr : r.R c H) : EvR te σ H r := fun H1 e Q q => h H1 e Q fun H2 e2 => q c H2 e2 (r.st (e.trans e2) hr)
theorem EvR.to (h : EvR te σ H r) (k : ∀ v H', Ex H H' → r.R v H' → r2.R v H') : EvR te σ H r2 := fun H1 e Q q => h H1 e Q fun v H2 e2 hv => q v H2 e2 (k v H2 (e.trans e2) hv)
theorem evr_var (h : σ[i]? = some (some v)) (hr : r.R v H) : EvR (tVar i) σ H r := fun H1 e Q q => ⟨v, h, q v H1 (Ex.refl H1) (r.st e hr)⟩
theorem evr_c : EvR (tC v) σ H (vC v) := fun H1 _ Q q => q v H1 (Ex.refl H1) rfl
theorem evr_op (ha : EvR ta σ H ra) (hb : EvR tb σ H rb) (ho : OpV op ra rb rc H) : EvR (tOp op ta tb) σ H rc := fun H1 e Q q =>
  ha H1 e _ fun x H2 e2 hx => hb H2 (e.trans e2) _ fun y H3 e3 hy => ho x y H3 ((e.trans e2).trans e3) (ra.st e3 hx) hy Q fun z H4 e4 hz => q z H4 ((e2.trans e3).trans e4) hz
theorem evrs_nil : EvRs tNil σ H [] := fun H1 _ Q q => q [] H1 (Ex.refl H1) rfl
theorem evrs_cons (h : EvR te σ H r) (h2 : EvRs tas σ H rs) : EvRs (tCons te tas) σ H (r :: rs) := fun H1 e Q q =>
  h H1 e _ fun v H2 e2 hv => h2 H2 (e.trans e2) _ fun vs H3 e3 hvs => q (v :: vs) H3 (e2.trans e3) ⟨v, vs, rfl, r.st e3 hv, hvs⟩
theorem evr_call {G : Type} {pre : G → Prop} {args : G → List VR} {res : G → VR} {E : XK} (g : G) (hp : pre g) (h : EvRs tas σ H (args g)) : EvR (tCall (Con pre args res) [] E tas) σ H (res g) := fun H1 e Q q =>
  h H1 e _ fun vs H2 e2 hvs => ⟨g, hp, by rw [List.append_nil]; exact hvs, fun v H3 e3 hv => q v H3 (e2.trans e3) hv⟩
theorem evr_cb {rr : List V → Hp → VK → Prop} (h : EvRs tas σ H rs) (hr : CallV rr rs rc H) : EvR (tCB rr tas) σ H rc := fun H1 e Q q =>
  h H1 e _ fun vs H2 e2 hvs => hr vs H2 (e.trans e2) hvs Q fun v H3 e3 hv => q v H3 (e2.trans e3) hv
theorem evr_list {xs : List V} {ns : List Int} (h : EvL te σ H xs) (hx : xs = ns.map V.int) : EvR te σ H (vL K ns) := fun H1 e Q q => h H1 e Q fun p H2 _ e2 hp => q (.ref p) H2 e2 ⟨p, rfl, by rw [← hx]; exact sq_of hp⟩
theorem evr_tup {xs : List V} {ns : List Int} (h : EvU te σ H xs) (hx : xs = ns.map V.int) : EvR te σ H (vP K ns) := fun H1 e Q q => h H1 e Q fun p H2 _ e2 hp => q (.ref p) H2 e2 ⟨p, rfl, by rw [← hx]; exact st_of hp⟩
/-! ### operations -/
theorem op_i0 {g : Int → Int → V} {x y : Int} : OpV (rI0 g) (vI x) (vI y) (vC (g x y)) H := fun a b H1 _ ha hb Q q => ⟨x, y, ha, hb, q _ H1 (Ex.refl H1) rfl⟩
theorem op_i {C : Int → Int → Prop} {g : Int → Int → V} {x y : Int} (hc : C x y) : OpV (rI C g) (vI x) (vI y) (vC (g x y)) H := fun a b H1 _ ha hb Q q => ⟨x, y, ha, hb, hc, q _ H1 (Ex.refl H1) rfl⟩
theorem op_eqS {x y : V} (h : scal x y = true) : OpV rEq (vC x) (vC y) (vB (decide (x = y))) H := fun a b H1 _ ha hb Q q => by
  have e1 : a = x := ha
  have e2 : b = y := hb
  subst e1 e2
  exact ⟨h, q _ H1 (Ex.refl H1) rfl⟩
theorem op_neS {x y : V} (h : scal x y = true) : OpV rNe (vC x) (vC y) (vB (!decide (x = y))) H := fun a b H1 _ ha hb Q q => by
  have e1 : a = x := ha
  have e2 : b = y := hb
  subst e1 e2
  exact ⟨h, q _ H1 (Ex.refl H1) rfl⟩
theorem op_ixP {ns : List Int} {x : Int} {z : V} (h : atI (ns.map V.int) x = some z) : OpV (rIxT K) (vP K ns) (vI x) (vC z) H := fun a b H1 _ ⟨p, ha, hs⟩ hb Q q => ⟨p, _, x, z, ha, hb, hs, h, q z H1 (Ex.refl H1) rfl⟩
theorem op_ixLi {ns : List Int} {x : Int} {z : V} (h : atI (ns.map V.int) x = some z) : OpV (rIxL K) (vL K ns) (vI x) (vC z) H := fun a b H1 _ ⟨p, ha, hs⟩ hb Q q => ⟨p, _, x, z, ha, hb, hs, h, q z H1 (Ex.refl H1) rfl⟩
/-- tuple + tuple; tuple * int -/
theorem op_catP {ns ms : List Int} (hl : ns.length + ms.length ≤ 100000) : OpV (rCatA K) (vP K ns) (vP K ms) (vP K (ns ++ ms)) H := fun x y H1 _ ⟨a, ha, h1⟩ ⟨b, hb, h2⟩ Q q => by
  refine ⟨a, b, _, _, ha, hb, h1, h2, sz_of (by rw [List.length_map, List.length_map]; exact hl), fun z => ?_, fun _ z => ?_, fun _ _ p hp => ?_⟩
  · refine q _ H1 (Ex.refl H1) ⟨b, rfl, ?_⟩
    have z' : ns = [] := List.map_eq_nil_iff.mp z
    rw [z', List.nil_append]
    exact h2
  · refine q _ H1 (Ex.refl H1) ⟨a, rfl, ?_⟩
    have z' : ms = [] := List.map_eq_nil_iff.mp z
    rw [z', List.append_nil]
    exact h1
  · refine q _ _ (Ex.new hp) ⟨p, rfl, ?_⟩
    rw [List.map_append]
    exact st_of upd_same
theorem op_repP {x : Int} {k : Int} (h : -100000 ≤ k ∧ k ≤ 1000) : OpV (rRepA K) (vP K [x]) (vI k) (vP K (List.replicate k.toNat x)) H := fun a b H1 _ ⟨l, ha, hs⟩ hb Q q => by
  refine ⟨l, k, _, ha, hb, hs, by simp, h.1, h.2, by simp, fun z => ?_, fun z p hp => ?_⟩
  · refine q _ H1 (Ex.refl H1) ⟨l, rfl, ?_⟩
    rw [z]
    exact hs
  · refine q _ _ (Ex.new hp) ⟨p, rfl, ?_⟩
    have e : (List.replicate k.toNat ([x].map V.int)).flatten = (List.replicate k.toNat x).map V.int := by
      simp
    rw [← e]
    exact st_of upd_same
theorem evr_disp {ns : List Int} (h : EvRs tas σ H (ns.map vI)) (hl : ns.length ≤ 100000) : EvR (tTup tas) σ H (vP K ns) := fun H1 e Q q =>
  h H1 e _ fun vs H2 e2 hvs => by
    have hv : vs = ns.map V.int := hvs.ints
    subst hv
    exact ⟨sz_of (by rw [List.length_map]; exact hl), fun p hp => q (.ref p) _ (e2.trans (Ex.new hp)) ⟨p, rfl, st_of upd_same⟩⟩
theorem evr_dispT (h : EvRs tas σ H rs) (hl : rs.length ≤ 100000) : EvR (tTup tas) σ H (vT K rs) := fun H1 e Q q =>
  h H1 e _ fun vs H2 e2 hvs => ⟨sz_of (by rw [hvs.len]; exact hl), fun p hp => q (.ref p) _ (e2.trans (Ex.new hp)) ⟨p, _, rfl, st_of upd_same, hvs.mono (Ex.new hp)⟩⟩
theorem evr_dispL {ns : List Int} (h : EvRs tas σ H (ns.map vI)) (hl : ns.length ≤ 100000) : EvR (tLst tas) σ H (vL K ns) := fun H1 e Q q =>
  h H1 e _ fun vs H2 e2 hvs => by
    have hv : vs = ns.map V.int := hvs.ints
    subst hv
    exact ⟨sz_of (by rw [List.length_map]; exact hl), fun p hp => q (.ref p) _ (e2.trans (Ex.new hp)) ⟨p, rfl, sq_of upd_same⟩⟩
/-! ### calls of built-ins -/
theorem cb_lenP {ns : List Int} {rr : List V → Hp → VK → Prop} (hrr : rr = fun xs H Q => ∃ p ys, xs = [.ref p] ∧ (SqL K H p ys ∨ SqT K H p ys) ∧ Q (.int ys.length) H) : CallV rr [vP K ns] (vI ns.length) H := fun vs H1 _ ⟨v, ws, h1, ⟨a, ha, hs⟩, h3⟩ Q q => by
  subst hrr
  subst ha
  have h3' : ws = [] := h3
  subst h3'
  refine ⟨a, _, h1, .inr hs, ?_⟩
  rw [List.length_map]
  exact q _ H1 (Ex.refl H1) rfl
theorem cb_lenL {ns : List Int} {rr : List V → Hp → VK → Prop} (hrr : rr = fun xs H Q => ∃ p ys, xs = [.ref p] ∧ (SqL K H p ys ∨ SqT K H p ys) ∧ Q (.int ys.length) H) : CallV rr [vL K ns] (vI ns.length) H := fun vs H1 _ ⟨v, ws, h1, ⟨a, ha, hs⟩, h3⟩ Q q => by
  subst hrr
  subst ha
  have h3' : ws = [] := h3
  subst h3'
  refine ⟨a, _, h1, .inl hs, ?_⟩
  rw [List.length_map]
  exact q _ H1 (Ex.refl H1) rfl
theorem cb_max {i j : Int} {rr : List V → Hp → VK → Prop} (hrr : rr = fun xs H Q => ∃ i j, xs = [.int i, .int j] ∧ Q (.int (if j > i then j else i)) H) : CallV rr [vI i, vI j] (vI (max i j)) H := fun vs H1 _ ⟨v, ws, h1, hv, ⟨w', ws', h2, hw, h3⟩⟩ Q q => by
  subst hrr
  have hv' : v = .int i := hv
  have hw' : w' = .int j := hw
  have h3' : ws' = [] := h3
  subst hv' hw' h3' h2
  refine ⟨i, j, h1, ?_⟩
  have e : (if j > i then j else i) = max i j := by omega
  rw [e]
  exact q _ H1 (Ex.refl H1) rfl
/-! ### tests -/
theorem et_r (h : EvR te σ H (vB b)) : EvT (tTest te) σ H b := Evl.et_test h.ev
/-! ### statements -/
variable {D : Ends} {tz tu tw : TS}
theorem qr_asg (h : EvR te σ H r) (k : ∀ v H1, Ex H H1 → r.R v H1 → tz D (σ.set i (some v)) H1) : tSeq (tAsg te (gName i)) tz D σ H := h H (Ex.refl H) _ fun v H1 e hv => k v H1 e hv
theorem sr_asg (h : EvR te σ H r) (k : ∀ v H1, Ex H H1 → r.R v H1 → D.nx (σ.set i (some v)) H1) : tAsg te (gName i) D σ H := h H (Ex.refl H) _ fun v H1 e hv => k v H1 e hv
theorem sr_ret (h : EvR te σ H r) (k : ∀ v H1, Ex H H1 → r.R v H1 → D.rt v H1) : tRet te D σ H := h H (Ex.refl H) _ k
end
end Kt
namespace Kt
open PySem PySem.Spec PyProof.Rows L2
open Evl (Ex Ev EvL EvU EvT EvA ex_l ex_t sq_of st_of sz_of sz_lt fresh_back given)
/-- a list (false) or a tuple (true), by what H knows; by the heap; its iterator -/
def SqK (b : Bool) (K : PySem.W.Frag) (H : Hp) (a : Addr) (xs : List V) : Prop := match b with | true => SqT K H a xs | false => SqL K H a xs
def OfK (b : Bool) (h : Heap) (a : Addr) (items : Array Value) : Prop := match b with | true => h.IsTuple a items | false => h.IsList a items
def ItK (b : Bool) (h : Heap) (it a : Addr) (i : Nat) : Prop := match b with | true => h.IsTupleIter it a i | false => h.IsListIter it a i
def objK (b : Bool) (a : Addr) : Obj := match b with | true => { cls := .type "tuple_iterator", data := .fields #[.ref a, .int 0 0] } | false => { cls := .type "list_iterator", data := .fields #[.ref a, .int 0 0] }
theorem ex_k {b : Bool} {K : PySem.W.Frag} {H H' : Hp} {a : Addr} {xs : List V} (e : Ex H H') (h : SqK b K H a xs) : SqK b K H' a xs := by
  cases b with
  | true => exact ex_t e h
  | false => exact ex_l e h
theorem drawsK {prog : Program} {w : World} {A : Around} (b : Bool) (hh : A.handled = none) (it l : Addr) (hne : l ≠ it) (items : Array Value) :
    Draws prog w A it [it, l] items.size (fun i v => items[i]? = some v) (fun i h => ItK b h it l i ∧ OfK b h l items) := by
  cases b with
  | true => exact Draws.tuple hh it l hne items
  | false => exact Draws.list hh it l hne items
theorem beginsK (b : Bool) (l : Addr) (items : Array Value) : Begins (.ref l) (objK b l) fun h => OfK b h l items := by
  cases b with
  | true => exact begins_tuple l items
  | false => exact begins_list l items
theorem ItK.at' {b : Bool} {h h' : Heap} {it l : Addr} {i : Nat} (s : ItK b h it l i) (k : ∀ o, h.get? it = some o → h'.get? it = some o) : ItK b h' it l i := by
  cases b with
  | true => exact Heap.IsTupleIter.at s k
  | false => exact Heap.IsListIter.at s k
theorem ItK.obj {b : Bool} {h : Heap} {it l : Addr} {i : Nat} (s : ItK b h it l i) : ∃ o, h.get? it = some o ∧ ∀ v, o.data ≠ .cell v := by
  cases b with
  | true => obtain ⟨o, e, _, d⟩ := s; exact ⟨o, e, fun v q => by rw [d] at q; cases q⟩
  | false => obtain ⟨o, e, _, d⟩ := s; exact ⟨o, e, fun v q => by rw [d] at q; cases q⟩
theorem ItK.start {b : Bool} {h : Heap} {it l : Addr} (e : h.get? it = some (objK b l)) : ItK b h it l 0 := by
  cases b with
  | true => exact ⟨_, e, rfl, rfl⟩
  | false => exact ⟨_, e, rfl, rfl⟩
theorem OfK.lt {b : Bool} {h : Heap} {l : Addr} {items : Array Value} (s : OfK b h l items) : l < h.objs.size := by
  cases b with
  | true => obtain ⟨o, e, _⟩ := s; exact Heap.lt_size e
  | false => obtain ⟨o, e, _⟩ := s; exact Heap.lt_size e
theorem invK {X : Cx} {pins : List (Addr × Obj)} {σ : L2.St} {H : Hp} {s : Shared} {b : Bool} {a : Addr} {xs : List V} (I : Inv X pins σ H s) (h : SqK b X.K H a xs) : ∃ its : List Value, Vals xs its ∧ OfK b s.heap a its.toArray := by
  cases b with
  | true => obtain ⟨its, r, p, _⟩ := I.tuple h; exact ⟨its, r, p⟩
  | false => obtain ⟨its, r, p, _⟩ := I.list h; exact ⟨its, r, p.isList⟩
theorem injK {X : Cx} {pins : List (Addr × Obj)} {σ : L2.St} {H : Hp} {s : Shared} {b : Bool} {a : Addr} {xs ys : List V} (I : Inv X pins σ H s) (h : SqK b X.K H a xs) (h2 : SqK b X.K H a ys) : xs = ys := by
  cases b with
  | true => exact I.tuple_inj h h2
  | false => exact I.list_inj h h2
/-! ### enumerate(xs, start) -/
def IteK (b : Bool) (K : PySem.W.Frag) (k₀ : Int) (a : Addr) : It :=
  ⟨fun i H => ∃ (xs : List V) (x : V), SqK b K H a xs ∧ xs[i]? = some x, fun i H v H' => ∃ T x, v = .ref T ∧ H T = none ∧ H' = upd H T (.tup [.int (k₀ + (i : Int)), x]) ∧ ∀ xs, SqK b K H a xs → xs[i]? = some x, fun i H => ∃ xs : List V, SqK b K H a xs ∧ xs.length = i⟩
theorem turn_enumK {P : Program} {w : World} {K : PySem.W.Frag} {elts : List Expr} {kk : Nat} {tpos : Pos} (b : Bool) (k₀ : Int) (a e it : Addr) :
    Turn P w K (.Tuple elts kk tpos) (IteK b K k₀ a) [e, it] e (fun i h => (∃ old, IsEnum h e it (k₀ + (i : Int)) old) ∧ ItK b h it a i ∧ e ≠ it ∧ a ≠ it ∧ e ≠ a) where
  mem := by simp
  obj := fun i h st c hc => by
    obtain ⟨⟨old, he⟩, hi, _⟩ := st
    have e' : c = e ∨ c = it := by simpa using hc
    rcases e' with z | z
    · rw [z]; exact ⟨_, he, fun v q => nomatch q⟩
    · rw [z]; exact hi.obj
  keep := fun i h h' st k => let ⟨⟨old, he⟩, hi, hne⟩ := st; ⟨⟨old, k e (by simp) _ he⟩, hi.at' fun o q => k it (by simp) o q, hne⟩
  item := by
    intro X hP hw hK hc i pins s σ H E I hf st hg
    subst hP hw hK
    obtain ⟨⟨old, he⟩, hit, hne, hai, hea⟩ := st
    obtain ⟨xs, x, hq, hx⟩ := hg
    obtain ⟨its, rv, p⟩ := invK I hq
    have hel : e < s.heap.objs.size := Heap.lt_size he
    have hil : it < s.heap.objs.size := by obtain ⟨_, q, _⟩ := hit.obj; exact Heap.lt_size q
    have hl := rv.length
    have hlt : i < its.toArray.size := by
      have := (List.getElem?_eq_some_iff.mp hx).1
      simp; omega
    refine wpAny_pyNext_enum_itemC (drawsK (A := X.A.in1) b (I.ok.hd hc) it a hai its.toArray) he ⟨hit, p⟩ hlt hne (by simp [hne, hea]) fun u h' tk hP ho hst hT hsz hk => ?_
    obtain ⟨u', hu, ru⟩ := rv.get hx
    have eu : u = u' := by
      have h1 : its[i]? = some u := by simpa using hP
      rw [hu] at h1
      exact (Option.some.inj h1).symm
    subst eu
    refine ⟨_, rfl, wpAny_letOwnedTupleGo_enum (s := { s with heap := h', toks := tk + 1 }) ho fun h'' he' sb => ?_⟩
    have hT2 : h''.get? s.heap.objs.size = some { cls := .type "tuple", data := .seq #[.int (k₀ + (i : Int)) tk, u] } := (sb.2 _ (Nat.ne_of_gt hel)).trans hT
    have new : ObjOk X.prog X.w (upd H s.heap.objs.size (.tup [.int (k₀ + (i : Int)), x])) h'' s.heap.objs.size (.tup [.int (k₀ + (i : Int)), x]) :=
      ⟨by show 2 ≤ sizeLine; decide, [.int (k₀ + (i : Int)) tk, u], .cons ⟨_, rfl⟩ (.cons ru .nil), ⟨_, hT2, rfl, _, rfl⟩⟩
    have I1 : Inv X pins σ (upd H s.heap.objs.size (.tup [.int (k₀ + (i : Int)), x])) { s with heap := h'', toks := tk + 1 } :=
      I.turnedNew (ch := [e, it]) (fun b ob hb q => (sb.2 b (fun z => hb (by simp [z]))).trans (hk b ob (fun z => hb (by simp [z])) (fun z => hb (by simp [z])) q)) hf (Nat.le_refl _) new
    refine ⟨.ref s.heap.objs.size, _, I1, rfl, ⟨_, x, rfl, I.hok.fresh (Nat.le_refl _), rfl, fun ys hy => by rw [injK I hy hq]; exact hx⟩, ⟨⟨u, ?_⟩, hst.1.at' fun o q => (sb.2 it (Ne.symm hne)).trans q, hne, hai, hea⟩, fun b hb => ?_⟩
    · have e1 : k₀ + ((i + 1 : Nat) : Int) = k₀ + (i : Int) + 1 := by omega
      rw [e1]; exact he'
    · have hb' : b < s.heap.objs.size := by
        have e' : b = e ∨ b = it := by simpa using hb
        rcases e' with z | z
        · rw [z]; exact hel
        · rw [z]; exact hil
      rw [upd_ne (Nat.ne_of_lt hb')]
      exact (hf b hb).1
  done := by
    intro X hP hw hK hc i pins s σ H E I hf st hg
    subst hP hw hK
    obtain ⟨⟨old, he⟩, hit, hne, hai, hea⟩ := st
    obtain ⟨xs, hq, hx⟩ := hg
    obtain ⟨its, rv, p⟩ := invK I hq
    obtain ⟨f0, f1, f2, f3, f4, f5⟩ := hf it (by simp)
    have hl := rv.length
    have hi : i = its.toArray.size := by simp; omega
    subst hi
    exact wpAny_pyNext_enum_endD (drawsK (A := X.A.in1) b (I.ok.hd hc) it a hai its.toArray) he ⟨hit, p⟩ fun h' eb => ⟨rfl, I.turned (t' := s.toks) (fun b o hb q => eb b o hb q) f0 f1 f3 f4 f5⟩
  self := fun A i s Q E st h => let ⟨⟨_, he⟩, _⟩ := st; wpAny_pyIter_enum he h
def iEnumK (b : Bool) (K : PySem.W.Frag) (ta : TA) : TI := fun σ H R => ta σ H fun vs H1 => ∃ a xs, vs = [.ref a] ∧ SqK b K H1 a xs ∧ R (IteK b K 0 a) H1
theorem meets_enum1 {v : Value} {o : Obj} {H : Heap → Prop} (B : Begins v o H) :
    Meets (Builtin.«enumerate.__new__» ⟨[.type "enumerate", v], []⟩) (fun _ R s => H s.heap ∧
      R (.ok (.ret (.ref (s.heap.push o).objs.size))) { s with heap := (s.heap.push o).push { cls := .type "enumerate", data := .fields #[.none, .bool false, .ref s.heap.objs.size, rawInt 0, .none, .none] } }) :=
  .of_wp fun prog w A R s h => by
    obtain ⟨hp, g, d, tk, os⟩ := s; obtain ⟨h1, h⟩ := h
    have hsub := sub_enumerate
    have q1 : ∀ {A' : Around} {E : Value → Shared → Prop} {Q : Value → Shared → Prop}, Q (.ref hp.objs.size) ⟨hp.push o, g, d, tk, os⟩ → wpAny (model prog w) A' (pyIter v) Q E ⟨hp, g, d, tk, os⟩ :=
      fun q => B.iter prog w _ _ ⟨hp, g, d, tk, os⟩ _ h1 q
    wp_walk using q1
    refine wpAny_stack_any fun st => wpAny_pure ?_
    split
    · rename_i c _ _ _ _ _
      cases (c == Value.type "enumerate")
      · wp_walk using q1
        exact ⟨_, rfl, h⟩
      · wp_walk using q1
        exact ⟨_, rfl, h⟩
    · wp_walk using q1
      exact ⟨_, rfl, h⟩
section
variable {prog : Program} {w : World} {A : Around} {E : Value → Shared → Prop} {s : Shared}
theorem enum_begins1 {v : Value} {o : Obj} {H : Heap → Prop} {Q : Value → Shared → Prop} (B : Begins v o H) (h1 : H s.heap)
    (h : ∀ h', IsEnum h' (s.heap.objs.size + 1) s.heap.objs.size 0 .none → h'.get? s.heap.objs.size = some o → h'.objs.size = s.heap.objs.size + 2 →
      (∀ b o, s.heap.get? b = some o → h'.get? b = some o) → Q (.ref (s.heap.objs.size + 1)) { s with heap := h' }) :
    wpAny (model prog w) A (call (.type "enumerate") [v]) Q E s := by
  refine callType_new F.called_enumerate (by decide) (F.typeCall_enumerate_1 _) (F.newCall_enumerate_1 _) (fun obj => F.args_object_init_2 obj _) F.entry_enumerate_new
    (meets_enum1 B) ⟨h1, ?_⟩
  have hz : (s.heap.push o).objs.size = s.heap.objs.size + 1 := Heap.size_push ..
  show _ ∧ _
  rw [hz]
  have he : IsEnum ((s.heap.push o).push { cls := .type "enumerate", data := .fields #[.none, .bool false, .ref s.heap.objs.size, rawInt 0, .none, .none] }) (s.heap.objs.size + 1) s.heap.objs.size 0 .none := by
    have := Heap.get?_push_size (s.heap.push o) (o := { cls := .type "enumerate", data := .fields #[.none, .bool false, .ref s.heap.objs.size, rawInt 0, .none, .none] }) rfl
    rw [hz] at this; exact this
  refine ⟨⟨_, he, rfl⟩, h _ he (Heap.get?_push_of_some _ (Heap.get?_push_size _ B.free)) (by rw [Heap.size_push, hz]) fun b o x => Heap.get?_push_of_some _ (Heap.get?_push_of_some _ x)⟩
end
theorem pi_enumK {X : Cx} {e : Expr} {ta : TA} {p pos tpos : Pos} {elts : List Expr} {kk : Nat} (b : Bool) (hg : Gl X "enumerate") (hm : X.mg "enumerate" = none) (ha : PA X [e] ta) (hs : starEach [e] X.env = [(false, eval e X.env)] := by rfl) :
    PI X (.Tuple elts kk tpos) (.Call (.Name "enumerate" p) [e] [] pos) (iEnumK b X.K ta) := by
  refine ⟨fun pins s σ H R I h => ?_⟩
  refine Call_ (ld_blt I hg hm boot_enumerate (PyProof.Rows.callWith_type1 (thn (ha.run pos pins s σ H _ I h) fun us s1 ⟨vs, H1, I1, r1, q1⟩ => ?_) hs rfl))
  obtain ⟨a, xs, ex, hq, q⟩ := q1
  subst ex
  cases r1 with
  | cons r rr =>
    cases rr
    cases r
    obtain ⟨its, rv, p'⟩ := invK I1 hq
    have hal : a < s1.heap.objs.size := p'.lt
    refine enum_begins1 (beginsK b a its.toArray) p' fun h' he hit hsz hk => wpAny_pyIter_enum he ?_
    have I2 : Inv X pins σ H1 { s1 with heap := h' } := I1.kept (t' := s1.toks) hk
    refine ⟨s1.heap.objs.size + 1, [s1.heap.objs.size + 1, s1.heap.objs.size], _, _, H1, rfl, I2, turn_enumK b 0 a (s1.heap.objs.size + 1) s1.heap.objs.size, ⟨⟨.none, he⟩, ItK.start hit, Nat.succ_ne_self _, Nat.ne_of_lt hal, Nat.ne_of_gt (Nat.lt_succ_of_lt hal)⟩, fun b hb => ?_, q⟩
    have e' : b = s1.heap.objs.size + 1 ∨ b = s1.heap.objs.size := by simpa using hb
    have hle : s1.heap.objs.size ≤ b := by
      rcases e' with z | z
      · rw [z]; exact Nat.le_add_right _ _
      · rw [z]; exact Nat.le_refl _
    exact I1.fpOk hle (I1.hok.fresh hle)
/-! ### zip of two, lists or tuples -/
def ItzK (b c : Bool) (K : PySem.W.Frag) (a1 a2 : Addr) : It :=
  ⟨fun i H => ∃ (xs ys : List V) (x y : V), SqK b K H a1 xs ∧ SqK c K H a2 ys ∧ xs[i]? = some x ∧ ys[i]? = some y,
    fun i H v H' => ∃ T x y, v = .ref T ∧ H T = none ∧ H' = upd H T (.tup [x, y]) ∧ (∀ xs, SqK b K H a1 xs → xs[i]? = some x) ∧ ∀ ys, SqK c K H a2 ys → ys[i]? = some y,
    fun i H => ∃ xs ys : List V, SqK b K H a1 xs ∧ SqK c K H a2 ys ∧ i ≤ xs.length ∧ i ≤ ys.length ∧ (xs.length = i ∨ ys.length = i)⟩
theorem turn_zipK {P : Program} {w : World} {K : PySem.W.Frag} {elts : List Expr} {kk : Nat} {tpos : Pos} (b c : Bool) {a1 a2 z TI TO i1 i2 : Addr} (S : ZipSep2 z TI TO i1 i2 [i1, a1] [i2, a2]) :
    Turn P w K (.Tuple elts kk tpos) (ItzK b c K a1 a2) [z, TI, TO, i1, i2] z (fun i h => IsZip h z TI TO .none ∧ IsTupOf2 h TI (.ref i1) (.ref i2) ∧ (∃ x y, IsTupOf2 h TO x y) ∧ ItK b h i1 a1 i ∧ ItK c h i2 a2 i ∧ a1 ≠ i1 ∧ a2 ≠ i2) where
  mem := by simp
  obj := fun i h st c' hc => by
    obtain ⟨hz, hTI, ⟨x, y, hTO⟩, h1, h2, _⟩ := st
    have e' : c' = z ∨ c' = TI ∨ c' = TO ∨ c' = i1 ∨ c' = i2 := by simpa using hc
    rcases e' with q | q | q | q | q
    · rw [q]; exact ⟨_, hz, fun v q => nomatch q⟩
    · rw [q]; exact ⟨_, hTI, fun v q => nomatch q⟩
    · rw [q]; exact ⟨_, hTO, fun v q => nomatch q⟩
    · rw [q]; exact h1.obj
    · rw [q]; exact h2.obj
  keep := fun i h h' st k => by
    obtain ⟨hz, hTI, ⟨x, y, hTO⟩, h1, h2, n1, n2⟩ := st
    exact ⟨k z (by simp) _ hz, k TI (by simp) _ hTI, ⟨x, y, k TO (by simp) _ hTO⟩, h1.at' fun o q => k i1 (by simp) o q, h2.at' fun o q => k i2 (by simp) o q, n1, n2⟩
  item := by
    intro X hP hw hK hc i pins s σ H E I hf st hg
    subst hP hw hK
    obtain ⟨hz, hTI, ⟨x0, y0, hTO⟩, h1, h2, n1, n2⟩ := st
    obtain ⟨xs, ys, x, y, hqx, hqy, hx, hy⟩ := hg
    obtain ⟨its, rv, p⟩ := invK I hqx
    obtain ⟨its2, rv2, p2⟩ := invK I hqy
    obtain ⟨u, hu, ru⟩ := rv.get hx
    obtain ⟨u2, hu2, ru2⟩ := rv2.get hy
    have hzl : z < s.heap.objs.size := Heap.lt_size hz
    have lt1 : i < its.toArray.size := by
      have := (List.getElem?_eq_some_iff.mp hu).1
      simpa using this
    have lt2 : i < its2.toArray.size := by
      have := (List.getElem?_eq_some_iff.mp hu2).1
      simpa using this
    refine wpAny_pyNext_zipD2_item S (drawsK (A := X.A.in1) b (I.ok.hd hc) i1 a1 n1 its.toArray) (drawsK (A := X.A.in1) c (I.ok.hd hc) i2 a2 n2 its2.toArray) hz hTI hTO ⟨h1, p⟩ ⟨h2, p2⟩ lt1 lt2 fun v1 v2 h' tk hv1 hv2 z' TO' st1' st2' hT hsz hk => ?_
    have e1 : v1 = u := by
      have h1 : its[i]? = some v1 := by simpa using hv1
      rw [hu] at h1
      exact (Option.some.inj h1).symm
    have e2 : v2 = u2 := by
      have h1 : its2[i]? = some v2 := by simpa using hv2
      rw [hu2] at h1
      exact (Option.some.inj h1).symm
    subst e1 e2
    refine ⟨_, rfl, wpAny_letOwnedTupleGo_zip (s := { s with heap := h', toks := tk }) z' fun h'' z'' sb => ?_⟩
    have hT2 : h''.get? s.heap.objs.size = some { cls := .type "tuple", data := .seq #[v1, v2] } := (sb.2 _ (Nat.ne_of_gt hzl)).trans hT
    have new : ObjOk X.prog X.w (upd H s.heap.objs.size (.tup [x, y])) h'' s.heap.objs.size (.tup [x, y]) :=
      ⟨by show 2 ≤ sizeLine; decide, [v1, v2], .cons ru (.cons ru2 .nil), ⟨_, hT2, rfl, _, rfl⟩⟩
    have I1 : Inv X pins σ (upd H s.heap.objs.size (.tup [x, y])) { s with heap := h'', toks := tk } :=
      I.turnedNew (ch := [z, TI, TO, i1, i2]) (fun c o hb q => (sb.2 c (fun q' => hb (by simp [q']))).trans (hk c o (fun q' => hb (by simp [q'])) (fun q' => hb (by simp [q'])) (fun q' => hb (by simp [q'])) (fun q' => hb (by simp [q'])) q)) hf (Nat.le_refl _) new
    have hi1l : i1 < s.heap.objs.size := by obtain ⟨_, q, _⟩ := h1.obj; exact Heap.lt_size q
    have hi2l : i2 < s.heap.objs.size := by obtain ⟨_, q, _⟩ := h2.obj; exact Heap.lt_size q
    have i1z : i1 ≠ z := fun q => S.zf1 (by rw [← q]; simp)
    have i2z : i2 ≠ z := fun q => S.zf2 (by rw [← q]; simp)
    refine ⟨.ref s.heap.objs.size, _, I1, rfl, ⟨_, x, y, rfl, I.hok.fresh (Nat.le_refl _), rfl, fun l hl => by rw [injK I hl hqx]; exact hx, fun l hl => by rw [injK I hl hqy]; exact hy⟩, ⟨z'', ?_, ⟨v1, v2, ?_⟩, ?_, ?_, n1, n2⟩, fun c hcm => ?_⟩
    · refine (sb.2 _ S.TIz).trans (hk _ _ S.TIz S.TITO S.TIi1 S.TIi2 hTI)
    · exact (sb.2 _ S.TOz).trans TO'
    · exact st1'.1.at' fun o q => (sb.2 _ i1z).trans q
    · exact st2'.1.at' fun o q => (sb.2 _ i2z).trans q
    · have hlt : c < s.heap.objs.size := by
        have e' : c = z ∨ c = TI ∨ c = TO ∨ c = i1 ∨ c = i2 := by simpa using hcm
        rcases e' with q | q | q | q | q
        · rw [q]; exact hzl
        · rw [q]; exact Heap.lt_size hTI
        · rw [q]; exact Heap.lt_size hTO
        · rw [q]; exact hi1l
        · rw [q]; exact hi2l
      rw [upd_ne (Nat.ne_of_lt hlt)]
      exact (hf c hcm).1
  done := by
    intro X hP hw hK hc i pins s σ H E I hf st hg
    subst hP hw hK
    obtain ⟨hz, hTI, ⟨x0, y0, hTO⟩, h1, h2, n1, n2⟩ := st
    obtain ⟨xs, ys, hqx, hqy, le1, le2, hend⟩ := hg
    obtain ⟨its, rv, p⟩ := invK I hqx
    obtain ⟨its2, rv2, p2⟩ := invK I hqy
    have l1 := rv.length
    have l2 := rv2.length
    exact wpAny_pyNext_zipD2_end S (drawsK (A := X.A.in1) b (I.ok.hd hc) i1 a1 n1 its.toArray) (drawsK (A := X.A.in1) c (I.ok.hd hc) i2 a2 n2 its2.toArray) hz hTI hTO ⟨h1, p⟩ ⟨h2, p2⟩ (by simp; omega) (by simp; omega) (by simp; omega) fun h' tk hk => ⟨rfl, I.turnedL (ch := [z, TI, TO, i1, i2]) (fun c o hb q =>
      hk c o (fun q' => hb (by simp [q'])) (fun q' => hb (by simp [q'])) (fun q' => hb (by simp [q'])) (fun q' => hb (by simp [q'])) q) hf⟩
  self := fun A i s Q E st h => wpAny_pyIter_zip st.1 h
def iZipK (b c : Bool) (K : PySem.W.Frag) (ta : TA) : TI := fun σ H R => ta σ H fun vs H1 => ∃ a1 a2 xs ys, vs = [.ref a1, .ref a2] ∧ SqK b K H1 a1 xs ∧ SqK c K H1 a2 ys ∧ R (ItzK b c K a1 a2) H1
theorem pi_zipK {X : Cx} {e e2 : Expr} {ta : TA} {p pos tpos : Pos} {elts : List Expr} {kk : Nat} (b c : Bool) (hg : Gl X "zip") (hm : X.mg "zip" = none) (ha : PA X [e, e2] ta)
    (hs : starEach [e, e2] X.env = (false, eval e X.env) :: starEach [e2] X.env := by rfl) (hpl : (backTo pos (starEach [e2] X.env)).any (·.1) = false := by rfl) :
    PI X (.Tuple elts kk tpos) (.Call (.Name "zip" p) [e, e2] [] pos) (iZipK b c X.K ta) := by
  refine ⟨fun pins s σ H R I h => ?_⟩
  refine Call_ (ld_blt I hg hm PyProof.Rows.boot_zip (PyProof.Rows.callWith_type1 (thn (ha.run pos pins s σ H _ I h) fun us s1 ⟨vs, H1, I1, r1, q1⟩ => ?_) hs hpl))
  obtain ⟨a1, a2, xs, ys, ex, hqx, hqy, q⟩ := q1
  subst ex
  cases r1 with
  | cons r rr =>
    cases rr with
    | cons r' rr =>
      cases rr
      cases r
      cases r'
      obtain ⟨its, rv, p1⟩ := invK I1 hqx
      obtain ⟨its2, rv2, p2⟩ := invK I1 hqy
      have l1 := p1.lt
      have l2 := p2.lt
      refine zip_begins2 (beginsK b a1 its.toArray) (beginsK c a2 its2.toArray) p1 p2 fun h' hz hTI hTO h1 h2 hsz hk => wpAny_pyIter_zip hz ?_
      have I2 : Inv X pins σ H1 { s1 with heap := h' } := I1.kept (t' := s1.toks) hk
      refine ⟨s1.heap.objs.size + 4, [s1.heap.objs.size + 4, s1.heap.objs.size + 2, s1.heap.objs.size + 3, s1.heap.objs.size, s1.heap.objs.size + 1], _, _, H1, rfl, I2, turn_zipK b c (zip_sep2 (fp1 := [a1]) (fp2 := [a2]) (by intro b hb; rw [List.mem_singleton.mp hb]; exact l1) (by intro b hb; rw [List.mem_singleton.mp hb]; exact l2)),
        ⟨hz, hTI, ⟨_, _, hTO⟩, ItK.start h1, ItK.start h2, Nat.ne_of_lt l1, Nat.ne_of_lt (Nat.lt_succ_of_lt l2)⟩, fun c hcm => ?_, q⟩
      have e' : c = s1.heap.objs.size + 4 ∨ c = s1.heap.objs.size + 2 ∨ c = s1.heap.objs.size + 3 ∨ c = s1.heap.objs.size ∨ c = s1.heap.objs.size + 1 := by simpa using hcm
      have hle : s1.heap.objs.size ≤ c := by
        rcases e' with z | z | z | z | z
        · rw [z]; exact Nat.le_add_right _ _
        · rw [z]; exact Nat.le_add_right _ _
        · rw [z]; exact Nat.le_add_right _ _
        · rw [z]; exact Nat.le_refl _
        · rw [z]; exact Nat.le_add_right _ _
      exact I1.fpOk hle (I1.hok.fresh hle)
end Kt
namespace Kt
open PySem PySem.Spec PyProof.Rows L2
open Evl (Ex Ev EvL EvU EvT EvA ex_l ex_t sq_of st_of sz_of sz_lt fresh_back given)
section
variable {prog : Program} {w : World} {A : Around} {E : Value → Shared → Prop} {s : Shared}
/-- where a slice begins, and where it ends, not ahead of it -/
def cutA (lo : Option Int) (n : Nat) : Nat := HT.sIx n 0 lo
def cutC (lo hi : Option Int) (n : Nat) : Nat := max (HT.sIx n 0 lo) (HT.sIx n n hi)
theorem setItem_cut {l b sl : Addr} {items new : Array Value} {n n2 : Nat} {vl vu : Value} {lo hi : Option Int} {Q : Unit → Shared → Prop}
    (e : s.heap.get? l = some { cls := .type "list", data := .seq items n }) (e2 : s.heap.get? b = some { cls := .type "list", data := .seq new n2 }) (hne : l ≠ b)
    (hs : s.heap.IsSliceOf sl vl vu .none) (pl : IsPart vl lo) (pu : IsPart vu hi) (hsz : items.size + new.size ≤ sizeLine)
    (h : Q () { s with heap := s.heap.update l (Obj.mapSeq fun xs => xs.extract 0 (cutA lo items.size) ++ new ++ xs.extract (cutC lo hi items.size) xs.size) }) :
    wpAny (model prog w) A (setItem (.ref l) (.ref sl) (.ref b)) Q E s := by
  obtain ⟨os, hos, hcs, hds⟩ := id hs
  have tL := (PySem.IsL.isList e).typeIs
  have tB := (PySem.IsL.isList e2).typeIs
  have tS : s.TypeIs (.ref sl) "slice" := ⟨os, hos, hcs⟩
  have same : Builtin.List.listSameRef (.ref l) (.ref b) = false := beq_eq_false_iff_ne.mpr hne
  have big : ((fun xs : Array Value => xs.extract 0 (cutA lo items.size) ++ new ++ xs.extract (cutC lo hi items.size) xs.size) items).size ≤ sizeLine + 1 := by
    have h1 := HT.sIx_le items.size 0 (Nat.zero_le _) lo
    simp only [Array.size_append, Array.size_extract, cutA, cutC]
    omega
  have bounds := slice_bounds lo hi items.size
  have step0 : ¬ ((rawPart none == rawInt 0) = true) := Bool.false_ne_true
  unfold setItem
  try with_reducible refine wpAny_holding ?_
  first | refine wpAny_bind (wpAny_pure ?_) | skip
  refine wpAny_bind (wpAny_sequenceKey tL (by decide) ?_)
  refine wpAny_bind (wpAny_callSpecial?_slot (name := Str.ofString "__setitem__") tL slot_list_setitem (wpAny_call_entry slot_list_setitem tL entry_list_setitem ?_ (args_list_setitem _ _ _)))
  refine wpAny_bind (m := Builtin.List.listSubscript? (.ref sl)) ?_
  unfold Builtin.List.listSubscript?
  refine wpAny_bind (wpAny_specialOf tS slice_no_index ?_)
  simp only [Option.isNone_none, if_true]
  refine wpAny_pure (wpAny_bind (m := typeOf (.ref sl)) (wpAny_typeOf tS ?_))
  first
    | rw [if_neg (by decide)]
    | refine PySem.W.KFB.if_not (by decide) ?_
  rw [listSliceParts_eq]
  refine wpAny_bind (wpAny_bind (wpAny_field hos hds (x := .none) rfl (wpAny_bind (wpAny_listPart .none ?_))))
  rw [if_neg step0]
  refine wpAny_bind (wpAny_field hos hds (x := vl) rfl (wpAny_bind (wpAny_listPart pl (wpAny_bind (wpAny_field hos hds (x := vu) rfl (wpAny_bind (wpAny_listPart pu (wpAny_pure ?_))))))))
  first
    | simp only [same, Bool.false_eq_true, if_false]
    | refine PySem.W.KFB.if_not same ?_
    | (dsimp only; rw [if_neg (by rw [same]; exact Bool.false_ne_true)])
  refine wpAny_bind (m := Builtin.List.listAllItems (.ref b) "must assign iterable to extended slice") ?_
  unfold Builtin.List.listAllItems
  refine wpAny_bind (wpAny_typeOf tB ?_)
  first
    | refine PySem.W.KFB.if_so (by decide) ?_
    | rw [if_pos (by decide)]
    | simp only [beq_self_eq_true, Bool.true_or, if_true]
  unfold Builtin.List.listItems
  refine wpAny_bind (wpAny_seqItems e2 rfl (wpAny_pure (wpAny_bind (wpAny_bind (wpAny_seqItems e rfl (wpAny_pure ?_))))))
  refine wpAny_bind (wpAny_of_eq (sliceIndices_raw lo hi none items.size (by simp)) ?_)
  have eb : sliceBounds lo hi none items.size = (((HT.sIx items.size 0 lo : Nat) : Int), ((HT.sIx items.size items.size hi : Nat) : Int), 1) := by
    apply Prod.ext
    · exact bounds.1
    · apply Prod.ext
      · exact bounds.2.1
      · exact bounds.2.2
  rw [eb]
  show wpAny _ _ (if ((1 : Int) == 1) = true then _ else _) _ _ s
  rw [if_pos (by decide)]
  refine wpAny_bind (wpAny_rule ?_)
  first
    | simp only [notLongL hsz, Bool.false_eq_true, if_false]
    | refine PySem.W.KFB.if_not (notLongL hsz) ?_
  first | refine wpAny_bind (wpAny_pure ?_) | skip
  have ea : ((HT.sIx items.size 0 lo : Nat) : Int).toNat = cutA lo items.size := Int.toNat_natCast _
  have ec : (max ((HT.sIx items.size 0 lo : Nat) : Int) ((HT.sIx items.size items.size hi : Nat) : Int)).toNat = cutC lo hi items.size := by
    unfold cutC
    omega
  show wpAny _ _ (updateSeq l (fun xs => xs.extract 0 (((HT.sIx items.size 0 lo : Nat) : Int)).toNat ++ new ++ xs.extract (max ((HT.sIx items.size 0 lo : Nat) : Int) ((HT.sIx items.size items.size hi : Nat) : Int)).toNat xs.size) >>= _) _ _ s
  rw [ea, ec]
  refine wpAny_bind (wpAny_updateSeq (hz := Nat.le_trans (Nat.le_add_right _ _) hsz) (_hz' := big) e rfl ?_)
  refine wpAny_bind (wpAny_letGo ?_)
  first
    | exact wpAny_bind (wpAny_pure (wpAny_pure ⟨.none, rfl, wpAny_pure h⟩))
    | exact wpAny_pure ⟨.none, rfl, wpAny_pure h⟩
end
theorem cut_eq (its ys : List Value) (a c : Nat) : (its.toArray.extract 0 a ++ ys.toArray ++ its.toArray.extract c its.toArray.size) = (its.take a ++ ys ++ its.drop c).toArray := splice_eq its ys a c
section
variable {X : Cx}
/-- xs[lo:hi] = another list -/
def gCut (to : TE) (tl th : TO) : TG := fun v σ H Q => to σ H fun x H1 => tl σ H1 fun lo H2 => th σ H2 fun hi H3 => ∃ l b xs ys, x = .ref l ∧ v = .ref b ∧ l ≠ b ∧ H3 l = some (.lst xs) ∧ H3 b = some (.lst ys) ∧ xs.length + ys.length ≤ sizeLine ∧
  Q σ (upd H3 l (.lst (xs.take (cutA lo xs.length) ++ ys ++ xs.drop (cutC lo hi xs.length))))
theorem pg_cut {o : Expr} {lo hi : Option Expr} {to : TE} {tl th : TO} {p2 pos : Pos} (ho : PE X o to) (hl : PO X lo tl) (hu : PO X hi th)
    (ha : ∀ v, assign (.Subscript o (.Slice lo hi none p2) pos) X.env v = (do
      let ov ← holding [v] (eval o X.env)
      let iv ← holding [v, ov] (eval (.Slice lo hi none p2) X.env)
      standAt pos
      holding [v, ov, iv] (setItem ov iv v)
      release [iv, v, ov] []) := by intro _; rfl) : PG X (.Subscript o (.Slice lo hi none p2) pos) (gCut to tl th) := by
  refine ⟨fun pins s σ H v u Q I r h => ?_⟩
  rw [ha]
  refine wpAny_bind (wpAny_holding (thn (ho.run pins s σ H _ I h) fun ov s1 ⟨x, H1, I1, r1, q1⟩ => ?_))
  refine wpAny_bind (wpAny_holding (wpAny_Slice (thn (hl.run pins s1 σ H1 _ I1 q1) fun vl s2 ⟨l, H2, I2, pl, q2⟩ => thn (hu.run pins s2 σ H2 _ I2 q2) fun vu s3 ⟨w', H3, I3, pu, q3⟩ =>
    thn (po_none.run pins s3 σ H3 (fun o H4 => o = none ∧ H4 = H3) I3 ⟨rfl, rfl⟩) fun vs s4 ⟨o', H4, I4, ps, eo, e4⟩ => ?_)))
  subst eo e4
  obtain ⟨a, b, xs, ys, rfl, rfl, hne, hA, hB, hz, q⟩ := q3
  cases r1
  cases r
  cases ps
  have I5 : Inv X pins σ H4 { s4 with heap := s4.heap.push { cls := .type "slice", data := .fields #[vl, vu, .none] } } := I4.kept (t' := s4.toks) fun b ob q => Heap.get?_push_of_some _ q
  obtain ⟨z, its, n, r, hl, e⟩ := I5.lstM hA
  obtain ⟨z2, its2, n2, r2, hl2, e2⟩ := I5.lstM hB
  refine wpAny_bind (wpAny_standAt (wpAny_bind (wpAny_holding ?_)))
  refine setItem_cut (s := { s4 with heap := s4.heap.push { cls := .type "slice", data := .fields #[vl, vu, .none] } }) e e2 hne (Heap.IsSliceOf.new _ vl vu .none) pl pu (by rw [List.size_toArray, List.size_toArray]; omega) ?_
  refine wpAny_release ⟨σ, _, I5.lset (its' := its.take (cutA l xs.length) ++ its2 ++ its.drop (cutC l w' xs.length)) (t' := s4.toks) hA e ?_ (Vals.append (Vals.append (r.take _) r2) (r.drop _)) ?_, q⟩
  · rw [List.size_toArray, hl]
    exact cut_eq its its2 _ _
  · have h1 := HT.sIx_le xs.length 0 (Nat.zero_le _) l
    rw [List.length_append, List.length_append, List.length_take, List.length_drop]
    simp only [cutA, cutC]
    omega
end
end Kt
namespace Kt
open PySem PySem.Spec PyProof.Rows L2 HT
open Evl (Ex Ev EvL EvU EvT EvA ex_l ex_t sq_of st_of sz_of sz_lt fresh_back given)
/-- what a slice with a step picks -/
def pickA {α : Type} (xs : List α) (lo hi : Option Int) (c : Int) : List α :=
  (List.range (Builtin.Slice.slicePlaces (Builtin.Slice.sliceAdjust lo hi c (xs.length : Int)).1 (Builtin.Slice.sliceAdjust lo hi c (xs.length : Int)).2 c)).filterMap fun (k : Nat) => xs[((Builtin.Slice.sliceAdjust lo hi c (xs.length : Int)).1 + (k : Int) * c).toNat]?
theorem pickA_map {α β : Type} (f : α → β) (xs : List α) (lo hi : Option Int) (c : Int) : pickA (xs.map f) lo hi c = (pickA xs lo hi c).map f := by
  unfold pickA
  rw [List.length_map, List.map_filterMap]
  congr 1
  funext k
  rw [List.getElem?_map]
theorem pickA_vals {xs : List V} {us : List Value} (r : Vals xs us) (lo hi : Option Int) (c : Int) : Vals (pickA xs lo hi c) (pickA us lo hi c) := by
  have hl : xs.length = us.length := r.length
  unfold pickA
  rw [hl]
  induction List.range (Builtin.Slice.slicePlaces (Builtin.Slice.sliceAdjust lo hi c (us.length : Int)).1 (Builtin.Slice.sliceAdjust lo hi c (us.length : Int)).2 c) with
  | nil => exact .nil
  | cons k ks ih =>
    rw [List.filterMap_cons, List.filterMap_cons]
    cases e : xs[((Builtin.Slice.sliceAdjust lo hi c (us.length : Int)).1 + (k : Int) * c).toNat]? with
    | none =>
      have e2 : us[((Builtin.Slice.sliceAdjust lo hi c (us.length : Int)).1 + (k : Int) * c).toNat]? = none := by
        rw [List.getElem?_eq_none_iff] at e ⊢
        omega
      rw [e2]
      exact ih
    | some x =>
      obtain ⟨u, hu, ru⟩ := r.get e
      rw [hu]
      exact .cons ru ih
section
variable {prog : Program} {w : World} {A : Around} {E : Value → Shared → Prop} {s : Shared}
theorem sliceApplied_step {sl : Addr} {vl vu vc : Value} {lo hi : Option Int} {c : Int} {n : Nat} {Q : Int × Int × Nat → Shared → Prop} (hs : s.heap.IsSliceOf sl vl vu vc) (pl : IsPart vl lo) (pu : IsPart vu hi) (pc : IsPart vc (some c)) (hc : c ≠ 0)
    (h : Q ((Builtin.Slice.sliceAdjust lo hi c (n : Int)).1, c, Builtin.Slice.slicePlaces (Builtin.Slice.sliceAdjust lo hi c (n : Int)).1 (Builtin.Slice.sliceAdjust lo hi c (n : Int)).2 c) s) : wpAny (model prog w) A (Builtin.Slice.sliceApplied (.ref sl) (pure (n : Int))) Q E s := by
  obtain ⟨os, hos, hcs, hds⟩ := id hs
  unfold Builtin.Slice.sliceApplied Builtin.Slice.sliceFields
  refine wpAny_bind (wpAny_bind (wpAny_field hos hds (x := vl) rfl (wpAny_bind (wpAny_field hos hds (x := vu) rfl (wpAny_bind (wpAny_field hos hds (x := vc) rfl (wpAny_pure ?_)))))))
  refine wpAny_bind (slicePart_ pc ?_)
  show wpAny _ _ (if (c == 0) = true then _ else _) _ _ s
  rw [if_neg (by simpa using hc)]
  exact wpAny_bind (slicePart_ pl (wpAny_bind (slicePart_ pu (wpAny_bind (wpAny_pure (wpAny_pure h))))))
theorem getItem_tuple_step {t sl : Addr} {items : List Value} {vl vu vc : Value} {lo hi : Option Int} {c : Int} {Q : Value → Shared → Prop} (ht : IsTup s.heap t items.toArray) (hs : s.heap.IsSliceOf sl vl vu vc) (pl : IsPart vl lo) (pu : IsPart vu hi) (pc : IsPart vc (some c)) (hc : c ≠ 0) (hc1 : c ≠ 1)
    (h : Q (.ref s.heap.objs.size) { s with heap := s.heap.push { cls := .type "tuple", data := .seq (pickA items lo hi c).toArray } }) (hz : (pickA items lo hi c).length ≤ sizeLine) : wpAny (model prog w) A (getItem (.ref t) (.ref sl)) Q E s := by
  obtain ⟨os, hos, hcs, hds⟩ := id hs
  have tS : s.TypeIs (.ref sl) "slice" := ⟨os, hos, hcs⟩
  unfold getItem
  try with_reducible refine wpAny_holding ?_
  first | refine wpAny_bind (wpAny_pure ?_) | skip
  refine wpAny_bind (wpAny_sequenceKey ht.typeIs (by decide) ?_)
  refine wpAny_bind (wpAny_callSpecial?_slot (name := Str.ofString "__getitem__") ht.typeIs PyProof.Rows.slot_tuple_getitem (wpAny_call_entry PyProof.Rows.slot_tuple_getitem ht.typeIs entry_tuple_getitem ?_ (args_tuple_getitem _ _)))
  refine wpAny_bind (m := Builtin.Tuple.tupleItemsOf (.ref t)) (tupleItemsOf_ ht ?_)
  refine wpAny_bind (wpAny_typeOf tS ?_)
  rw [if_pos (by decide)]
  refine wpAny_bind (sliceApplied_step hs pl pu pc hc ?_)
  have hno : ((Builtin.Slice.sliceAdjust lo hi c ((items.toArray.size : Nat) : Int)).1 == 0 && c == 1 && Builtin.Slice.slicePlaces (Builtin.Slice.sliceAdjust lo hi c ((items.toArray.size : Nat) : Int)).1 (Builtin.Slice.sliceAdjust lo hi c ((items.toArray.size : Nat) : Int)).2 c == items.toArray.size) = false := by
    rw [show (c == 1) = false by simpa using hc1, Bool.and_false, Bool.false_and]
  show wpAny _ _ (if ((Builtin.Slice.sliceAdjust lo hi c ((items.toArray.size : Nat) : Int)).1 == 0 && c == 1 && Builtin.Slice.slicePlaces (Builtin.Slice.sliceAdjust lo hi c ((items.toArray.size : Nat) : Int)).1 (Builtin.Slice.sliceAdjust lo hi c ((items.toArray.size : Nat) : Int)).2 c == items.toArray.size) = true then _ else _) _ _ s
  rw [if_neg (by rw [hno]; exact Bool.false_ne_true)]
  have ep : (List.filterMap (fun (k : Nat) => items.toArray[((Builtin.Slice.sliceAdjust lo hi c ((items.toArray.size : Nat) : Int)).1 + (k : Int) * c).toNat]?)
      (List.range (Builtin.Slice.slicePlaces (Builtin.Slice.sliceAdjust lo hi c ((items.toArray.size : Nat) : Int)).1 (Builtin.Slice.sliceAdjust lo hi c ((items.toArray.size : Nat) : Int)).2 c))).toArray = (pickA items lo hi c).toArray := by
    simp [pickA]
  have hz' : sizeOk (.seq (pickA items lo hi c).toArray) := by
    show (pickA items lo hi c).toArray.size ≤ sizeLine
    rw [List.size_toArray]
    exact hz
  rw [ep]
  first
    | exact wpAny_bind (m := Builtin.Tuple.tupleExact _) (wpAny_newObj_type (wpAny_pure ⟨_, rfl, wpAny_pure h⟩) hz')
    | exact wpAny_bind (m := Builtin.Tuple.tupleExact _) (wpAny_newObj_type (wpAny_bind (wpAny_pure (wpAny_pure ⟨_, rfl, wpAny_pure h⟩))) hz')
end
theorem pickA_len {α : Type} (xs : List α) (lo hi : Option Int) (c : Int) : (pickA xs lo hi c).length ≤ Builtin.Slice.slicePlaces (Builtin.Slice.sliceAdjust lo hi c (xs.length : Int)).1 (Builtin.Slice.sliceAdjust lo hi c (xs.length : Int)).2 c := by
  unfold pickA
  refine Nat.le_trans (List.length_filterMap_le _ _) ?_
  rw [List.length_range]
  exact Nat.le_refl _
section
variable {X : Cx}
/-- t[lo:hi:step], step not 0 and not 1 -/
def tStepT (K : PySem.W.Frag) (te : TE) (tl th tc : TO) : TE := fun σ H Q => te σ H fun x H1 => tl σ H1 fun lo H2 => th σ H2 fun hi H3 => tc σ H3 fun oc H4 => ∃ a xs c, x = .ref a ∧ oc = some c ∧ c ≠ 0 ∧ c ≠ 1 ∧ SqT K H4 a xs ∧ (pickA xs lo hi c).length ≤ sizeLine ∧
  ∀ p, H4 p = none → Q (.ref p) (upd H4 p (.tup (pickA xs lo hi c)))
theorem pe_stepT {e : Expr} {lo hi c : Option Expr} {te : TE} {tl th tc : TO} {p2 pos : Pos} (he : PE X e te) (hl : PO X lo tl) (hu : PO X hi th) (hc : PO X c tc)
    (hs : ∀ v sl, subscripted (.Slice lo hi c p2) false v sl = operate [v, sl] (getItem v sl) ∨ subscripted (.Slice lo hi c p2) false v sl = operate [sl, v] (getItem v sl) := by intro v sl; first | exact .inl (by with_unfolding_all rfl) | exact .inr (by with_unfolding_all rfl)) :
    PE X (.Subscript e (.Slice lo hi c p2) pos) (tStepT X.K te tl th tc) := by
  refine ⟨fun pins s σ H Q I h => ?_⟩
  refine Subscript_ (thn (he.run pins s σ H _ I h) fun v s1 ⟨x, H1, I1, r1, q1⟩ => ?_)
  refine wpAny_Slice (thn (hl.run pins s1 σ H1 _ I1 q1) fun vl s2 ⟨l, H2, I2, pl, q2⟩ => thn (hu.run pins s2 σ H2 _ I2 q2) fun vu s3 ⟨u, H3, I3, pu, q3⟩ => thn (hc.run pins s3 σ H3 _ I3 q3) fun vc s4 ⟨oc, H4, I4, pc, q4⟩ => ?_)
  obtain ⟨a, xs, c', rfl, rfl, h0, h1, hx, hz, q⟩ := q4
  cases r1
  have I5 : Inv X pins σ H4 { s4 with heap := s4.heap.push { cls := .type "slice", data := .fields #[vl, vu, vc] } } := I4.kept (t' := s4.toks) fun b ob q => Heap.get?_push_of_some _ q
  obtain ⟨its, r, ht, hz2⟩ := I5.tuple hx
  have rp := pickA_vals r l u c'
  have fin : wpAny (model X.prog X.w) X.A (getItem (.ref a) (.ref s4.heap.objs.size)) (EP X pins σ Q) X.xe { s4 with heap := s4.heap.push { cls := .type "slice", data := .fields #[vl, vu, vc] } } := by
    refine getItem_tuple_step (items := its) ht (Heap.IsSliceOf.new _ vl vu vc) pl pu pc h0 h1 ?_ (by rw [← rp.length]; exact hz)
    exact ⟨.ref _, _, I5.laid (t' := s4.toks) (o := .tup (pickA xs l u c')) (fun b ob q => Heap.get?_push_of_some _ q) (Nat.le_refl _) ⟨hz, _, rp, IsTup.new _ _⟩, rfl, q _ (I5.hok.fresh (Nat.le_refl _))⟩
  rcases hs (.ref a) (.ref s4.heap.objs.size) with e1 | e1
  · exact tail_any (ops := [.ref a, .ref s4.heap.objs.size]) ht.typeIs PyProof.Rows.slot_tuple_getitem.lookup fin e1
  · exact tail_any (ops := [.ref s4.heap.objs.size, .ref a]) ht.typeIs PyProof.Rows.slot_tuple_getitem.lookup fin e1
end
end Kt
namespace Kt
open PySem PySem.Spec PyProof.Rows L2
open Evl (Ex Ev EvL EvU EvT EvA ex_l ex_t sq_of st_of sz_of sz_lt fresh_back given)
/-- a def of the text that others call -/
structure De (P : Program) (w : World) (K : PySem.W.Frag) (mg : Str → Option Value) (base : Heap) (name : Str) (ps : List Str) (k : Nat) (sp : Sp) where
  f : Addr
  fd : FuncData
  ok : FnOk P w K mg base CX0 k f fd ps sp
  g : mg name = some (.ref f)
  kp : PySem.W.keepIn K (.ref f) = true
  b : Binds K fd ps []
def biNames : List Str := ["len", "range", "zip", "enumerate", "max", "min", "abs", "int", "list", "tuple", "isinstance", "repr", "sum", "any", "all", "sorted", "bool", "str", "reversed"]
/-- none of these names is the module's own -/
def Bis (mg : Str → Option Value) : Prop := ∀ x ∈ biNames, mg x = none
section
variable {K : PySem.W.Frag} {σ : L2.St} {H H' : Hp} {te : TE} {ta : TA} {tt : TT} {vs : List Nat} {a b : Addr} {xs ys : List V} {g : TG} {wi : TI} {n : Nat} {Y : Nat → Hp → V → Hp → Prop}
theorem walk_zipK {p q : Bool} {n : Nat} (hn : n = min xs.length ys.length) : Walk (ItzK p q K a b) n (fun H => SqK p K H a xs ∧ SqK q K H b ys) (YPair (fun i => xs[i]?) (fun i => ys[i]?)) := by
  subst hn
  refine ⟨fun i _ hi q => ?_, fun _ q => ⟨xs, ys, q.1, q.2, by omega, by omega, by omega⟩, fun i H v H' _ q y => ?_⟩
  · have h1 : i < xs.length := by omega
    have h2 : i < ys.length := by omega
    exact ⟨xs, ys, xs[i], ys[i], q.1, q.2, by simp [h1], by simp [h2]⟩
  · obtain ⟨T, x, z, h1, h2, h3, h4, h5⟩ := y
    exact ⟨T, x, z, h1, h2, h3, h4 xs q.1, h5 ys q.2⟩
theorem walk_enumK {p : Bool} {k₀ : Int} : Walk (IteK p K k₀ a) xs.length (fun H => SqK p K H a xs) (YPair (fun i => some (.int (k₀ + (i : Nat)))) (fun i => xs[i]?)) := by
  refine ⟨fun i _ hi q => ⟨xs, xs[i], q, by simp [hi]⟩, fun _ q => ⟨xs, q, rfl⟩, fun i H v H' _ q y => ?_⟩
  obtain ⟨T, x, h1, h2, h3, h4⟩ := y
  exact ⟨T, _, x, h1, h2, h3, rfl, h4 xs q⟩
/-- a list (false) or a tuple (true) of ints -/
def vK (p : Bool) (K : PySem.W.Frag) (ns : List Int) : VR := ⟨fun v H => ∃ a, v = .ref a ∧ SqK p K H a (ns.map V.int), fun e ⟨a, h1, h2⟩ => ⟨a, h1, ex_k e h2⟩⟩
theorem vP_K {ns : List Int} {v : V} : (vP K ns).R v H ↔ (vK true K ns).R v H := Iff.rfl
theorem vL_K {ns : List Int} {v : V} : (vL K ns).R v H ↔ (vK false K ns).R v H := Iff.rfl
theorem EvR.kP {ns : List Int} (h : EvR te σ H (vP K ns)) : EvR te σ H (vK true K ns) := h
theorem EvR.kL {ns : List Int} (h : EvR te σ H (vL K ns)) : EvR te σ H (vK false K ns) := h
theorem wk_zipK {p q : Bool} {as bs : List Int} (h : EvRs ta σ H [vK p K as, vK q K bs]) : Wk (iZipK p q K ta) σ H (min (as.map V.int).length (bs.map V.int).length) (YPair (fun i => (as.map V.int)[i]?) (fun i => (bs.map V.int)[i]?)) := fun H1 e R k =>
  h H1 e _ fun us H2 e2 ⟨_, _, h1, ⟨a, ha, hx⟩, ⟨_, _, h2, ⟨b, hb, hy⟩, h3⟩⟩ => by
    have h3' : _ = [] := h3
    subst ha hb h3' h2
    exact ⟨a, b, _, _, h1, hx, hy, k _ H2 _ e2 (walk_zipK rfl) fun H' e' => ⟨ex_k e' hx, ex_k e' hy⟩⟩
theorem wk_enumK {p : Bool} {as : List Int} (h : EvRs ta σ H [vK p K as]) : Wk (iEnumK p K ta) σ H (as.map V.int).length (YPair (fun i => some (.int ((0 : Int) + (i : Nat)))) (fun i => (as.map V.int)[i]?)) := fun H1 e R k =>
  h H1 e _ fun us H2 e2 ⟨_, _, h1, ⟨a, ha, hx⟩, h3⟩ => by
    have h3' : _ = [] := h3
    subst ha h3'
    exact ⟨a, _, h1, hx, k _ H2 _ e2 walk_enumK fun H' e' => ex_k e' hx⟩
theorem wk_tupR {tl : TE} {as : List Int} (h : EvR tl σ H (vP K as)) : Wk (iTup K tl) σ H (as.map V.int).length (YAt (as.map V.int)) := fun H1 e R k =>
  h H1 e _ fun v H2 e2 ⟨a, ha, hx⟩ => ⟨a, ha, ⟨_, hx⟩, k _ H2 _ e2 walk_tup fun H' e' => ex_t e' hx⟩
theorem wk_listR {tl : TE} {as : List Int} (h : EvR tl σ H (vL K as)) : Wk (iList K tl) σ H (as.map V.int).length (YAt (as.map V.int)) := fun H1 e R k =>
  h H1 e _ fun v H2 e2 ⟨a, ha, hx⟩ => ⟨a, ha, ⟨_, hx⟩, k _ H2 _ e2 walk_list fun H' e' => ex_l e' hx⟩
/-- comprehensions over ints, their elements by EvR -/
theorem er_mapI {ns : List Int} {j : Nat} (hw : Wk wi σ H (ns.map V.int).length (YAt (ns.map V.int))) (f : Int → Int) (hn : ns.length ≤ 50000) (hv : ∀ x, wipe ((wipe σ vs).set j (some x)) vs = wipe σ vs)
    (he : ∀ x ∈ ns, ∀ H1, Ex H H1 → EvR te ((wipe σ vs).set j (some (.int x))) H1 (vI (f x))) : EvR (tLc wi (gName j) tYes te vs) σ H (vL K (ns.map f)) :=
  evr_list (el_mapI hw f hn hv fun x hx H1 e => (he x hx H1 e).ev) rfl
theorem er_zipI {as bs : List Int} {j k : Nat} (hw : Wk wi σ H (min (as.map V.int).length (bs.map V.int).length) (YPair (fun i => (as.map V.int)[i]?) (fun i => (bs.map V.int)[i]?))) (f : Int → Int → Int) (hn : as.length ≤ 50000)
    (hv : ∀ x y, wipe (((wipe σ vs).set j (some x)).set k (some y)) vs = wipe σ vs)
    (he : ∀ x ∈ as, ∀ y ∈ bs, ∀ H1, Ex H H1 → EvR te (((wipe σ vs).set j (some (.int x))).set k (some (.int y))) H1 (vI (f x y))) : EvR (tLc wi (gTup K 2 (gCons (gName j) (gCons (gName k) gNil))) tYes te vs) σ H (vL K (List.zipWith f as bs)) :=
  evr_list (el_zipI hw f hn hv fun x hx y hy H1 e => (he x hx y hy H1 e).ev) rfl
theorem er_zipN {as bs : List Int} {j k : Nat} (hw : Wk wi σ H (min (as.map V.int).length (bs.map V.int).length) (YPair (fun i => (as.map V.int)[i]?) (fun i => (bs.map V.int)[i]?))) (f : Int → Int → Int) (hn : as.length ≤ 50000)
    (hv : ∀ x y, wipe (((wipe σ vs).set j (some x)).set k (some y)) vs = wipe σ vs)
    (he : ∀ x ∈ as, ∀ y ∈ bs, ∀ H1, Ex H H1 → EvR te (((wipe σ vs).set j (some (.int x))).set k (some (.int y))) H1 (vI (f x y))) : EvL (tLc wi (gTup K 2 (gCons (gName j) (gCons (gName k) gNil))) tYes te vs) σ H ((List.zipWith f as bs).map V.int) :=
  el_zipI hw f hn hv fun x hx y hy H1 e => (he x hx y hy H1 e).ev
theorem er_enumI {as : List Int} {j k : Nat} (hw : Wk wi σ H (as.map V.int).length (YPair (fun i => some (.int ((0 : Int) + (i : Nat)))) (fun i => (as.map V.int)[i]?))) (f : Nat → Int → Int) (hn : as.length ≤ 50000)
    (hv : ∀ x y, wipe (((wipe σ vs).set j (some x)).set k (some y)) vs = wipe σ vs)
    (he : ∀ (i : Nat) x, as[i]? = some x → ∀ H1, Ex H H1 → EvR te (((wipe σ vs).set j (some (.int (i : Int)))).set k (some (.int x))) H1 (vI (f i x))) : EvL (tLc wi (gTup K 2 (gCons (gName j) (gCons (gName k) gNil))) tYes te vs) σ H ((as.mapIdx f).map V.int) := by
  have z := el_comp (vs := vs) (g := gTup K 2 (gCons (gName j) (gCons (gName k) gNil))) (tt := tYes) (te := te) hw (fun _ => true) (fun i => .int (f i (as.getD i 0))) (by rw [List.length_map]; exact hn) (fun i v H1 H2 hi e y R q => by
    obtain ⟨T, x, y, rfl, hT, rfl, hx, hy⟩ := y
    rw [List.length_map] at hi
    have hyi : as[i]? = some as[i] := List.getElem?_eq_getElem hi
    have hx' : some (V.int ((0 : Int) + (i : Nat))) = some x := hx
    have hy' : (as.map V.int)[i]? = some y := hy
    rw [List.getElem?_map, hyi] at hy'
    have ex : V.int ((0 : Int) + (i : Nat)) = x := Option.some.inj hx'
    rw [Int.zero_add] at ex
    have ey : V.int as[i] = y := Option.some.inj hy'
    subst ex
    subst ey
    have eg2 : as.getD i 0 = as[i] := by simp [List.getD, hyi]
    refine ⟨T, _, rfl, st_of upd_same, rfl, _, _, rfl, _, _, rfl, rfl, q _ _ (hv _ _) (Ex.new hT) et_yes fun _ => ?_⟩
    show Ev te _ _ (.int (f i (as.getD i 0)))
    rw [eg2]
    exact (he i _ hyi _ (e.trans (Ex.new hT))).ev)
  rw [given_all] at z
  have el : (List.range (as.map V.int).length).map (fun i => V.int (f i (as.getD i 0))) = (as.mapIdx f).map V.int := by
    apply List.ext_getElem
    · simp
    · intro i h1 h2
      simp only [List.length_map, List.length_range] at h1
      simp [h1]
  rw [el] at z
  exact z
/-- slices -/
theorem evr_revL {as : List Int} (h : EvR te σ H (vL K as)) : EvR (tRevL K te) σ H (vL K as.reverse) := fun H1 e Q q =>
  h H1 e _ fun v H2 e2 ⟨a, ha, hx⟩ => ⟨a, _, ha, hx, fun p hp => q (.ref p) _ (e2.trans (Ex.new hp)) ⟨p, rfl, by
    rw [List.map_reverse]
    exact sq_of upd_same⟩⟩
theorem evr_lenR {rr : List V → Hp → VK → Prop} {p : Bool} {ns : List Int} (hrr : rr = fun xs H Q => ∃ p ys, xs = [.ref p] ∧ (SqL K H p ys ∨ SqT K H p ys) ∧ Q (.int ys.length) H) (h : EvR te σ H (vK p K ns)) : EvR (tCB rr (tCons te tNil)) σ H (vI (ns.length : Int)) := by
  cases p with
  | true => exact evr_cb (rs := [vP K ns]) (evrs_cons h evrs_nil) (cb_lenP hrr)
  | false => exact evr_cb (rs := [vL K ns]) (evrs_cons h evrs_nil) (cb_lenL hrr)
end
end Kt
namespace Kt
open PySem PySem.Spec PyProof.Rows L2
open Evl (Ex Ev EvL EvU EvT EvA EvO ex_l ex_t sq_of st_of sz_of sz_lt fresh_back given)
def cutI (ns : List Int) (lo hi : Option Int) : List Int := (ns.drop (HT.sIx ns.length 0 lo)).take (HT.sIx ns.length ns.length hi - HT.sIx ns.length 0 lo)
theorem cutI_map (ns : List Int) (lo hi : Option Int) : cutV (ns.map V.int) lo hi = (cutI ns lo hi).map V.int := by
  unfold cutV cutI
  rw [List.length_map, List.map_take, List.map_drop]
theorem cutI_to {ns : List Int} {m : Nat} (h : m ≤ ns.length) : cutI ns none (some (m : Int)) = ns.take m := by
  unfold cutI
  rw [HT.sIx_none, HT.sIx_nat, List.drop_zero, Nat.sub_zero, Nat.min_eq_left h]
theorem cutI_from {ns : List Int} {m : Nat} (h : m ≤ ns.length) : cutI ns (some (m : Int)) none = ns.drop m := by
  unfold cutI
  rw [HT.sIx_none, HT.sIx_nat, Nat.min_eq_left h]
  apply List.take_of_length_le
  rw [List.length_drop]
  omega
theorem cutI_len (ns : List Int) (lo hi : Option Int) : (cutI ns lo hi).length ≤ ns.length := by
  unfold cutI
  rw [List.length_take, List.length_drop]
  omega
section
variable {K : PySem.W.Frag} {σ : L2.St} {H H' : Hp} {te to tc : TE} {ta : TA} {tl th tn : TO} {lo hi : Option Int} {a b l : Addr} {xs ys : List V} {ns : List Int} {D : Ends} {tz : TS} {r : VR}
theorem eo_none : EvO tNoPart σ H none := fun H1 _ Q q => q H1 (Ex.refl H1)
theorem eo_some {i : Int} (h : EvR te σ H (vI i)) : EvO (tPart te) σ H (some i) := fun H1 e Q q => h H1 e _ fun v H2 e2 hv => ⟨i, hv, q H2 e2⟩
theorem el_slL (h : EvR te σ H (vL K ns)) (hl : EvO tl σ H lo) (hu : EvO th σ H hi) : EvL (tSl (rSlL K) te tl th) σ H ((cutI ns lo hi).map V.int) := fun H1 e Q q =>
  h H1 e _ fun v H2 e2 ⟨a, ha, hx⟩ => hl H2 (e.trans e2) _ fun H3 e3 => hu H3 ((e.trans e2).trans e3) _ fun H4 e4 =>
    ⟨a, _, ha, ex_l (e3.trans e4) hx, fun p hp => q p _ (fresh_back ((e2.trans e3).trans e4) hp) (((e2.trans e3).trans e4).trans (Ex.new hp)) (by
      rw [cutI_map]
      exact upd_same)⟩
theorem evr_slL (h : EvR te σ H (vL K ns)) (hl : EvO tl σ H lo) (hu : EvO th σ H hi) : EvR (tSl (rSlL K) te tl th) σ H (vL K (cutI ns lo hi)) := evr_list (el_slL h hl hu) rfl
theorem evr_slT (h : EvR te σ H (vP K ns)) (hl : EvO tl σ H lo) (hu : EvO th σ H hi) : EvR (tSl (rSlA K) te tl th) σ H (vP K (cutI ns lo hi)) := fun H1 e Q q =>
  h H1 e _ fun v H2 e2 ⟨a, ha, hx⟩ => hl H2 (e.trans e2) _ fun H3 e3 => hu H3 ((e.trans e2).trans e3) _ fun H4 e4 =>
    ⟨a, _, ha, ex_t (e3.trans e4) hx, fun hw => q (.ref a) H4 ((e2.trans e3).trans e4) ⟨a, rfl, by
        rw [List.length_map] at hw
        have ec : cutI ns lo hi = ns := by
          unfold cutI
          rw [hw.1, hw.2, List.drop_zero, Nat.sub_zero, List.take_length]
        rw [ec]
        exact ex_t (e3.trans e4) hx⟩,
      fun _ p hp => q (.ref p) _ (((e2.trans e3).trans e4).trans (Ex.new hp)) ⟨p, rfl, by
        rw [← cutI_map]
        exact st_of upd_same⟩⟩
theorem evr_stepT {c : Int} (h : EvR te σ H (vP K ns)) (hl : EvO tl σ H lo) (hu : EvO th σ H hi) (hc : EvO tn σ H (some c)) (h0 : c ≠ 0) (h1 : c ≠ 1) (hz : (pickA ns lo hi c).length ≤ 100000) : EvR (tStepT K te tl th tn) σ H (vP K (pickA ns lo hi c)) := fun H1 e Q q =>
  h H1 e _ fun v H2 e2 ⟨a, ha, hx⟩ => hl H2 (e.trans e2) _ fun H3 e3 => hu H3 ((e.trans e2).trans e3) _ fun H4 e4 => hc H4 (((e.trans e2).trans e3).trans e4) _ fun H5 e5 =>
    ⟨a, _, c, ha, rfl, h0, h1, ex_t ((e3.trans e4).trans e5) hx, sz_of (by rw [pickA_map, List.length_map]; exact hz), fun p hp => q (.ref p) _ ((((e2.trans e3).trans e4).trans e5).trans (Ex.new hp)) ⟨p, rfl, by
      rw [← pickA_map]
      exact st_of upd_same⟩⟩
theorem evr_tupleL {rr : List V → Hp → VK → Prop} (hrr : rr = fun xs H Q => ∃ p ys, xs = [.ref p] ∧ ((SqL K H p ys ∧ ∀ l, H l = none → Q (.ref l) (upd H l (.tup ys))) ∨ (SqT K H p ys ∧ Q (.ref p) H))) (h : EvR te σ H (vL K ns)) : EvR (tCB rr (tCons te tNil)) σ H (vP K ns) := fun H1 e Q q =>
  h H1 e _ fun v H2 e2 ⟨a, ha, hx⟩ => by
    subst hrr
    exact ⟨a, _, by rw [ha], .inl ⟨hx, fun p hp => q (.ref p) _ (e2.trans (Ex.new hp)) ⟨p, rfl, st_of upd_same⟩⟩⟩
theorem el_listK {p : Bool} {rr : List V → Hp → VK → Prop} (hrr : rr = fun xs H Q => ∃ p ys, xs = [.ref p] ∧ (SqL K H p ys ∨ SqT K H p ys) ∧ ∀ l, H l = none → Q (.ref l) (upd H l (.lst ys))) (h : EvR te σ H (vK p K ns)) : EvL (tCB rr (tCons te tNil)) σ H (ns.map V.int) := fun H1 e Q q =>
  h H1 e _ fun v H2 e2 ⟨a, ha, hx⟩ => by
    subst hrr
    refine ⟨a, _, by rw [ha], ?_, fun p hp => q p _ (fresh_back e2 hp) (e2.trans (Ex.new hp)) upd_same⟩
    cases p with
    | true => exact .inr hx
    | false => exact .inl hx
theorem el_dispI {rs : List Int} (h : EvRs ta σ H (rs.map vI)) (hl : rs.length ≤ 100000) : EvL (tLst ta) σ H (rs.map V.int) := fun H1 e Q q =>
  h H1 e _ fun vs H2 e2 hvs => by
    have hv : vs = rs.map V.int := hvs.ints
    subst hv
    exact ⟨sz_of (by rw [List.length_map]; exact hl), fun p hp => q p _ (fresh_back e2 hp) (e2.trans (Ex.new hp)) upd_same⟩
/-- a mutable list of ints at a name -/
theorem evr_mut {i : Nat} (h : σ[i]? = some (some (.ref l))) (hl : H l = some (.lst (ns.map V.int))) : EvR (tVar i) σ H (vL K ns) := evr_var h ⟨l, rfl, sq_of hl⟩
theorem qr_app {x : Int} (hl : H l = some (.lst (ns.map V.int))) (ha : Ev to σ H (.ref l)) (h : EvR te σ H (vI x)) (hz : ns.length < 100000) (k : ∀ H1, Ex H H1 → tz D σ (upd H1 l (.lst ((ns ++ [x]).map V.int)))) :
    tSeq (tDrop (tBM K "list" rAppend to (tCons te tNil))) tz D σ H := Evl.q_app hl ha h.ev (by rw [List.length_map]; exact hz) fun H1 e => by
  have z := k H1 e
  rw [List.map_append] at z
  exact z
theorem sr_pop (hl : H l = some (.lst (ns.map V.int))) (ha : Ev to σ H (.ref l)) (hz : ns ≠ []) (k : ∀ H1, Ex H H1 → D.nx σ (upd H1 l (.lst (ns.dropLast.map V.int)))) : tDrop (tBM0 K "list" rPop to) D σ H :=
  ha H (Ex.refl H) _ fun H1 e => ⟨.inl ⟨rfl, _, sq_of (e l _ hl)⟩, l, _, .int (ns.getLast hz), rfl, rfl, e l _ hl, by
    rw [List.length_map, List.getElem?_map, ← List.getLast?_eq_getElem?, List.getLast?_eq_some_getLast hz]
    rfl, by
    have z := k H1 e
    rw [List.map_dropLast] at z
    exact z⟩
theorem sr_cut {ms : List Int} (hl : H l = some (.lst (ns.map V.int))) (ho : ∀ H1, Ex H H1 → Ev to σ H1 (.ref l)) (hlo : ∀ H1, Ex H H1 → EvO tl σ H1 lo) (hhi : ∀ H1, Ex H H1 → EvO th σ H1 hi) (h : EvL te σ H (ms.map V.int)) (hz : ns.length + ms.length ≤ 100000)
    (k : ∀ H1, Ex H H1 → D.nx σ (upd H1 l (.lst ((ns.take (cutA lo ns.length) ++ ms ++ ns.drop (cutC lo hi ns.length)).map V.int)))) : tAsg te (gCut to tl th) D σ H :=
  h H (Ex.refl H) _ fun p H1 hp e1 h1 => ho H1 e1 H1 (Ex.refl H1) _ fun H2 e2 => hlo H2 (e1.trans e2) H2 (Ex.refl H2) _ fun H3 e3 => hhi H3 ((e1.trans e2).trans e3) H3 (Ex.refl H3) _ fun H4 e4 => by
    have e : Ex H H4 := ((e1.trans e2).trans e3).trans e4
    have z := k H4 e
    rw [List.map_append, List.map_append, List.map_take, List.map_drop] at z
    refine ⟨l, p, _, _, rfl, rfl, fun q => ?_, e l _ hl, e4 p _ (e3 p _ (e2 p _ h1)), sz_of (by rw [List.length_map, List.length_map]; exact hz), ?_⟩
    · rw [← q, hl] at hp
      cases hp
    · rw [List.length_map]
      exact z
end
theorem fm_congr {α β : Type} {f g : α → Option β} : ∀ {l : List α}, (∀ x ∈ l, f x = g x) → l.filterMap f = l.filterMap g
  | [], _ => rfl
  | x :: r, h => by
    rw [List.filterMap_cons, List.filterMap_cons, h x List.mem_cons_self, fm_congr fun y hy => h y (List.mem_cons_of_mem _ hy)]
theorem adj_rev (n : Nat) : Builtin.Slice.sliceAdjust none none (-1) (n : Int) = ((n : Int) - 1, -1) := by
  unfold Builtin.Slice.sliceAdjust
  simp
theorem places_rev (n : Nat) : Builtin.Slice.slicePlaces ((n : Int) - 1) (-1) (-1) = n := by
  unfold Builtin.Slice.slicePlaces
  simp
  split <;> omega
theorem pick_all' : ∀ (l : List Int) (m : Nat), (List.range' m l.length).filterMap (fun (k : Nat) => l[k - m]?) = l
  | [], _ => rfl
  | x :: r, m => by
    rw [List.length_cons, List.range'_succ, List.filterMap_cons]
    simp only [Nat.sub_self, List.getElem?_cons_zero]
    congr 1
    refine Eq.trans (fm_congr fun k hk => ?_) (pick_all' r (m + 1))
    have hk' : m + 1 ≤ k := by
      have := List.mem_range'.mp hk
      obtain ⟨i, _, e⟩ := this
      omega
    obtain ⟨j, rfl⟩ := Nat.exists_eq_add_of_le hk'
    have e1 : m + 1 + j - m = j + 1 := by omega
    have e2 : m + 1 + j - (m + 1) = j := by omega
    rw [e1, e2]
    exact List.getElem?_cons_succ
theorem pick_all (l : List Int) : (List.range l.length).filterMap (fun (k : Nat) => l[k]?) = l := by
  rw [List.range_eq_range']
  exact pick_all' l 0
theorem pickA_rev (ns : List Int) : pickA ns none none (-1) = ns.reverse := by
  unfold pickA
  rw [adj_rev, places_rev]
  have z := pick_all ns.reverse
  rw [List.length_reverse] at z
  refine Eq.trans (fm_congr fun k hk => ?_) z
  rw [List.mem_range] at hk
  rw [List.getElem?_reverse hk]
  congr 1
  show (((ns.length : Int) - 1) + (k : Int) * (-1)).toNat = _
  omega
end Kt
namespace Kt
open PySem PySem.Spec PyProof.Rows L2
open Evl (Ex Ev EvL EvU EvT EvA EvO ex_l ex_t sq_of st_of sz_of sz_lt fresh_back given)
theorem Alls.get : ∀ {rs : List VR} {xs : List V} {i : Nat} {r : VR} {H : Hp}, Alls rs xs H → rs[i]? = some r → ∃ x, xs[i]? = some x ∧ r.R x H
  | [], _, _, _, _, _, h => by simp at h
  | r0 :: rs, _, 0, r, _, ⟨v, ws, h1, h2, h3⟩, h => by
    have e : r0 = r := by simpa using h
    subst e h1
    exact ⟨v, rfl, h2⟩
  | r0 :: rs, _, i + 1, r, _, ⟨v, ws, h1, h2, h3⟩, h => by
    subst h1
    have h' : rs[i]? = some r := by simpa using h
    obtain ⟨x, hx, hr⟩ := Alls.get h3 h'
    exact ⟨x, by simpa using hx, hr⟩
theorem cutI_drop {ns : List Int} {m : Nat} : cutI ns (some (m : Int)) none = ns.drop m := by
  by_cases h : m ≤ ns.length
  · exact cutI_from h
  · unfold cutI
    rw [HT.sIx_none, HT.sIx_nat, Nat.min_eq_right (by omega), List.drop_eq_nil_of_le (Nat.le_refl _), List.drop_eq_nil_of_le (by omega), List.take_nil]
mutual
theorem dp_ex {K : PySem.W.Frag} {H H' : Hp} (e : Ex H H') : ∀ {v : V} {d : PyData}, Dp K H v d → Dp K H' v d
  | _, _, .non => .non
  | _, _, .bl b => .bl b
  | _, _, .int i => .int i
  | _, _, .str x => .str x
  | _, _, .lst h a => .lst (ex_l e h) (dpa_ex e a)
  | _, _, .tup h a => .tup (ex_t e h) (dpa_ex e a)
theorem dpa_ex {K : PySem.W.Frag} {H H' : Hp} (e : Ex H H') : ∀ {vs : List V} {ds : List PyData}, DpAll K H vs ds → DpAll K H' vs ds
  | _, _, .nil => .nil
  | _, _, .cons h a => .cons (dp_ex e h) (dpa_ex e a)
end
/-- plain data -/
def vD (K : PySem.W.Frag) (d : PyData) : VR := ⟨fun v H => Dp K H v d, fun e h => dp_ex e h⟩
theorem dpa_ints (K : PySem.W.Frag) (H : Hp) : ∀ ns : List Int, DpAll K H (ns.map V.int) (ns.map PyData.int)
  | [] => .nil
  | n :: ns => .cons (.int n) (dpa_ints K H ns)
def dP (ns : List Int) : PyData := .tuple (ns.map PyData.int)
def dL (ns : List Int) : PyData := .list (ns.map PyData.int)
theorem vP_D {K : PySem.W.Frag} {ns : List Int} {v : V} {H : Hp} (h : (vP K ns).R v H) : (vD K (dP ns)).R v H := by
  obtain ⟨a, rfl, hs⟩ := h
  exact .tup hs (dpa_ints K H ns)
theorem vL_D {K : PySem.W.Frag} {ns : List Int} {v : V} {H : Hp} (h : (vL K ns).R v H) : (vD K (dL ns)).R v H := by
  obtain ⟨a, rfl, hs⟩ := h
  exact .lst hs (dpa_ints K H ns)
theorem eqvAll_ints : ∀ xs ys : List Int, PyData.eqvAll (xs.map PyData.int) (ys.map PyData.int) = decide (xs = ys)
  | [], [] => by simp [PyData.eqvAll]
  | [], y :: ys => by simp [PyData.eqvAll]
  | x :: xs, [] => by simp [PyData.eqvAll]
  | x :: xs, y :: ys => by
    rw [List.map_cons, List.map_cons, PyData.eqvAll, eqvAll_ints xs ys, PyData.eqv]
    by_cases h1 : x = y <;> by_cases h2 : xs = ys <;> simp [h1, h2]
theorem eqv_P (xs ys : List Int) : PyData.eqv (dP xs) (dP ys) = decide (xs = ys) := by
  unfold dP
  rw [PyData.eqv]
  exact eqvAll_ints xs ys
theorem eqv_L (xs ys : List Int) : PyData.eqv (dL xs) (dL ys) = decide (xs = ys) := by
  unfold dL
  rw [PyData.eqv]
  exact eqvAll_ints xs ys
theorem lay_ints : ∀ xs : List Int, PyData.canLayAll0 (xs.map PyData.int) = true
  | [] => rfl
  | x :: xs => by rw [List.map_cons, PyData.canLayAll0, lay_ints xs, PyData.canLay0] <;> rfl
theorem depth_ints : ∀ xs : List Int, PyData.depthAll (xs.map PyData.int) = 0
  | [] => rfl
  | x :: xs => by rw [List.map_cons, PyData.depthAll, depth_ints xs, PyData.depth] <;> rfl
theorem shaped_P (xs : List Int) : SeqAt.shaped (dP xs) = true := by
  unfold SeqAt.shaped dP
  rw [PyData.canLay0, lay_ints, PyData.depth, depth_ints]
  rfl
theorem shaped_L (xs : List Int) : SeqAt.shaped (dL xs) = true := by
  unfold SeqAt.shaped dL
  rw [PyData.canLay0, lay_ints, PyData.depth, depth_ints]
  rfl
section
variable {K : PySem.W.Frag} {σ : L2.St} {H H' : Hp} {te to tc : TE} {ns xs ys : List Int} {x y : Int}
theorem op_eqDD {d e : PyData} (sd : SeqAt.shaped d = true) (se : SeqAt.shaped e = true) : OpV (rEqD K) (vD K d) (vD K e) (vB (PyData.eqv d e)) H := fun a b H1 _ ha hb Q q => ⟨d, e, ha, hb, sd, se, q _ H1 (Ex.refl H1) rfl⟩
theorem op_neDD {d e : PyData} (sd : SeqAt.shaped d = true) (se : SeqAt.shaped e = true) : OpV (rNeD K) (vD K d) (vD K e) (vB (!PyData.eqv d e)) H := fun a b H1 _ ha hb Q q => ⟨d, e, ha, hb, sd, se, q _ H1 (Ex.refl H1) rfl⟩
theorem op_eqP : OpV (rEqD K) (vP K xs) (vP K ys) (vB (decide (xs = ys))) H := fun a b H1 e ha hb Q q => by
  have z := op_eqDD (K := K) (H := H) (shaped_P xs) (shaped_P ys) a b H1 e (vP_D ha) (vP_D hb) Q
  rw [eqv_P] at z
  exact z q
theorem op_neP : OpV (rNeD K) (vP K xs) (vP K ys) (vB (!decide (xs = ys))) H := fun a b H1 e ha hb Q q => by
  have z := op_neDD (K := K) (H := H) (shaped_P xs) (shaped_P ys) a b H1 e (vP_D ha) (vP_D hb) Q
  rw [eqv_P] at z
  exact z q
theorem op_eqLL : OpV (rEqD K) (vL K xs) (vL K ys) (vB (decide (xs = ys))) H := fun a b H1 e ha hb Q q => by
  have z := op_eqDD (K := K) (H := H) (shaped_L xs) (shaped_L ys) a b H1 e (vL_D ha) (vL_D hb) Q
  rw [eqv_L] at z
  exact z q
theorem op_neLL : OpV (rNeD K) (vL K xs) (vL K ys) (vB (!decide (xs = ys))) H := fun a b H1 e ha hb Q q => by
  have z := op_neDD (K := K) (H := H) (shaped_L xs) (shaped_L ys) a b H1 e (vL_D ha) (vL_D hb) Q
  rw [eqv_L] at z
  exact z q
theorem EvR.eqI (h : EvR te σ H (vI x)) (e : x = y) : EvR te σ H (vI y) := e ▸ h
/-! ### truth -/
def tTr (K : PySem.W.Frag) (ta : TE) : TT := fun σ H Q => ta σ H fun x H' => ∃ k, TruV K x H' k ∧ Q k H'
theorem et_truI (h : EvR te σ H (vI x)) : EvT (tTr K te) σ H (x != 0) := fun H1 e Q q => h H1 e _ fun v H2 e2 hv => by
  have hv' : v = .int x := hv
  subst hv'
  exact ⟨_, rfl, q H2 e2⟩
theorem et_truP (h : EvR te σ H (vP K ns)) : EvT (tTr K te) σ H (!ns.isEmpty) := fun H1 e Q q => h H1 e _ fun v H2 e2 ⟨a, ha, hs⟩ => by
  subst ha
  refine ⟨_, .inr (.inl ⟨_, hs, rfl⟩), ?_⟩
  have ee : (!(ns.map V.int).isEmpty) = !ns.isEmpty := by cases ns <;> rfl
  rw [ee]
  exact q H2 e2
theorem et_truL (h : EvR te σ H (vL K ns)) : EvT (tTr K te) σ H (!ns.isEmpty) := fun H1 e Q q => h H1 e _ fun v H2 e2 ⟨a, ha, hs⟩ => by
  subst ha
  refine ⟨_, .inl ⟨_, hs, rfl⟩, ?_⟩
  have ee : (!(ns.map V.int).isEmpty) = !ns.isEmpty := by cases ns <;> rfl
  rw [ee]
  exact q H2 e2
theorem un_negI (h : EvR te σ H (vI x)) : EvR (tUn (rU fun i => .int (-i)) te) σ H (vI (-x)) := fun H1 e Q q => h H1 e _ fun v H2 e2 hv => ⟨x, hv, q _ H2 e2 rfl⟩
/-- the last item -/
theorem atI_lastI {ns : List Int} (h : ns ≠ []) : atI (ns.map V.int) (-1) = some (.int (ns.getLast h)) := by
  have e : ns.map V.int = (ns.dropLast.map V.int) ++ [.int (ns.getLast h)] := by
    rw [← List.map_singleton, ← List.map_append, List.dropLast_concat_getLast]
  rw [e]
  exact atI_last _ _
/-- an item of a tuple of things -/
theorem evr_ixT {rs : List VR} {i : Nat} {r : VR} (h : EvR te σ H (vT K rs)) (hi : EvR to σ H (vI (i : Int))) (hr : rs[i]? = some r) : EvR (tOp (rIxT K) te to) σ H r := fun H1 e Q q =>
  h H1 e _ fun v H2 e2 ⟨a, xs, ha, hs, hal⟩ => hi H2 (e.trans e2) _ fun u H3 e3 hu => by
    obtain ⟨x, hx, rx⟩ := Alls.get hal hr
    have hu' : u = .int (i : Int) := hu
    subst ha hu'
    exact ⟨a, xs, _, x, rfl, rfl, ex_t e3 hs, atI_nat hx, q x H3 (e2.trans e3) (r.st e3 rx)⟩
end
end Kt
namespace Kt
open PySem PySem.Spec PyProof.Rows L2
open Evl (Ex Ev EvL EvU EvT EvA EvO ex_l ex_t sq_of st_of sz_of sz_lt fresh_back given)
section
variable {K : PySem.W.Frag} {σ : L2.St} {H H' : Hp} {te to tc tf : TE} {ta : TA} {ns xs ys : List Int} {x y : Int} {a : Addr} {v : V} {d : PyData} {b c : Bool}
theorem ty_sqT {xs : List V} (h : SqT K H a xs) : TyX K H (.ref a) (.type "tuple") := by
  rcases h with (h | ⟨o, h⟩) | ⟨o, _, _, h, hc, _⟩
  · exact .base (.tup h)
  · exact .fTuple h
  · exact .kTuple h hc
theorem ty_sqL {xs : List V} (h : SqL K H a xs) : TyX K H (.ref a) (.type "list") := by
  rcases h with (h | ⟨o, h⟩) | ⟨o, _, _, h, hc, _⟩
  · exact .base (.lst h)
  · exact .base (.frz h)
  · exact .kList h hc
/-- the kind of plain data -/
def tyN : PyData → String
  | .none => "NoneType"
  | .bool _ => "bool"
  | .int _ => "int"
  | .str _ => "str"
  | .list _ => "list"
  | .tuple _ => "tuple"
  | .dict _ => "dict"
theorem ty_D (h : Dp K H v d) : TyX K H v (.type (tyN d)) := by
  cases h with
  | non => exact .base .non
  | bl b => exact .base (.bl b)
  | int i => exact .base (.int i)
  | str z => exact .base (.str z)
  | lst h _ => exact ty_sqL h
  | tup h _ => exact ty_sqT h
/-- something of a kind -/
def vTy (K : PySem.W.Frag) (n : String) : VR → Prop := fun r => ∀ v H, r.R v H → TyX K H v (.type n)
theorem vTy_D : vTy K (tyN d) (vD K d) := fun _ _ h => ty_D h
theorem vTy_I : vTy K "int" (vI x) := fun v H h => by
  have h' : v = .int x := h
  subst h'
  exact .base (.int x)
theorem vTy_P : vTy K "tuple" (vP K ns) := fun v H ⟨a, ha, h⟩ => by
  subst ha
  exact ty_sqT h
theorem vTy_T {rs : List VR} : vTy K "tuple" (vT K rs) := fun v H ⟨a, _, ha, h, _⟩ => by
  subst ha
  exact ty_sqT h
theorem vTy_L : vTy K "list" (vL K ns) := fun v H ⟨a, ha, h⟩ => by
  subst ha
  exact ty_sqL h
theorem evr_isi {r : VR} {m n : String} (h : EvR te σ H r) (hr : vTy K m r) (e : kitB m n = some b) : EvR (tCB (rIsi K) (tCons te (tCons (tC (.ty n)) tNil))) σ H (vB b) := fun H1 e1 Q q =>
  h H1 e1 _ fun v H2 e2 hv => ⟨v, .ty n, _, _, b, rfl, .ty n, hr v H2 hv, kit_ty e, q _ H2 e2 rfl⟩
/-! ### and, or, not as values -/
theorem evr_and (h : EvR te σ H (vB b)) (h2 : b = true → EvR to σ H (vB c)) : EvR (tAndV te to) σ H (vB (b && c)) := fun H1 e Q q => h H1 e _ fun v H2 e2 hv => by
  have hv' : v = .bl b := hv
  subst hv'
  refine ⟨b, rfl, ?_⟩
  cases b with
  | true => exact iteT (h2 rfl H2 (e.trans e2) Q fun v H3 e3 hv => q v H3 (e2.trans e3) hv)
  | false => exact iteF (q _ H2 e2 rfl)
theorem evr_or (h : EvR te σ H (vB b)) (h2 : b = false → EvR to σ H (vB c)) : EvR (tOrV te to) σ H (vB (b || c)) := fun H1 e Q q => h H1 e _ fun v H2 e2 hv => by
  have hv' : v = .bl b := hv
  subst hv'
  refine ⟨b, rfl, ?_⟩
  cases b with
  | true => exact iteT (q _ H2 e2 rfl)
  | false => exact iteF (h2 rfl H2 (e.trans e2) Q fun v H3 e3 hv => q v H3 (e2.trans e3) hv)
theorem evr_not (h : EvR te σ H (vB b)) : EvR (tNotV te) σ H (vB (!b)) := fun H1 e Q q => h H1 e _ fun v H2 e2 hv => ⟨b, hv, q _ H2 e2 rfl⟩
/-- a < b < c -/
theorem evr_chain {r r' : R2} {ra rb rc : VR} (ha : EvR te σ H ra) (hb : EvR to σ H rb) (ho : OpV r ra rb (vB b) H) (hc : b = true → EvR tc σ H rc) (ho2 : b = true → OpV r' rb rc (vB c) H) : EvR (tChain r r' te to tc) σ H (vB (b && c)) := fun H1 e Q q =>
  ha H1 e _ fun u H2 e2 hu => hb H2 (e.trans e2) _ fun v H3 e3 hv => ho u v H3 ((e.trans e2).trans e3) (ra.st e3 hu) hv _ fun z H4 e4 hz => by
    refine ⟨b, hz, ?_⟩
    cases b with
    | true => exact iteT (hc rfl H4 (((e.trans e2).trans e3).trans e4) _ fun w H5 e5 hw => ho2 rfl v w H5 ((((e.trans e2).trans e3).trans e4).trans e5) (rb.st (e4.trans e5) hv) hw Q fun y H6 e6 hy => q y H6 ((((e2.trans e3).trans e4).trans e5).trans e6) hy)
    | false => exact iteF (q _ H4 ((e2.trans e3).trans e4) rfl)
theorem EvR.eqB (h : EvR te σ H (vB b)) (e : b = c) : EvR te σ H (vB c) := e ▸ h
theorem evr_abs {rr : List V → Hp → VK → Prop} (hrr : rr = fun xs H Q => ∃ i, xs = [.int i] ∧ Q (.int (if i < 0 then -i else i)) H) (h : EvR te σ H (vI x)) : EvR (tCB rr (tCons te tNil)) σ H (vI (if x < 0 then -x else x)) := fun H1 e Q q => h H1 e _ fun v H2 e2 hv => by
  have hv' : v = .int x := hv
  subst hrr hv'
  exact ⟨x, rfl, q _ H2 e2 rfl⟩
/-- one of a written row of ints -/
theorem op_notInI {r : R2} (hr : r = rIn K true) : OpV r (vI x) (vP K ns) (vB (!decide (x ∈ ns))) H := fun u v H1 _ hu ⟨a, ha, hs⟩ Q q => by
  have hu' : u = .int x := hu
  subst hu' ha hr
  refine ⟨a, _, rfl, .inr hs, rfl, ?_, ?_⟩
  · rw [List.all_map]
    exact List.all_eq_true.mpr fun _ _ => rfl
  · have e : inV (.int x) (ns.map V.int) = decide (x ∈ ns) := by
      unfold inV
      rw [List.any_map]
      by_cases h : x ∈ ns
      · rw [decide_eq_true h]
        exact List.any_eq_true.mpr ⟨x, h, beq_self_eq_true x⟩
      · rw [decide_eq_false h]
        refine List.any_eq_false.mpr fun y hy z => h ?_
        have z' : (y == x) = true := z
        rw [← eq_of_beq z']
        exact hy
    rw [e]
    exact q _ H1 (Ex.refl H1) rfl
/-! ### lists of truths, all -/
theorem evr_all {bs : List Bool} {r : List V → Hp → VK → Prop} (hr : r = rAll K) (h : EvL te σ H (bs.map V.bl)) : EvR (tCB r (tCons te tNil)) σ H (vB (bs.all id)) := fun H1 e Q q => h H1 e _ fun p H2 _ e2 hp => by
  subst hr
  exact ⟨p, bs, rfl, sq_of hp, q _ H2 e2 rfl⟩
end
end Kt
namespace M
/-- rows of ints without an end: polynomials and more -/
@[ext] structure PS where
  c : Nat → Int
def mulc : Nat → (Nat → Int) → (Nat → Int) → Int
  | 0, f, g => f 0 * g 0
  | k + 1, f, g => f 0 * g (k + 1) + mulc k (fun i => f (i + 1)) g
def cst (n : Int) : Nat → Int
  | 0 => n
  | _ + 1 => 0
namespace PS
instance : Add PS := ⟨fun f g => ⟨fun k => f.c k + g.c k⟩⟩
instance : Neg PS := ⟨fun f => ⟨fun k => -f.c k⟩⟩
instance : Sub PS := ⟨fun f g => ⟨fun k => f.c k - g.c k⟩⟩
instance : Mul PS := ⟨fun f g => ⟨fun k => mulc k f.c g.c⟩⟩
instance : IntCast PS := ⟨fun n => ⟨cst n⟩⟩
instance : NatCast PS := ⟨fun n => ⟨cst n⟩⟩
instance (n : Nat) : OfNat PS n := ⟨⟨cst n⟩⟩
def npow (f : PS) : Nat → PS
  | 0 => 1
  | n + 1 => npow f n * f
instance : HPow PS Nat PS := ⟨npow⟩
instance : HMul Int PS PS := ⟨fun n f => ⟨fun k => n * f.c k⟩⟩
instance : SMul Nat PS := ⟨fun n f => ⟨fun k => n * f.c k⟩⟩
instance : SMul Int PS := ⟨fun n f => ⟨fun k => n * f.c k⟩⟩
@[simp] theorem add_c (f g : PS) (k : Nat) : (f + g).c k = f.c k + g.c k := rfl
@[simp] theorem neg_c (f : PS) (k : Nat) : (-f).c k = -f.c k := rfl
@[simp] theorem sub_c (f g : PS) (k : Nat) : (f - g).c k = f.c k - g.c k := rfl
theorem mul_c (f g : PS) (k : Nat) : (f * g).c k = mulc k f.c g.c := rfl
@[simp] theorem smulN_c (n : Nat) (f : PS) (k : Nat) : (n • f).c k = n * f.c k := rfl
@[simp] theorem smulZ_c (n : Int) (f : PS) (k : Nat) : (n • f).c k = n * f.c k := rfl
theorem mulc_addL : ∀ (k : Nat) (f g h : Nat → Int), mulc k (fun i => f i + g i) h = mulc k f h + mulc k g h
  | 0, f, g, h => Int.add_mul _ _ _
  | k + 1, f, g, h => by
    have := mulc_addL k (fun i => f (i + 1)) (fun i => g (i + 1)) h
    simp only [mulc]
    rw [this, Int.add_mul]
    omega
theorem mulc_scL : ∀ (k : Nat) (n : Int) (f h : Nat → Int), mulc k (fun i => n * f i) h = n * mulc k f h
  | 0, n, f, h => Int.mul_assoc _ _ _
  | k + 1, n, f, h => by
    have := mulc_scL k n (fun i => f (i + 1)) h
    simp only [mulc]
    rw [this, Int.mul_add, Int.mul_assoc]
theorem mulc_right : ∀ (k : Nat) (f g : Nat → Int), mulc (k + 1) f g = f (k + 1) * g 0 + mulc k f (fun i => g (i + 1))
  | 0, f, g => by
    simp only [mulc]
    omega
  | k + 1, f, g => by
    have := mulc_right k (fun i => f (i + 1)) g
    rw [mulc, this]
    simp only [mulc]
    omega
theorem mulc_comm : ∀ (k : Nat) (f g : Nat → Int), mulc k f g = mulc k g f
  | 0, f, g => Int.mul_comm _ _
  | k + 1, f, g => by
    rw [mulc_right k g f, mulc, mulc_comm k, Int.mul_comm]
theorem mulc_assoc : ∀ (k : Nat) (f g h : Nat → Int), mulc k (fun i => mulc i f g) h = mulc k f (fun i => mulc i g h)
  | 0, f, g, h => Int.mul_assoc _ _ _
  | k + 1, f, g, h => by
    have e1 := mulc_assoc k (fun i => f (i + 1)) g h
    have e2 := mulc_addL k (fun i => f 0 * g (i + 1)) (fun i => mulc i (fun j => f (j + 1)) g) h
    have e3 := mulc_scL k (f 0) (fun i => g (i + 1)) h
    simp only [mulc] at *
    rw [e2, e3, e1, Int.mul_add, Int.mul_assoc]
    omega
theorem mulc_zeroL : ∀ (k : Nat) (g : Nat → Int), mulc k (fun _ => 0) g = 0
  | 0, g => Int.zero_mul _
  | k + 1, g => by
    simp only [mulc]
    rw [mulc_zeroL k g, Int.zero_mul]
    rfl
theorem mulc_cst : ∀ (k : Nat) (n : Int) (g : Nat → Int), mulc k (cst n) g = n * g k
  | 0, n, g => rfl
  | k + 1, n, g => by
    show cst n 0 * g (k + 1) + mulc k (fun _ => 0) g = _
    rw [mulc_zeroL, Int.add_zero]
    rfl
theorem add_comm' (f g : PS) : f + g = g + f := by ext k; exact Int.add_comm _ _
theorem mul_comm' (f g : PS) : f * g = g * f := by ext k; exact mulc_comm _ _ _
theorem mul_assoc' (f g h : PS) : f * g * h = f * (g * h) := by ext k; exact mulc_assoc _ _ _ _
theorem cst_mul (n : Int) (f : PS) : (⟨cst n⟩ : PS) * f = n • f := by ext k; exact mulc_cst _ _ _
theorem ofNat_c (n : Nat) : (OfNat.ofNat n : PS) = ⟨cst n⟩ := rfl
theorem one_c : (1 : PS) = ⟨cst 1⟩ := rfl
theorem zero_c : (0 : PS) = ⟨cst 0⟩ := rfl
@[simp] theorem cst0 (k : Nat) : cst 0 k = 0 := by cases k <;> rfl
theorem cst_add (a b : Int) : (⟨cst (a + b)⟩ : PS) = ⟨cst a⟩ + ⟨cst b⟩ := by
  ext k
  cases k <;> simp [cst]
instance : Lean.Grind.CommRing PS where
  nsmul := ⟨fun n f => n • f⟩
  zsmul := ⟨fun n f => n • f⟩
  npow := ⟨npow⟩
  add_zero f := by ext k; simp [zero_c]
  add_comm := add_comm'
  add_assoc f g h := by ext k; exact Int.add_assoc _ _ _
  mul_assoc := mul_assoc'
  mul_one f := by
    rw [mul_comm', one_c, cst_mul]
    ext k
    exact Int.one_mul _
  one_mul f := by
    rw [one_c, cst_mul]
    ext k
    exact Int.one_mul _
  left_distrib f g h := by
    rw [mul_comm', mul_comm' f g, mul_comm' f h]
    ext k
    exact mulc_addL _ _ _ _
  right_distrib f g h := by
    ext k
    exact mulc_addL _ _ _ _
  zero_mul f := by
    rw [zero_c, cst_mul]
    ext k
    show (0 : Int) * f.c k = cst 0 k
    rw [Int.zero_mul, cst0]
  mul_zero f := by
    rw [mul_comm', zero_c, cst_mul]
    ext k
    show (0 : Int) * f.c k = cst 0 k
    rw [Int.zero_mul, cst0]
  neg_add_cancel f := by
    ext k
    show -f.c k + f.c k = cst 0 k
    rw [cst0]
    omega
  sub_eq_add_neg f g := by
    ext k
    exact Int.sub_eq_add_neg
  mul_comm := mul_comm'
  pow_zero f := rfl
  pow_succ f n := rfl
  ofNat_succ n := by
    show (⟨cst ((n + 1 : Nat) : Int)⟩ : PS) = ⟨cst (n : Int)⟩ + ⟨cst 1⟩
    rw [← cst_add]
    rfl
  nsmul_eq_natCast_mul n f := by
    show n • f = (⟨cst n⟩ : PS) * f
    rw [cst_mul]
    rfl
  intCast_ofNat n := rfl
  intCast_neg n := by
    show (⟨cst (-n)⟩ : PS) = -⟨cst n⟩
    ext k
    cases k <;> simp [cst]
  neg_zsmul n f := by
    ext k
    show (-n) * f.c k = -(n * f.c k)
    rw [Int.neg_mul]
  zsmul_natCast_eq_nsmul n f := rfl
end PS
example (a b c : PS) : (a + b) * c = c * b + a * c := by grind
example (a b c d : PS) (h : a = b * c) (h2 : b = d * d) : a - d * d * c = 0 := by grind
end M
namespace K0
open PySem PySem.Spec PyProof.Rows L2 Kt
open Evl (Ex Ev EvL EvU EvT EvA EvO ex_l ex_t sq_of st_of sz_of sz_lt fresh_back)
def topS (i : Nat) : Stmt := PySem.Challenge.pw_slopewords_k05_whole_slopes_of_functions.main.body.getD i (.Pass ⟨0, 0, 0, 0⟩)
def trim : List Int → List Int
  | [] => []
  | x :: r => match trim r with
    | [] => if x = 0 then [] else [x]
    | t :: ts => x :: t :: ts
theorem trim_all0 : ∀ {l : List Int}, (∀ x ∈ l, x = 0) → trim l = []
  | [], _ => rfl
  | x :: r, h => by
    have h1 := trim_all0 (l := r) fun y hy => h y (List.mem_cons_of_mem _ hy)
    have h2 := h x List.mem_cons_self
    simp [trim, h1, h2]
theorem trim_take : ∀ {l : List Int} {s : Nat}, s ≤ l.length → (∀ x ∈ l.drop s, x = 0) → (s = 0 ∨ l[s - 1]? ≠ some 0) → trim l = l.take s
  | l, 0, _, h, _ => by
    rw [List.take_zero]
    exact trim_all0 (by simpa using h)
  | [], s + 1, hs, _, _ => by simp at hs
  | x :: r, s + 1, hs, h, ht => by
    rcases ht with ht | ht
    · cases ht
    · cases s with
      | zero =>
        have h1 : trim r = [] := trim_all0 (by simpa using h)
        have hx : x ≠ 0 := by simpa using ht
        simp [trim, h1, hx]
      | succ s =>
        have ih := trim_take (l := r) (s := s + 1) (by simpa using hs) (by simpa using h) (Or.inr (by simpa using ht))
        rw [trim, ih, List.take_succ_cons]
        cases r with
        | nil => simp at hs
        | cons y r => simp
/-! ### what the defs are worth -/
def invFrom (p n : Int) : Nat → Int → Int
  | 0, _ => 0
  | m + 1, g => if g * n % p = 1 then g else invFrom p n m (g + 1)
def inv (p n : Int) : Int := invFrom p n (p - 1).toNat 1
def scale (p : Int) (ns : List Int) (f : Int) : List Int := if f = 1 then ns else trim (ns.map fun n => f * n % p)
def pad (ns : List Int) (k : Int) : List Int := ns ++ List.replicate k.toNat 0
def addScaled (p : Int) (xs ys : List Int) (f : Int) : List Int :=
  trim (List.zipWith (fun a b => (a + f * b) % p) (pad xs (max (xs.length : Int) ys.length - xs.length)) (pad ys (max (xs.length : Int) ys.length - ys.length)))
/-- ints below 2 ^ 60 in size -/
def Small (ns : List Int) : Prop := ∀ n ∈ ns, -(2 ^ 60) < n ∧ n < 2 ^ 60
structure G2 where
  p : Int
  n : Int
structure GS where
  p : Int
  ns : List Int
  f : Int
structure GA where
  p : Int
  xs : List Int
  ys : List Int
  f : Int
structure GP where
  p : Int
  xs : List Int
structure GQ where
  p : Int
  xs : List Int
  ys : List Int
section
variable {P : Program} {w : World} {K : PySem.W.Frag} {mg : Str → Option Value} {base : Heap}
def sp_trimmed (K : PySem.W.Frag) : Sp := Con (G := List Int) (fun ns => ns.length ≤ 100000) (fun ns => [vL K ns]) (fun ns => vP K (trim ns))
def sp_inverse (K : PySem.W.Frag) : Sp := Con (G := G2) (fun g => 0 < g.p ∧ g.p ≤ 100000) (fun g => [vI g.p, vI g.n]) (fun g => vI (inv g.p g.n))
def sp_scale (K : PySem.W.Frag) : Sp := Con (G := GS) (fun g => 0 < g.p ∧ g.ns.length ≤ 40000 ∧ Small g.ns) (fun g => [vI g.p, vP K g.ns, vI g.f]) (fun g => vP K (scale g.p g.ns g.f))
def sp_add_scaled (K : PySem.W.Frag) : Sp := Con (G := GA) (fun g => 0 < g.p ∧ g.xs.length ≤ 1000 ∧ g.ys.length ≤ 1000 ∧ Small g.xs ∧ Small g.ys) (fun g => [vI g.p, vP K g.xs, vP K g.ys, vI g.f]) (fun g => vP K (addScaled g.p g.xs g.ys g.f))
abbrev s_trimmed : Stmt := topS 11
abbrev N_trimmed : List Str := ["numbers", "size"]
theorem sc_trimmed : FnScope N_trimmed ["numbers"] (defScope s_trimmed) := ⟨rfl, rfl, rfl, by decide +kernel, rfl, by decide +kernel, by decide +kernel⟩
theorem ok_trimmed {f : Addr} {fd : FuncData} (F : Fun K "trimmed" "trimmed" s_trimmed f fd) (B : Bis mg)  : FnOk P w K mg base CX0 1 f fd ["numbers"] (sp_trimmed K) := by
  refine F.ok sc_trimmed (fun vs H Q E h => ?_) (fun cdv A outer s H vs Q E hr h => ?_)
  · obtain ⟨g, _, ha, _⟩ := h
    exact ha.len
  · obtain ⟨ns, hlen, ⟨_, _, rfl, ⟨a, rfl, hS⟩, rfl⟩, q⟩ := h
    dsimp only at *
    refine ⟨_, (pss_cons (ps_set (i := 1) sc_trimmed.nd rfl (Or.inl rfl) (pe_callB call_len_seq (by rfl) (B "len" (by decide +kernel)) (by decide +kernel) (pa_cons (pv 0) pa_nil)))
      (pss_cons (ps_while PassesOwn.never (PW.pt (pw_and (pt_truth (pv 1) (by intro _; rfl)) (pw_and1 (pt_cmpR op_eq (pe_ix ix_list (pv 0) (pe_op op_sub (pv 1) pe_int) (fun _ _ => rfl)) pe_int (nomark _))))) (pss_one (ps_aug (i := 1) sc_trimmed.nd rfl (Or.inl rfl) pe_int ip_sub)))
      (pss_one (ps_ret (pe_callTy call_tuple_of (by rfl) (B "tuple" (by decide +kernel)) (by decide +kernel) (pa_cons (pe_slice sl_list (pv 0) po_none (po_some (pv 1))) pa_nil)))))), ?_⟩
    refine ⟨.ref a, rfl, a, _, rfl, .inl hS, ?_⟩
    show tWhile _ _ _ _ _
    refine ⟨fun m σ H1 => m ≤ ns.length ∧ σ = [some (.ref a), some (.int (m : Int))] ∧ Ex H H1 ∧ ∀ x ∈ ns.drop m, x = 0, ⟨ns.length, Nat.le_refl _, by rw [List.length_map]; rfl, Ex.refl H, by simp⟩, fun m σ H1 hW => ?_⟩
    obtain ⟨hm, rfl, e1, hz⟩ := hW
    have fin : (m = 0 ∨ ns[m - 1]? ≠ some 0) → ∀ (H1 : Hp), Ex H H1 → tRet (tCB
                    (fun xs H_1 Q =>
                      ∃ p ys,
                        xs = [V.ref p] ∧
                          ((SqL K H_1 p ys ∧ ∀ (l : Addr), H_1 l = none → Q (V.ref l) (upd H_1 l (HO.tup ys))) ∨ SqT K H_1 p ys ∧ Q (V.ref p) H_1))
                    (tCons (tSl (rSlL K) (tVar 0) tNoPart (tPart (tVar 1))) tNil)) { nx := fun x H' => Q V.non H', rt := Q } [some (.ref a), some (.int (m : Int))] H1 := by
      intro hc H1 e1
      refine ⟨_, rfl, _, rfl, m, rfl, a, _, rfl, ex_l e1 hS, fun p np => ?_⟩
      refine ⟨p, _, rfl, .inl ⟨.inl (.inl upd_same), fun l nl => ?_⟩⟩
      refine q (.ref l) _ (e1.trans ((Ex.new np).trans (Ex.new nl))) ⟨l, rfl, st_of ?_⟩
      rw [trim_take hm hz hc, cutI_map, cutI_to hm]
      exact upd_same
    refine ⟨_, rfl, _, (by show _ = _; rfl), ?_⟩
    by_cases h0 : m = 0
    · subst h0
      refine iteF (iteF ?_)
      exact fin (.inl rfl) H1 e1
    · have hb : ((m : Int) != 0) = true := by simp [h0]
      rw [hb]
      refine iteT ⟨_, rfl, _, rfl, _, _, rfl, rfl, a, _, _, .int (ns[m - 1]'(by omega)), rfl, rfl, ex_l e1 hS, ?_, rfl, _, rfl, ?_⟩
      · have e : ((m : Int) - 1) = ((m - 1 : Nat) : Int) := by omega
        rw [e]
        exact atI_nat (by rw [List.getElem?_map, List.getElem?_eq_getElem]; rfl)
      · by_cases hz0 : ns[m - 1]'(by omega) = 0
        · rw [hz0]
          refine iteT ⟨fun σ' H' => σ' = [some (.ref a), some (.int ((m - 1 : Nat) : Int))] ∧ Ex H H', fun σ' H' hN => ⟨m - 1, by omega, by omega, hN.1, hN.2, ?_⟩, ?_⟩
          · intro x hx
            have : ns.drop (m - 1) = ns[m - 1]'(by omega) :: ns.drop m := by
              have e := List.drop_eq_getElem_cons (l := ns) (i := m - 1) (by omega)
              rwa [show m - 1 + 1 = m by omega] at e
            rw [this, List.mem_cons] at hx
            rcases hx with hx | hx
            · rw [hx, hz0]
            · exact hz x hx
          · refine ⟨_, rfl, _, _, rfl, rfl, ?_, e1⟩
            have e : ((m : Int) - 1) = ((m - 1 : Nat) : Int) := by omega
            show [some (V.ref a), some (V.int ((m : Int) - 1))] = _
            rw [e]
        · have hd : decide (V.int (ns[m - 1]'(by omega)) = V.int 0) = false := decide_eq_false fun z => hz0 (V.int.inj z)
          rw [hd]
          refine iteF ?_
          refine fin (.inr ?_) H1 e1
          rw [List.getElem?_eq_getElem (by omega)]
          exact fun z => hz0 (Option.some.inj z)
abbrev s_inverse : Stmt := topS 12
abbrev N_inverse : List Str := ["prime", "number", "guess"]
theorem sc_inverse : FnScope N_inverse ["prime", "number"] (defScope s_inverse) := ⟨rfl, rfl, rfl, by decide +kernel, rfl, by decide +kernel, by decide +kernel⟩
theorem ok_inverse {f : Addr} {fd : FuncData} (F : Fun K "inverse" "inverse" s_inverse f fd) (B : Bis mg)  : FnOk P w K mg base CX0 1 f fd ["prime", "number"] (sp_inverse K) := by
  refine F.ok sc_inverse (fun vs H Q E h => ?_) (fun cdv A outer s H vs Q E hr h => ?_)
  · obtain ⟨g, _, ha, _⟩ := h
    exact ha.len
  · obtain ⟨⟨p, n⟩, ⟨hp, hp2⟩, ⟨_, _, rfl, rfl, ⟨_, _, rfl, rfl, rfl⟩⟩, q⟩ := h
    dsimp only at *
    refine ⟨_, (pss_cons (ps_for PassesOwn.never rfl (pi_range2 (by rfl) (B "range" (by decide +kernel)) (pa_cons pe_int (pa_cons (pv 0) pa_nil))) (pg_name (i := 2) sc_inverse.nd rfl (Or.inl rfl)) (pss_one (ps_if (pt_cmpR op_eq (pe_op op_mod (pe_op op_mul (pv 2) (pv 1)) (pv 0)) pe_int (nomark _)) (pss_one (ps_ret (pv 2))) pss_nil)))
      (pss_one (ps_ret pe_int))), ?_⟩
    refine Evl.q_forR2 (lo := 1) (n := p) (Evl.ea_cons Evl.ev_c (Evl.ea_cons (Evl.ev_var rfl) Evl.ea_nil)) (by omega) (fun i σ H1 => (∃ x, σ = [some (.int p), some (.int n), x]) ∧ Ex H H1 ∧ invFrom p n ((p - 1).toNat - i) (1 + i) = inv p n)
      (fun H1 e => ⟨⟨_, rfl⟩, e, rfl⟩) (fun i σ H1 hi hW => ?_) (fun σ H1 hW => ?_)
    · obtain ⟨⟨x, rfl⟩, e, hI⟩ := hW
      have hm : (p - 1).toNat - i = ((p - 1).toNat - (i + 1)) + 1 := by omega
      rw [hm] at hI
      refine ⟨_, rfl, _, rfl, _, _, rfl, rfl, .inl (by omega), _, rfl, _, _, rfl, rfl, hp, rfl, _, rfl, ?_⟩
      refine ifD (fun hc => ⟨_, rfl, ?_⟩) (fun hc => ⟨⟨_, rfl⟩, e, ?_⟩)
      · rw [invFrom, if_pos (V.int.inj hc)] at hI
        show Q (.int (1 + (i : Int))) H1
        rw [hI]
        exact q _ H1 e rfl
      · rw [invFrom, if_neg (fun z => hc (congrArg V.int z))] at hI
        rw [← hI]
        congr 1
    · obtain ⟨⟨x, rfl⟩, e, hI⟩ := hW
      have z : (p - 1).toNat - (p - 1).toNat = 0 := by omega
      rw [z] at hI
      show Q (.int 0) H1
      have e0 : inv p n = 0 := hI.symm
      rw [← e0]
      exact q _ H1 e rfl
abbrev s_scale : Stmt := topS 13
abbrev N_scale : List Str := ["prime", "poly", "factor", "number"]
theorem sc_scale : FnScope N_scale ["prime", "poly", "factor"] (defScope s_scale) := ⟨rfl, rfl, rfl, by decide +kernel, rfl, by decide +kernel, by decide +kernel⟩
theorem ok_scale {f : Addr} {fd : FuncData} (F : Fun K "scale" "scale" s_scale f fd) (B : Bis mg) (D_trimmed : De P w K mg base "trimmed" ["numbers"] 1 (sp_trimmed K)) : FnOk P w K mg base CX0 2 f fd ["prime", "poly", "factor"] (sp_scale K) := by
  refine F.ok sc_scale (fun vs H Q E h => ?_) (fun cdv A outer s H vs Q E hr h => ?_)
  · obtain ⟨g, _, ha, _⟩ := h
    exact ha.len
  · obtain ⟨⟨p, ns, f⟩, ⟨hp, hlen, hsm⟩, ⟨_, _, rfl, rfl, vp, _, rfl, hS, _, _, rfl, rfl, rfl⟩, q⟩ := h
    dsimp only at *
    refine ⟨_, (pss_cons (ps_if (pt_cmpR op_eq (pv 2) pe_int (nomark _)) (pss_one (ps_ret (pv 1))) pss_nil)
      (pss_one (ps_ret (pe_call D_trimmed.ok (hr.mono (by decide)) (by rfl) D_trimmed.g D_trimmed.kp D_trimmed.b .nil pass0 (pa_cons (pe_lc (own := [("number", 3)]) (g := (gName 3)) (tt := tYes) rfl sc_scale.nd (pi_tup (pv 1)) (blkOk_by (own := [("number", 3)]) (N := N_scale) (sc := defScope s_scale) (by decide +kernel)) (fun _ _ _ _ _ => (pg_name (i := 3) sc_scale.nd rfl (Or.inl rfl))) (fun _ _ _ _ _ => pts_nil) (fun _ _ _ _ _ => (pe_op op_mod (pe_op op_mul (pv 2) (pv 3)) (pv 0)))) pa_nil))))), ?_⟩
    refine Evl.q_when (et_r (evr_op (evr_var rfl (r := vI f) rfl) evr_c (op_eqS rfl))) (fun hb H1 e1 => ?_) (fun hb H1 e1 => ?_)
    · refine sr_ret (evr_var rfl ((vP K ns).st e1 hS)) fun v H2 e2 hv => q v H2 (e1.trans e2) ?_
      show (vP K (scale p ns f)).R v H2
      rw [scale, if_pos (V.int.inj (of_decide_eq_true hb))]
      exact hv
    · have hf : ¬ f = 1 := fun z => of_decide_eq_false hb (congrArg V.int z)
      refine sr_ret (evr_call (ns.map fun n => f * n % p) (by rw [List.length_map]; show ns.length ≤ 100000; have : ns.length ≤ 40000 := hlen; omega) (evrs_cons (evr_list ?_ rfl) evrs_nil)) fun v H2 e2 hv => q v H2 (e1.trans e2) ?_
      · obtain ⟨a, rfl, hS⟩ := hS
        refine el_mapI (ns := ns) (f := fun n => f * n % p) (wk_tup (Evl.ev_var rfl) (ex_t e1 hS)) (by have : ns.length ≤ 40000 := hlen; omega) (fun x => rfl) ?_
        intro n hn H1 e
        have := hsm n hn
        exact Evl.ev_op (Evl.ev_op (Evl.ev_var rfl) (Evl.ev_var rfl) (Evl.rv_I (.inr (by omega)))) (Evl.ev_var rfl) (Evl.rv_I hp)
      · show (vP K (scale p ns f)).R v H2
        rw [scale, if_neg hf]
        exact hv
abbrev s_add_scaled : Stmt := topS 15
abbrev N_add_scaled : List Str := ["prime", "one", "other", "factor", "size", "left", "right", "number", "further"]
theorem sc_add_scaled : FnScope N_add_scaled ["prime", "one", "other", "factor"] (defScope s_add_scaled) := ⟨rfl, rfl, rfl, by decide +kernel, rfl, by decide +kernel, by decide +kernel⟩
theorem ok_add_scaled {f : Addr} {fd : FuncData} (F : Fun K "add_scaled" "add_scaled" s_add_scaled f fd) (B : Bis mg) (D_trimmed : De P w K mg base "trimmed" ["numbers"] 1 (sp_trimmed K)) : FnOk P w K mg base CX0 2 f fd ["prime", "one", "other", "factor"] (sp_add_scaled K) := by
  refine F.ok sc_add_scaled (fun vs H Q E h => ?_) (fun cdv A outer s H vs Q E hr h => ?_)
  · obtain ⟨g, _, ha, _⟩ := h
    exact ha.len
  · obtain ⟨⟨p, xs, ys, f⟩, ⟨hp, hl1, hl2, sm1, sm2⟩, ⟨_, _, rfl, rfl, ⟨_, _, rfl, hx, ⟨_, _, rfl, hy, ⟨_, _, rfl, rfl, rfl⟩⟩⟩⟩, q⟩ := h
    dsimp only at *
    refine ⟨_, (pss_cons (ps_set (i := 4) sc_add_scaled.nd rfl (Or.inl rfl) (pe_callB (call_max2 rfl) (by rfl) (B "max" (by decide +kernel)) (by decide +kernel) (pa_cons (pe_callB call_len_seq (by rfl) (B "len" (by decide +kernel)) (by decide +kernel) (pa_cons (pv 1) pa_nil)) (pa_cons (pe_callB call_len_seq (by rfl) (B "len" (by decide +kernel)) (by decide +kernel) (pa_cons (pv 2) pa_nil)) pa_nil))))
      (pss_cons (ps_set (i := 5) sc_add_scaled.nd rfl (Or.inl rfl) (pe_op op_catA (pv 1) (pe_op op_repA (pe_tup (pa_cons pe_int pa_nil)) (pe_op op_sub (pv 4) (pe_callB call_len_seq (by rfl) (B "len" (by decide +kernel)) (by decide +kernel) (pa_cons (pv 1) pa_nil))))))
      (pss_cons (ps_set (i := 6) sc_add_scaled.nd rfl (Or.inl rfl) (pe_op op_catA (pv 2) (pe_op op_repA (pe_tup (pa_cons pe_int pa_nil)) (pe_op op_sub (pv 4) (pe_callB call_len_seq (by rfl) (B "len" (by decide +kernel)) (by decide +kernel) (pa_cons (pv 2) pa_nil))))))
      (pss_one (ps_ret (pe_call D_trimmed.ok (hr.mono (by decide)) (by rfl) D_trimmed.g D_trimmed.kp D_trimmed.b .nil pass0 (pa_cons (pe_lc (own := [("number", 7), ("further", 8)]) (g := (gTup K 2 (gCons (gName 7) (gCons (gName 8) gNil)))) (tt := tYes) rfl sc_add_scaled.nd (pi_zipK true true (by rfl) (B "zip" (by decide +kernel)) (pa_cons (pv 5) (pa_cons (pv 6) pa_nil))) (blkOk_by (own := [("number", 7), ("further", 8)]) (N := N_add_scaled) (sc := defScope s_add_scaled) (by decide +kernel)) (fun _ _ _ _ _ => (pg_tup rfl (pgs_cons (pg_name (i := 7) sc_add_scaled.nd rfl (Or.inl rfl)) (pgs_cons (pg_name (i := 8) sc_add_scaled.nd rfl (Or.inl rfl)) pgs_nil)))) (fun _ _ _ _ _ => pts_nil) (fun _ _ _ _ _ => (pe_op op_mod (pe_op op_add (pv 7) (pe_op op_mul (pv 3) (pv 8))) (pv 0)))) pa_nil))))))), ?_⟩
    refine qr_asg (r := vI (max (xs.length : Int) ys.length)) (evr_cb (evrs_cons (evr_cb (evrs_cons (evr_var rfl hx) evrs_nil) (cb_lenP rfl)) (evrs_cons (evr_cb (evrs_cons (evr_var rfl hy) evrs_nil) (cb_lenP rfl)) evrs_nil)) (cb_max rfl)) fun v H1 e1 hv => ?_
    obtain rfl := hv
    replace hx := (vP K xs).st e1 hx
    replace hy := (vP K ys).st e1 hy
    refine qr_asg (r := vP K (pad xs (max (xs.length : Int) ys.length - xs.length))) (evr_op (evr_var rfl hx) (evr_op (evr_disp (ns := [0]) (evrs_cons evr_c evrs_nil) (by decide)) (evr_op (evr_var rfl rfl) (evr_cb (evrs_cons (evr_var rfl hx) evrs_nil) (cb_lenP rfl)) op_i0) (op_repP (by omega))) (op_catP (by rw [List.length_replicate]; omega))) fun v2 H2 e2 h2 => ?_
    replace hy := (vP K ys).st e2 hy
    refine qr_asg (r := vP K (pad ys (max (xs.length : Int) ys.length - ys.length))) (evr_op (evr_var rfl hy) (evr_op (evr_disp (ns := [0]) (evrs_cons evr_c evrs_nil) (by decide)) (evr_op (evr_var rfl rfl) (evr_cb (evrs_cons (evr_var rfl hy) evrs_nil) (cb_lenP rfl)) op_i0) (op_repP (by omega))) (op_catP (by rw [List.length_replicate]; omega))) fun v3 H3 e3 h3 => ?_
    replace h2 := (vP K _).st e3 h2
    refine sr_ret (evr_call (List.zipWith (fun a b => (a + f * b) % p) (pad xs (max (xs.length : Int) ys.length - xs.length)) (pad ys (max (xs.length : Int) ys.length - ys.length))) ?_ (evrs_cons (evr_list ?_ rfl) evrs_nil)) fun v H4 e4 hv => q v H4 (((e1.trans e2).trans e3).trans e4) hv
    · show (List.zipWith _ _ _).length ≤ 100000
      rw [List.length_zipWith, pad, pad, List.length_append, List.length_append, List.length_replicate, List.length_replicate]
      omega
    · refine er_zipN (wk_zipK (evrs_cons (EvR.kP (evr_var rfl h2)) (evrs_cons (EvR.kP (evr_var rfl h3)) evrs_nil))) (fun a b => (a + f * b) % p) ?_ (fun x y => rfl) ?_
      · rw [pad, List.length_append, List.length_replicate]
        omega
      · intro x hx y hy H5 e5
        have hyb : -(2 ^ 60) < y ∧ y < 2 ^ 60 := by
          rw [pad, List.mem_append] at hy
          rcases hy with hy | hy
          · exact sm2 y hy
          · rw [List.eq_of_mem_replicate hy]
            decide
        exact evr_op (evr_op (evr_var rfl rfl) (evr_op (evr_var rfl rfl) (evr_var rfl rfl) (op_i (.inr (by omega)))) op_i0) (evr_var rfl rfl) (op_i hp)
end
end K0
namespace K0
open PySem PySem.Spec PyProof.Rows L2 Kt
/-! ### a hook: defs at any address in two rows, and more -/
abbrev AlB : Type := He.AlD × ((He.AlD × Bool) × He.AlD)
def obB1 (fn : List He5.DefA) (K : PySem.W.Frag) : He.AlD := He5.obsA [] fn K
def obB3 (fa : List He.Fa) (K : PySem.W.Frag) : He.AlD := He5.obsA fa [] K
def obB2 (fn : List He5.DefA) (ex : PySem.W.Frag → Bool) (K : PySem.W.Frag) : He.AlD × Bool := (He5.obsA [] fn K, ex K)
def obsB (n : Nat) (fa : List He.Fa) (fn1 fn2 : List He5.DefA) (ex : PySem.W.Frag → Bool) (g : Addr → Option Obj) : AlB := (obB1 fn1 (He.frG g (He5.asA g n)), (obB2 fn2 ex (He.frG g (He5.asA g n)), obB3 fa (He.frG g (He5.asA g n))))
def SaysB (fa : List He.Fa) (fn1 fn2 : List He5.DefA) (ex : PySem.W.Frag → Bool) (K : PySem.W.Frag) : Prop := He5.SaysA [] fn1 K ∧ He5.SaysA [] fn2 K ∧ ex K = true ∧ He5.SaysA fa [] K
def hookB (n : Nat) (fa : List He.Fa) (fn1 fn2 : List He5.DefA) (ex : PySem.W.Frag → Bool) : PySem.W.Hook where
  α := AlB
  obs := fun s => obsB n fa fn1 fn2 ex s.heap.get?
  val := fun _ => (He5.valA fn1, ((He5.valA fn2, true), He5.valA []))
  says := fun _ h => ∃ K : PySem.W.Frag, K.In h ∧ SaysB fa fn1 fn2 ex K
  of := fun _ _ e => ⟨_, He.frG_in, congrArg (fun z : AlB => z.1) e, congrArg (fun z : AlB => z.2.1.1) e, congrArg (fun z : AlB => z.2.1.2) e, congrArg (fun z : AlB => z.2.2) e⟩
  keeps := fun _ _ _ ⟨K, hK, c⟩ k => ⟨K, PySem.W.Frag.In.keeps hK k, c⟩
theorem obsB_eq {n : Nat} {fa : List He.Fa} {fn1 fn2 : List He5.DefA} {ex : PySem.W.Frag → Bool} {g : Addr → Option Obj} {s : Shared} (h : ∀ a, g a = s.heap.get? a) : obsB n fa fn1 fn2 ex g = (hookB n fa fn1 fn2 ex).obs s := by
  have e : g = s.heap.get? := funext h
  rw [e] <;> rfl
/-! ### the head: what the top leaves -/
def fC (K : PySem.W.Frag) : Addr := He.ga K "Function"
def d_is_integer : He5.DefA := ⟨fun K => He.ga K "is_integer", "is_integer", "is_integer", defArgs (topS 9), defBody (topS 9), defScope (topS 9), [], []⟩
def d_is_within : He5.DefA := ⟨fun K => He.ga K "is_within", "is_within", "is_within", defArgs (topS 10), defBody (topS 10), defScope (topS 10), [], []⟩
def d_trimmed : He5.DefA := ⟨fun K => He.ga K "trimmed", "trimmed", "trimmed", defArgs (topS 11), defBody (topS 11), defScope (topS 11), [], []⟩
def d_inverse : He5.DefA := ⟨fun K => He.ga K "inverse", "inverse", "inverse", defArgs (topS 12), defBody (topS 12), defScope (topS 12), [], []⟩
def d_scale : He5.DefA := ⟨fun K => He.ga K "scale", "scale", "scale", defArgs (topS 13), defBody (topS 13), defScope (topS 13), [], []⟩
def d_make_monic : He5.DefA := ⟨fun K => He.ga K "make_monic", "make_monic", "make_monic", defArgs (topS 14), defBody (topS 14), defScope (topS 14), [], []⟩
def d_add_scaled : He5.DefA := ⟨fun K => He.ga K "add_scaled", "add_scaled", "add_scaled", defArgs (topS 15), defBody (topS 15), defScope (topS 15), [], []⟩
def d_multiply : He5.DefA := ⟨fun K => He.ga K "multiply", "multiply", "multiply", defArgs (topS 16), defBody (topS 16), defScope (topS 16), [], []⟩
def d_multiply_short : He5.DefA := ⟨fun K => He.ga K "multiply_short", "multiply_short", "multiply_short", defArgs (topS 17), defBody (topS 17), defScope (topS 17), [], []⟩
def d_multiply_long : He5.DefA := ⟨fun K => He.ga K "multiply_long", "multiply_long", "multiply_long", defArgs (topS 18), defBody (topS 18), defScope (topS 18), [], []⟩
def d_block_sum : He5.DefA := ⟨fun K => He.ga K "block_sum", "block_sum", "block_sum", defArgs (topS 19), defBody (topS 19), defScope (topS 19), [], []⟩
def d_packed : He5.DefA := ⟨fun K => He.ga K "packed", "packed", "packed", defArgs (topS 20), defBody (topS 20), defScope (topS 20), [], []⟩
def d_unpacked : He5.DefA := ⟨fun K => He.ga K "unpacked", "unpacked", "unpacked", defArgs (topS 21), defBody (topS 21), defScope (topS 21), [], []⟩
def d_divide : He5.DefA := ⟨fun K => He.ga K "divide", "divide", "divide", defArgs (topS 22), defBody (topS 22), defScope (topS 22), [], []⟩
def d_first_digits : He5.DefA := ⟨fun K => He.ga K "first_digits", "first_digits", "first_digits", defArgs (topS 23), defBody (topS 23), defScope (topS 23), [], []⟩
def d_divide_short : He5.DefA := ⟨fun K => He.ga K "divide_short", "divide_short", "divide_short", defArgs (topS 24), defBody (topS 24), defScope (topS 24), [], []⟩
def d_quotient_of : He5.DefA := ⟨fun K => He.ga K "quotient_of", "quotient_of", "quotient_of", defArgs (topS 25), defBody (topS 25), defScope (topS 25), [], []⟩
def d_rest_of : He5.DefA := ⟨fun K => He.ga K "rest_of", "rest_of", "rest_of", defArgs (topS 26), defBody (topS 26), defScope (topS 26), [], []⟩
def d_common_divisor : He5.DefA := ⟨fun K => He.ga K "common_divisor", "common_divisor", "common_divisor", defArgs (topS 27), defBody (topS 27), defScope (topS 27), [], []⟩
def d_power_of : He5.DefA := ⟨fun K => He.ga K "power_of", "power_of", "power_of", defArgs (topS 28), defBody (topS 28), defScope (topS 28), [], []⟩
def d_slope_of : He5.DefA := ⟨fun K => He.ga K "slope_of", "slope_of", "slope_of", defArgs (topS 29), defBody (topS 29), defScope (topS 29), [], []⟩
def d_check_prime : He5.DefA := ⟨fun K => He.ga K "check_prime", "check_prime", "check_prime", defArgs (topS 38), defBody (topS 38), defScope (topS 38), [], []⟩
def d_check_poly : He5.DefA := ⟨fun K => He.ga K "check_poly", "check_poly", "check_poly", defArgs (topS 39), defBody (topS 39), defScope (topS 39), [], []⟩
def d_has_poly_form : He5.DefA := ⟨fun K => He.ga K "has_poly_form", "has_poly_form", "has_poly_form", defArgs (topS 40), defBody (topS 40), defScope (topS 40), [], []⟩
def d_made_function : He5.DefA := ⟨fun K => He.ga K "made_function", "made_function", "made_function", defArgs (topS 45), defBody (topS 45), defScope (topS 45), [], []⟩
def d_lowest_terms : He5.DefA := ⟨fun K => He.ga K "lowest_terms", "lowest_terms", "lowest_terms", defArgs (topS 46), defBody (topS 46), defScope (topS 46), [], []⟩
def d_shortened : He5.DefA := ⟨fun K => He.ga K "shortened", "shortened", "shortened", defArgs (topS 47), defBody (topS 47), defScope (topS 47), [], []⟩
def d_add_function : He5.DefA := ⟨fun K => He.ga K "add_function", "add_function", "add_function", defArgs (topS 48), defBody (topS 48), defScope (topS 48), [], []⟩
def d_multiply_function : He5.DefA := ⟨fun K => He.ga K "multiply_function", "multiply_function", "multiply_function", defArgs (topS 49), defBody (topS 49), defScope (topS 49), [], []⟩
def d_turned_round : He5.DefA := ⟨fun K => He.ga K "turned_round", "turned_round", "turned_round", defArgs (topS 50), defBody (topS 50), defScope (topS 50), [], []⟩
def d_slope_once : He5.DefA := ⟨fun K => He.ga K "slope_once", "slope_once", "slope_once", defArgs (topS 51), defBody (topS 51), defScope (topS 51), [], []⟩
def d_poly_text : He5.DefA := ⟨fun K => He.ga K "poly_text", "poly_text", "poly_text", defArgs (topS 52), defBody (topS 52), defScope (topS 52), [], []⟩
def d_term_text : He5.DefA := ⟨fun K => He.ga K "term_text", "term_text", "term_text", defArgs (topS 53), defBody (topS 53), defScope (topS 53), [], []⟩
def d_check_same_prime : He5.DefA := ⟨fun K => He.ga K "check_same_prime", "check_same_prime", "check_same_prime", defArgs (topS 54), defBody (topS 54), defScope (topS 54), [], []⟩
def d__law_bag : He5.DefA := ⟨fun K => He.ga K "_law_bag", "_law_bag", "_law_bag", defArgs (topS 56), defBody (topS 56), defScope (topS 56), [], []⟩
def d__law_grab : He5.DefA := ⟨fun K => He.ga K "_law_grab", "_law_grab", "_law_grab", defArgs (topS 57), defBody (topS 57), defScope (topS 57), [], []⟩
def d__law_one_of : He5.DefA := ⟨fun K => He.ga K "_law_one_of", "_law_one_of", "_law_one_of", defArgs (topS 58), defBody (topS 58), defScope (topS 58), [], []⟩
def d__law_prime : He5.DefA := ⟨fun K => He.ga K "_law_prime", "_law_prime", "_law_prime", defArgs (topS 59), defBody (topS 59), defScope (topS 59), [], []⟩
def d__law_poly_drawn : He5.DefA := ⟨fun K => He.ga K "_law_poly_drawn", "_law_poly_drawn", "_law_poly_drawn", defArgs (topS 60), defBody (topS 60), defScope (topS 60), [], []⟩
def d__law_monic_drawn : He5.DefA := ⟨fun K => He.ga K "_law_monic_drawn", "_law_monic_drawn", "_law_monic_drawn", defArgs (topS 61), defBody (topS 61), defScope (topS 61), [], []⟩
def d__law_pair_drawn : He5.DefA := ⟨fun K => He.ga K "_law_pair_drawn", "_law_pair_drawn", "_law_pair_drawn", defArgs (topS 62), defBody (topS 62), defScope (topS 62), [], []⟩
def d__law_po_cut : He5.DefA := ⟨fun K => He.ga K "_law_po_cut", "_law_po_cut", "_law_po_cut", defArgs (topS 63), defBody (topS 63), defScope (topS 63), [], []⟩
def d__law_po_sum : He5.DefA := ⟨fun K => He.ga K "_law_po_sum", "_law_po_sum", "_law_po_sum", defArgs (topS 64), defBody (topS 64), defScope (topS 64), [], []⟩
def d__law_po_times : He5.DefA := ⟨fun K => He.ga K "_law_po_times", "_law_po_times", "_law_po_times", defArgs (topS 65), defBody (topS 65), defScope (topS 65), [], []⟩
def d__law_po_product : He5.DefA := ⟨fun K => He.ga K "_law_po_product", "_law_po_product", "_law_po_product", defArgs (topS 66), defBody (topS 66), defScope (topS 66), [], []⟩
def d__law_po_inverse : He5.DefA := ⟨fun K => He.ga K "_law_po_inverse", "_law_po_inverse", "_law_po_inverse", defArgs (topS 67), defBody (topS 67), defScope (topS 67), [], []⟩
def d__law_po_division : He5.DefA := ⟨fun K => He.ga K "_law_po_division", "_law_po_division", "_law_po_division", defArgs (topS 68), defBody (topS 68), defScope (topS 68), [], []⟩
def d__law_po_monic : He5.DefA := ⟨fun K => He.ga K "_law_po_monic", "_law_po_monic", "_law_po_monic", defArgs (topS 69), defBody (topS 69), defScope (topS 69), [], []⟩
def d__law_po_common : He5.DefA := ⟨fun K => He.ga K "_law_po_common", "_law_po_common", "_law_po_common", defArgs (topS 70), defBody (topS 70), defScope (topS 70), [], []⟩
def d__law_po_slope : He5.DefA := ⟨fun K => He.ga K "_law_po_slope", "_law_po_slope", "_law_po_slope", defArgs (topS 71), defBody (topS 71), defScope (topS 71), [], []⟩
def d__law_fn_made : He5.DefA := ⟨fun K => He.ga K "_law_fn_made", "_law_fn_made", "_law_fn_made", defArgs (topS 72), defBody (topS 72), defScope (topS 72), [], []⟩
def d__law_fn_slope : He5.DefA := ⟨fun K => He.ga K "_law_fn_slope", "_law_fn_slope", "_law_fn_slope", defArgs (topS 73), defBody (topS 73), defScope (topS 73), [], []⟩
def d__law_as_function : He5.DefA := ⟨fun K => He.ga K "_law_as_function", "_law_as_function", "_law_as_function", defArgs (topS 74), defBody (topS 74), defScope (topS 74), [], []⟩
def d__law_steps_right : He5.DefA := ⟨fun K => He.ga K "_law_steps_right", "_law_steps_right", "_law_steps_right", defArgs (topS 75), defBody (topS 75), defScope (topS 75), [], []⟩
def d__law_rules_right : He5.DefA := ⟨fun K => He.ga K "_law_rules_right", "_law_rules_right", "_law_rules_right", defArgs (topS 76), defBody (topS 76), defScope (topS 76), [], []⟩
def d__law_twofold_right : He5.DefA := ⟨fun K => He.ga K "_law_twofold_right", "_law_twofold_right", "_law_twofold_right", defArgs (topS 77), defBody (topS 77), defScope (topS 77), [], []⟩
def d__law_right : He5.DefA := ⟨fun K => He.ga K "_law_right", "_law_right", "_law_right", defArgs (topS 78), defBody (topS 78), defScope (topS 78), [], []⟩
def d_law : He5.DefA := ⟨fun K => He.ga K "law", "law", "law", defArgs (topS 79), defBody (topS 79), defScope (topS 79), [], []⟩
def e___init__ : He5.DefA := ⟨fun K => He.ma K (fC K) "__init__", "__init__", "Function.__init__", defArgs (inClass (topS 44) 0), defBody (inClass (topS 44) 0), defScope (inClass (topS 44) 0), [], []⟩
def e_number : He5.DefA := ⟨fun K => He5.wf K (fC K) "classmethod" "number", "number", "Function.number", defArgs (inClass (topS 44) 1), defBody (inClass (topS 44) 1), defScope (inClass (topS 44) 1), [], []⟩
def e_letter : He5.DefA := ⟨fun K => He5.wf K (fC K) "classmethod" "letter", "letter", "Function.letter", defArgs (inClass (topS 44) 2), defBody (inClass (topS 44) 2), defScope (inClass (topS 44) 2), [], []⟩
def e_prime : He5.DefA := ⟨fun K => He5.wf K (fC K) "property" "prime", "prime", "Function.prime", defArgs (inClass (topS 44) 4), defBody (inClass (topS 44) 4), defScope (inClass (topS 44) 4), [], []⟩
def e_top : He5.DefA := ⟨fun K => He5.wf K (fC K) "property" "top", "top", "Function.top", defArgs (inClass (topS 44) 5), defBody (inClass (topS 44) 5), defScope (inClass (topS 44) 5), [], []⟩
def e_bottom : He5.DefA := ⟨fun K => He5.wf K (fC K) "property" "bottom", "bottom", "Function.bottom", defArgs (inClass (topS 44) 6), defBody (inClass (topS 44) 6), defScope (inClass (topS 44) 6), [], []⟩
def es_slope : He5.DefA := ⟨fun K => He.ma K (fC K) "slope", "slope", "Function.slope", defArgs (inClass (topS 44) 8), defBody (inClass (topS 44) 8), defScope (inClass (topS 44) 8), [], [("times", .int 1)]⟩
def e___add__ : He5.DefA := ⟨fun K => He.ma K (fC K) "__add__", "__add__", "Function.__add__", defArgs (inClass (topS 44) 13), defBody (inClass (topS 44) 13), defScope (inClass (topS 44) 13), [], []⟩
def e___sub__ : He5.DefA := ⟨fun K => He.ma K (fC K) "__sub__", "__sub__", "Function.__sub__", defArgs (inClass (topS 44) 14), defBody (inClass (topS 44) 14), defScope (inClass (topS 44) 14), [], []⟩
def e___mul__ : He5.DefA := ⟨fun K => He.ma K (fC K) "__mul__", "__mul__", "Function.__mul__", defArgs (inClass (topS 44) 15), defBody (inClass (topS 44) 15), defScope (inClass (topS 44) 15), [], []⟩
def e___floordiv__ : He5.DefA := ⟨fun K => He.ma K (fC K) "__floordiv__", "__floordiv__", "Function.__floordiv__", defArgs (inClass (topS 44) 16), defBody (inClass (topS 44) 16), defScope (inClass (topS 44) 16), [], []⟩
def e___pow__ : He5.DefA := ⟨fun K => He.ma K (fC K) "__pow__", "__pow__", "Function.__pow__", defArgs (inClass (topS 44) 18), defBody (inClass (topS 44) 18), defScope (inClass (topS 44) 18), [], []⟩
def e___eq__ : He5.DefA := ⟨fun K => He.ma K (fC K) "__eq__", "__eq__", "Function.__eq__", defArgs (inClass (topS 44) 19), defBody (inClass (topS 44) 19), defScope (inClass (topS 44) 19), [], []⟩
def e___bool__ : He5.DefA := ⟨fun K => He.ma K (fC K) "__bool__", "__bool__", "Function.__bool__", defArgs (inClass (topS 44) 20), defBody (inClass (topS 44) 20), defScope (inClass (topS 44) 20), [], []⟩
def e___str__ : He5.DefA := ⟨fun K => He.ma K (fC K) "__str__", "__str__", "Function.__str__", defArgs (inClass (topS 44) 21), defBody (inClass (topS 44) 21), defScope (inClass (topS 44) 21), [], []⟩
def fnp0 : List He5.DefA := [d_is_integer, d_is_within, d_trimmed, d_inverse, d_scale, d_make_monic, d_add_scaled, d_multiply, d_multiply_short, d_multiply_long, d_block_sum, d_packed, d_unpacked, d_divide, d_first_digits, d_divide_short, d_quotient_of, d_rest_of, d_common_divisor, d_power_of]
def fnp1 : List He5.DefA := [d_slope_of, d_check_prime, d_check_poly, d_has_poly_form, d_made_function, d_lowest_terms, d_shortened, d_add_function, d_multiply_function, d_turned_round, d_slope_once, d_poly_text, d_term_text, d_check_same_prime, d__law_bag, d__law_grab, d__law_one_of, d__law_prime, d__law_poly_drawn, d__law_monic_drawn]
def fnp2 : List He5.DefA := [d__law_pair_drawn, d__law_po_cut, d__law_po_sum, d__law_po_times, d__law_po_product, d__law_po_inverse, d__law_po_division, d__law_po_monic, d__law_po_common, d__law_po_slope, d__law_fn_made, d__law_fn_slope, d__law_as_function, d__law_steps_right, d__law_rules_right, d__law_twofold_right, d__law_right, d_law, e___init__, e_number]
def fnp3 : List He5.DefA := [e_letter, e_prime, e_top, e_bottom, es_slope, e___add__, e___sub__, e___mul__, e___floordiv__, e___pow__, e___eq__, e___bool__, e___str__]
def fnA1 : List He5.DefA := fnp0 ++ fnp1
def fnA2 : List He5.DefA := fnp2 ++ fnp3
def nmp0 : List PySem.Str := ["_wall", "SHORT", "BLOCK", "MOST_SUMMED", "MANY_STEPS", "STEPS", "LANE", "LANES", "is_integer", "is_within", "trimmed", "inverse", "scale", "make_monic", "add_scaled", "multiply", "multiply_short", "multiply_long", "block_sum", "packed"]
def nmp1 : List PySem.Str := ["unpacked", "divide", "first_digits", "divide_short", "quotient_of", "rest_of", "common_divisor", "power_of", "slope_of", "SlopeError", "InvalidPoly", "InvalidOperation", "InvalidNumber", "PRIMES", "MAX_POWER", "check_prime", "check_poly", "has_poly_form", "MAX_SLOPES", "MAX_RAISED"]
def nmp2 : List PySem.Str := ["Function", "made_function", "lowest_terms", "shortened", "add_function", "multiply_function", "turned_round", "slope_once", "poly_text", "term_text", "check_same_prime", "_law_bag", "_law_grab", "_law_one_of", "_law_prime", "_law_poly_drawn", "_law_monic_drawn", "_law_pair_drawn", "_law_po_cut", "_law_po_sum"]
def nmp3 : List PySem.Str := ["_law_po_times", "_law_po_product", "_law_po_inverse", "_law_po_division", "_law_po_monic", "_law_po_common", "_law_po_slope", "_law_fn_made", "_law_fn_slope", "_law_as_function", "_law_steps_right", "_law_rules_right", "_law_twofold_right", "_law_right"]
def nmAll : List PySem.Str := nmp0 ++ nmp1 ++ nmp2 ++ nmp3
def glp0 : List PySem.Str := ["is_integer", "is_within", "trimmed", "inverse", "scale", "make_monic", "add_scaled", "multiply", "multiply_short", "multiply_long", "block_sum", "packed", "unpacked", "divide", "first_digits", "divide_short", "quotient_of", "rest_of", "common_divisor", "power_of"]
def glp1 : List PySem.Str := ["slope_of", "check_prime", "check_poly", "has_poly_form", "made_function", "lowest_terms", "shortened", "add_function", "multiply_function", "turned_round", "slope_once", "poly_text", "term_text", "check_same_prime", "_law_bag", "_law_grab", "_law_one_of", "_law_prime", "_law_poly_drawn", "_law_monic_drawn"]
def glp2 : List PySem.Str := ["_law_pair_drawn", "_law_po_cut", "_law_po_sum", "_law_po_times", "_law_po_product", "_law_po_inverse", "_law_po_division", "_law_po_monic", "_law_po_common", "_law_po_slope", "_law_fn_made", "_law_fn_slope", "_law_as_function", "_law_steps_right", "_law_rules_right", "_law_twofold_right", "_law_right", "law"]
def glAll : List PySem.Str := glp0 ++ glp1 ++ glp2
def inAll : List (PySem.Str × Int) := [("SHORT", 5), ("BLOCK", 90), ("MOST_SUMMED", 20), ("MANY_STEPS", 10), ("STEPS", 64), ("LANE", 4), ("MAX_POWER", 60), ("MAX_SLOPES", 20), ("MAX_RAISED", 20)]
def mtAll : List PySem.Str := ["__init__", "slope", "__add__", "__sub__", "__mul__", "__floordiv__", "__pow__", "__eq__", "__bool__", "__str__"]
def prAll : List PySem.Str := ["prime", "top", "bottom"]
def cmAll : List PySem.Str := ["number", "letter"]
def clAll : List He.Fa := [He.Fa.glo "PRIMES", He.Fa.glo "LANES", He.Fa.glo "Function", He.Fa.cls "Function", He.Fa.mkr "Function", He.Fa.noat "Function" "_prime", He.Fa.noat "Function" "_top", He.Fa.noat "Function" "_bottom"]
def faAll : List He.Fa := biNames.map He.Fa.free ++ (glAll.map He.Fa.glo ++ (clAll ++ (mtAll.map (fun m => He.Fa.meth "Function" m) ++ inAll.map fun q => He.Fa.int q.1 q.2)))
def propB (K : PySem.W.Frag) (C : Addr) (m : PySem.Str) : Bool := decide (PySem.W.findIn K (.ref C) m = some (some (.ref (He.ma K C m)))) && (decide (PySem.W.specialIn K (.ref (He.ma K C m)) "__get__" = some (some (.builtin "property.__get__"))) && (decide (PySem.W.takesIn K (.ref (He.ma K C m)) = some true) && (match PySem.W.recIn K (He.ma K C m) "property" with
  | some (.ref _ :: _) => true
  | _ => false)))
def exL (K : PySem.W.Frag) : List Bool := [
  He.tupB K "PRIMES" [.int 2, .int 3, .int 5, .int 7],
  He.tupB K "LANES" [.str "0000", .str "0001", .str "0002", .str "0003", .str "0004", .str "0005", .str "0006"],
  decide (PySem.W.findIn K (.ref (fC K)) "__class__" = some (some (.builtin "object.__class__"))),
  decide (PySem.W.specialIn K (.builtin "object.__class__") "__get__" = some (some (.builtin "getset_descriptor.__get__"))),
  decide (PySem.W.takesIn K (.builtin "object.__class__") = some true),
  decide (PySem.W.mroIn K (fC K) (.type "object") = some true),
  decide (PySem.W.kitOne K (.ref (fC K)) (.ref (fC K)) = some true),
  PySem.W.selfFirst K (fC K),
  PySem.W.notFirst K (fC K) (.ref (fC K)),
  PySem.W.notFirst K (fC K) (.type "tuple"),
  decide (PySem.W.findIn K (.ref (fC K)) "__ne__" = some (some (.builtin "object.__ne__"))),
  decide (PySem.W.subIn K (.ref (fC K)) (.type "object") = some true),
  decide (PySem.W.findIn K (.ref (fC K)) (dunderR Operator.Pow.info.2) = some none),
  decide (PySem.W.subIn K (.type "int") (.ref (fC K)) = some false),
  (PySem.W.findIn K (.type "int") (PySem.dunder Operator.Pow.info.2)).isSome,
  (PySem.W.findIn K (.type "int") (dunderR Operator.Pow.info.2)).isSome,
  decide (PySem.W.kitOne K (.type "tuple") (.ref (fC K)) = some false),
  prAll.all (propB K (fC K)),
  cmAll.all (fun m => He5.wrapB K (fC K) "classmethod" "classmethod.__get__" m && PySem.W.fnIn K (He5.wf K (fC K) "classmethod" m)),
  PySem.W.readsIn K (fC K) (.type "type"),
  decide (PySem.W.specialIn K (.ref (fC K)) "__getattribute__" = some (some (.builtin "type.__getattribute__")))]
def exAll (K : PySem.W.Frag) : Bool := (exL K).all id
abbrev RW : PySem.W.OpenRow := PySem.W.OpenLaw.row PySem.Challenge.rw_slopewords_k05_whole_slopes_of_functions
abbrev qv : PySem.Program := PySem.W.view RW.prog [79]
abbrev hkAll : PySem.W.Hook := hookB 5 faAll fnA1 fnA2 exAll
def obAll (s : PySem.W.SharedT) : AlB := obsB 5 faAll fnA1 fnA2 exAll (HandSHeadRun.getT s)
theorem ob_eq (s : PySem.W.SharedT) : obAll s = hkAll.obs s.abs := obsB_eq (HandSHeadRun.getT_eq s)
abbrev kAll (s : PySem.W.SharedT) : PySem.W.Frag := He.frG (HandSHeadRun.getT s) (He5.asA (HandSHeadRun.getT s) 5)
noncomputable abbrev endAll (w : PySem.World) (os : OsState) : Option PySem.W.SharedT := HandSHeadRun.endF (HandSHeadRun.stepQ (HandSHeadRun.denQ HandSHeadRun.tabQ) RW.prog w) 20000 RW.prog w os
theorem run2 (w : PySem.World) (os : OsState) : (endAll w os).map (fun s => obB2 fnA2 exAll (kAll s)) = some (He5.valA fnA2, true) := by
  kernel_rfl
theorem run3 (w : PySem.World) (os : OsState) : (endAll w os).map (fun s => obB3 faAll (kAll s)) = some (He5.valA []) := by
  kernel_rfl
open HandSHeadRun PySem.W in
theorem run1 (w : PySem.World) (os : OsState) : (endAll w os).map (fun s => (looksF RW.prog (boot_heap w.params) s.abs, seenQ qv nmAll (importedModules RW.prog.main.body) (fun s => xlAt qv [] s && recOk RW.toRowW.records s) s.abs, obB1 fnA1 (kAll s))) = some (true, openGood qv nmAll, He5.valA fnA1) := by
  kernel_rfl
theorem run (w : PySem.World) : HandSHeadRun.RunEq RW qv hkAll obAll 20000 nmAll w := by
  intro os
  have h1 := run1 w os
  have h2 := run2 w os
  have h3 := run3 w os
  show (endAll w os).map _ = _
  generalize endAll w os = r at h1 h2 h3 ⊢
  cases r with
  | none => cases h1
  | some s =>
    have e1 := Option.some.inj h1
    have e2 := Option.some.inj h2
    have e3 := Option.some.inj h3
    simp only [Prod.mk.injEq] at e1
    obtain ⟨a1, a2, a3⟩ := e1
    show some (_, _, (_, (_, _))) = some (_, _, (_, (_, _)))
    rw [a1, a2]
    exact congrArg (fun z => some (true, _, z)) (Prod.ext a3 (Prod.ext e2 e3))
def fnAll : List He5.DefA := fnA1 ++ fnA2
theorem says_join {K : PySem.W.Frag} {fa : List He.Fa} {fn1 fn2 : List He5.DefA} (h1 : He5.SaysA [] fn1 K) (h2 : He5.SaysA [] fn2 K) (h3 : He5.SaysA fa [] K) : He5.SaysA fa (fn1 ++ fn2) K := by
  have a1 : (true && fn1.all fun d => d.ok K) = true := congrArg (fun z : He.AlD => z.1) h1
  have a2 : (true && fn2.all fun d => d.ok K) = true := congrArg (fun z : He.AlD => z.1) h2
  have a3 : ((fa.all fun f => f.ok K) && true) = true := congrArg (fun z : He.AlD => z.1) h3
  have b1 : fn1.map (fun d => He5.fnA K (d.at_ K)) = fn1.map He5.DefA.val := congrArg (fun z : He.AlD => z.2) h1
  have b2 : fn2.map (fun d => He5.fnA K (d.at_ K)) = fn2.map He5.DefA.val := congrArg (fun z : He.AlD => z.2) h2
  show (((fa.all fun f => f.ok K) && (fn1 ++ fn2).all fun d => d.ok K), (fn1 ++ fn2).map fun d => He5.fnA K (d.at_ K)) = (true, (fn1 ++ fn2).map He5.DefA.val)
  rw [List.all_append, List.map_append, List.map_append, b1, b2]
  rw [Bool.true_and] at a1 a2
  rw [Bool.and_true] at a3
  rw [a1, a2, a3]
  rfl
end K0
namespace K0
open PySem PySem.Spec PyProof.Rows L2 Kt
open Evl (Ex Ev EvL EvU EvT EvA EvO ex_l ex_t sq_of st_of sz_of sz_lt fresh_back)
/-! ### slope_of, make_monic, divide -/
def GI (mg : Str → Option Value) (x : Str) (n : Int) : Prop := ∃ t, mg x = some (.int n t)
theorem pe_gi {X : Cx} {x : Str} {n : Int} {pos : Pos} (h : GI X.mg x n) (hg : Gl X x) (hd : (x == ("__debug__" : Str)) = false := by decide) : PE X (.Name x pos) (tC (.int n)) := by
  obtain ⟨t, ht⟩ := h
  exact pe_glob hg ht ⟨t, rfl⟩ hd
def slopeOf (p : Int) (xs : List Int) : List Int := trim ((xs.mapIdx fun i n => (i : Int) * n % p).drop 1)
def makeMonic (p : Int) (xs : List Int) : List Int := if xs.isEmpty = true ∨ xs.getLastD 0 = 1 then xs else scale p xs (inv p (xs.getLastD 0))
/-- one turn of a division: the rest and the quotient's numbers so far -/
def divStep (p u : Int) (ys : List Int) (s : List Int × List Int) : List Int × List Int :=
  let f := s.1.getLastD 0 * u % p
  let r := if f = 0 then s.1 else s.1.take (s.1.length - ys.length) ++ List.zipWith (fun n y => (n - f * y) % p) (s.1.drop (s.1.length - ys.length)) ys
  (r.dropLast, s.2 ++ [f])
def divIter (p u : Int) (ys : List Int) : Nat → List Int × List Int → List Int × List Int
  | 0, s => s
  | n + 1, s => divIter p u ys n (divStep p u ys s)
def divide (p : Int) (xs ys : List Int) : List Int × List Int :=
  let s := divIter p (inv p (ys.getLastD 0)) ys (xs.length + 1 - ys.length) (xs, [])
  (trim s.2.reverse, trim s.1)
theorem invFrom_bd (p n : Int) : ∀ (m : Nat) (g : Int), 0 ≤ g → 0 ≤ invFrom p n m g ∧ invFrom p n m g ≤ g + m
  | 0, g, h => by
    show (0 : Int) ≤ 0 ∧ (0 : Int) ≤ g + 0
    omega
  | m + 1, g, h => by
    rw [invFrom]
    split
    · omega
    · have := invFrom_bd p n m (g + 1) (by omega)
      omega
theorem inv_bd {p n : Int} (hp : 0 < p) : 0 ≤ inv p n ∧ inv p n ≤ p := by
  have := invFrom_bd p n (p - 1).toNat 1 (by omega)
  unfold inv
  omega
theorem small_mod {p x : Int} (hp : 0 < p) (hp2 : p ≤ 100000) : -(2 ^ 60) < x % p ∧ x % p < 2 ^ 60 := by
  have h1 := Int.emod_nonneg x (by omega : p ≠ 0)
  have h2 := Int.emod_lt_of_pos x hp
  omega
theorem Small.take {l : List Int} (h : Small l) (k : Nat) : Small (l.take k) := fun n hn => h n (List.mem_of_mem_take hn)
theorem Small.dropLast {l : List Int} (h : Small l) : Small l.dropLast := fun n hn => h n (List.dropLast_subset l hn)
theorem Small.app {l m : List Int} (h : Small l) (h2 : Small m) : Small (l ++ m) := fun n hn => (List.mem_append.mp hn).elim (h n) (h2 n)
theorem small_zip {p : Int} (hp : 0 < p) (hp2 : p ≤ 100000) (f : Int → Int → Int) (as bs : List Int) : Small (List.zipWith (fun a b => f a b % p) as bs) := fun n hn => by
  obtain ⟨a, b, _, _, rfl⟩ : ∃ a b, a ∈ as ∧ b ∈ bs ∧ f a b % p = n := by
    induction as generalizing bs with
    | nil => simp at hn
    | cons a as ih =>
      cases bs with
      | nil => simp at hn
      | cons b bs =>
        rw [List.zipWith_cons_cons, List.mem_cons] at hn
        rcases hn with hn | hn
        · exact ⟨a, b, List.mem_cons_self, List.mem_cons_self, hn.symm⟩
        · obtain ⟨x, y, h1, h2, h3⟩ := ih bs hn
          exact ⟨x, y, List.mem_cons_of_mem _ h1, List.mem_cons_of_mem _ h2, h3⟩
  exact small_mod hp hp2
section
variable {P : Program} {w : World} {K : PySem.W.Frag} {mg : Str → Option Value} {base : Heap}
def sp_slope_of (K : PySem.W.Frag) : Sp := Con (G := GP) (fun g => 0 < g.p ∧ g.xs.length ≤ 1000 ∧ Small g.xs) (fun g => [vI g.p, vP K g.xs]) (fun g => vP K (slopeOf g.p g.xs))
def sp_make_monic (K : PySem.W.Frag) : Sp := Con (G := GP) (fun g => 0 < g.p ∧ g.p ≤ 100000 ∧ g.xs.length ≤ 1000 ∧ Small g.xs) (fun g => [vI g.p, vP K g.xs]) (fun g => vP K (makeMonic g.p g.xs))
/-- what a division asks for -/
def DivPre (g : GQ) : Prop := 0 < g.p ∧ g.p ≤ 100000 ∧ g.xs.length ≤ 1000 ∧ g.ys.length ≤ 64 ∧ g.ys ≠ [] ∧ Small g.xs ∧ Small g.ys
def sp_divide (K : PySem.W.Frag) : Sp := Con (G := GQ) DivPre (fun g => [vI g.p, vP K g.xs, vP K g.ys]) (fun g => vT K [vP K (divide g.p g.xs g.ys).1, vP K (divide g.p g.xs g.ys).2])
def sp_divide_short (K : PySem.W.Frag) : Sp := Con (G := GQ) (fun g => 0 < g.p ∧ g.p ≤ 100000 ∧ g.xs.length ≤ 1000 ∧ g.ys.length ≤ 1000 ∧ g.ys ≠ [] ∧ Small g.xs ∧ Small g.ys) (fun g => [vI g.p, vP K g.xs, vP K g.ys]) (fun g => vT K [vP K (divide g.p g.xs g.ys).1, vP K (divide g.p g.xs g.ys).2])
abbrev s_slope_of : Stmt := topS 29
abbrev N_slope_of : List Str := ["prime", "poly", "place", "number"]
theorem sc_slope_of : FnScope N_slope_of ["prime", "poly"] (defScope s_slope_of) := ⟨rfl, rfl, rfl, by decide +kernel, rfl, by decide +kernel, by decide +kernel⟩
theorem ok_slope_of {f : Addr} {fd : FuncData} (F : Fun K "slope_of" "slope_of" s_slope_of f fd) (B : Bis mg) (D_trimmed : De P w K mg base "trimmed" ["numbers"] 1 (sp_trimmed K)) : FnOk P w K mg base CX0 2 f fd ["prime", "poly"] (sp_slope_of K) := by
  refine F.ok sc_slope_of (fun vs H Q E h => ?_) (fun cdv A outer s H vs Q E hr h => ?_)
  · obtain ⟨g, _, ha, _⟩ := h
    exact ha.len
  · obtain ⟨⟨p, xs⟩, ⟨hp, hl, hsm⟩, ⟨_, _, rfl, rfl, ⟨v_poly, _, rfl, h_poly, rfl⟩⟩, q⟩ := h
    dsimp only at *
    refine ⟨_, (pss_one (ps_ret (pe_call D_trimmed.ok (hr.mono (by decide)) (by rfl) D_trimmed.g D_trimmed.kp D_trimmed.b .nil pass0 (pa_cons (pe_slice sl_list (pe_lc (own := [("place", 2), ("number", 3)]) (g := (gTup K 2 (gCons (gName 2) (gCons (gName 3) gNil)))) (tt := tYes) rfl sc_slope_of.nd (pi_enumK true (by rfl) (B "enumerate" (by decide +kernel)) (pa_cons (pv 1) pa_nil)) (blkOk_by (own := [("place", 2), ("number", 3)]) (N := N_slope_of) (sc := defScope s_slope_of) (by decide +kernel)) (fun _ _ _ _ _ => (pg_tup rfl (pgs_cons (pg_name (i := 2) sc_slope_of.nd rfl (Or.inl rfl)) (pgs_cons (pg_name (i := 3) sc_slope_of.nd rfl (Or.inl rfl)) pgs_nil)))) (fun _ _ _ _ _ => pts_nil) (fun _ _ _ _ _ => (pe_op op_mod (pe_op op_mul (pv 2) (pv 3)) (pv 0)))) (po_some pe_int) po_none) pa_nil)))), ?_⟩
    refine sr_ret (evr_call ((xs.mapIdx fun i n => (i : Int) * n % p).drop 1) ?_ (evrs_cons ?_ evrs_nil)) fun v H2 e2 hv => q v H2 e2 hv
    · show (List.drop 1 _).length ≤ 100000
      rw [List.length_drop, List.length_mapIdx]
      omega
    · rw [← cutI_drop (ns := xs.mapIdx fun i n => (i : Int) * n % p) (m := 1)]
      refine evr_slL (evr_list (er_enumI (wk_enumK (evrs_cons (EvR.kP (evr_var rfl h_poly)) evrs_nil)) (fun i n => (i : Int) * n % p) (by omega) (fun x y => rfl) ?_) rfl) (eo_some evr_c) eo_none
      intro i x hx H1 e1
      have := hsm x (List.mem_of_getElem? hx)
      exact evr_op (evr_op (evr_var rfl rfl) (evr_var rfl rfl) (op_i (.inr (by omega)))) (evr_var rfl rfl) (op_i hp)
abbrev s_make_monic : Stmt := topS 14
abbrev N_make_monic : List Str := ["prime", "poly"]
theorem sc_make_monic : FnScope N_make_monic ["prime", "poly"] (defScope s_make_monic) := ⟨rfl, rfl, rfl, by decide +kernel, rfl, by decide +kernel, by decide +kernel⟩
theorem ok_make_monic {f : Addr} {fd : FuncData} (F : Fun K "make_monic" "make_monic" s_make_monic f fd) (B : Bis mg) (D_scale : De P w K mg base "scale" ["prime", "poly", "factor"] 2 (sp_scale K)) (D_inverse : De P w K mg base "inverse" ["prime", "number"] 1 (sp_inverse K)) : FnOk P w K mg base CX0 3 f fd ["prime", "poly"] (sp_make_monic K) := by
  refine F.ok sc_make_monic (fun vs H Q E h => ?_) (fun cdv A outer s H vs Q E hr h => ?_)
  · obtain ⟨g, _, ha, _⟩ := h
    exact ha.len
  · obtain ⟨⟨p, xs⟩, ⟨hp, hp2, hl, hsm⟩, ⟨_, _, rfl, rfl, ⟨v_poly, _, rfl, h_poly, rfl⟩⟩, q⟩ := h
    dsimp only at *
    refine ⟨_, (pss_cons (ps_if (PW.pt (pw_or (pt_not (pt_truth (pv 1) (by intro _; rfl))) (pw_or1 (pt_cmpR op_eq (pe_ix ix_tup (pv 1) (pe_un un_neg pe_int) (fun _ _ => rfl)) pe_int (nomark _))))) (pss_one (ps_ret (pv 1))) pss_nil)
      (pss_one (ps_ret (pe_call D_scale.ok (hr.mono (by decide)) (by rfl) D_scale.g D_scale.kp D_scale.b .nil pass0 (pa_cons (pv 0) (pa_cons (pv 1) (pa_cons (pe_call D_inverse.ok (hr.mono (by decide)) (by rfl) D_inverse.g D_inverse.kp D_inverse.b .nil pass0 (pa_cons (pv 0) (pa_cons (pe_ix ix_tup (pv 1) (pe_un un_neg pe_int) (fun _ _ => rfl)) pa_nil))) pa_nil))))))), ?_⟩
    have eL : ∀ hx : xs ≠ [], xs.getLastD 0 = xs.getLast hx := fun hx => by rw [List.getLastD_eq_getLast?, List.getLast?_eq_some_getLast hx] <;> rfl
    refine Evl.q_when (b := xs.isEmpty || decide (V.int (xs.getLastD 0) = V.int 1)) (Evl.et_is (Evl.et_or (Evl.et_not (et_truP (evr_var rfl h_poly))) fun hne => ?_) (by rw [Bool.not_not])) (fun hb H1 e1 => ?_) (fun hb H1 e1 => ?_)
    · have hx : xs ≠ [] := by
        intro z
        subst z
        simp at hne
      refine et_r (evr_op (evr_op (evr_var rfl h_poly) (un_negI evr_c) (op_ixP (z := .int (xs.getLastD 0)) ?_)) evr_c (op_eqS rfl))
      rw [eL hx]
      exact atI_lastI hx
    · refine sr_ret (evr_var rfl ((vP K xs).st e1 h_poly)) fun v H2 e2 hv => q v H2 (e1.trans e2) ?_
      show (vP K (makeMonic p xs)).R v H2
      rw [makeMonic, if_pos]
      · exact hv
      · rcases Bool.or_eq_true_iff.mp hb with h | h
        · exact .inl h
        · exact .inr (V.int.inj (of_decide_eq_true h))
    · have hb' := Bool.or_eq_false_iff.mp hb
      have hx : xs ≠ [] := by
        intro z
        subst z
        simp at hb'
      have hc : ¬ (xs.isEmpty = true ∨ xs.getLastD 0 = 1) := by
        rintro (h | h)
        · rw [hb'.1] at h; cases h
        · exact of_decide_eq_false hb'.2 (congrArg V.int h)
      replace h_poly := (vP K xs).st e1 h_poly
      refine sr_ret (evr_call (GS.mk p xs (inv p (xs.getLastD 0))) ⟨hp, by show xs.length ≤ 40000; omega, hsm⟩ (evrs_cons (evr_var rfl rfl) (evrs_cons (evr_var rfl h_poly) (evrs_cons (evr_call (G2.mk p (xs.getLastD 0)) ⟨hp, hp2⟩ (evrs_cons (evr_var rfl rfl) (evrs_cons (evr_op (evr_var rfl h_poly) (un_negI evr_c) (op_ixP ?_)) evrs_nil))) evrs_nil)))) fun v H2 e2 hv => q v H2 (e1.trans e2) ?_
      · rw [eL hx]
        exact atI_lastI hx
      · show (vP K (makeMonic p xs)).R v H2
        rw [makeMonic, if_neg hc]
        exact hv
abbrev s_divide_short : Stmt := topS 24
abbrev N_divide_short : List Str := ["prime", "one", "other", "rest", "quotient", "size", "unit", "factor", "low", "number", "further"]
theorem sc_divide_short : FnScope N_divide_short ["prime", "one", "other"] (defScope s_divide_short) := ⟨rfl, rfl, rfl, by decide +kernel, rfl, by decide +kernel, by decide +kernel⟩
theorem ok_divide_short {f : Addr} {fd : FuncData} (F : Fun K "divide_short" "divide_short" s_divide_short f fd) (B : Bis mg) (D_inverse : De P w K mg base "inverse" ["prime", "number"] 1 (sp_inverse K)) (D_trimmed : De P w K mg base "trimmed" ["numbers"] 1 (sp_trimmed K)) : FnOk P w K mg base CX0 2 f fd ["prime", "one", "other"] (sp_divide_short K) := by
  refine F.ok sc_divide_short (fun vs H Q E h => ?_) (fun cdv A outer s H vs Q E hr h => ?_)
  · obtain ⟨g, _, ha, _⟩ := h
    exact ha.len
  · obtain ⟨⟨p, xs, ys⟩, ⟨hp, hp2, hl1, hl2, hne, sm1, sm2⟩, ⟨_, _, rfl, rfl, ⟨v_one, _, rfl, h_one, ⟨v_other, _, rfl, h_other, rfl⟩⟩⟩, q⟩ := h
    dsimp only at *
    refine ⟨_, (pss_cons (ps_set (i := 3) sc_divide_short.nd rfl (Or.inl rfl) (pe_callTy call_list_of (by rfl) (B "list" (by decide +kernel)) (by decide +kernel) (pa_cons (pv 1) pa_nil)))
      (pss_cons (ps_set (i := 4) sc_divide_short.nd rfl (Or.inl rfl) (pe_lst pa_nil))
      (pss_cons (ps_set (i := 5) sc_divide_short.nd rfl (Or.inl rfl) (pe_callB call_len_seq (by rfl) (B "len" (by decide +kernel)) (by decide +kernel) (pa_cons (pv 2) pa_nil)))
      (pss_cons (ps_set (i := 6) sc_divide_short.nd rfl (Or.inl rfl) (pe_call D_inverse.ok (hr.mono (by decide)) (by rfl) D_inverse.g D_inverse.kp D_inverse.b .nil pass0 (pa_cons (pv 0) (pa_cons (pe_ix ix_tup (pv 2) (pe_un un_neg pe_int) (fun _ _ => rfl)) pa_nil))))
      (pss_cons (ps_while PassesOwn.never (pt_cmpR op_ge (pe_callB call_len_seq (by rfl) (B "len" (by decide +kernel)) (by decide +kernel) (pa_cons (pv 3) pa_nil)) (pv 5) (nomark _)) (pss_cons (ps_set (i := 7) sc_divide_short.nd rfl (Or.inr rfl) (pe_op op_mod (pe_op op_mul (pe_ix ix_list (pv 3) (pe_un un_neg pe_int) (fun _ _ => rfl)) (pv 6)) (pv 0)))
      (pss_cons (ps_expr (pe_bm PySem.F.plainAttrs_list PySem.F.slot_list_append PySem.F.type_list_append mt_append (pv 4) (pa_cons (pv 7) pa_nil)))
      (pss_cons (ps_if (pt_truth (pv 7) (by intro _; rfl)) (pss_cons (ps_set (i := 8) sc_divide_short.nd rfl (Or.inl rfl) (pe_op op_sub (pe_callB call_len_seq (by rfl) (B "len" (by decide +kernel)) (by decide +kernel) (pa_cons (pv 3) pa_nil)) (pv 5)))
      (pss_one (ps_asg (pe_lc (own := [("number", 9), ("further", 10)]) (g := (gTup K 2 (gCons (gName 9) (gCons (gName 10) gNil)))) (tt := tYes) rfl sc_divide_short.nd (pi_zipK false true (by rfl) (B "zip" (by decide +kernel)) (pa_cons (pe_slice sl_list (pv 3) (po_some (pv 8)) po_none) (pa_cons (pv 2) pa_nil))) (blkOk_by (own := [("number", 9), ("further", 10)]) (N := N_divide_short) (sc := defScope s_divide_short) (by decide +kernel)) (fun _ _ _ _ _ => (pg_tup rfl (pgs_cons (pg_name (i := 9) sc_divide_short.nd rfl (Or.inl rfl)) (pgs_cons (pg_name (i := 10) sc_divide_short.nd rfl (Or.inl rfl)) pgs_nil)))) (fun _ _ _ _ _ => pts_nil) (fun _ _ _ _ _ => (pe_op op_mod (pe_op op_sub (pv 9) (pe_op op_mul (pv 7) (pv 10))) (pv 0)))) (pg_cut (pv 3) (po_some (pv 8)) po_none)))) pss_nil)
      (pss_one (ps_expr (pe_bm0 PySem.F.plainAttrs_list PySem.F.slot_list_pop PySem.F.type_list_pop mt_pop (pv 3))))))))
      (pss_one (ps_ret (pe_tup (pa_cons (pe_call D_trimmed.ok (hr.mono (by decide)) (by rfl) D_trimmed.g D_trimmed.kp D_trimmed.b .nil pass0 (pa_cons (pe_revL (pv 4)) pa_nil)) (pa_cons (pe_call D_trimmed.ok (hr.mono (by decide)) (by rfl) D_trimmed.g D_trimmed.kp D_trimmed.b .nil pass0 (pa_cons (pv 3) pa_nil)) pa_nil)))))))))), ?_⟩
    have eL : ∀ {l : List Int} (hx : l ≠ []), l.getLastD 0 = l.getLast hx := fun hx => by rw [List.getLastD_eq_getLast?, List.getLast?_eq_some_getLast hx] <;> rfl
    refine Evl.q_asgL (el_listK rfl (EvR.kP (evr_var rfl h_one))) fun l1 H1 n1 e1 hA => ?_
    refine Evl.q_asgL (el_dispI (rs := []) evrs_nil (by decide)) fun l2 H2 n2 e2 hB => ?_
    have hne12 : l1 ≠ l2 := fun z => by
      rw [← z, hA] at n2
      cases n2
    have n2' : H l2 = none := fresh_back e1 n2
    have e02 : Ex H H2 := e1.trans e2
    refine qr_asg (evr_lenR rfl (EvR.kP (evr_var rfl ((vP K ys).st e02 h_other)))) fun v H3 e3 hv => ?_
    obtain rfl := hv
    refine qr_asg (evr_call (G2.mk p (ys.getLastD 0)) ⟨hp, hp2⟩ (evrs_cons (evr_var rfl rfl) (evrs_cons (evr_op (evr_var rfl ((vP K ys).st (e02.trans e3) h_other)) (un_negI evr_c) (op_ixP (by rw [eL hne]; exact atI_lastI hne))) evrs_nil))) fun v H4 e4 hv => ?_
    obtain rfl := hv
    have e04 : Ex H H4 := (e02.trans e3).trans e4
    have hu0 : 0 ≤ inv p (ys.getLastD 0) ∧ inv p (ys.getLastD 0) ≤ 100000 := by
      have := inv_bd (n := ys.getLastD 0) hp
      omega
    dsimp only
    have hq : (vT K [vP K (divide p xs ys).1, vP K (divide p xs ys).2]) = vT K [vP K (trim (divIter p (inv p (ys.getLastD 0)) ys (xs.length + 1 - ys.length) (xs, [])).2.reverse), vP K (trim (divIter p (inv p (ys.getLastD 0)) ys (xs.length + 1 - ys.length) (xs, [])).1)] := rfl
    rw [hq] at q
    generalize inv p (ys.getLastD 0) = u at hu0 q
    refine Evl.q_while (fun m σ H' => ∃ r qs x8 x9, σ = [some (.int p), some v_one, some v_other, some (.ref l1), some (.ref l2), some (.int (ys.length : Int)), some (.int u), x8, x9, none, none] ∧ Ex H H' ∧ H' l1 = some (.lst (r.map V.int)) ∧ H' l2 = some (.lst (qs.map V.int)) ∧
      m = r.length ∧ qs.length + r.length = xs.length ∧ Small r ∧ divIter p u ys (r.length + 1 - ys.length) (r, qs) = divIter p u ys (xs.length + 1 - ys.length) (xs, [])) xs.length
      ⟨xs, [], none, none, rfl, e04, e4 _ _ (e3 _ _ (e2 _ _ hA)), e4 _ _ (e3 _ _ hB), rfl, by simp, sm1, rfl⟩ fun m σ H' hW => ?_
    obtain ⟨r, qs, x8, x9, rfl, e', hA', hB', rfl, hlen, smr, hI⟩ := hW
    have hys : 1 ≤ ys.length := List.length_pos_iff.mpr hne
    refine ⟨_, et_r (evr_op (evr_lenR rfl (EvR.kL (evr_mut rfl hA'))) (evr_var rfl rfl) op_i0), fun hb H5 e5 => ?_, fun hb H5 e5 => ?_⟩
    · have hge : ys.length ≤ r.length := by
        have := of_decide_eq_true hb
        omega
      have hr0 : r ≠ [] := by
        intro z
        have := congrArg List.length z
        rw [List.length_nil] at this
        omega
      have hcnt : r.length + 1 - ys.length = (r.length - ys.length) + 1 := by omega
      have hstep : divIter p u ys (r.length + 1 - ys.length) (r, qs) = divIter p u ys (r.length - ys.length) (divStep p u ys (r, qs)) := by rw [hcnt] <;> rfl
      have hlast := smr _ (List.getLast_mem hr0)
      have hA5 := e5 _ _ hA'
      have hB5 := e5 _ _ hB'
      refine ⟨fun σ2 H2 => ∃ r2 qs2 y8 y9, σ2 = [some (.int p), some v_one, some v_other, some (.ref l1), some (.ref l2), some (.int (ys.length : Int)), some (.int u), y8, y9, none, none] ∧ Ex H H2 ∧ H2 l1 = some (.lst (r2.map V.int)) ∧ H2 l2 = some (.lst (qs2.map V.int)) ∧
        r2.length + 1 = r.length ∧ qs2.length = qs.length + 1 ∧ Small r2 ∧ (r2, qs2) = divStep p u ys (r, qs), fun σ2 H2 hN => ?_, ?_⟩
      · obtain ⟨r2, qs2, y8, y9, rfl, g1, g2, g3, g4, g5, g6, g7⟩ := hN
        refine ⟨r2.length, by omega, r2, qs2, y8, y9, rfl, g1, g2, g3, rfl, by omega, g6, ?_⟩
        rw [← hI, hstep, ← g7, show r2.length + 1 - ys.length = r.length - ys.length by omega]
      · refine qr_asg (r := vI (r.getLast hr0 * u % p)) (evr_op (evr_op (evr_op (evr_mut rfl hA5) (un_negI evr_c) (op_ixLi (atI_lastI hr0))) (evr_var rfl rfl) (op_i (.inr (by omega)))) (evr_var rfl rfl) (op_i hp)) fun v H6 e6 hv => ?_
        obtain rfl := hv
        have ef : r.getLastD 0 * u % p = r.getLast hr0 * u % p := by rw [eL hr0]
        have hf := small_mod (x := r.getLast hr0 * u) hp hp2
        have hf0 := Int.emod_nonneg (r.getLast hr0 * u) (by omega : p ≠ 0)
        have hf1 := Int.emod_lt_of_pos (r.getLast hr0 * u) hp
        generalize r.getLast hr0 * u % p = f at ef hf hf0 hf1
        have hA6 := e6 _ _ hA5
        have hB6 := e6 _ _ hB5
        refine qr_app hB6 (Evl.ev_var rfl) (evr_var rfl rfl) (by omega) fun H7 e7 => ?_
        have e07 : Ex H (upd H7 l2 (.lst ((qs ++ [f]).map V.int))) := Ex.mut (((e'.trans e5).trans e6).trans e7) n2'
        have hA7 : (upd H7 l2 (.lst ((qs ++ [f]).map V.int))) l1 = some (.lst (r.map V.int)) := by
          rw [upd_ne hne12]
          exact e7 _ _ hA6
        have hB7 : (upd H7 l2 (.lst ((qs ++ [f]).map V.int))) l2 = some (.lst ((qs ++ [f]).map V.int)) := upd_same
        generalize (upd H7 l2 (.lst ((qs ++ [f]).map V.int))) = H8 at e07 hA7 hB7
        refine Evl.q_when (et_truI (evr_var rfl rfl)) (fun hb2 H9 e9 => ?_) (fun hb2 H9 e9 => ?_)
        · have hf2 : f ≠ 0 := by simpa using hb2
          have hA9 := e9 _ _ hA7
          refine qr_asg (r := vI ((r.length - ys.length : Nat) : Int)) ((evr_op (evr_lenR rfl (EvR.kL (evr_mut rfl hA9))) (evr_var rfl rfl) op_i0).eqI (by omega)) fun v H10 e10 hv => ?_
          obtain rfl := hv
          have hA10 := e10 _ _ hA9
          have hB10 := e10 _ _ (e9 _ _ hB7)
          have e010 : Ex H H10 := (e07.trans e9).trans e10
          refine sr_cut (ns := r) (ms := List.zipWith (fun n y => (n - f * y) % p) (r.drop (r.length - ys.length)) ys) (lo := some ((r.length - ys.length : Nat) : Int)) (hi := none) hA10 (fun H1 e1 => Evl.ev_var rfl) (fun H1 e1 => eo_some (evr_var rfl rfl)) (fun H1 e1 => eo_none) ?_ ?_ fun H11 e11 => ?_
          · refine er_zipN (wk_zipK (evrs_cons (EvR.kL ?_) (evrs_cons (EvR.kP (evr_var rfl ((vP K ys).st e010 h_other))) evrs_nil))) (fun n y => (n - f * y) % p) (by rw [List.length_drop]; omega) (fun x y => rfl) ?_
            · rw [← cutI_drop]
              exact evr_slL (evr_mut rfl hA10) (eo_some (evr_var rfl rfl)) eo_none
            · intro n hn y hy H12 e12
              exact evr_op (evr_op (evr_var rfl rfl) (evr_op (evr_var rfl rfl) (evr_var rfl rfl) (op_i (.inl (by omega)))) op_i0) (evr_var rfl rfl) (op_i hp)
          · rw [List.length_zipWith, List.length_drop]
            omega
          · have ec1 : cutA (some ((r.length - ys.length : Nat) : Int)) r.length = r.length - ys.length := by
              unfold cutA
              rw [HT.sIx_nat]
              omega
            have ec2 : cutC (some ((r.length - ys.length : Nat) : Int)) none r.length = r.length := by
              unfold cutC
              rw [HT.sIx_nat, HT.sIx_none]
              omega
            rw [ec1, ec2, List.drop_length, List.append_nil]
            have hne11 : List.take (r.length - ys.length) r ++ List.zipWith (fun n y => (n - f * y) % p) (r.drop (r.length - ys.length)) ys ≠ [] := by
              intro z
              have := congrArg List.length z
              rw [List.length_append, List.length_take, List.length_zipWith, List.length_drop, List.length_nil] at this
              omega
            refine sr_pop (ns := List.take (r.length - ys.length) r ++ List.zipWith (fun n y => (n - f * y) % p) (r.drop (r.length - ys.length)) ys) upd_same (Evl.ev_var rfl) hne11 fun H12 e12 => ?_
            have hn1 : H l1 = none := n1
            refine ⟨_, qs ++ [f], _, _, rfl, Ex.mut ((Ex.mut (e010.trans e11) hn1).trans e12) hn1, upd_same, ?_, ?_, by rw [List.length_append]; rfl, ?_, ?_⟩
            · rw [upd_ne (Ne.symm hne12)]
              refine e12 _ _ ?_
              rw [upd_ne (Ne.symm hne12)]
              exact e11 _ _ hB10
            · rw [List.length_dropLast, List.length_append, List.length_take, List.length_zipWith, List.length_drop]
              omega
            · exact ((smr.take _).app (small_zip hp hp2 _ _ _)).dropLast
            · unfold divStep
              simp only [ef]
              rw [if_neg hf2]
        · have hf2 : f = 0 := by simpa using hb2
          have hA9 := e9 _ _ hA7
          have hn1 : H l1 = none := n1
          refine sr_pop (ns := r) hA9 (Evl.ev_var rfl) hr0 fun H12 e12 => ?_
          refine ⟨_, qs ++ [f], _, _, rfl, Ex.mut ((e07.trans e9).trans e12) hn1, upd_same, ?_, ?_, by rw [List.length_append]; rfl, smr.dropLast, ?_⟩
          · rw [upd_ne (Ne.symm hne12)]
            exact e12 _ _ (e9 _ _ hB7)
          · rw [List.length_dropLast]
            have := List.length_pos_iff.mpr hr0
            omega
          · unfold divStep
            simp only [ef]
            rw [if_pos hf2]
    · have hlt : r.length < ys.length := by
        have := of_decide_eq_false hb
        omega
      have h0 : r.length + 1 - ys.length = 0 := by omega
      rw [h0] at hI
      have hI2 : (r, qs) = divIter p u ys (xs.length + 1 - ys.length) (xs, []) := hI
      rw [← hI2] at q
      have hA5 := e5 _ _ hA'
      have hB5 := e5 _ _ hB'
      refine sr_ret (evr_dispT (evrs_cons (evr_call qs.reverse (by show qs.reverse.length ≤ 100000; rw [List.length_reverse]; omega) (evrs_cons (evr_revL (evr_mut rfl hB5)) evrs_nil)) (evrs_cons (evr_call r (by show r.length ≤ 100000; omega) (evrs_cons (evr_mut rfl hA5) evrs_nil)) evrs_nil)) (Nat.le_of_ble_eq_true rfl)) fun v H6 e6 hv => q v H6 ((e'.trans e5).trans e6) hv
/-- no call keeps these -/
def spF : Sp := fun _ _ _ _ => False
theorem ok_F {f : Addr} {fd : FuncData} {ps : List Str} {k : Nat} : FnOk P w K mg base CX0 k f fd ps spF := ⟨fun _ _ _ _ h => h.elim, fun _ _ _ _ _ _ _ _ _ _ _ _ _ h => h.elim⟩
abbrev s_divide : Stmt := topS 22
abbrev N_divide : List Str := ["prime", "one", "other", "rest", "quotient", "low", "digits", "_"]
theorem sc_divide : FnScope N_divide ["prime", "one", "other"] (defScope s_divide) := ⟨rfl, rfl, rfl, by decide +kernel, rfl, by decide +kernel, by decide +kernel⟩
theorem ok_divide {f : Addr} {fd : FuncData} (F : Fun K "divide" "divide" s_divide f fd) (B : Bis mg) (C_STEPS : GI mg "STEPS" 64) (C_MANY_STEPS : GI mg "MANY_STEPS" 10) (D_divide_short : De P w K mg base "divide_short" ["prime", "one", "other"] 2 (sp_divide_short K)) (D_first_digits : De P w K mg base "first_digits" ["prime", "one", "other", "many"] 2 spF) (D_add_scaled : De P w K mg base "add_scaled" ["prime", "one", "other", "factor"] 2 (sp_add_scaled K)) (D_multiply : De P w K mg base "multiply" ["prime", "one", "other"] 2 spF) (D_trimmed : De P w K mg base "trimmed" ["numbers"] 1 (sp_trimmed K)) : FnOk P w K mg base CX0 3 f fd ["prime", "one", "other"] (sp_divide K) := by
  refine F.ok sc_divide (fun vs H Q E h => ?_) (fun cdv A outer s H vs Q E hr h => ?_)
  · obtain ⟨g, _, ha, _⟩ := h
    exact ha.len
  · obtain ⟨⟨prime, one, other⟩, hpre, ⟨_, _, rfl, rfl, ⟨v_one, _, rfl, h_one, ⟨v_other, _, rfl, h_other, rfl⟩⟩⟩, q⟩ := h
    dsimp only at *
    refine ⟨_, (pss_cons (ps_if (PW.pt (pw_or (pt_cmpR op_lt (pe_op op_sub (pe_callB call_len_seq (by rfl) (B "len" (by decide +kernel)) (by decide +kernel) (pa_cons (pv 1) pa_nil)) (pe_callB call_len_seq (by rfl) (B "len" (by decide +kernel)) (by decide +kernel) (pa_cons (pv 2) pa_nil))) (pe_gi C_MANY_STEPS (by rfl)) (nomark _)) (pw_or1 (pt_cmpR op_le (pe_callB call_len_seq (by rfl) (B "len" (by decide +kernel)) (by decide +kernel) (pa_cons (pv 2) pa_nil)) (pe_gi C_STEPS (by rfl)) (nomark _))))) (pss_one (ps_ret (pe_call D_divide_short.ok (hr.mono (by decide)) (by rfl) D_divide_short.g D_divide_short.kp D_divide_short.b .nil pass0 (pa_cons (pv 0) (pa_cons (pv 1) (pa_cons (pv 2) pa_nil)))))) pss_nil)
      (pss_cons (ps_set (i := 3) sc_divide.nd rfl (Or.inl rfl) (pv 1))
      (pss_cons (ps_setLc (i := 4) (own := [("_", 7)]) (g := (gName 7)) (tt := tYes) rfl sc_divide.nd rfl rfl (sw_true rfl rfl rfl (by decide +kernel)) (pi_range1 (by rfl) (B "range" (by decide +kernel)) (pa_cons (pe_op op_add (pe_op op_sub (pe_callB call_len_seq (by rfl) (B "len" (by decide +kernel)) (by decide +kernel) (pa_cons (pv 1) pa_nil)) (pe_callB call_len_seq (by rfl) (B "len" (by decide +kernel)) (by decide +kernel) (pa_cons (pv 2) pa_nil))) pe_int) pa_nil)) (blkOk_by (own := [("_", 7)]) (N := N_divide) (sc := defScope s_divide) (by decide +kernel)) (fun _ _ _ _ _ => (pg_name (i := 7) sc_divide.nd rfl (Or.inl rfl))) (fun _ _ _ _ _ => pts_nil) (fun _ _ _ _ _ => pe_int))
      (pss_cons (ps_while PassesOwn.never (pt_cmpR op_ge (pe_op op_sub (pe_callB call_len_seq (by rfl) (B "len" (by decide +kernel)) (by decide +kernel) (pa_cons (pv 3) pa_nil)) (pe_callB call_len_seq (by rfl) (B "len" (by decide +kernel)) (by decide +kernel) (pa_cons (pv 2) pa_nil))) (pe_gi C_MANY_STEPS (by rfl)) (nomark _)) (pss_cons (ps_set (i := 5) sc_divide.nd rfl (Or.inl rfl) (pe_callB (call_max2 rfl) (by rfl) (B "max" (by decide +kernel)) (by decide +kernel) (pa_cons pe_int (pa_cons (pe_op op_sub (pe_op op_add (pe_op op_sub (pe_callB call_len_seq (by rfl) (B "len" (by decide +kernel)) (by decide +kernel) (pa_cons (pv 3) pa_nil)) (pe_callB call_len_seq (by rfl) (B "len" (by decide +kernel)) (by decide +kernel) (pa_cons (pv 2) pa_nil))) pe_int) (pe_gi C_STEPS (by rfl))) pa_nil))))
      (pss_cons (ps_set (i := 6) sc_divide.nd rfl (Or.inl rfl) (pe_call D_first_digits.ok (hr.mono (by decide)) (by rfl) D_first_digits.g D_first_digits.kp D_first_digits.b .nil pass0 (pa_cons (pv 0) (pa_cons (pv 3) (pa_cons (pv 2) (pa_cons (pe_op op_sub (pe_op op_add (pe_op op_sub (pe_callB call_len_seq (by rfl) (B "len" (by decide +kernel)) (by decide +kernel) (pa_cons (pv 3) pa_nil)) (pe_callB call_len_seq (by rfl) (B "len" (by decide +kernel)) (by decide +kernel) (pa_cons (pv 2) pa_nil))) pe_int) (pv 5)) pa_nil))))))
      (pss_cons (ps_asg (pv 6) (pg_cut (pv 4) (po_some (pv 5)) (po_some (pe_op op_add (pv 5) (pe_callB call_len_seq (by rfl) (B "len" (by decide +kernel)) (by decide +kernel) (pa_cons (pv 6) pa_nil))))))
      (pss_one (ps_set (i := 3) sc_divide.nd rfl (Or.inl rfl) (pe_call D_add_scaled.ok (hr.mono (by decide)) (by rfl) D_add_scaled.g D_add_scaled.kp D_add_scaled.b .nil pass0 (pa_cons (pv 0) (pa_cons (pv 3) (pa_cons (pe_op op_catA (pe_op op_repA (pe_tup (pa_cons pe_int pa_nil)) (pv 5)) (pe_call D_multiply.ok (hr.mono (by decide)) (by rfl) D_multiply.g D_multiply.kp D_multiply.b .nil pass0 (pa_cons (pv 0) (pa_cons (pv 6) (pa_cons (pv 2) pa_nil))))) (pa_cons (pe_un un_neg pe_int) pa_nil)))))))))))
      (pss_cons (ps_asg (pe_call D_divide_short.ok (hr.mono (by decide)) (by rfl) D_divide_short.g D_divide_short.kp D_divide_short.b .nil pass0 (pa_cons (pv 0) (pa_cons (pv 3) (pa_cons (pv 2) pa_nil)))) (pg_tup rfl (pgs_cons (pg_name (i := 6) sc_divide.nd rfl (Or.inl rfl)) (pgs_cons (pg_name (i := 3) sc_divide.nd rfl (Or.inl rfl)) pgs_nil))))
      (pss_cons (ps_asg (pv 6) (pg_cut (pv 4) po_none (po_some (pe_callB call_len_seq (by rfl) (B "len" (by decide +kernel)) (by decide +kernel) (pa_cons (pv 6) pa_nil)))))
      (pss_one (ps_ret (pe_tup (pa_cons (pe_call D_trimmed.ok (hr.mono (by decide)) (by rfl) D_trimmed.g D_trimmed.kp D_trimmed.b .nil pass0 (pa_cons (pv 4) pa_nil)) (pa_cons (pv 3) pa_nil))))))))))), ?_⟩
    obtain ⟨p0, p1, l1, l2, hne, s1, s2⟩ := hpre
    dsimp only at p0 p1 l1 l2 hne s1 s2
    refine Evl.q_when (b := decide ((one.length : Int) - other.length < 10) || decide ((other.length : Int) ≤ 64)) (Evl.et_or (et_r (evr_op (evr_op (evr_lenR rfl (EvR.kP (evr_var rfl h_one))) (evr_lenR rfl (EvR.kP (evr_var rfl h_other))) op_i0) evr_c op_i0)) fun _ => et_r (evr_op (evr_lenR rfl (EvR.kP (evr_var rfl h_other))) evr_c op_i0)) (fun hb H1 e1 => ?_) (fun hb H1 e1 => ?_)
    · exact sr_ret (evr_call (GQ.mk prime one other) ⟨p0, p1, l1, by dsimp only; omega, hne, s1, s2⟩ (evrs_cons (evr_var rfl rfl) (evrs_cons (evr_var rfl ((vP K one).st e1 h_one)) (evrs_cons (evr_var rfl ((vP K other).st e1 h_other)) evrs_nil)))) fun v H2 e2 hv => q v H2 (e1.trans e2) hv
    · exfalso
      have := of_decide_eq_false (Bool.or_eq_false_iff.mp hb).2
      omega
end
end K0
namespace Kt
open PySem PySem.Spec PyProof.Rows L2
open Evl (Ex Ev EvL EvU EvT EvA EvO ex_l ex_t sq_of st_of sz_of sz_lt fresh_back)
section
variable {K : PySem.W.Frag} {σ : L2.St} {H : Hp} {te tf : TE} {ta : TA} {D : Ends} {tz : TS} {r1 r2 : VR} {i j : Nat}
theorem qr_par (h : EvRs ta σ H [r1, r2]) (k : ∀ u v H1, Ex H H1 → r1.R u H1 → r2.R v H1 → tz D ((σ.set i (some u)).set j (some v)) H1) : tSeq (tPar i j ta) tz D σ H :=
  h H (Ex.refl H) _ fun vs H1 e ⟨u, _, h1, hu, ⟨v, _, h2, hv, h3⟩⟩ => by
    have h3' : _ = [] := h3
    subst h3' h2
    exact ⟨u, v, h1, k u v H1 e hu hv⟩
theorem sr_par (h : EvRs ta σ H [r1, r2]) (k : ∀ u v H1, Ex H H1 → r1.R u H1 → r2.R v H1 → D.nx ((σ.set i (some u)).set j (some v)) H1) : tPar i j ta D σ H :=
  h H (Ex.refl H) _ fun vs H1 e ⟨u, _, h1, hu, ⟨v, _, h2, hv, h3⟩⟩ => by
    have h3' : _ = [] := h3
    subst h3' h2
    exact ⟨u, v, h1, k u v H1 e hu hv⟩
end
end Kt
namespace K0
open PySem PySem.Spec PyProof.Rows L2 Kt
open Evl (Ex Ev EvL EvU EvT EvA EvO ex_l ex_t sq_of st_of sz_of sz_lt fresh_back)
/-! ### quotient_of, rest_of, common_divisor -/
theorem trim_sub : ∀ {l : List Int} {x : Int}, x ∈ trim l → x ∈ l
  | [], _, h => by simp [trim] at h
  | y :: r, x, h => by
    rw [trim] at h
    cases hr : trim r with
    | nil =>
      rw [hr] at h
      simp only at h
      split at h
      · simp at h
      · exact List.mem_cons.mpr (.inl (by simpa using h))
    | cons t ts =>
      rw [hr] at h
      simp only at h
      rcases List.mem_cons.mp h with h | h
      · exact List.mem_cons.mpr (.inl h)
      · exact List.mem_cons.mpr (.inr (trim_sub (l := r) (by rw [hr]; exact h)))
theorem trim_len : ∀ (l : List Int), (trim l).length ≤ l.length
  | [] => Nat.le_refl _
  | y :: r => by
    have ih := trim_len r
    rw [trim]
    cases hr : trim r with
    | nil =>
      simp only
      split <;> simp
    | cons t ts =>
      rw [hr] at ih
      simp only [List.length_cons] at ih ⊢
      omega
theorem Small.trim {l : List Int} (h : Small l) : Small (trim l) := fun x hx => h x (trim_sub hx)
theorem Small.rev {l : List Int} (h : Small l) : Small l.reverse := fun x hx => h x (List.mem_reverse.mp hx)
theorem divStep_len (p u : Int) (ys : List Int) (s : List Int × List Int) : (divStep p u ys s).1.length = s.1.length - 1 ∧ (divStep p u ys s).2.length = s.2.length + 1 := by
  unfold divStep
  simp only [List.length_append, List.length_dropLast, List.length_cons, List.length_nil]
  refine ⟨?_, trivial⟩
  split
  · rfl
  · rw [List.length_append, List.length_take, List.length_zipWith, List.length_drop]
    omega
theorem divIter_len (p u : Int) (ys : List Int) : ∀ (n : Nat) (s : List Int × List Int), (divIter p u ys n s).1.length = s.1.length - n ∧ (divIter p u ys n s).2.length = s.2.length + n
  | 0, s => ⟨rfl, rfl⟩
  | n + 1, s => by
    have h1 := divStep_len p u ys s
    have h2 := divIter_len p u ys n (divStep p u ys s)
    rw [divIter]
    omega
theorem divStep_small {p : Int} (hp : 0 < p) (hp2 : p ≤ 100000) (u : Int) (ys : List Int) (s : List Int × List Int) (h : Small s.1 ∧ Small s.2) : Small (divStep p u ys s).1 ∧ Small (divStep p u ys s).2 := by
  unfold divStep
  refine ⟨?_, h.2.app fun n hn => ?_⟩
  · simp only
    apply Small.dropLast
    split
    · exact h.1
    · exact (h.1.take _).app (small_zip hp hp2 _ _ _)
  · obtain rfl : n = _ := List.mem_singleton.mp hn
    exact small_mod hp hp2
theorem divIter_small {p : Int} (hp : 0 < p) (hp2 : p ≤ 100000) (u : Int) (ys : List Int) : ∀ (n : Nat) (s : List Int × List Int), (Small s.1 ∧ Small s.2) → Small (divIter p u ys n s).1 ∧ Small (divIter p u ys n s).2
  | 0, s, h => h
  | n + 1, s, h => divIter_small hp hp2 u ys n _ (divStep_small hp hp2 u ys s h)
theorem divide_small {p : Int} (hp : 0 < p) (hp2 : p ≤ 100000) {xs : List Int} (ys : List Int) (h : Small xs) : Small (divide p xs ys).1 ∧ Small (divide p xs ys).2 := by
  have z := divIter_small hp hp2 (inv p (ys.getLastD 0)) ys (xs.length + 1 - ys.length) (xs, []) ⟨h, fun n hn => by simp at hn⟩
  exact ⟨z.2.rev.trim, z.1.trim⟩
theorem divide_len1 (p : Int) (xs ys : List Int) : (divide p xs ys).1.length ≤ xs.length + 1 - ys.length := by
  have z := (divIter_len p (inv p (ys.getLastD 0)) ys (xs.length + 1 - ys.length) (xs, [])).2
  have t := trim_len (divIter p (inv p (ys.getLastD 0)) ys (xs.length + 1 - ys.length) (xs, [])).2.reverse
  rw [List.length_reverse] at t
  simp only [List.length_nil] at z
  show (trim _).length ≤ _
  omega
theorem divide_len2 (p : Int) (xs : List Int) {ys : List Int} (h : ys ≠ []) : (divide p xs ys).2.length < ys.length := by
  have z := (divIter_len p (inv p (ys.getLastD 0)) ys (xs.length + 1 - ys.length) (xs, [])).1
  have t := trim_len (divIter p (inv p (ys.getLastD 0)) ys (xs.length + 1 - ys.length) (xs, [])).1
  have := List.length_pos_iff.mpr h
  show (trim _).length < _
  simp only at z
  omega
def quotientOf (p : Int) (xs ys : List Int) : List Int := if ys = [1] then xs else (divide p xs ys).1
def comIter (p : Int) : Nat → List Int → List Int → List Int
  | 0, xs, _ => makeMonic p xs
  | n + 1, xs, ys => if ys = [] then makeMonic p xs else if ys.length = 1 then [1] else comIter p n ys (divide p xs ys).2
def common (p : Int) (xs ys : List Int) : List Int := comIter p (ys.length + 1) xs ys
theorem comIter_more (p : Int) : ∀ (n m : Nat) (xs ys : List Int), ys.length < n → ys.length < m → comIter p n xs ys = comIter p m xs ys
  | 0, _, _, _, h, _ => by omega
  | _ + 1, 0, _, _, _, h => by omega
  | n + 1, m + 1, xs, ys, h1, h2 => by
    rw [comIter, comIter]
    by_cases hy : ys = []
    · rw [if_pos hy, if_pos hy]
    · rw [if_neg hy, if_neg hy]
      have := divide_len2 p xs hy
      rw [comIter_more p n m ys (divide p xs ys).2 (by omega) (by omega)]
section
variable {P : Program} {w : World} {K : PySem.W.Frag} {mg : Str → Option Value} {base : Heap}
def sp_quotient_of (K : PySem.W.Frag) : Sp := Con (G := GQ) DivPre (fun g => [vI g.p, vP K g.xs, vP K g.ys]) (fun g => vP K (quotientOf g.p g.xs g.ys))
def sp_rest_of (K : PySem.W.Frag) : Sp := Con (G := GQ) DivPre (fun g => [vI g.p, vP K g.xs, vP K g.ys]) (fun g => vP K (divide g.p g.xs g.ys).2)
def sp_common_divisor (K : PySem.W.Frag) : Sp := Con (G := GQ) (fun g => 0 < g.p ∧ g.p ≤ 100000 ∧ g.xs.length ≤ 1000 ∧ g.ys.length ≤ 64 ∧ Small g.xs ∧ Small g.ys) (fun g => [vI g.p, vP K g.xs, vP K g.ys]) (fun g => vP K (common g.p g.xs g.ys))
abbrev s_quotient_of : Stmt := topS 25
abbrev N_quotient_of : List Str := ["prime", "one", "other"]
theorem sc_quotient_of : FnScope N_quotient_of ["prime", "one", "other"] (defScope s_quotient_of) := ⟨rfl, rfl, rfl, by decide +kernel, rfl, by decide +kernel, by decide +kernel⟩
theorem ok_quotient_of {f : Addr} {fd : FuncData} (F : Fun K "quotient_of" "quotient_of" s_quotient_of f fd) (B : Bis mg) (D_divide : De P w K mg base "divide" ["prime", "one", "other"] 3 (sp_divide K)) : FnOk P w K mg base CX0 4 f fd ["prime", "one", "other"] (sp_quotient_of K) := by
  refine F.ok sc_quotient_of (fun vs H Q E h => ?_) (fun cdv A outer s H vs Q E hr h => ?_)
  · obtain ⟨g, _, ha, _⟩ := h
    exact ha.len
  · obtain ⟨⟨prime, one, other⟩, hpre, ⟨_, _, rfl, rfl, ⟨v_one, _, rfl, h_one, ⟨v_other, _, rfl, h_other, rfl⟩⟩⟩, q⟩ := h
    dsimp only at *
    refine ⟨_, (pss_cons (ps_if (pt_cmpR (op_eqD hr.units) (pv 2) (pe_tup (pa_cons pe_int pa_nil)) (nomark _)) (pss_one (ps_ret (pv 1))) pss_nil)
      (pss_one (ps_ret (pe_ix ix_tup (pe_call D_divide.ok (hr.mono (by decide)) (by rfl) D_divide.g D_divide.kp D_divide.b .nil pass0 (pa_cons (pv 0) (pa_cons (pv 1) (pa_cons (pv 2) pa_nil)))) pe_int (fun _ _ => rfl))))), ?_⟩
    refine Evl.q_when (et_r (evr_op (evr_var rfl h_other) (evr_disp (ns := [1]) (evrs_cons evr_c evrs_nil) (by decide)) op_eqP)) (fun hb H1 e1 => ?_) (fun hb H1 e1 => ?_)
    · refine sr_ret (evr_var rfl ((vP K one).st e1 h_one)) fun v H2 e2 hv => q v H2 (e1.trans e2) ?_
      show (vP K (quotientOf prime one other)).R v H2
      rw [quotientOf, if_pos (of_decide_eq_true hb)]
      exact hv
    · refine sr_ret (evr_ixT (i := 0) (r := vP K (divide prime one other).1) (evr_call (GQ.mk prime one other) hpre (evrs_cons (evr_var rfl rfl) (evrs_cons (evr_var rfl ((vP K one).st e1 h_one)) (evrs_cons (evr_var rfl ((vP K other).st e1 h_other)) evrs_nil)))) evr_c rfl) fun v H2 e2 hv => q v H2 (e1.trans e2) ?_
      show (vP K (quotientOf prime one other)).R v H2
      rw [quotientOf, if_neg (of_decide_eq_false hb)]
      exact hv
abbrev s_rest_of : Stmt := topS 26
abbrev N_rest_of : List Str := ["prime", "one", "other"]
theorem sc_rest_of : FnScope N_rest_of ["prime", "one", "other"] (defScope s_rest_of) := ⟨rfl, rfl, rfl, by decide +kernel, rfl, by decide +kernel, by decide +kernel⟩
theorem ok_rest_of {f : Addr} {fd : FuncData} (F : Fun K "rest_of" "rest_of" s_rest_of f fd) (B : Bis mg) (D_divide : De P w K mg base "divide" ["prime", "one", "other"] 3 (sp_divide K)) : FnOk P w K mg base CX0 4 f fd ["prime", "one", "other"] (sp_rest_of K) := by
  refine F.ok sc_rest_of (fun vs H Q E h => ?_) (fun cdv A outer s H vs Q E hr h => ?_)
  · obtain ⟨g, _, ha, _⟩ := h
    exact ha.len
  · obtain ⟨⟨prime, one, other⟩, hpre, ⟨_, _, rfl, rfl, ⟨v_one, _, rfl, h_one, ⟨v_other, _, rfl, h_other, rfl⟩⟩⟩, q⟩ := h
    dsimp only at *
    refine ⟨_, (pss_one (ps_ret (pe_ix ix_tup (pe_call D_divide.ok (hr.mono (by decide)) (by rfl) D_divide.g D_divide.kp D_divide.b .nil pass0 (pa_cons (pv 0) (pa_cons (pv 1) (pa_cons (pv 2) pa_nil)))) pe_int (fun _ _ => rfl)))), ?_⟩
    exact sr_ret (evr_ixT (i := 1) (r := vP K (divide prime one other).2) (evr_call (GQ.mk prime one other) hpre (evrs_cons (evr_var rfl rfl) (evrs_cons (evr_var rfl h_one) (evrs_cons (evr_var rfl h_other) evrs_nil)))) evr_c rfl) fun v H2 e2 hv => q v H2 e2 hv
abbrev s_common_divisor : Stmt := topS 27
abbrev N_common_divisor : List Str := ["prime", "one", "other"]
theorem sc_common_divisor : FnScope N_common_divisor ["prime", "one", "other"] (defScope s_common_divisor) := ⟨rfl, rfl, rfl, by decide +kernel, rfl, by decide +kernel, by decide +kernel⟩
theorem ok_common_divisor {f : Addr} {fd : FuncData} (F : Fun K "common_divisor" "common_divisor" s_common_divisor f fd) (B : Bis mg) (D_rest_of : De P w K mg base "rest_of" ["prime", "one", "other"] 4 (sp_rest_of K)) (D_make_monic : De P w K mg base "make_monic" ["prime", "poly"] 3 (sp_make_monic K)) : FnOk P w K mg base CX0 5 f fd ["prime", "one", "other"] (sp_common_divisor K) := by
  refine F.ok sc_common_divisor (fun vs H Q E h => ?_) (fun cdv A outer s H vs Q E hr h => ?_)
  · obtain ⟨g, _, ha, _⟩ := h
    exact ha.len
  · obtain ⟨⟨prime, one, other⟩, ⟨hp, hp2, hl1, hl2, sm1, sm2⟩, ⟨_, _, rfl, rfl, ⟨v_one, _, rfl, h_one, ⟨v_other, _, rfl, h_other, rfl⟩⟩⟩, q⟩ := h
    dsimp only at *
    refine ⟨_, (pss_cons (ps_while PassesOwn.never (pt_truth (pv 2) (by intro _; rfl)) (pss_cons (ps_if (pt_cmpR op_eq (pe_callB call_len_seq (by rfl) (B "len" (by decide +kernel)) (by decide +kernel) (pa_cons (pv 2) pa_nil)) pe_int (nomark _)) (pss_one (ps_ret (pe_tup (pa_cons pe_int pa_nil)))) pss_nil)
      (pss_one (ps_par (i := 1) (j := 2) (by rfl) sc_common_divisor.nd rfl rfl (by decide) rfl rfl (pa_cons (pv 2) (pa_cons (pe_call D_rest_of.ok (hr.mono (by decide)) (by rfl) D_rest_of.g D_rest_of.kp D_rest_of.b .nil pass0 (pa_cons (pv 0) (pa_cons (pv 1) (pa_cons (pv 2) pa_nil)))) pa_nil)) (by rfl)))))
      (pss_one (ps_ret (pe_call D_make_monic.ok (hr.mono (by decide)) (by rfl) D_make_monic.g D_make_monic.kp D_make_monic.b .nil pass0 (pa_cons (pv 0) (pa_cons (pv 1) pa_nil)))))), ?_⟩
    refine Evl.q_while (fun m σ H' => ∃ a b va vb, σ = [some (.int prime), some va, some vb] ∧ Ex H H' ∧ (vP K a).R va H' ∧ (vP K b).R vb H' ∧ m = b.length ∧ a.length ≤ 1000 ∧ b.length ≤ 64 ∧ Small a ∧ Small b ∧ comIter prime (b.length + 1) a b = common prime one other) other.length
      ⟨one, other, v_one, v_other, rfl, Ex.refl H, h_one, h_other, rfl, hl1, hl2, sm1, sm2, rfl⟩ fun m σ H' hW => ?_
    obtain ⟨a, b, va, vb, rfl, e', ha, hb, rfl, la, lb, sa, sb, hI⟩ := hW
    refine ⟨_, et_truP (evr_var rfl hb), fun hc H5 e5 => ?_, fun hc H5 e5 => ?_⟩
    · have hne : b ≠ [] := by
        intro z
        subst z
        cases hc
      rw [comIter, if_neg hne] at hI
      refine ⟨fun σ2 H2 => ∃ va vb, σ2 = [some (.int prime), some va, some vb] ∧ Ex H H2 ∧ (vP K b).R va H2 ∧ (vP K (divide prime a b).2).R vb H2 ∧ b.length ≠ 1, fun σ2 H2 hN => ?_, ?_⟩
      · obtain ⟨va2, vb2, rfl, g1, g2, g3, g4⟩ := hN
        have hlt := divide_len2 prime a hne
        refine ⟨_, hlt, b, _, va2, vb2, rfl, g1, g2, g3, rfl, by omega, by omega, sb, (divide_small hp hp2 b sa).2, ?_⟩
        rw [if_neg g4] at hI
        rw [← hI]
        exact comIter_more prime _ _ _ _ (by omega) (by omega)
      · refine Evl.q_when (et_r (evr_op (evr_lenR rfl (EvR.kP (evr_var rfl ((vP K b).st e5 hb)))) evr_c (op_eqS rfl))) (fun hb2 H6 e6 => ?_) (fun hb2 H6 e6 => ?_)
        · have h1 : b.length = 1 := by
            have := V.int.inj (of_decide_eq_true hb2)
            omega
          rw [if_pos h1] at hI
          refine sr_ret (evr_disp (K := K) (ns := [1]) (evrs_cons evr_c evrs_nil) (by decide)) fun v H7 e7 hv => q v H7 (((e'.trans e5).trans e6).trans e7) ?_
          rw [← hI]
          exact hv
        · have h1 : b.length ≠ 1 := by
            intro z
            have := of_decide_eq_false hb2
            rw [z] at this
            exact this rfl
          have e56 := e5.trans e6
          refine sr_par (evrs_cons (evr_var rfl ((vP K b).st e56 hb)) (evrs_cons (evr_call (GQ.mk prime a b) ⟨hp, hp2, la, lb, hne, sa, sb⟩ (evrs_cons (evr_var rfl rfl) (evrs_cons (evr_var rfl ((vP K a).st e56 ha)) (evrs_cons (evr_var rfl ((vP K b).st e56 hb)) evrs_nil)))) evrs_nil)) fun u v H7 e7 hu hv => ?_
          exact ⟨u, v, rfl, (e'.trans e56).trans e7, hu, hv, h1⟩
    · have hz : b = [] := by
        cases b with
        | nil => rfl
        | cons x r => cases hc
      rw [comIter, if_pos hz] at hI
      refine sr_ret (evr_call (GP.mk prime a) ⟨hp, hp2, la, sa⟩ (evrs_cons (evr_var rfl rfl) (evrs_cons (evr_var rfl ((vP K a).st e5 ha)) evrs_nil))) fun v H6 e6 hv => q v H6 ((e'.trans e5).trans e6) ?_
      rw [← hI]
      exact hv
end
end K0
namespace K0
open M
/-- the row of a list's numbers -/
def co (xs : List Int) : PS := ⟨fun k => xs.getD k 0⟩
def Red (p : Int) (xs : List Int) : Prop := ∀ n ∈ xs, 0 ≤ n ∧ n < p
/-- alike but for p times something -/
def MEq (p : Int) (f g : PS) : Prop := ∃ h : PS, f = g + ⟨cst p⟩ * h
theorem MEq.refl {p : Int} (f : PS) : MEq p f f := ⟨0, by grind⟩
theorem MEq.of {p : Int} {f g : PS} (h : f = g) : MEq p f g := h ▸ .refl f
theorem MEq.symm {p : Int} {f g : PS} : MEq p f g → MEq p g f := fun ⟨h, e⟩ => ⟨-h, by grind⟩
theorem MEq.trans {p : Int} {f g h : PS} : MEq p f g → MEq p g h → MEq p f h := fun ⟨a, e⟩ ⟨b, e2⟩ => ⟨a + b, by grind⟩
theorem MEq.add {p : Int} {f g f' g' : PS} : MEq p f f' → MEq p g g' → MEq p (f + g) (f' + g') := fun ⟨a, e⟩ ⟨b, e2⟩ => ⟨a + b, by grind⟩
theorem MEq.sub {p : Int} {f g f' g' : PS} : MEq p f f' → MEq p g g' → MEq p (f - g) (f' - g') := fun ⟨a, e⟩ ⟨b, e2⟩ => ⟨a - b, by grind⟩
theorem MEq.mul {p : Int} {f g f' g' : PS} : MEq p f f' → MEq p g g' → MEq p (f * g) (f' * g') := fun ⟨a, e⟩ ⟨b, e2⟩ => ⟨a * g' + f' * b + ⟨cst p⟩ * a * b, by grind⟩
theorem MEq.c {p : Int} {f g : PS} : MEq p f g → ∀ k, f.c k % p = g.c k % p := fun ⟨h, e⟩ k => by
  rw [e]
  show (g.c k + mulc k (cst p) h.c) % p = _
  rw [PS.mulc_cst, Int.add_mul_emod_self_left]
theorem MEq.ofc {p : Int} {f g : PS} (h : ∀ k, f.c k % p = g.c k % p) : MEq p f g := ⟨⟨fun k => (f.c k - g.c k) / p⟩, by
  ext k
  show f.c k = g.c k + mulc k (cst p) _
  rw [PS.mulc_cst]
  have := Int.mul_ediv_cancel' (Int.dvd_of_emod_eq_zero (Int.emod_eq_emod_iff_emod_sub_eq_zero.mp (h k)))
  show f.c k = g.c k + p * ((f.c k - g.c k) / p)
  omega⟩
theorem co_c (xs : List Int) (k : Nat) : (co xs).c k = xs.getD k 0 := rfl
theorem co_cons0 (x : Int) (xs : List Int) : (co (x :: xs)).c 0 = x := rfl
theorem co_consS (x : Int) (xs : List Int) (k : Nat) : (co (x :: xs)).c (k + 1) = (co xs).c k := rfl
theorem co_nil : co [] = 0 := by
  ext k
  show ([] : List Int).getD k 0 = cst 0 k
  rw [PS.cst0]
  simp
theorem co_far {xs : List Int} {k : Nat} (h : xs.length ≤ k) : (co xs).c k = 0 := by
  rw [co_c, List.getD_eq_getElem?_getD, List.getElem?_eq_none h] <;> rfl
theorem co_near {xs : List Int} {k : Nat} (h : k < xs.length) : (co xs).c k = xs[k] := by
  rw [co_c, List.getD_eq_getElem?_getD, List.getElem?_eq_getElem h] <;> rfl
theorem co_trim : ∀ xs : List Int, co (trim xs) = co xs
  | [] => rfl
  | x :: r => by
    have ih := co_trim r
    rw [trim]
    cases hr : trim r with
    | nil =>
      rw [hr] at ih
      simp only
      split
      next h =>
        subst h
        ext k
        cases k with
        | zero => rfl
        | succ k =>
          rw [co_consS, ← ih]
          rfl
      next h =>
        ext k
        cases k with
        | zero => rfl
        | succ k => rw [co_consS, co_consS, ih]
    | cons t ts =>
      rw [hr] at ih
      simp only
      ext k
      cases k with
      | zero => rfl
      | succ k => rw [co_consS, co_consS, ih]
theorem co_zero_trim : ∀ {xs : List Int}, co xs = 0 → trim xs = []
  | xs, h => trim_all0 fun x hx => by
    obtain ⟨k, hk, rfl⟩ := List.getElem_of_mem hx
    rw [← co_near hk, h]
    exact PS.cst0 k
theorem trim_ext : ∀ {xs ys : List Int}, co xs = co ys → trim xs = trim ys
  | [], ys, h => by
    rw [co_nil] at h
    rw [co_zero_trim h.symm]
    rfl
  | x :: r, [], h => by
    rw [co_nil] at h
    rw [co_zero_trim h]
    rfl
  | x :: r, y :: t, h => by
    have h0 : x = y := by
      have := congrArg (fun f => f.c 0) h
      exact this
    have hr : co r = co t := by
      ext k
      have := congrArg (fun f => f.c (k + 1)) h
      exact this
    rw [trim, trim, trim_ext hr, h0]
theorem Red.trim {p : Int} {xs : List Int} (h : Red p xs) : Red p (trim xs) := fun n hn => h n (trim_sub hn)
theorem red_mod {p : Int} (hp : 0 < p) (xs : List Int) : Red p (xs.map (· % p)) := fun n hn => by
  obtain ⟨x, _, rfl⟩ := List.mem_map.mp hn
  exact ⟨Int.emod_nonneg _ (by omega), Int.emod_lt_of_pos _ hp⟩
theorem Red.co {p : Int} (hp : 0 < p) {xs : List Int} (h : Red p xs) (k : Nat) : 0 ≤ (K0.co xs).c k ∧ (K0.co xs).c k < p := by
  by_cases hk : k < xs.length
  · rw [co_near hk]
    exact h _ (List.getElem_mem hk)
  · rw [co_far (by omega)]
    omega
theorem Red.small {p : Int} (hp : p ≤ 100000) {xs : List Int} (h : Red p xs) : Small xs := fun n hn => by
  have := h n hn
  omega
/-- reduced and cut rows are told apart -/
theorem canon {p : Int} (hp : 0 < p) {xs ys : List Int} (hx : Red p xs) (hy : Red p ys) (tx : trim xs = xs) (ty : trim ys = ys) (h : MEq p (co xs) (co ys)) : xs = ys := by
  rw [← tx, ← ty]
  apply trim_ext
  ext k
  have h1 := hx.co hp k
  have h2 := hy.co hp k
  have h3 := h.c k
  rw [Int.emod_eq_of_lt h1.1 h1.2, Int.emod_eq_of_lt h2.1 h2.2] at h3
  exact h3
theorem trim_trim (xs : List Int) : trim (trim xs) = trim xs := trim_ext (co_trim xs)
theorem co_mod_c (p : Int) (xs : List Int) (k : Nat) : (co (xs.map (· % p))).c k = (co xs).c k % p := by
  by_cases hk : k < xs.length
  · rw [co_near (by rw [List.length_map]; exact hk), co_near hk, List.getElem_map]
  · rw [co_far (by rw [List.length_map]; omega), co_far (by omega)]
    rfl
theorem co_mod {p : Int} (xs : List Int) : MEq p (co (xs.map (· % p))) (co xs) := .ofc fun k => by rw [co_mod_c, Int.emod_emod]
/-! ### products -/
def addL : List Int → List Int → List Int
  | [], ys => ys
  | x :: xs, [] => x :: xs
  | x :: xs, y :: ys => (x + y) :: addL xs ys
theorem co_addL : ∀ xs ys : List Int, co (addL xs ys) = co xs + co ys
  | [], ys => by rw [co_nil, addL]; grind
  | x :: xs, [] => by rw [co_nil, addL]; grind
  | x :: xs, y :: ys => by
    have ih := co_addL xs ys
    ext k
    cases k with
    | zero => rfl
    | succ k =>
      rw [addL, co_consS, ih]
      rfl
theorem addL_len : ∀ xs ys : List Int, (addL xs ys).length = max xs.length ys.length
  | [], ys => by simp [addL]
  | x :: xs, [] => by simp [addL]
  | x :: xs, y :: ys => by
    rw [addL, List.length_cons, addL_len, List.length_cons, List.length_cons]
    omega
def conv : List Int → List Int → List Int
  | [], _ => []
  | x :: xs, ys => addL (ys.map (x * ·)) (0 :: conv xs ys)
theorem co_scale (x : Int) (ys : List Int) : co (ys.map (x * ·)) = ⟨cst x⟩ * co ys := by
  ext k
  show _ = mulc k (cst x) _
  rw [PS.mulc_cst]
  by_cases hk : k < ys.length
  · rw [co_near (by rw [List.length_map]; exact hk), co_near hk, List.getElem_map]
  · rw [co_far (by rw [List.length_map]; omega), co_far (by omega), Int.mul_zero]
theorem co_conv : ∀ xs ys : List Int, co (conv xs ys) = co xs * co ys
  | [], ys => by rw [conv, co_nil]; grind
  | x :: xs, ys => by
    have ih := co_conv xs ys
    rw [conv, co_addL, co_scale]
    ext k
    show mulc k (cst x) _ + (co (0 :: conv xs ys)).c k = mulc k (co (x :: xs)).c (co ys).c
    rw [PS.mulc_cst]
    cases k with
    | zero =>
      show x * _ + 0 = x * _
      omega
    | succ k =>
      rw [co_consS, ih]
      rfl
theorem conv_len : ∀ xs ys : List Int, (conv xs ys).length ≤ xs.length + ys.length
  | [], ys => by simp [conv]
  | x :: xs, ys => by
    have := conv_len xs ys
    rw [conv, addL_len, List.length_map, List.length_cons, List.length_cons]
    omega
def prod (p : Int) (xs ys : List Int) : List Int := trim ((conv xs ys).map (· % p))
theorem prod_red {p : Int} (hp : 0 < p) (xs ys : List Int) : Red p (prod p xs ys) := (red_mod hp _).trim
theorem prod_trim (p : Int) (xs ys : List Int) : trim (prod p xs ys) = prod p xs ys := trim_trim _
theorem prod_len (p : Int) (xs ys : List Int) : (prod p xs ys).length ≤ xs.length + ys.length := by
  have h1 := conv_len xs ys
  have h2 := trim_len ((conv xs ys).map (· % p))
  rw [List.length_map] at h2
  unfold prod
  omega
theorem co_prod {p : Int} (xs ys : List Int) : MEq p (co (prod p xs ys)) (co xs * co ys) := by
  unfold prod
  rw [co_trim, ← co_conv]
  exact co_mod _
/-- what a product is: the only reduced and cut row of its worth -/
theorem prod_is {p : Int} (hp : 0 < p) {xs ys zs : List Int} (h1 : Red p zs) (h2 : trim zs = zs) (h : MEq p (co zs) (co xs * co ys)) : prod p xs ys = zs :=
  canon hp (prod_red hp xs ys) h1 (prod_trim p xs ys) h2 ((co_prod xs ys).trans h.symm)
theorem prod_comm {p : Int} (hp : 0 < p) (xs ys : List Int) : prod p xs ys = prod p ys xs :=
  prod_is hp (prod_red hp ys xs) (prod_trim p ys xs) ((co_prod ys xs).trans (.of (by grind)))
theorem co_one : co [1] = 1 := by
  ext k
  cases k with
  | zero => rfl
  | succ k => rfl
theorem prod_one {p : Int} (hp : 0 < p) {ys : List Int} (h1 : Red p ys) (h2 : trim ys = ys) : prod p [1] ys = ys :=
  prod_is hp h1 h2 (.of (by rw [co_one]; grind))
end K0
namespace Kt
open PySem PySem.Spec PyProof.Rows L2
open Evl (Ex Ev EvL EvU EvT EvA EvO ex_l ex_t sq_of st_of sz_of sz_lt fresh_back)
section
variable {K : PySem.W.Frag} {σ : L2.St} {H : Hp} {te tf : TE} {ta : TA} {D : Ends} {tz : TS} {r : VR} {i : Nat} {t : TT} {b : Bool} {v0 : V}
theorem set_same (h : σ[i]? = some (some v0)) : σ.set i (some v0) = σ := by
  apply List.ext_getElem?
  intro k
  rw [List.getElem?_set]
  split
  next e =>
    subst e
    split
    · exact h.symm
    · next hk =>
      rw [List.getElem?_eq_none (by omega)]
  next => rfl
/-- if c: x = e -/
theorem qr_ifAsg (h : EvT t σ H b) (hx : σ[i]? = some (some v0)) (h1 : b = true → EvR te σ H r) (h2 : b = false → r.R v0 H) (k : ∀ v H1, Ex H H1 → r.R v H1 → tz D (σ.set i (some v)) H1) : tSeq (tIfS t (tAsg te (gName i)) tNext) tz D σ H :=
  Evl.q_when h (fun hb H1 e1 => sr_asg ((h1 hb).mono e1) fun v H2 e2 hv => k v H2 (e1.trans e2) hv) fun hb H1 e1 => by
    have z := k v0 H1 e1 (r.st e1 (h2 hb))
    rw [set_same hx] at z
    exact z
theorem sr_ifAsg (h : EvT t σ H b) (hx : σ[i]? = some (some v0)) (h1 : b = true → EvR te σ H r) (h2 : b = false → r.R v0 H) (k : ∀ v H1, Ex H H1 → r.R v H1 → D.nx (σ.set i (some v)) H1) : tIfS t (tAsg te (gName i)) tNext D σ H :=
  Evl.s_when h (fun hb H1 e1 => sr_asg ((h1 hb).mono e1) fun v H2 e2 hv => k v H2 (e1.trans e2) hv) fun hb H1 e1 => by
    have z := k v0 H1 e1 (r.st e1 (h2 hb))
    rw [set_same hx] at z
    exact z
end
end Kt
namespace K0
open PySem PySem.Spec PyProof.Rows L2 Kt M
open Evl (Ex Ev EvL EvU EvT EvA EvO ex_l ex_t sq_of st_of sz_of sz_lt fresh_back)
/-! ### multiply, power_of -/
/-- what a product asks for -/
structure MulPre (g : GQ) : Prop where
  p0 : 2 ≤ g.p
  p1 : g.p ≤ 7
  rx : Red g.p g.xs
  ry : Red g.p g.ys
  tx : trim g.xs = g.xs
  ty : trim g.ys = g.ys
  lx : g.xs.length ≤ 90
  ly : g.ys.length ≤ 90
structure GW where
  p : Int
  xs : List Int
  n : Nat
def pw (p : Int) (xs : List Int) : Nat → List Int
  | 0 => [1]
  | n + 1 => prod p (pw p xs n) xs
section
variable {P : Program} {w : World} {K : PySem.W.Frag} {mg : Str → Option Value} {base : Heap}
def sp_mul (pre : GQ → Prop) (K : PySem.W.Frag) : Sp := Con (G := GQ) pre (fun g => [vI g.p, vP K g.xs, vP K g.ys]) (fun g => vP K (prod g.p g.xs g.ys))
def sp_multiply (K : PySem.W.Frag) : Sp := sp_mul MulPre K
def sp_multiply_short (K : PySem.W.Frag) : Sp := sp_mul (fun g => MulPre g ∧ g.xs.length ≤ 5 ∧ g.xs.length ≤ g.ys.length) K
def sp_multiply_long (K : PySem.W.Frag) : Sp := sp_mul (fun g => MulPre g ∧ 5 < g.xs.length ∧ g.xs.length ≤ g.ys.length) K
abbrev s_multiply : Stmt := topS 16
abbrev N_multiply : List Str := ["prime", "one", "other"]
theorem sc_multiply : FnScope N_multiply ["prime", "one", "other"] (defScope s_multiply) := ⟨rfl, rfl, rfl, by decide +kernel, rfl, by decide +kernel, by decide +kernel⟩
/-- no call keeps this one -/
theorem ok_void {f : Addr} {fd : FuncData} {ps : List Str} {k : Nat} : FnOk P w K mg base CX0 k f fd ps (sp_mul (fun _ => False) K) :=
  ⟨fun _ _ _ _ ⟨_, h, _⟩ => h.elim, fun _ _ _ _ _ _ _ _ _ _ _ _ _ ⟨_, h, _⟩ => h.elim⟩
theorem ok_multiply0 {pre inner : GQ → Prop} (hpre : ∀ g, pre g → MulPre g) (hin : ∀ p xs ys, pre ⟨p, xs, ys⟩ → ys.length < xs.length → inner ⟨p, ys, xs⟩) {k : Nat} (hk : 2 ≤ k) {f : Addr} {fd : FuncData} (F : Fun K "multiply" "multiply" s_multiply f fd) (B : Bis mg) (C_SHORT : GI mg "SHORT" 5)
    (D_multiply : De P w K mg base "multiply" ["prime", "one", "other"] k (sp_mul inner K)) (D_multiply_short : De P w K mg base "multiply_short" ["prime", "one", "other"] 2 (sp_multiply_short K)) (D_multiply_long : De P w K mg base "multiply_long" ["prime", "one", "other"] 2 (sp_multiply_long K)) : FnOk P w K mg base CX0 (k + 1) f fd ["prime", "one", "other"] (sp_mul pre K) := by
  refine F.ok sc_multiply (fun vs H Q E h => ?_) (fun cdv A outer s H vs Q E hr h => ?_)
  · obtain ⟨g, _, ha, _⟩ := h
    exact ha.len
  · obtain ⟨⟨prime, one, other⟩, hp, ⟨_, _, rfl, rfl, ⟨v_one, _, rfl, h_one, ⟨v_other, _, rfl, h_other, rfl⟩⟩⟩, q⟩ := h
    have hm := hpre _ hp
    obtain ⟨t, ht⟩ := C_SHORT
    dsimp only at *
    refine ⟨_, (pss_cons (ps_if (pt_cmpR op_gt (pe_callB call_len_seq (by rfl) (B "len" (by decide +kernel)) (by decide +kernel) (pa_cons (pv 1) pa_nil)) (pe_callB call_len_seq (by rfl) (B "len" (by decide +kernel)) (by decide +kernel) (pa_cons (pv 2) pa_nil)) (nomark _)) (pss_one (ps_ret (pe_call D_multiply.ok hr (by rfl) D_multiply.g D_multiply.kp D_multiply.b .nil pass0 (pa_cons (pv 0) (pa_cons (pv 2) (pa_cons (pv 1) pa_nil)))))) pss_nil)
      (pss_cons (ps_if (pt_cmpR (op_eqD hr.units) (pv 1) (pe_tup (pa_cons pe_int pa_nil)) (nomark _)) (pss_one (ps_ret (pv 2))) pss_nil)
      (pss_cons (ps_if (pt_cmpR op_le (pe_callB call_len_seq (by rfl) (B "len" (by decide +kernel)) (by decide +kernel) (pa_cons (pv 1) pa_nil)) (pe_glob (v := .int 5) rfl ht ⟨t, rfl⟩) (nomark _)) (pss_one (ps_ret (pe_call D_multiply_short.ok (hr.mono hk) (by rfl) D_multiply_short.g D_multiply_short.kp D_multiply_short.b .nil pass0 (pa_cons (pv 0) (pa_cons (pv 1) (pa_cons (pv 2) pa_nil)))))) pss_nil)
      (pss_one (ps_ret (pe_call D_multiply_long.ok (hr.mono hk) (by rfl) D_multiply_long.g D_multiply_long.kp D_multiply_long.b .nil pass0 (pa_cons (pv 0) (pa_cons (pv 1) (pa_cons (pv 2) pa_nil))))))))), ?_⟩
    have hp0 : 0 < prime := by
      have := hm.p0
      dsimp only at this
      omega
    refine Evl.q_when (et_r (evr_op (evr_lenR rfl (EvR.kP (evr_var rfl h_one))) (evr_lenR rfl (EvR.kP (evr_var rfl h_other))) op_i0)) (fun hb H1 e1 => ?_) (fun hb H1 e1 => ?_)
    · have hlt : other.length < one.length := by
        have := of_decide_eq_true hb
        omega
      refine sr_ret (evr_call (GQ.mk prime other one) (hin _ _ _ hp hlt) (evrs_cons (evr_var rfl rfl) (evrs_cons (evr_var rfl ((vP K other).st e1 h_other)) (evrs_cons (evr_var rfl ((vP K one).st e1 h_one)) evrs_nil)))) fun v H2 e2 hv => q v H2 (e1.trans e2) ?_
      show (vP K (prod prime one other)).R v H2
      rw [prod_comm hp0]
      exact hv
    · have hle : one.length ≤ other.length := by
        have := of_decide_eq_false hb
        omega
      refine Evl.q_when (et_r (evr_op (evr_var rfl ((vP K one).st e1 h_one)) (evr_disp (K := K) (ns := [1]) (evrs_cons evr_c evrs_nil) (by decide)) op_eqP)) (fun hb2 H2 e2 => ?_) (fun hb2 H2 e2 => ?_)
      · refine sr_ret (evr_var rfl ((vP K other).st (e1.trans e2) h_other)) fun v H3 e3 hv => q v H3 ((e1.trans e2).trans e3) ?_
        show (vP K (prod prime one other)).R v H3
        rw [of_decide_eq_true hb2, prod_one hp0 hm.ry hm.ty]
        exact hv
      · have e12 := e1.trans e2
        refine Evl.q_when (et_r (evr_op (evr_lenR rfl (EvR.kP (evr_var rfl ((vP K one).st e12 h_one)))) evr_c op_i0)) (fun hb3 H3 e3 => ?_) (fun hb3 H3 e3 => ?_)
        · have h5 : one.length ≤ 5 := by
            have := of_decide_eq_true hb3
            omega
          exact sr_ret (evr_call (GQ.mk prime one other) ⟨hm, h5, hle⟩ (evrs_cons (evr_var rfl rfl) (evrs_cons (evr_var rfl ((vP K one).st (e12.trans e3) h_one)) (evrs_cons (evr_var rfl ((vP K other).st (e12.trans e3) h_other)) evrs_nil)))) fun v H4 e4 hv => q v H4 ((e12.trans e3).trans e4) hv
        · exact sr_ret (evr_call (GQ.mk prime one other) ⟨hm, by have := of_decide_eq_false hb3; dsimp only; omega, hle⟩ (evrs_cons (evr_var rfl rfl) (evrs_cons (evr_var rfl ((vP K one).st (e12.trans e3) h_one)) (evrs_cons (evr_var rfl ((vP K other).st (e12.trans e3) h_other)) evrs_nil)))) fun v H4 e4 hv => q v H4 ((e12.trans e3).trans e4) hv
theorem ok_multiply {f : Addr} {fd : FuncData} (F : Fun K "multiply" "multiply" s_multiply f fd) (B : Bis mg) (C_SHORT : GI mg "SHORT" 5) (g : mg "multiply" = some (.ref f)) (kp : PySem.W.keepIn K (.ref f) = true) (b : Binds K fd ["prime", "one", "other"] [])
    (D_multiply_short : De P w K mg base "multiply_short" ["prime", "one", "other"] 2 (sp_multiply_short K)) (D_multiply_long : De P w K mg base "multiply_long" ["prime", "one", "other"] 2 (sp_multiply_long K)) : FnOk P w K mg base CX0 4 f fd ["prime", "one", "other"] (sp_multiply K) :=
  have b1 := ok_multiply0 (pre := fun g => MulPre g ∧ g.xs.length ≤ g.ys.length) (inner := fun _ => False) (fun _ h => h.1) (fun p xs ys h h2 => by
    have := h.2
    dsimp only at this
    omega) (Nat.le_refl 2) F B C_SHORT ⟨f, fd, ok_void, g, kp, b⟩ D_multiply_short D_multiply_long
  ok_multiply0 (pre := MulPre) (inner := fun g => MulPre g ∧ g.xs.length ≤ g.ys.length) (fun _ h => h) (fun p xs ys h h2 => ⟨⟨h.p0, h.p1, h.ry, h.rx, h.ty, h.tx, h.ly, h.lx⟩, Nat.le_of_lt h2⟩) (by decide) F B C_SHORT ⟨f, fd, b1, g, kp, b⟩ D_multiply_short D_multiply_long
theorem red_one {p : Int} (hp : 2 ≤ p) : Red p [1] := fun n hn => by
  obtain rfl := List.mem_singleton.mp hn
  omega
theorem pw_red {p : Int} (hp : 2 ≤ p) (xs : List Int) : ∀ n, Red p (pw p xs n)
  | 0 => red_one hp
  | n + 1 => prod_red (by omega) _ _
theorem pw_trim (p : Int) (xs : List Int) : ∀ n, trim (pw p xs n) = pw p xs n
  | 0 => rfl
  | n + 1 => prod_trim _ _ _
theorem co_pw (p : Int) (xs : List Int) : ∀ n, MEq p (co (pw p xs n)) (co xs ^ n)
  | 0 => .of co_one
  | n + 1 => (co_prod _ _).trans ((co_pw p xs n).mul (.refl _))
theorem pow_plus (f : PS) (i : Nat) : ∀ j : Nat, f ^ (i + j) = f ^ i * f ^ j
  | 0 => by
    show f ^ i = f ^ i * 1
    grind
  | j + 1 => by
    show f ^ (i + j) * f = f ^ i * (f ^ j * f)
    rw [pow_plus f i j]
    grind
theorem MEq.pow {p : Int} {f g : PS} (h : MEq p f g) : ∀ n : Nat, MEq p (f ^ n) (g ^ n)
  | 0 => .refl _
  | n + 1 => (MEq.pow h n).mul h
def sp_power_of (K : PySem.W.Frag) : Sp := Con (G := GW) (fun g => 2 ≤ g.p ∧ g.p ≤ 7 ∧ Red g.p g.xs ∧ trim g.xs = g.xs ∧ g.n * (1 + g.xs.length) ≤ 60) (fun g => [vI g.p, vP K g.xs, vI (g.n : Int)]) (fun g => vP K (pw g.p g.xs g.n))
abbrev s_power_of : Stmt := topS 28
abbrev N_power_of : List Str := ["prime", "poly", "many", "power"]
theorem sc_power_of : FnScope N_power_of ["prime", "poly", "many"] (defScope s_power_of) := ⟨rfl, rfl, rfl, by decide +kernel, rfl, by decide +kernel, by decide +kernel⟩
theorem ok_power_of {f : Addr} {fd : FuncData} (F : Fun K "power_of" "power_of" s_power_of f fd) (B : Bis mg) (D_multiply : De P w K mg base "multiply" ["prime", "one", "other"] 4 (sp_multiply K)) : FnOk P w K mg base CX0 5 f fd ["prime", "poly", "many"] (sp_power_of K) := by
  refine F.ok sc_power_of (fun vs H Q E h => ?_) (fun cdv A outer s H vs Q E hr h => ?_)
  · obtain ⟨g, _, ha, _⟩ := h
    exact ha.len
  · obtain ⟨⟨prime, poly, many⟩, ⟨hp, hp2, rx, tx, ln⟩, ⟨_, _, rfl, rfl, ⟨v_poly, _, rfl, h_poly, ⟨_, _, rfl, rfl, rfl⟩⟩⟩, q⟩ := h
    dsimp only at *
    refine ⟨_, (pss_cons (ps_set (i := 3) sc_power_of.nd rfl (Or.inl rfl) (pe_tup (pa_cons pe_int pa_nil)))
      (pss_cons (ps_while PassesOwn.never (pt_truth (pv 2) (by intro _; rfl)) (pss_cons (ps_if (pt_truth (pe_op op_mod (pv 2) pe_int) (by intro _; rfl)) (pss_one (ps_set (i := 3) sc_power_of.nd rfl (Or.inl rfl) (pe_call D_multiply.ok (hr.mono (by decide)) (by rfl) D_multiply.g D_multiply.kp D_multiply.b .nil pass0 (pa_cons (pv 0) (pa_cons (pv 3) (pa_cons (pv 1) pa_nil)))))) pss_nil)
      (pss_cons (ps_set (i := 2) sc_power_of.nd rfl (Or.inl rfl) (pe_op op_fdiv (pv 2) pe_int))
      (pss_one (ps_if (pt_truth (pv 2) (by intro _; rfl)) (pss_one (ps_set (i := 1) sc_power_of.nd rfl (Or.inl rfl) (pe_call D_multiply.ok (hr.mono (by decide)) (by rfl) D_multiply.g D_multiply.kp D_multiply.b .nil pass0 (pa_cons (pv 0) (pa_cons (pv 1) (pa_cons (pv 1) pa_nil)))))) pss_nil)))))
      (pss_one (ps_ret (pv 3))))), ?_⟩
    refine qr_asg (evr_disp (K := K) (ns := [1]) (evrs_cons evr_c evrs_nil) (by decide)) fun vp H1 e1 hv1 => ?_
    refine Evl.q_while (fun m σ H' => ∃ a b va vb, ∃ i j : Nat, σ = [some (.int prime), some vb, some (.int (m : Int)), some va] ∧ Ex H H' ∧ (vP K a).R va H' ∧ (vP K b).R vb H' ∧ Red prime a ∧ trim a = a ∧ Red prime b ∧ trim b = b ∧
      a.length ≤ 1 + poly.length * i ∧ b.length ≤ poly.length * j ∧ i + j * m = many ∧ (j ≤ many ∨ m = 0) ∧ j ≤ 1 + many ∧ MEq prime (co a) (co poly ^ i) ∧ MEq prime (co b) (co poly ^ j)) many
      ⟨[1], poly, vp, v_poly, 0, 1, rfl, e1, hv1, (vP K poly).st e1 h_poly, red_one hp, rfl, rx, tx, by simp, by omega, by omega, by omega, by omega, .of co_one, .of (by show _ = PS.npow _ 1; unfold PS.npow; unfold PS.npow; grind)⟩ fun m σ H' hW => ?_
    obtain ⟨a, b, va, vb, i, j, rfl, e', ha, hb, ra, ta, rb, tb, la, lb, hij, hj, hj2, ma, mb⟩ := hW
    refine ⟨_, et_truI (evr_var rfl rfl), fun hc H5 e5 => ?_, fun hc H5 e5 => ?_⟩
    · have hm : m ≠ 0 := by
        intro z
        subst z
        cases hc
      have hj1 : j ≤ many := by omega
      have hjm : j * m = j * (m % 2) + (j + j) * (m / 2) := by
        have := Nat.div_add_mod m 2
        calc j * m = j * (2 * (m / 2) + m % 2) := by rw [this]
          _ = _ := by rw [Nat.mul_add, ← Nat.mul_assoc, Nat.mul_comm j 2, Nat.two_mul]; omega
      refine ⟨fun σ2 H2 => ∃ a2 b2 va2 vb2, ∃ i2 j2 : Nat, σ2 = [some (.int prime), some vb2, some (.int ((m / 2 : Nat) : Int)), some va2] ∧ Ex H H2 ∧ (vP K a2).R va2 H2 ∧ (vP K b2).R vb2 H2 ∧ Red prime a2 ∧ trim a2 = a2 ∧ Red prime b2 ∧ trim b2 = b2 ∧
        a2.length ≤ 1 + poly.length * i2 ∧ b2.length ≤ poly.length * j2 ∧ i2 + j2 * (m / 2) = many ∧ (j2 ≤ many ∨ m / 2 = 0) ∧ j2 ≤ 1 + many ∧ MEq prime (co a2) (co poly ^ i2) ∧ MEq prime (co b2) (co poly ^ j2), fun σ2 H2 hN => ?_, ?_⟩
      · obtain ⟨a2, b2, va2, vb2, i2, j2, hN⟩ := hN
        exact ⟨m / 2, by omega, a2, b2, va2, vb2, i2, j2, hN⟩
      · have hjm2 : j ≤ j * m := Nat.le_mul_of_pos_right j (Nat.pos_of_ne_zero hm)
        have hLn : poly.length * many ≤ 60 - many := by
          have : many * (1 + poly.length) = many + poly.length * many := by rw [Nat.mul_add, Nat.mul_one, Nat.mul_comm many]
          omega
        have hLi : poly.length * i ≤ poly.length * many := Nat.mul_le_mul_left _ (by omega)
        have hLj : poly.length * j ≤ poly.length * many := Nat.mul_le_mul_left _ hj1
        have hLij : poly.length * (i + j) = poly.length * i + poly.length * j := Nat.mul_add _ _ _
        have hLjj : poly.length * (j + j) = poly.length * j + poly.length * j := Nat.mul_add _ _ _
        refine qr_ifAsg (v0 := va) (r := vP K (if m % 2 = 0 then a else prod prime a b)) (et_truI (evr_op (evr_var rfl rfl) evr_c (op_i (by decide)))) rfl (fun hb2 => ?_) (fun hb2 => ?_) fun va2 H6 e6 hva2 => ?_
        · have h2 : ¬ m % 2 = 0 := by
            intro z
            have : (m : Int) % 2 = 0 := by omega
            rw [this] at hb2
            cases hb2
          rw [if_neg h2]
          exact evr_call (GQ.mk prime a b) ⟨hp, hp2, ra, rb, ta, tb, by dsimp only; omega, by dsimp only; omega⟩ (evrs_cons (evr_var rfl rfl) (evrs_cons (evr_var rfl ((vP K a).st e5 ha)) (evrs_cons (evr_var rfl ((vP K b).st e5 hb)) evrs_nil)))
        · have h2 : m % 2 = 0 := by
            have : (m : Int) % 2 = 0 := by simpa using hb2
            omega
          rw [if_pos h2]
          exact (vP K a).st e5 ha
        · refine qr_asg (r := vI ((m / 2 : Nat) : Int)) ((evr_op (evr_var rfl rfl) evr_c (op_i ⟨by omega, by omega⟩)).eqI (by omega)) fun v H7 e7 hv => ?_
          obtain rfl := hv
          have e67 := (e5.trans e6).trans e7
          refine sr_ifAsg (v0 := vb) (r := vP K (if m / 2 = 0 then b else prod prime b b)) (et_truI (evr_var rfl rfl)) rfl (fun hb2 => ?_) (fun hb2 => ?_) fun vb2 H8 e8 hvb2 => ?_
          · have h2 : ¬ m / 2 = 0 := by
              intro z
              rw [z] at hb2
              cases hb2
            rw [if_neg h2]
            have hb7 := (vP K b).st e67 hb
            exact evr_call (GQ.mk prime b b) ⟨hp, hp2, rb, rb, tb, tb, by dsimp only; omega, by dsimp only; omega⟩ (evrs_cons (evr_var rfl rfl) (evrs_cons (evr_var rfl hb7) (evrs_cons (evr_var rfl hb7) evrs_nil)))
          · have h2 : m / 2 = 0 := by
              have : ((m / 2 : Nat) : Int) = 0 := by simpa using hb2
              omega
            rw [if_pos h2]
            exact (vP K b).st e67 hb
          · have hp0 : 0 < prime := by omega
            have la2 := prod_len prime a b
            have lb2 := prod_len prime b b
            refine ⟨_, _, va2, vb2, if m % 2 = 0 then i else i + j, if m / 2 = 0 then j else j + j, rfl, (e'.trans e67).trans e8, (vP K _).st (e7.trans e8) hva2, hvb2, ?_, ?_, ?_, ?_, ?_, ?_, ?_, ?_, ?_, ?_, ?_⟩
            · split
              · exact ra
              · exact prod_red hp0 _ _
            · split
              · exact ta
              · exact prod_trim _ _ _
            · split
              · exact rb
              · exact prod_red hp0 _ _
            · split
              · exact tb
              · exact prod_trim _ _ _
            · split <;> omega
            · split <;> omega
            · have h01 : m % 2 = 0 ∨ m % 2 = 1 := by omega
              split
              next h0 =>
                rw [h0, Nat.mul_zero] at hjm
                split
                next h3 => rw [h3] at hjm ⊢; omega
                next h3 => omega
              next h0 =>
                rw [show m % 2 = 1 by omega, Nat.mul_one] at hjm
                split
                next h3 => rw [h3] at hjm ⊢; omega
                next h3 => omega
            · split
              next h3 => exact .inr h3
              next h3 =>
                have := Nat.le_mul_of_pos_right (j + j) (Nat.pos_of_ne_zero h3)
                omega
            · split
              next h3 => omega
              next h3 =>
                have := Nat.le_mul_of_pos_right (j + j) (Nat.pos_of_ne_zero h3)
                omega
            · split
              · exact ma
              · exact (co_prod a b).trans ((ma.mul mb).trans (.of (pow_plus _ _ _).symm))
            · split
              · exact mb
              · exact (co_prod b b).trans ((mb.mul mb).trans (.of (pow_plus _ _ _).symm))
    · have hm : m = 0 := by
        have : (m : Int) = 0 := by simpa using hc
        omega
      subst hm
      rw [Nat.mul_zero, Nat.add_zero] at hij
      subst hij
      refine sr_ret (evr_var rfl ((vP K a).st e5 ha)) fun v H6 e6 hv => q v H6 ((e'.trans e5).trans e6) ?_
      show (vP K (pw prime poly i)).R v H6
      rw [canon (by omega) (pw_red hp poly i) ra (pw_trim prime poly i) ta ((co_pw prime poly i).trans ma.symm)]
      exact hv
end
end K0
namespace K0
open M
/-! ### a division's worth -/
def Xp (m : Nat) : PS := ⟨fun k => if k = m then 1 else 0⟩
def sh (m : Nat) (g : PS) : PS := ⟨fun k => if k < m then 0 else g.c (k - m)⟩
theorem Xp0 : Xp 0 = 1 := by
  ext k
  cases k <;> rfl
theorem Xp_c (m k : Nat) (g : PS) : (Xp m * g).c k = (sh m g).c k := by
  induction m generalizing k with
  | zero =>
    rw [Xp0, show (1 : PS) * g = g by grind]
    simp [sh]
  | succ m ih =>
    cases k with
    | zero =>
      show (if 0 = m + 1 then (1 : Int) else 0) * g.c 0 = if 0 < m + 1 then 0 else g.c (0 - (m + 1))
      simp
    | succ k =>
      show (if 0 = m + 1 then (1 : Int) else 0) * g.c (k + 1) + mulc k (fun i => if i + 1 = m + 1 then 1 else 0) g.c = _
      have e : (fun i => if i + 1 = m + 1 then (1 : Int) else 0) = (Xp m).c := by
        funext i
        show _ = if i = m then (1 : Int) else 0
        simp
      rw [e]
      have := ih k
      rw [PS.mul_c] at this
      rw [this]
      show (if 0 = m + 1 then (1 : Int) else 0) * g.c (k + 1) + (if k < m then 0 else g.c (k - m)) = if k + 1 < m + 1 then 0 else g.c (k + 1 - (m + 1))
      simp
theorem Xp_mul (m : Nat) (g : PS) : Xp m * g = sh m g := PS.ext (funext fun k => Xp_c m k g)
theorem Xp_succ (m : Nat) : Xp (m + 1) = Xp m * Xp 1 := by
  rw [Xp_mul]
  ext k
  show (if k = m + 1 then (1 : Int) else 0) = if k < m then 0 else if k - m = 1 then 1 else 0
  split <;> split <;> (try split) <;> omega
theorem co_cons (x : Int) (l : List Int) : co (x :: l) = ⟨cst x⟩ + Xp 1 * co l := by
  rw [Xp_mul]
  ext k
  cases k with
  | zero =>
    show x = x + 0
    omega
  | succ k =>
    show (co l).c k = 0 + if k + 1 < 1 then 0 else (co l).c (k + 1 - 1)
    simp
theorem cst_c (n : Int) (g : PS) (k : Nat) : ((⟨cst n⟩ : PS) * g).c k = n * g.c k := PS.mulc_cst _ _ _
theorem co_dropLast {r : List Int} (h : (co r).c (r.length - 1) = 0) : co r.dropLast = co r := by
  ext k
  by_cases hk : k < r.length - 1
  · rw [co_near (by rw [List.length_dropLast]; exact hk), co_near (by omega), List.getElem_dropLast]
  · rw [co_far (by rw [List.length_dropLast]; omega)]
    by_cases h2 : k = r.length - 1
    · rw [h2, h]
    · rw [co_far (by omega)]
theorem lastD_co {r : List Int} (h : r ≠ []) : r.getLastD 0 = (co r).c (r.length - 1) := by
  have := List.length_pos_iff.mpr h
  rw [co_near (by omega), List.getLastD_eq_getLast?, List.getLast?_eq_some_getLast h, List.getLast_eq_getElem]
  rfl
theorem divStep_red {p : Int} (hp : 0 < p) (u : Int) (ys : List Int) (s : List Int × List Int) (h : Red p s.1 ∧ Red p s.2) : Red p (divStep p u ys s).1 ∧ Red p (divStep p u ys s).2 := by
  unfold divStep
  refine ⟨fun n hn => ?_, fun n hn => ?_⟩
  · simp only at hn
    replace hn := List.dropLast_subset _ hn
    split at hn
    · exact h.1 n hn
    · rcases List.mem_append.mp hn with hn | hn
      · exact h.1 n (List.mem_of_mem_take hn)
      · obtain ⟨i, hi, rfl⟩ := List.getElem_of_mem hn
        rw [List.getElem_zipWith]
        exact ⟨Int.emod_nonneg _ (by omega), Int.emod_lt_of_pos _ hp⟩
  · rcases List.mem_append.mp hn with hn | hn
    · exact h.2 n hn
    · obtain rfl := List.mem_singleton.mp hn
      exact ⟨Int.emod_nonneg _ (by omega), Int.emod_lt_of_pos _ hp⟩
theorem divIter_red {p : Int} (hp : 0 < p) (u : Int) (ys : List Int) : ∀ (n : Nat) (s : List Int × List Int), (Red p s.1 ∧ Red p s.2) → Red p (divIter p u ys n s).1 ∧ Red p (divIter p u ys n s).2
  | 0, s, h => h
  | n + 1, s, h => divIter_red hp u ys n _ (divStep_red hp u ys s h)
theorem divide_red {p : Int} (hp : 0 < p) {xs : List Int} (ys : List Int) (h : Red p xs) : Red p (divide p xs ys).1 ∧ Red p (divide p xs ys).2 := by
  have z := divIter_red hp (inv p (ys.getLastD 0)) ys (xs.length + 1 - ys.length) (xs, []) ⟨h, fun n hn => by simp at hn⟩
  exact ⟨Red.trim fun n hn => z.2 n (List.mem_reverse.mp hn), z.1.trim⟩
theorem divide_trim (p : Int) (xs ys : List Int) : trim (divide p xs ys).1 = (divide p xs ys).1 ∧ trim (divide p xs ys).2 = (divide p xs ys).2 := ⟨trim_trim _, trim_trim _⟩
theorem step_c {r ys : List Int} {f p : Int} {m : Nat} (hm : r.length = m + ys.length) (k : Nat) :
    (co (r.take m ++ List.zipWith (fun n y => (n - f * y) % p) (r.drop m) ys)).c k = if k < m then (co r).c k else if k < r.length then ((co r).c k - f * (co ys).c (k - m)) % p else 0 := by
  have hl : (r.take m ++ List.zipWith (fun n y => (n - f * y) % p) (r.drop m) ys).length = r.length := by
    rw [List.length_append, List.length_take, List.length_zipWith, List.length_drop]
    omega
  by_cases h1 : k < r.length
  · rw [co_near (by omega), co_near h1]
    by_cases h2 : k < m
    · rw [if_pos h2, List.getElem_append_left (by rw [List.length_take]; omega), List.getElem_take]
    · have hlt : (List.take m r).length = m := by
        rw [List.length_take]
        omega
      rw [if_neg h2, if_pos h1, List.getElem_append_right (by omega), List.getElem_zipWith, co_near (by omega)]
      simp only [hlt, List.getElem_drop, Nat.add_sub_cancel' (by omega : m ≤ k)]
  · rw [if_neg h1, co_far (by omega), if_neg (by omega)]
theorem divStep_co {p u : Int} (hp : 0 < p) {ys r qs : List Int} (hne : ys ≠ []) (hu : u * ys.getLastD 0 % p = 1) (hr : Red p r) {m : Nat} (hm : r.length = m + ys.length) :
    MEq p (co r) (⟨cst (r.getLastD 0 * u % p)⟩ * (Xp m * co ys) + co (divStep p u ys (r, qs)).1) := by
  have hy := List.length_pos_iff.mpr hne
  have hrn : r ≠ [] := by
    intro z
    rw [z, List.length_nil] at hm
    omega
  have em : r.length - ys.length = m := by omega
  rw [lastD_co hne] at hu
  rw [lastD_co hrn]
  have elast : ∀ x : Int, (x - x * u % p * (co ys).c (ys.length - 1)) % p = 0 := fun x => by
    rw [Int.sub_emod, Int.mul_emod, Int.emod_emod, ← Int.mul_emod, Int.mul_assoc, Int.mul_emod, hu]
    simp
  unfold divStep
  simp only [em, lastD_co hrn]
  split
  next h0 =>
    have hz := elast ((co r).c (r.length - 1))
    rw [h0, Int.zero_mul, Int.sub_zero] at hz
    have hb := hr.co hp (r.length - 1)
    rw [Int.emod_eq_of_lt hb.1 hb.2] at hz
    rw [co_dropLast hz, h0]
    refine .of ?_
    have : (⟨cst 0⟩ : PS) = 0 := rfl
    rw [this]
    grind
  next h0 =>
    have hc := step_c (r := r) (ys := ys) (f := (co r).c (r.length - 1) * u % p) (p := p) (m := m) hm
    have hlen : (r.take m ++ List.zipWith (fun n y => (n - (co r).c (r.length - 1) * u % p * y) % p) (r.drop m) ys).length = r.length := by
      rw [List.length_append, List.length_take, List.length_zipWith, List.length_drop]
      omega
    have hz := hc (r.length - 1)
    rw [if_neg (by omega), if_pos (by omega), show r.length - 1 - m = ys.length - 1 by omega, elast] at hz
    rw [co_dropLast (by rw [hlen]; exact hz)]
    refine .ofc fun k => ?_
    rw [PS.add_c, cst_c, Xp_mul, hc]
    show _ = (_ * (if k < m then 0 else (co ys).c (k - m)) + _) % p
    by_cases h1 : k < m
    · rw [if_pos h1, if_pos h1, Int.mul_zero, Int.zero_add]
    · rw [if_neg h1, if_neg h1]
      by_cases h2 : k < r.length
      · rw [if_pos h2, Int.add_emod_emod]
        congr 1
        omega
      · rw [if_neg h2, co_far (xs := r) (k := k) (by omega), co_far (xs := ys) (k := k - m) (by omega)]
        simp
theorem divIter_co {p u : Int} (hp : 0 < p) {ys : List Int} (hne : ys ≠ []) (hu : u * ys.getLastD 0 % p = 1) : ∀ (n : Nat) (r qs : List Int), Red p r → (n = 0 ∨ r.length + 1 = n + ys.length) →
    MEq p (Xp n * co qs.reverse * co ys + co r) (co (divIter p u ys n (r, qs)).2.reverse * co ys + co (divIter p u ys n (r, qs)).1)
  | 0, r, qs, _, _ => .of (by rw [Xp0, divIter]; grind)
  | n + 1, r, qs, hr, hn => by
    have hn' : r.length = n + ys.length := by omega
    have h1 := divStep_co (qs := qs) hp hne hu hr hn'
    have hl := (divStep_len p u ys (r, qs)).1
    have hd := (divStep_red hp u ys (r, []) ⟨hr, fun n hn => by simp at hn⟩).1
    have e2 : (divStep p u ys (r, qs)).2 = qs ++ [r.getLastD 0 * u % p] := rfl
    have ih := divIter_co hp hne hu n (divStep p u ys (r, qs)).1 (divStep p u ys (r, qs)).2 hd (by
      have := List.length_pos_iff.mpr hne
      dsimp only at hl
      omega)
    rw [divIter]
    refine .trans ?_ ih
    rw [e2, List.reverse_append, List.reverse_singleton, List.singleton_append, co_cons, Xp_succ]
    obtain ⟨a, ha⟩ := h1
    exact ⟨a, by grind⟩
/-- the last number can be undone -/
def Inv (p : Int) (ys : List Int) : Prop := ys ≠ [] ∧ inv p (ys.getLastD 0) * ys.getLastD 0 % p = 1
theorem co_divide {p : Int} (hp : 0 < p) {xs ys : List Int} (hx : Red p xs) (hy : Inv p ys) : MEq p (co xs) (co (divide p xs ys).1 * co ys + co (divide p xs ys).2) := by
  have z := divIter_co hp hy.1 hy.2 (xs.length + 1 - ys.length) xs [] hx (by
    have := List.length_pos_iff.mpr hy.1
    omega)
  show MEq p _ (co (trim _) * _ + co (trim _))
  rw [co_trim, co_trim]
  refine .trans (.of ?_) z
  rw [List.reverse_nil, co_nil]
  grind
theorem inv_ok : ∀ p ∈ ([2, 3, 5, 7] : List Int), ∀ k : Fin 7, 0 < (k.val : Int) → (k.val : Int) < p → inv p k.val * k.val % p = 1 := by decide
def Pr (p : Int) : Prop := p = 2 ∨ p = 3 ∨ p = 5 ∨ p = 7
theorem Pr.mem {p : Int} (h : Pr p) : p ∈ ([2, 3, 5, 7] : List Int) := by
  rcases h with rfl | rfl | rfl | rfl <;> simp
theorem inv_pr {p n : Int} (h : Pr p) (h0 : 0 < n) (h1 : n < p) : inv p n * n % p = 1 := by
  have hp : p ≤ 7 := by
    rcases h with rfl | rfl | rfl | rfl <;> decide
  have z := inv_ok p h.mem ⟨n.toNat, by omega⟩
  have e : ((n.toNat : Nat) : Int) = n := by omega
  simp only [e] at z
  exact z h0 h1
theorem trim_last {xs : List Int} (h : trim xs = xs) (hne : xs ≠ []) : xs.getLastD 0 ≠ 0 := by
  intro hz
  rw [lastD_co hne] at hz
  have e := co_dropLast hz
  have t := trim_ext e
  have l1 := trim_len xs.dropLast
  rw [t, h, List.length_dropLast] at l1
  have := List.length_pos_iff.mpr hne
  omega
theorem Inv.mk' {p : Int} (hp : Pr p) {ys : List Int} (hr : Red p ys) (ht : trim ys = ys) (hne : ys ≠ []) : Inv p ys := by
  refine ⟨hne, ?_⟩
  have h0 := trim_last ht hne
  have hm : ys.getLastD 0 ∈ ys := by
    rw [List.getLastD_eq_getLast?, List.getLast?_eq_some_getLast hne]
    exact List.getLast_mem hne
  have := hr _ hm
  exact inv_pr hp (by omega) this.2
end K0
namespace K0
open M
/-! ### only one quotient, only one rest -/
theorem mulc_zero_mod {p : Int} : ∀ (k : Nat) (f g : Nat → Int), (∀ i, f i % p = 0) → mulc k f g % p = 0
  | 0, f, g, h => by
    show f 0 * g 0 % p = 0
    rw [Int.mul_emod, h, Int.zero_mul, Int.zero_emod]
  | k + 1, f, g, h => by
    have ih := mulc_zero_mod k (fun i => f (i + 1)) g fun i => h _
    show (f 0 * g (k + 1) + mulc k (fun i => f (i + 1)) g) % p = 0
    rw [Int.add_emod, ih, Int.mul_emod, h, Int.zero_mul, Int.zero_emod]
    rfl
theorem mulc_top {p : Int} {m : Nat} {g : Nat → Int} (hg : ∀ j, m < j → g j = 0) : ∀ (k : Nat) (f : Nat → Int), (∀ i, k < i → f i % p = 0) → mulc (k + m) f g % p = f k * g m % p
  | 0, f, hf => by
    rw [Nat.zero_add]
    cases m with
    | zero => rfl
    | succ m =>
      show (f 0 * g (m + 1) + mulc m (fun i => f (i + 1)) g) % p = _
      rw [Int.add_emod, mulc_zero_mod m _ g fun i => hf _ (by omega), Int.add_zero, Int.emod_emod]
  | k + 1, f, hf => by
    have ih := mulc_top hg k (fun i => f (i + 1)) fun i hi => hf _ (by omega)
    rw [show k + 1 + m = (k + m) + 1 by omega]
    show (f 0 * g (k + m + 1) + mulc (k + m) (fun i => f (i + 1)) g) % p = _
    rw [hg _ (by omega), Int.mul_zero, Int.zero_add, ih]
theorem top_zero {p : Int} {ys : List Int} (hy : Inv p ys) {f : PS} {N : Nat} (hN : ∀ k, N ≤ k → f.c k = 0) (h : ∀ k, ys.length - 1 ≤ k → (f * co ys).c k % p = 0) : ∀ j k, N - j ≤ k → f.c k % p = 0
  | 0, k, hk => by
    rw [hN k (by omega)]
    rfl
  | j + 1, k, hk => by
    have ih := top_zero hy hN h j
    by_cases h2 : N - j ≤ k
    · exact ih k h2
    · have z := h (k + (ys.length - 1)) (by omega)
      rw [PS.mul_c, mulc_top (m := ys.length - 1) (fun j hj => co_far (by
        have := List.length_pos_iff.mpr hy.1
        omega)) k f.c (fun i hi => ih i (by omega)), ← lastD_co hy.1] at z
      have e : f.c k * (inv p (ys.getLastD 0) * ys.getLastD 0) % p = 0 := by
        rw [Int.mul_comm (inv p _), ← Int.mul_assoc, Int.mul_emod, z, Int.zero_mul, Int.zero_emod]
      rw [Int.mul_emod, hy.2] at e
      by_cases hp1 : p = 1
      · rw [hp1]
        exact Int.emod_one _
      · rw [Int.mul_one, Int.emod_emod] at e
        exact e
theorem div_uniq {p : Int} {ys q r q2 r2 : List Int} (hy : Inv p ys) (hr : r.length < ys.length) (hr2 : r2.length < ys.length) (h : MEq p (co q * co ys + co r) (co q2 * co ys + co r2)) : MEq p (co q) (co q2) ∧ MEq p (co r) (co r2) := by
  have z : MEq p (co q) (co q2) := by
    refine .ofc fun k => ?_
    have hf := top_zero (p := p) hy (f := co q - co q2) (N := q.length + q2.length) (fun k hk => by
      rw [PS.sub_c, co_far (by omega), co_far (by omega)]
      rfl) (fun k hk => by
      obtain ⟨a, ha⟩ := h
      have hl := List.length_pos_iff.mpr hy.1
      have e : (co q - co q2) * co ys = (co r2 - co r) + ⟨cst p⟩ * a := by grind
      rw [e, PS.add_c, PS.sub_c, cst_c, co_far (by omega), co_far (by omega)]
      simp) (q.length + q2.length) k (by omega)
    rw [PS.sub_c] at hf
    exact Int.emod_eq_emod_iff_emod_sub_eq_zero.mpr hf
  refine ⟨z, ?_⟩
  obtain ⟨a, ha⟩ := z
  obtain ⟨b, hb⟩ := h
  exact ⟨b - a * co ys, by grind⟩
theorem divide_is {p : Int} (hp : 0 < p) {xs ys q r : List Int} (hx : Red p xs) (hy : Inv p ys) (rq : Red p q) (rr : Red p r) (tq : trim q = q) (tr : trim r = r) (hr : r.length < ys.length) (h : MEq p (co xs) (co q * co ys + co r)) : divide p xs ys = (q, r) := by
  have z := div_uniq hy (divide_len2 p xs hy.1) hr ((co_divide hp hx hy).symm.trans h)
  have d := divide_red hp ys hx
  have t := divide_trim p xs ys
  exact Prod.ext (canon hp d.1 rq t.1 tq z.1) (canon hp d.2 rr t.2 tr z.2)
theorem divide_ne {p : Int} (hp : 0 < p) {xs ys : List Int} (hx : Red p xs) (tx : trim xs = xs) (hy : Inv p ys) (hl : ys.length ≤ xs.length) : (divide p xs ys).1 ≠ [] := by
  intro z
  have h := co_divide hp hx hy
  rw [z, co_nil, show (0 : PS) * co ys + co (divide p xs ys).2 = co (divide p xs ys).2 by grind] at h
  have e := canon hp hx (divide_red hp ys hx).2 tx (divide_trim p xs ys).2 h
  have := divide_len2 p xs hy.1
  rw [← e] at this
  omega
theorem divide_len3 {p : Int} (hp : 0 < p) {xs ys : List Int} (hx : Red p xs) (hy : Inv p ys) : (divide p xs ys).2.length ≤ xs.length := by
  have z := (divIter_len p (inv p (ys.getLastD 0)) ys (xs.length + 1 - ys.length) (xs, [])).1
  have t := trim_len (divIter p (inv p (ys.getLastD 0)) ys (xs.length + 1 - ys.length) (xs, [])).1
  show (trim _).length ≤ _
  simp only at z
  omega
theorem prod_len1 {p : Int} (hp : 0 < p) (xs ys : List Int) : (prod p xs ys).length ≤ xs.length + ys.length - 1 := by
  have nil : ∀ ys : List Int, prod p [] ys = [] := fun ys => prod_is hp (fun n hn => by simp at hn) rfl (.of (by rw [co_nil]; grind))
  have cl : ∀ xs ys : List Int, ys ≠ [] → (conv xs ys).length ≤ xs.length + ys.length - 1 := by
    intro xs ys hy
    have hy' := List.length_pos_iff.mpr hy
    induction xs with
    | nil => simp [conv]
    | cons x xs ih =>
      rw [conv, addL_len, List.length_map, List.length_cons, List.length_cons]
      omega
  by_cases hy : ys = []
  · subst hy
    rw [prod_comm hp, nil]
    simp
  · have h1 := cl xs ys hy
    have h2 := trim_len ((conv xs ys).map (· % p))
    rw [List.length_map] at h2
    unfold prod
    omega
/-! ### sums and scaled rows -/
theorem pad_len {ns : List Int} {k : Nat} (h : ns.length ≤ k) : (pad ns ((k : Int) - ns.length)).length = k := by
  unfold pad
  rw [List.length_append, List.length_replicate]
  omega
theorem addScaled_len (p : Int) (xs ys : List Int) (f : Int) : (addScaled p xs ys f).length ≤ max xs.length ys.length := by
  have h := trim_len (List.zipWith (fun a b => (a + f * b) % p) (pad xs (max (xs.length : Int) ys.length - xs.length)) (pad ys (max (xs.length : Int) ys.length - ys.length)))
  have e : max (xs.length : Int) ys.length = ((max xs.length ys.length : Nat) : Int) := by omega
  rw [e, List.length_zipWith, pad_len (by omega), pad_len (by omega)] at h
  unfold addScaled
  rw [e]
  omega
theorem addScaled_red {p : Int} (hp : 0 < p) (xs ys : List Int) (f : Int) : Red p (addScaled p xs ys f) := Red.trim fun n hn => by
  obtain ⟨i, hi, rfl⟩ := List.getElem_of_mem hn
  rw [List.getElem_zipWith]
  exact ⟨Int.emod_nonneg _ (by omega), Int.emod_lt_of_pos _ hp⟩
theorem addScaled_trim (p : Int) (xs ys : List Int) (f : Int) : trim (addScaled p xs ys f) = addScaled p xs ys f := trim_trim _
theorem co_pad (ns : List Int) (k : Int) : co (pad ns k) = co ns := by
  ext i
  unfold pad
  by_cases h1 : i < ns.length
  · rw [co_near (by rw [List.length_append]; omega), co_near h1, List.getElem_append_left h1]
  · rw [co_far (xs := ns) (by omega)]
    by_cases h2 : i < (ns ++ List.replicate k.toNat 0).length
    · rw [co_near h2, List.getElem_append_right (by omega), List.getElem_replicate]
    · rw [co_far (by omega)]
theorem co_addScaled {p : Int} (xs ys : List Int) (f : Int) : MEq p (co (addScaled p xs ys f)) (co xs + ⟨cst f⟩ * co ys) := by
  unfold addScaled
  rw [co_trim]
  have e : max (xs.length : Int) ys.length = ((max xs.length ys.length : Nat) : Int) := by omega
  rw [e]
  generalize hA : pad xs _ = A
  generalize hB : pad ys _ = B
  have lA : A.length = max xs.length ys.length := by rw [← hA, pad_len (by omega)]
  have lB : B.length = max xs.length ys.length := by rw [← hB, pad_len (by omega)]
  rw [← co_pad xs ((max xs.length ys.length : Nat) - xs.length), ← co_pad ys ((max xs.length ys.length : Nat) - ys.length), hA, hB]
  refine .ofc fun k => ?_
  rw [PS.add_c, cst_c]
  by_cases hk : k < max xs.length ys.length
  · rw [co_near (by rw [List.length_zipWith]; omega), co_near (by omega), co_near (by omega), List.getElem_zipWith, Int.emod_emod]
  · rw [co_far (by rw [List.length_zipWith]; omega), co_far (by omega), co_far (by omega)]
    simp
theorem scale_red {p : Int} (hp : 0 < p) {ns : List Int} (h : Red p ns) (f : Int) : Red p (scale p ns f) := by
  unfold scale
  split
  · exact h
  · exact Red.trim fun n hn => by
      obtain ⟨i, hi, rfl⟩ := List.getElem_of_mem hn
      rw [List.getElem_map]
      exact ⟨Int.emod_nonneg _ (by omega), Int.emod_lt_of_pos _ hp⟩
theorem scale_trim (p : Int) {ns : List Int} (h : trim ns = ns) (f : Int) : trim (scale p ns f) = scale p ns f := by
  unfold scale
  split
  · exact h
  · exact trim_trim _
theorem scale_len (p : Int) (ns : List Int) (f : Int) : (scale p ns f).length ≤ ns.length := by
  unfold scale
  split
  · exact Nat.le_refl _
  · have := trim_len (ns.map fun n => f * n % p)
    rw [List.length_map] at this
    exact this
theorem co_scaled {p : Int} (ns : List Int) (f : Int) : MEq p (co (scale p ns f)) (⟨cst f⟩ * co ns) := by
  unfold scale
  split
  next h =>
    subst h
    refine .of ?_
    have : (⟨cst 1⟩ : PS) = 1 := rfl
    rw [this]
    grind
  next =>
    rw [co_trim]
    refine .ofc fun k => ?_
    rw [cst_c]
    by_cases hk : k < ns.length
    · rw [co_near (by rw [List.length_map]; exact hk), co_near hk, List.getElem_map, Int.emod_emod]
    · rw [co_far (by rw [List.length_map]; omega), co_far (by omega), Int.mul_zero]
end K0
namespace Kt
open PySem PySem.Spec PyProof.Rows L2
open Evl (Ex Ev EvL EvU EvT EvA EvO ex_l ex_t sq_of st_of sz_of sz_lt fresh_back)
section
variable {K : PySem.W.Frag} {σ : L2.St} {H : Hp} {te tf : TE} {ta : TA} {D : Ends} {tz : TS} {r r1 r2 r3 : VR} {i j k : Nat} {t : TT} {b : Bool} {v0 : V}
theorem evr_if (h : EvT t σ H b) (h1 : b = true → EvR te σ H r) (h2 : b = false → EvR tf σ H r) : EvR (tIf t te tf) σ H r := fun H1 e Q q => h H1 e _ fun H2 e2 => by
  cases b with
  | true => exact iteT (h1 rfl H2 (e.trans e2) Q fun v H3 e3 hv => q v H3 (e2.trans e3) hv)
  | false => exact iteF (h2 rfl H2 (e.trans e2) Q fun v H3 e3 hv => q v H3 (e2.trans e3) hv)
theorem qr_un2 (h : EvR te σ H (vT K [r1, r2])) (k : ∀ u v H1, Ex H H1 → r1.R u H1 → r2.R v H1 → tz D ((σ.set i (some u)).set j (some v)) H1) : tSeq (tAsg te (gTup K 2 (gCons (gName i) (gCons (gName j) gNil)))) tz D σ H :=
  h H (Ex.refl H) _ fun w H1 e ⟨a, xs, ha, hs, ⟨u, _, h1, hu, ⟨v, _, h2, hv, h3⟩⟩⟩ => by
    have h3' : _ = [] := h3
    subst h3' h2 h1
    exact ⟨a, _, ha, hs, rfl, u, _, rfl, v, _, rfl, rfl, k u v H1 e hu hv⟩
end
end Kt
namespace K0
open PySem PySem.Spec PyProof.Rows L2 Kt M
open Evl (Ex Ev EvL EvU EvT EvA EvO ex_l ex_t sq_of st_of sz_of sz_lt fresh_back)
/-! ### common_triple -/
theorem Pr.le {p : Int} (h : Pr p) : 2 ≤ p ∧ p ≤ 10 := by
  rcases h with rfl | rfl | rfl | rfl <;> decide
theorem Pr.le7 {p : Int} (h : Pr p) : p ≤ 7 := by
  rcases h with rfl | rfl | rfl | rfl <;> decide
theorem inv_one {p : Int} (h : Pr p) : inv p 1 = 1 := by
  rcases h with rfl | rfl | rfl | rfl <;> decide
theorem Inv.one {p : Int} (h : Pr p) : Inv p [1] := Inv.mk' h (red_one h.le.1) rfl (by simp)
theorem quotientOf_eq {p : Int} (h : Pr p) {xs ys : List Int} (hx : Red p xs) (tx : trim xs = xs) : quotientOf p xs ys = (divide p xs ys).1 := by
  unfold quotientOf
  split
  next e =>
    subst e
    have hp := h.le
    rw [divide_is (by omega) hx (Inv.one h) hx (fun n hn => by simp at hn) tx rfl (by simp) (.of (by rw [co_one, co_nil]; grind)) (r := [])]
  next => rfl
theorem makeMonic_eq {p : Int} (h : Pr p) (xs : List Int) : makeMonic p xs = scale p xs (inv p (xs.getLastD 0)) := by
  unfold makeMonic
  split
  next e =>
    rcases e with e | e
    · have z : xs = [] := by
        cases xs with
        | nil => rfl
        | cons x r => cases e
      subst z
      unfold scale
      split <;> rfl
    · rw [e, inv_one h]
      rfl
  next => rfl
theorem trim_self {l : List Int} (h : l.getLastD 0 ≠ 0) : trim l = l := by
  by_cases hl : l = []
  · subst hl
    rfl
  · have z := trim_take (l := l) (s := l.length) (Nat.le_refl _) (by simp) (.inr ?_)
    · rw [z, List.take_length]
    · rw [← List.getLast?_eq_getElem?]
      intro e
      rw [List.getLastD_eq_getLast?, e] at h
      exact h rfl
theorem monic_len {p : Int} {xs : List Int} (h : Inv p xs) : (scale p xs (inv p (xs.getLastD 0))).length = xs.length ∧ (scale p xs (inv p (xs.getLastD 0))).getLastD 0 % p = 1 := by
  unfold scale
  split
  next e =>
    have z := h.2
    rw [e, Int.one_mul] at z
    exact ⟨rfl, z⟩
  next e =>
    have el : (xs.map fun n => inv p (xs.getLastD 0) * n % p).getLastD 0 = 1 := by
      have z := h.2
      generalize inv p (xs.getLastD 0) = u at z ⊢
      rw [List.getLastD_eq_getLast?, List.getLast?_eq_some_getLast h.1] at z
      rw [List.getLastD_eq_getLast?, List.getLast?_map, List.getLast?_eq_some_getLast h.1]
      exact z
    rw [trim_self (by rw [el]; decide), List.length_map, el]
    refine ⟨rfl, ?_⟩
    by_cases hp : p = 1
    · have z := h.2
      rw [hp, Int.emod_one] at z
      cases z
    · by_cases h0 : p = 0
      · rw [h0]; rfl
      · have z : 1 % p = inv p (xs.getLastD 0) * xs.getLastD 0 % p % p := by rw [h.2]
        rw [z, Int.emod_emod, h.2]
def trIter (p : Int) : Nat → List Int → List Int → List Int → List Int → List Int × List Int
  | 0, old, _, left, _ => (old, left)
  | n + 1, old, new, left, right => if new = [] then (old, left) else trIter p n new (divide p old new).2 right (addScaled p left (prod p (divide p old new).1 right) (-1))
theorem trIter_more (p : Int) : ∀ (n m : Nat) (old new left right : List Int), new.length < n → new.length < m → trIter p n old new left right = trIter p m old new left right
  | 0, _, _, _, _, _, h, _ => by omega
  | _ + 1, 0, _, _, _, _, _, h => by omega
  | n + 1, m + 1, old, new, left, right, h1, h2 => by
    rw [trIter, trIter]
    by_cases hy : new = []
    · rw [if_pos hy, if_pos hy]
    · rw [if_neg hy, if_neg hy]
      have := divide_len2 p old hy
      rw [trIter_more p n m _ _ _ _ (by omega) (by omega)]
structure T3 where
  c : List Int
  a : List Int
  b : List Int
def triple (p : Int) (xs ys : List Int) : T3 :=
  if ys = [] then ⟨makeMonic p xs, if xs = [] then [] else [inv p (xs.getLastD 0)], []⟩
  else
    let s := trIter p (ys.length + 1) xs ys [1] []
    let u := inv p (s.1.getLastD 0)
    let c := scale p s.1 u
    let a := (divide p (scale p s.2 u) (quotientOf p ys c)).2
    ⟨c, a, quotientOf p (addScaled p c (prod p a xs) (-1)) ys⟩
theorem prod_nil {p : Int} (hp : 0 < p) (ys : List Int) : prod p [] ys = [] := prod_is hp (fun n hn => by simp at hn) rfl (.of (by rw [co_nil]; grind))
/-- what the loop keeps -/
structure TrI (p : Int) (N M : Nat) (old new left right : List Int) : Prop where
  r1 : Red p old
  r2 : Red p new
  r3 : Red p left
  r4 : Red p right
  t1 : trim old = old
  t2 : trim new = new
  t3 : trim left = left
  t4 : trim right = right
  l1 : right.length + old.length ≤ N
  l2 : left.length + new.length ≤ N
  ne : old = [] → new ≠ []
  lM : new.length ≤ M ∧ (new = [] → old.length ≤ M)
theorem TrI.step {p : Int} (hp : Pr p) {N M : Nat} {old new left right : List Int} (h : TrI p N M old new left right) (hne : new ≠ []) : TrI p N M new (divide p old new).2 right (addScaled p left (prod p (divide p old new).1 right) (-1)) := by
  have hle := hp.le
  have hp0 : 0 < p := by omega
  have hi := Inv.mk' hp h.r2 h.t2 hne
  have hl := List.length_pos_iff.mpr hne
  have d1 := divide_len1 p old new
  have d2 := divide_len2 p old hne
  have d3 := divide_len3 hp0 h.r1 hi
  have d4 := prod_len1 hp0 (divide p old new).1 right
  have d5 := addScaled_len p left (prod p (divide p old new).1 right) (-1)
  have hl1 := h.l1
  have hl2 := h.l2
  have hM := h.lM
  have d6 : (prod p (divide p old new).1 right).length + new.length ≤ N := by
    by_cases hq : (divide p old new).1 = []
    · rw [hq, prod_nil hp0]
      rw [List.length_nil]
      omega
    · have := List.length_pos_iff.mpr hq
      omega
  exact ⟨h.r2, (divide_red hp0 new h.r1).2, h.r4, addScaled_red hp0 _ _ _, h.t2, (divide_trim p old new).2, h.t4, addScaled_trim _ _ _ _, by omega, by omega, fun z => absurd z hne, by omega, fun _ => by omega⟩
section
variable {P : Program} {w : World} {K : PySem.W.Frag} {mg : Str → Option Value} {base : Heap}
def sp_common_triple (K : PySem.W.Frag) : Sp := Con (G := GQ) (fun g => Pr g.p ∧ Red g.p g.xs ∧ Red g.p g.ys ∧ trim g.xs = g.xs ∧ trim g.ys = g.ys ∧ g.xs.length ≤ 61 ∧ g.ys.length ≤ 61) (fun g => [vI g.p, vP K g.xs, vP K g.ys]) (fun g => vT K [vP K (triple g.p g.xs g.ys).c, vP K (triple g.p g.xs g.ys).a, vP K (triple g.p g.xs g.ys).b])
end
end K0
namespace Kt
open PySem PySem.Spec PyProof.Rows L2
open Evl (Ex Ev EvL EvU EvT EvA EvO ex_l ex_t sq_of st_of sz_of sz_lt fresh_back given)
section
variable {K : PySem.W.Frag} {σ : L2.St} {H : Hp} {te tf : TE} {ta : TA} {D : Ends} {tz : TS} {r : VR} {i j : Nat} {t : TT} {b : Bool} {x : Int}
theorem qr_drop (h : EvR te σ H r) (k : ∀ H1, Ex H H1 → tz D σ H1) : tSeq (tDrop te) tz D σ H := h H (Ex.refl H) _ fun v H1 e _ => k H1 e
theorem sr_drop (h : EvR te σ H r) (k : ∀ H1, Ex H H1 → D.nx σ H1) : tDrop te D σ H := h H (Ex.refl H) _ fun v H1 e _ => k H1 e
theorem et_b (h : EvR te σ H (vB b)) : EvT (tB te) σ H b := fun H1 e Q q => h H1 e _ fun v H2 e2 hv => ⟨b, hv, q H2 e2⟩
theorem EvR.iD (h : EvR te σ H (vI x)) : EvR te σ H (vD K (.int x)) := h.to fun v H1 e hv => by
  have hv' : v = .int x := hv
  subst hv'
  exact Dp.int x
theorem D_I {v : V} (h : (vD K (.int x)).R v H) : v = .int x := by
  have h' : Dp K H v (.int x) := h
  cases h'
  rfl
theorem Dpa_ints : ∀ {xs : List V} {ns : List Int}, DpAll K H xs (ns.map PyData.int) → xs = ns.map V.int
  | _, [], h => by
    cases h
    rfl
  | _, n :: ns, h => by
    rw [List.map_cons] at h
    cases h with
    | cons h1 h2 =>
      cases h1
      rw [Dpa_ints h2]
      rfl
theorem Dpa_len : ∀ {xs : List V} {ds : List PyData}, DpAll K H xs ds → xs.length = ds.length
  | _, _, .nil => rfl
  | _, _, .cons _ h => congrArg Nat.succ (Dpa_len h)
theorem Dpa_get : ∀ {xs : List V} {ds : List PyData} {i : Nat} {x : V}, DpAll K H xs ds → xs[i]? = some x → ∃ d, ds[i]? = some d ∧ Dp K H x d
  | _, _, i, _, .nil, h => by simp at h
  | _, _, 0, _, .cons h1 _, h => by
    obtain rfl := Option.some.inj h
    exact ⟨_, rfl, h1⟩
  | _, _, i + 1, _, .cons _ h2, h => by
    obtain ⟨d, h3, h4⟩ := Dpa_get h2 h
    exact ⟨d, h3, h4⟩
/-- [truth of x for x in data] -/
theorem el_mapD {wi : TI} {vs : List Nat} {xs : List V} {ds : List PyData} (hd : DpAll K H xs ds) (hw : Wk wi σ H xs.length (YAt xs)) (f : PyData → Bool) (hn : ds.length ≤ 50000) (hv : ∀ x, wipe ((wipe σ vs).set j (some x)) vs = wipe σ vs)
    (he : ∀ x d H1, Ex H H1 → (vD K d).R x H1 → EvR te ((wipe σ vs).set j (some x)) H1 (vB (f d))) : EvL (tLc wi (gName j) tYes te vs) σ H ((ds.map f).map V.bl) := by
  have hlen := Dpa_len hd
  have z := el_comp (vs := vs) (g := gName j) (tt := tYes) (te := te) hw (fun _ => true) (fun i => .bl (f (ds.getD i .none))) (by omega) (fun i x H1 H2 hi e y R q => by
    obtain ⟨rfl, hx⟩ := y
    obtain ⟨d, h1, h2⟩ := Dpa_get hd hx
    have eg : ds.getD i .none = d := by rw [List.getD_eq_getElem?_getD, h1] <;> rfl
    refine q _ _ (hv _) (Ex.refl _) et_yes fun _ => ?_
    show Ev te _ _ (.bl (f (ds.getD i .none)))
    rw [eg]
    exact (he x d _ e (dp_ex e h2)).ev)
  rw [given_all] at z
  have el : (List.range xs.length).map (fun i => V.bl (f (ds.getD i .none))) = (ds.map f).map V.bl := by
    apply List.ext_getElem
    · simp [hlen]
    · intro i h1 h2
      simp at h1 h2 ⊢
      simp [h2]
  rw [el] at z
  exact z
/-- an int, a row of ints that stands at the module's top -/
def GT (mg : Str → Option Value) (K : PySem.W.Frag) (x : Str) (ns : List Int) : Prop := ∃ a, mg x = some (.ref a) ∧ ∀ H, SqT K H a (ns.map V.int)
theorem last_cut (ns : List Int) : cutI ns (some (-1)) none = ns.drop (ns.length - 1) := by
  unfold cutI
  rw [HT.sIx_none]
  have e : HT.sIx ns.length 0 (some (-1)) = ns.length - 1 := by
    show (if (-1 : Int) < 0 then ((-1 : Int) + (ns.length : Int)).toNat else min (-1 : Int).toNat ns.length) = _
    rw [if_pos (by decide)]
    omega
  rw [e]
  apply List.take_of_length_le
  rw [List.length_drop]
  omega
theorem last_zero (ns : List Int) : ns.drop (ns.length - 1) = [0] ↔ ns.getLast? = some 0 := by
  rcases List.eq_nil_or_concat ns with rfl | ⟨l, x, rfl⟩
  · simp
  · simp
/-- len of a sequence that stands -/
theorem evr_lenV {rr : List V → Hp → VK → Prop} {a : Addr} {xs : List V} (hrr : rr = fun xs H Q => ∃ p ys, xs = [.ref p] ∧ (SqL K H p ys ∨ SqT K H p ys) ∧ Q (.int ys.length) H) (h : EvR te σ H (vC (.ref a))) (hs : SqL K H a xs ∨ SqT K H a xs) : EvR (tCB rr (tCons te tNil)) σ H (vI (xs.length : Int)) := fun H1 e Q q => h H1 e _ fun v H2 e2 hv => by
  have hv' : v = .ref a := hv
  subst hrr hv'
  exact ⟨a, xs, rfl, hs.imp (ex_l (e.trans e2)) (ex_t (e.trans e2)), q _ H2 e2 rfl⟩
theorem evr_cR {v : V} (h : r.R v H) : EvR (tC v) σ H r := fun H1 e Q q => q v H1 (Ex.refl H1) (r.st e h)
end
end Kt
namespace K0
open PySem PySem.Spec PyProof.Rows L2 Kt M
open Evl (Ex Ev EvL EvU EvT EvA EvO ex_l ex_t sq_of st_of sz_of sz_lt fresh_back)
/-! ### what the checks say -/
def isInt : PyData → Bool
  | .int i => decide ((if i < 0 then -i else i) < 10 ^ 60)
  | _ => false
def isWithin (d : PyData) (lo hi : Int) : Bool :=
  match d with
  | .int i => isInt (.int i) && (decide (lo ≤ i) && decide (i ≤ hi))
  | _ => false
/-- plain data, or an empty dict -/
inductive OV where
  | d (x : PyData)
  | dict
def vO (K : PySem.W.Frag) : OV → VR
  | .d x => vD K x
  | .dict => ⟨fun v H => ∃ a, v = .ref a ∧ H a = some (.dK []), fun e ⟨a, h1, h2⟩ => ⟨a, h1, e _ _ h2⟩⟩
def OV.ty : OV → String
  | .d x => tyN x
  | .dict => "dict"
theorem vTy_O {K : PySem.W.Frag} {o : OV} : vTy K o.ty (vO K o) := by
  cases o with
  | d x => exact vTy_D
  | dict =>
    intro v H ⟨a, ha, h⟩
    subst ha
    exact .base (.dK h)
def lastZ : List PyData → Bool := fun ds => match ds.getLast? with
  | some (.int 0) => true
  | _ => false
def hpf (p : Int) : OV → Bool
  | .d (.tuple ds) => decide (ds.length ≤ 61) && ((ds.map fun d => isWithin d 0 (p - 1)).all id && !lastZ ds)
  | _ => false
structure GWi where
  d : PyData
  lo : Int
  hi : Int
structure GO where
  p : Int
  o : OV
structure PolyOk (p : Int) (ns : List Int) : Prop where
  r : Red p ns
  t : trim ns = ns
  l : ns.length ≤ 61
def isIB : PyData → Bool
  | .int _ => true
  | .bool _ => true
  | _ => false
def isB : PyData → Bool
  | .bool _ => true
  | _ => false
def isTup : OV → Bool
  | .d (.tuple _) => true
  | _ => false
def longT : OV → Bool
  | .d (.tuple ds) => decide (61 < ds.length)
  | _ => false
def isBetween (d : PyData) (lo hi : Int) : Bool :=
  match d with
  | .int i => decide (lo ≤ i) && decide (i ≤ hi)
  | _ => false
theorem kit_int (d : PyData) : kitB (tyN d) "int" = some (isIB d) := by
  have k1 : kitB "NoneType" "int" = some false := by decide +kernel
  have k2 : kitB "bool" "int" = some true := by decide +kernel
  have k3 : kitB "int" "int" = some true := by decide +kernel
  have k4 : kitB "str" "int" = some false := by decide +kernel
  have k5 : kitB "list" "int" = some false := by decide +kernel
  have k6 : kitB "tuple" "int" = some false := by decide +kernel
  have k7 : kitB "dict" "int" = some false := by decide +kernel
  cases d <;> assumption
theorem kit_bool (d : PyData) : kitB (tyN d) "bool" = some (isB d) := by
  have k1 : kitB "NoneType" "bool" = some false := by decide +kernel
  have k2 : kitB "bool" "bool" = some true := by decide +kernel
  have k3 : kitB "int" "bool" = some false := by decide +kernel
  have k4 : kitB "str" "bool" = some false := by decide +kernel
  have k5 : kitB "list" "bool" = some false := by decide +kernel
  have k6 : kitB "tuple" "bool" = some false := by decide +kernel
  have k7 : kitB "dict" "bool" = some false := by decide +kernel
  cases d <;> assumption
theorem kit_tuple (o : OV) : kitB o.ty "tuple" = some (isTup o) := by
  have k1 : kitB "NoneType" "tuple" = some false := by decide +kernel
  have k2 : kitB "bool" "tuple" = some false := by decide +kernel
  have k3 : kitB "int" "tuple" = some false := by decide +kernel
  have k4 : kitB "str" "tuple" = some false := by decide +kernel
  have k5 : kitB "list" "tuple" = some false := by decide +kernel
  have k6 : kitB "tuple" "tuple" = some true := by decide +kernel
  have k7 : kitB "dict" "tuple" = some false := by decide +kernel
  cases o with
  | dict => exact k7
  | d x => cases x <;> assumption
theorem ints_of {p : Int} : ∀ {ds : List PyData}, (ds.map fun d => isWithin d 0 (p - 1)).all id = true → ∃ ns : List Int, ds = ns.map PyData.int ∧ Red p ns
  | [], _ => ⟨[], rfl, fun n hn => by simp at hn⟩
  | d :: ds, h => by
    rw [List.map_cons, List.all_cons, Bool.and_eq_true] at h
    obtain ⟨ns, rfl, h2⟩ := ints_of h.2
    have h1 : isWithin d 0 (p - 1) = true := h.1
    cases d with
    | int i =>
      have h3 : (isInt (.int i) && (decide (0 ≤ i) && decide (i ≤ p - 1))) = true := h1
      rw [Bool.and_eq_true, Bool.and_eq_true, decide_eq_true_eq, decide_eq_true_eq] at h3
      refine ⟨i :: ns, rfl, fun n hn => ?_⟩
      rcases List.mem_cons.mp hn with rfl | hn
      · omega
      · exact h2 n hn
    | none => cases h1
    | bool b => cases h1
    | str z => cases h1
    | list l => cases h1
    | tuple l => cases h1
    | dict l => cases h1
theorem lastZ_ints (ns : List Int) : lastZ (ns.map PyData.int) = decide (ns.drop (ns.length - 1) = [0]) := by
  unfold lastZ
  rw [List.getLast?_map]
  cases h : ns.getLast? with
  | none =>
    rw [List.getLast?_eq_none_iff] at h
    subst h
    rfl
  | some x =>
    by_cases hx : x = 0
    · subst hx
      rw [decide_eq_true ((last_zero ns).mpr h)]
      rfl
    · rw [decide_eq_false (fun z => hx (by
        rw [last_zero, h] at z
        exact Option.some.inj z))]
      show (match some (PyData.int x) with | some (PyData.int 0) => true | _ => false) = false
      split
      next e => exact absurd (PyData.int.inj (Option.some.inj e)) hx
      next => rfl
theorem hpf_ok {p : Int} {ns : List Int} (h : PolyOk p ns) (hp : p ≤ 10) : hpf p (.d (dP ns)) = true := by
  have h1 : ((ns.map PyData.int).map fun d => isWithin d 0 (p - 1)).all id = true := by
    rw [List.map_map, List.all_map]
    refine List.all_eq_true.mpr fun n hn => ?_
    have := h.r n hn
    show (decide ((if n < 0 then -n else n) < 10 ^ 60) && (decide (0 ≤ n) && decide (n ≤ p - 1))) = true
    rw [if_neg (by omega), decide_eq_true (by omega), decide_eq_true (by omega), decide_eq_true (by omega)]
    rfl
  show (decide ((ns.map PyData.int).length ≤ 61) && (_ && !lastZ (ns.map PyData.int))) = true
  rw [h1, lastZ_ints, List.length_map, decide_eq_true h.l, decide_eq_false]
  · rfl
  · intro z
    rw [last_zero] at z
    have hne : ns ≠ [] := by
      intro e
      rw [e] at z
      cases z
    refine trim_last h.t hne ?_
    rw [List.getLastD_eq_getLast?, z]
    rfl
section
variable {P : Program} {w : World} {K : PySem.W.Frag} {mg : Str → Option Value} {base : Heap}
def sp_is_integer (K : PySem.W.Frag) : Sp := Con (G := PyData) (fun _ => True) (fun d => [vD K d]) (fun d => vB (isInt d))
def sp_is_within (K : PySem.W.Frag) : Sp := Con (G := GWi) (fun _ => True) (fun g => [vD K g.d, vI g.lo, vI g.hi]) (fun g => vB (isWithin g.d g.lo g.hi))
def sp_check_prime (_ : PySem.W.Frag) : Sp := Con (G := Int) Pr (fun p => [vI p]) (fun _ => vN)
def sp_has_poly_form (K : PySem.W.Frag) : Sp := Con (G := GO) (fun g => g.p ≤ 10) (fun g => [vI g.p, vO K g.o]) (fun g => vB (hpf g.p g.o))
def sp_is_poly (K : PySem.W.Frag) : Sp := Con (G := GO) (fun g => Pr g.p) (fun g => [vI g.p, vO K g.o]) (fun g => vB (hpf g.p g.o))
def sp_check_poly (K : PySem.W.Frag) : Sp := Con (G := GP) (fun g => Pr g.p ∧ PolyOk g.p g.xs) (fun g => [vI g.p, vP K g.xs]) (fun _ => vN)
def sp_check_polys (K : PySem.W.Frag) : Sp := Con (G := GQ) (fun g => Pr g.p ∧ PolyOk g.p g.xs ∧ PolyOk g.p g.ys) (fun g => [vI g.p, vP K g.xs, vP K g.ys]) (fun _ => vN)
abbrev s_is_integer : Stmt := topS 9
abbrev N_is_integer : List Str := ["value"]
theorem sc_is_integer : FnScope N_is_integer ["value"] (defScope s_is_integer) := ⟨rfl, rfl, rfl, by decide +kernel, rfl, by decide +kernel, by decide +kernel⟩
theorem ok_is_integer {f : Addr} {fd : FuncData} (F : Fun K "is_integer" "is_integer" s_is_integer f fd) (B : Bis mg)   : FnOk P w K mg base CX0 1 f fd ["value"] (sp_is_integer K) := by
  refine F.ok sc_is_integer (fun vs H Q E h => ?_) (fun cdv A outer s H vs Q E hr h => ?_)
  · obtain ⟨g, _, ha, _⟩ := h
    exact ha.len
  · obtain ⟨value, -, ⟨v_value, _, rfl, h_value, rfl⟩, q⟩ := h
    dsimp only at *
    refine ⟨_, (pss_one (ps_ret (pe_and (pe_callB call_isi (by rfl) (B "isinstance" (by decide +kernel)) (by decide +kernel) (pa_cons (pv 0) (pa_cons (pe_bltn (v := .ty "int") (by rfl) (B "int" (by decide +kernel)) (by decide +kernel) rfl) pa_nil))) (pe_and (pe_not (pe_callB call_isi (by rfl) (B "isinstance" (by decide +kernel)) (by decide +kernel) (pa_cons (pv 0) (pa_cons (pe_bltn (v := .ty "bool") (by rfl) (B "bool" (by decide +kernel)) (by decide +kernel) rfl) pa_nil)))) (pe_one (pe_cmpR op_lt (pe_callB call_abs (by rfl) (B "abs" (by decide +kernel)) (by decide +kernel) (pa_cons (pv 0) pa_nil)) (pe_op op_pow pe_int pe_int) (nomark _))))))), ?_⟩
    have hk : isInt value = (isIB value && ((!isB value) && isInt value)) := by
      cases value <;> rfl
    rw [hk] at q
    refine sr_ret (evr_and (evr_isi (evr_var rfl h_value) vTy_D (kit_int value)) fun h1 => evr_and (evr_not (evr_isi (evr_var rfl h_value) vTy_D (kit_bool value))) fun h2 => ?_) fun v H2 e2 hv => q v H2 e2 hv
    cases value with
    | int i =>
      obtain rfl := D_I h_value
      exact evr_op (evr_abs rfl (evr_var rfl rfl)) (evr_op evr_c evr_c (op_i ⟨by decide, by decide, by decide⟩)) op_i0
    | none => cases h1
    | bool b => cases h2
    | str z => cases h1
    | list l => cases h1
    | tuple l => cases h1
    | dict l => cases h1
abbrev s_is_within : Stmt := topS 10
abbrev N_is_within : List Str := ["value", "low", "high"]
theorem sc_is_within : FnScope N_is_within ["value", "low", "high"] (defScope s_is_within) := ⟨rfl, rfl, rfl, by decide +kernel, rfl, by decide +kernel, by decide +kernel⟩
theorem ok_is_within {f : Addr} {fd : FuncData} (F : Fun K "is_within" "is_within" s_is_within f fd) (B : Bis mg)  (D_is_integer : De P w K mg base "is_integer" ["value"] 1 (sp_is_integer K)) : FnOk P w K mg base CX0 2 f fd ["value", "low", "high"] (sp_is_within K) := by
  refine F.ok sc_is_within (fun vs H Q E h => ?_) (fun cdv A outer s H vs Q E hr h => ?_)
  · obtain ⟨g, _, ha, _⟩ := h
    exact ha.len
  · obtain ⟨⟨value, low, high⟩, -, ⟨v_value, _, rfl, h_value, ⟨_, _, rfl, rfl, ⟨_, _, rfl, rfl, rfl⟩⟩⟩, q⟩ := h
    dsimp only at *
    refine ⟨_, (pss_one (ps_ret (pe_and (pe_call D_is_integer.ok (hr.mono (by decide)) (by rfl) D_is_integer.g D_is_integer.kp D_is_integer.b .nil pass0 (pa_cons (pv 0) pa_nil)) (pe_one (pe_chain op_le op_le (pv 1) (pv 0) (pv 2)))))), ?_⟩
    have hk : isWithin value low high = (isInt value && isBetween value low high) := by
      cases value <;> rfl
    rw [hk] at q
    refine sr_ret (evr_and (evr_call value trivial (evrs_cons (evr_var rfl h_value) evrs_nil)) fun h1 => ?_) fun v H2 e2 hv => q v H2 e2 hv
    cases value with
    | int i =>
      obtain rfl := D_I h_value
      exact evr_chain (evr_var rfl rfl) (evr_var rfl rfl) op_i0 (fun _ => evr_var rfl rfl) fun _ => op_i0
    | none => cases h1
    | bool b => cases h1
    | str z => cases h1
    | list l => cases h1
    | tuple l => cases h1
    | dict l => cases h1
abbrev s_check_prime : Stmt := topS 38
abbrev N_check_prime : List Str := ["prime"]
theorem sc_check_prime : FnScope N_check_prime ["prime"] (defScope s_check_prime) := ⟨rfl, rfl, rfl, by decide +kernel, rfl, by decide +kernel, by decide +kernel⟩
theorem ok_check_prime {f : Addr} {fd : FuncData} (F : Fun K "check_prime" "check_prime" s_check_prime f fd) (B : Bis mg) (C_PRIMES : GT mg K "PRIMES" [2, 3, 5, 7]) (D_is_integer : De P w K mg base "is_integer" ["value"] 1 (sp_is_integer K)) : FnOk P w K mg base CX0 2 f fd ["prime"] (sp_check_prime K) := by
  refine F.ok sc_check_prime (fun vs H Q E h => ?_) (fun cdv A outer s H vs Q E hr h => ?_)
  · obtain ⟨g, _, ha, _⟩ := h
    exact ha.len
  · obtain ⟨prime, hpr, ⟨_, _, rfl, rfl, rfl⟩, q⟩ := h
    dsimp only at *
    obtain ⟨ap, hap, hsp⟩ := C_PRIMES
    refine ⟨_, (pss_one (ps_if (PW.pt (pw_or (pt_not (pt_val (pe_call D_is_integer.ok (hr.mono (by decide)) (by rfl) D_is_integer.g D_is_integer.kp D_is_integer.b .nil pass0 (pa_cons (pv 0) pa_nil)))) (pw_or1 (pt_cmpR op_notIn_seq (pv 0) (pe_glob (v := .ref ap) rfl hap rfl) (by rfl))))) (pss_one ps_never) pss_nil)), ?_⟩
    have hle := hpr.le
    have hin : prime ∈ ([2, 3, 5, 7] : List Int) := hpr.mem
    refine Evl.s_when (b := !isInt (.int prime) || !decide (prime ∈ ([2, 3, 5, 7] : List Int))) (Evl.et_or (Evl.et_not (et_b (evr_call (PyData.int prime) trivial (evrs_cons (EvR.iD (evr_var rfl rfl)) evrs_nil)))) fun _ => et_r (evr_op (evr_var rfl rfl) (evr_cR (r := vP K [2, 3, 5, 7]) ⟨ap, rfl, hsp H⟩) (op_notInI rfl))) (fun hb H1 e1 => ?_) (fun hb H1 e1 => q .non H1 e1 rfl)
    rw [decide_eq_true hin] at hb
    have : isInt (.int prime) = true := decide_eq_true (by rw [if_neg (by omega)]; omega)
    rw [this] at hb
    cases hb
abbrev s_has_poly_form : Stmt := topS 40
abbrev N_has_poly_form : List Str := ["prime", "value", "number"]
theorem sc_has_poly_form : FnScope N_has_poly_form ["prime", "value"] (defScope s_has_poly_form) := ⟨rfl, rfl, rfl, by decide +kernel, rfl, by decide +kernel, by decide +kernel⟩
theorem ok_has_poly_form {f : Addr} {fd : FuncData} (F : Fun K "has_poly_form" "has_poly_form" s_has_poly_form f fd) (B : Bis mg) (C_MAX_POWER : GI mg "MAX_POWER" 60) (D_is_within : De P w K mg base "is_within" ["value", "low", "high"] 2 (sp_is_within K)) : FnOk P w K mg base CX0 3 f fd ["prime", "value"] (sp_has_poly_form K) := by
  refine F.ok sc_has_poly_form (fun vs H Q E h => ?_) (fun cdv A outer s H vs Q E hr h => ?_)
  · obtain ⟨g, _, ha, _⟩ := h
    exact ha.len
  · obtain ⟨⟨prime, value⟩, hp, ⟨_, _, rfl, rfl, ⟨v_value, _, rfl, h_value, rfl⟩⟩, q⟩ := h
    dsimp only at *
    refine ⟨_, (pss_cons (ps_if (PW.pt (pw_or (pt_not (pt_val (pe_callB call_isi (by rfl) (B "isinstance" (by decide +kernel)) (by decide +kernel) (pa_cons (pv 1) (pa_cons (pe_bltn (v := .ty "tuple") (by rfl) (B "tuple" (by decide +kernel)) (by decide +kernel) rfl) pa_nil))))) (pw_or1 (pt_cmpR op_gt (pe_callB call_len_seq (by rfl) (B "len" (by decide +kernel)) (by decide +kernel) (pa_cons (pv 1) pa_nil)) (pe_op op_add (pe_gi C_MAX_POWER (by rfl)) pe_int) (nomark _))))) (pss_one (ps_ret pe_bl)) pss_nil)
      (pss_one (ps_ret (pe_and (pe_callB (cr_all rfl) (by rfl) (B "all" (by decide +kernel)) (by decide +kernel) (pa_cons (pe_lc (own := [("number", 2)]) (g := (gName 2)) (tt := tYes) rfl sc_has_poly_form.nd (pi_tup (pv 1)) (blkOk_by (own := [("number", 2)]) (N := N_has_poly_form) (sc := defScope s_has_poly_form) (by decide +kernel)) (fun _ _ _ _ _ => (pg_name (i := 2) sc_has_poly_form.nd rfl (Or.inl rfl))) (fun _ _ _ _ _ => pts_nil) (fun _ _ _ _ _ => (pe_call D_is_within.ok (hr.mono (by decide)) (by rfl) D_is_within.g D_is_within.kp D_is_within.b .nil pass0 (pa_cons (pv 2) (pa_cons pe_int (pa_cons (pe_op op_sub (pv 0) pe_int) pa_nil)))))) pa_nil)) (pe_one (pe_cmpR (op_neD hr.units) (pe_slice sl_tupA (pv 1) (po_some (pe_un un_neg pe_int)) po_none) (pe_tup (pa_cons pe_int pa_nil)) (nomark _))))))), ?_⟩
    refine Evl.q_when (b := (!isTup value) || longT value) (Evl.et_or (Evl.et_not (et_b (evr_isi (evr_var rfl h_value) vTy_O (kit_tuple value)))) fun h1 => ?_) (fun hb H1 e1 => ?_) (fun hb H1 e1 => ?_)
    · cases value with
      | dict => cases h1
      | d x =>
        cases x with
        | tuple ds =>
          have hD : Dp K H v_value (.tuple ds) := h_value
          cases hD with
          | tup hs hd =>
            refine et_r ((evr_op (evr_lenV rfl (evr_var (r := vC _) rfl rfl) (.inr hs)) (evr_op evr_c evr_c op_i0) op_i0).eqB ?_)
            rw [Dpa_len hd]
            show decide ((60 : Int) + 1 < (ds.length : Int)) = decide (61 < ds.length)
            by_cases h : 61 < ds.length
            · rw [decide_eq_true h, decide_eq_true (by omega)]
            · rw [decide_eq_false h, decide_eq_false (by omega)]
        | none => cases h1
        | bool b => cases h1
        | int b => cases h1
        | str z => cases h1
        | list l => cases h1
        | dict l => cases h1
    · refine sr_ret evr_c fun v H2 e2 hv => q v H2 (e1.trans e2) ?_
      have ef : hpf prime value = false := by
        cases value with
        | dict => rfl
        | d x =>
          cases x with
          | tuple ds =>
            have h61 : 61 < ds.length := of_decide_eq_true hb
            show (decide (ds.length ≤ 61) && _) = false
            rw [decide_eq_false (by omega), Bool.false_and]
          | none => rfl
          | bool b => rfl
          | int b => rfl
          | str z => rfl
          | list l => rfl
          | dict l => rfl
      rw [ef]
      exact hv
    · cases value with
      | dict => cases hb
      | d x =>
        cases x with
        | tuple ds =>
          have h61 : ds.length ≤ 61 := by
            have : decide (61 < ds.length) = false := hb
            have := of_decide_eq_false this
            omega
          have hq : hpf prime (.d (.tuple ds)) = ((ds.map fun d => isWithin d 0 (prime - 1)).all id && !lastZ ds) := by
            show (decide (ds.length ≤ 61) && _) = _
            rw [decide_eq_true h61, Bool.true_and]
          rw [hq] at q
          have hD : Dp K H v_value (.tuple ds) := h_value
          cases hD with
          | @tup a xs _ hs hd =>
            refine sr_ret (evr_and (evr_all rfl (el_mapD (H := H1) (dpa_ex e1 hd) (wk_tup (Evl.ev_var rfl) (ex_t e1 hs)) (fun d => isWithin d 0 (prime - 1)) (by omega) (fun x => rfl) fun x d H2 e2 hx => evr_call (GWi.mk d 0 (prime - 1)) trivial (evrs_cons (evr_var rfl hx) (evrs_cons evr_c (evrs_cons (evr_op (evr_var rfl rfl) evr_c op_i0) evrs_nil))))) fun h1 => ?_) fun v H2 e2 hv => q v H2 (e1.trans e2) hv
            obtain ⟨ns, rfl, hns⟩ := ints_of h1
            obtain rfl := Dpa_ints hd
            rw [lastZ_ints, ← last_cut]
            exact evr_op (evr_slT (evr_var rfl ⟨a, rfl, ex_t e1 hs⟩) (eo_some (un_negI evr_c)) eo_none) (evr_disp (K := K) (ns := [0]) (evrs_cons evr_c evrs_nil) (by decide)) op_neP
        | none => cases hb
        | bool b => cases hb
        | int b => cases hb
        | str z => cases hb
        | list l => cases hb
        | dict l => cases hb
abbrev s_check_poly : Stmt := topS 39
abbrev N_check_poly : List Str := ["prime", "poly"]
theorem sc_check_poly : FnScope N_check_poly ["prime", "poly"] (defScope s_check_poly) := ⟨rfl, rfl, rfl, by decide +kernel, rfl, by decide +kernel, by decide +kernel⟩
theorem ok_check_poly {f : Addr} {fd : FuncData} (F : Fun K "check_poly" "check_poly" s_check_poly f fd) (B : Bis mg)  (D_has_poly_form : De P w K mg base "has_poly_form" ["prime", "value"] 3 (sp_has_poly_form K)) : FnOk P w K mg base CX0 4 f fd ["prime", "poly"] (sp_check_poly K) := by
  refine F.ok sc_check_poly (fun vs H Q E h => ?_) (fun cdv A outer s H vs Q E hr h => ?_)
  · obtain ⟨g, _, ha, _⟩ := h
    exact ha.len
  · obtain ⟨⟨prime, poly⟩, ⟨hpr, hok⟩, ⟨_, _, rfl, rfl, ⟨v_poly, _, rfl, h_poly, rfl⟩⟩, q⟩ := h
    dsimp only at *
    refine ⟨_, (pss_one (ps_if (pt_not (pt_val (pe_call D_has_poly_form.ok (hr.mono (by decide)) (by rfl) D_has_poly_form.g D_has_poly_form.kp D_has_poly_form.b .nil pass0 (pa_cons (pv 0) (pa_cons (pv 1) pa_nil))))) (pss_one ps_never) pss_nil)), ?_⟩
    refine Evl.s_when (Evl.et_not (et_b (evr_call (GO.mk prime (.d (dP poly))) hpr.le.2 (evrs_cons (evr_var rfl rfl) (evrs_cons (evr_var (r := vO K (.d (dP poly))) rfl (vP_D h_poly)) evrs_nil))))) (fun hb H1 e1 => ?_) (fun hb H1 e1 => q .non H1 e1 rfl)
    have hb' : (!hpf prime (.d (dP poly))) = true := hb
    rw [hpf_ok hok hpr.le.2] at hb'
    cases hb'
end
end K0
namespace Kt
open PySem PySem.Spec PyProof.Rows L2
section
variable {P : Program} {w : World} {K : PySem.W.Frag} {mg : Str → Option Value} {base : Heap} {x qual : Str} {params : Arguments} {body : List Stmt} {scope : Scope} {dvs : List V} {kws : List (Str × V)} {f : Addr} {fd : FuncData}
/-- a def with defaults that lets nothing out -/
theorem FunD.ok0 {N ps : List Str} {k : Nat} {sp : Sp} (F : FunD K x qual params body scope dvs kws f fd) (S : FnScope N ps scope) (len : ∀ vs H Q E, sp vs H Q E → vs.length = ps.length)
    (hbody : ∀ (cdv : Value) (A : Around) (outer : List Env) (s : Shared) (H : Hp) (vs : List V) (Q : VK) (E : XK), Room k (A.deeper (envOfC qual scope s.heap.objs.size f cdv)) → sp vs H Q E →
      ∃ t, PSs (cxOf CX0 P w K mg base N qual scope f cdv A outer s H E).nox body t ∧ t { nx := fun _ H' => Q .non H', rt := Q } (start N vs) H) : FnOk P w K mg base CX0 (k + 1) f fd ps sp :=
  F.ok S len fun cdv A outer s H vs Q E hr hsp => by
    obtain ⟨t, h, q⟩ := hbody cdv A outer s H vs Q E hr hsp
    exact ⟨t, h.nox, q⟩
end
section
open Evl (Ex Ev EvL EvU EvT EvA EvO ex_l ex_t sq_of st_of sz_of sz_lt fresh_back)
variable {K : PySem.W.Frag} {σ : L2.St} {H : Hp} {te : TE} {D : Ends} {tz tu : TS} {j : Nat}
/-- for x in a row of ints that an expression gives -/
theorem qr_forT {xs : List Int} (h : EvR te σ H (vP K xs)) (Pv : V → Nat → L2.St → Hp → Prop) (h0 : ∀ v H1, Ex H H1 → (vP K xs).R v H1 → Pv v 0 σ H1) (hl : ∀ v i σ' H', Pv v i σ' H' → (vP K xs).R v H')
    (hs : ∀ v i x σ' H', xs[i]? = some x → Pv v i σ' H' → tu { D with nx := fun σ2 H2 => Pv v (i + 1) σ2 H2, ct := fun σ2 H2 => Pv v (i + 1) σ2 H2, bk := tz D } (σ'.set j (some (.int x))) H')
    (hd : ∀ v σ' H', Pv v xs.length σ' H' → tz D σ' H') : tSeq (tFor (iTup K te) (gName j) tu) tz D σ H :=
  h H (Ex.refl H) _ fun v H1 e ⟨a, ha, hx⟩ => by
    subst ha
    refine ⟨a, rfl, ⟨_, hx⟩, for_tup (xs := xs.map V.int) (Pv (.ref a)) (h0 _ H1 e ⟨a, rfl, hx⟩) (fun i σ' H' _ p => ?_) (fun i x σ' H' hi p => ?_) (fun σ' H' p => hd (.ref a) σ' H' (by rw [List.length_map] at p; exact p))⟩
    · obtain ⟨b, hb, hs⟩ := hl _ i σ' H' p
      cases hb
      exact hs
    · rw [List.getElem?_map] at hi
      cases hx : xs[i]? with
      | none =>
        rw [hx] at hi
        cases hi
      | some n =>
        rw [hx] at hi
        obtain rfl : V.int n = x := Option.some.inj hi
        exact hs (.ref a) i n σ' H' hx p
end
end Kt
namespace K0
open PySem PySem.Spec PyProof.Rows L2 Kt M
open Evl (Ex Ev EvL EvU EvT EvA EvO ex_l ex_t sq_of st_of sz_of sz_lt fresh_back)
structure GAt where
  p : Int
  xs : List Int
  n : Int
def polyAt (p n : Int) : Int → List Int → Int
  | a, [] => a
  | a, x :: xs => polyAt p n ((a * n + x) % p) xs
/-- fewer than 61 digits -/
def Wide60 (n : Int) : Prop := -(10 ^ 60) < n ∧ n < 10 ^ 60
theorem isInt_wide {n : Int} (h : Wide60 n) : isInt (.int n) = true := decide_eq_true (by
  have := h.1
  have := h.2
  split <;> omega)
theorem polyAt_app (p n : Int) : ∀ (a : Int) (xs ys : List Int), polyAt p n a (xs ++ ys) = polyAt p n (polyAt p n a xs) ys
  | a, [], ys => rfl
  | a, x :: xs, ys => polyAt_app p n _ xs ys
theorem polyAt_bd {p n : Int} (hp : 0 < p) : ∀ (a : Int) (xs : List Int), (0 ≤ a ∧ a < p) → 0 ≤ polyAt p n a xs ∧ polyAt p n a xs < p
  | a, [], h => h
  | a, x :: xs, h => polyAt_bd hp _ xs ⟨Int.emod_nonneg _ (by omega), Int.emod_lt_of_pos _ hp⟩
theorem polyAt_take {p n : Int} {xs : List Int} {i : Nat} {x : Int} (h : xs[i]? = some x) : polyAt p n 0 (xs.take (i + 1)) = (polyAt p n 0 (xs.take i) * n + x) % p := by
  rw [List.take_add_one, h, polyAt_app]
  rfl
section
variable {P : Program} {w : World} {K : PySem.W.Frag} {mg : Str → Option Value} {base : Heap}
def sp_poly_sum (K : PySem.W.Frag) : Sp := Con (G := GA) (fun g => Pr g.p ∧ PolyOk g.p g.xs ∧ PolyOk g.p g.ys ∧ Wide60 g.f) (fun g => [vI g.p, vP K g.xs, vP K g.ys, vI g.f]) (fun g => vP K (addScaled g.p g.xs g.ys (g.f % g.p)))
def sp_poly_product (K : PySem.W.Frag) : Sp := Con (G := GQ) (fun g => Pr g.p ∧ PolyOk g.p g.xs ∧ PolyOk g.p g.ys) (fun g => [vI g.p, vP K g.xs, vP K g.ys]) (fun g => vP K (prod g.p g.xs g.ys))
def sp_poly_division (K : PySem.W.Frag) : Sp := Con (G := GQ) (fun g => Pr g.p ∧ PolyOk g.p g.xs ∧ PolyOk g.p g.ys ∧ g.ys ≠ []) (fun g => [vI g.p, vP K g.xs, vP K g.ys]) (fun g => vT K [vP K (divide g.p g.xs g.ys).1, vP K (divide g.p g.xs g.ys).2])
def sp_common_poly (K : PySem.W.Frag) : Sp := Con (G := GQ) (fun g => Pr g.p ∧ PolyOk g.p g.xs ∧ PolyOk g.p g.ys) (fun g => [vI g.p, vP K g.xs, vP K g.ys]) (fun g => vP K (common g.p g.xs g.ys))
def sp_common_paper (K : PySem.W.Frag) : Sp := Con (G := GQ) (fun g => Pr g.p ∧ PolyOk g.p g.xs ∧ PolyOk g.p g.ys) (fun g => [vI g.p, vP K g.xs, vP K g.ys]) (fun g => vT K [vP K (triple g.p g.xs g.ys).c, vP K (triple g.p g.xs g.ys).a, vP K (triple g.p g.xs g.ys).b])
def sp_poly_power (K : PySem.W.Frag) : Sp := Con (G := GW) (fun g => Pr g.p ∧ PolyOk g.p g.xs ∧ g.n * (1 + g.xs.length) ≤ 60) (fun g => [vI g.p, vP K g.xs, vI (g.n : Int)]) (fun g => vP K (pw g.p g.xs g.n))
def sp_poly_slope (K : PySem.W.Frag) : Sp := Con (G := GP) (fun g => Pr g.p ∧ PolyOk g.p g.xs) (fun g => [vI g.p, vP K g.xs]) (fun g => vP K (slopeOf g.p g.xs))
def sp_poly_at (K : PySem.W.Frag) : Sp := Con (G := GAt) (fun g => Pr g.p ∧ PolyOk g.p g.xs ∧ Wide60 g.n) (fun g => [vI g.p, vP K g.xs, vI g.n]) (fun g => vI (polyAt g.p g.n 0 g.xs.reverse))
end
end K0
namespace Kt
open PySem PySem.Spec PyProof.Rows L2
open Evl (Ex Ev EvL EvU EvT EvA EvO ex_l ex_t sq_of st_of sz_of sz_lt fresh_back given)
section
variable {K : PySem.W.Frag} {σ : L2.St} {H : Hp} {te tf tk : TE} {ta : TA} {D : Ends} {tz tu : TS} {r : VR} {i j k : Nat} {t : TT} {b : Bool} {x : Int} {ns ms : List Int} {l : Addr}
theorem evr_int1 {rr : List V → Hp → VK → Prop} (hrr : rr = fun xs H Q => (∃ i, xs = [.int i] ∧ Q (.int i) H) ∨ ∃ k, xs = [.bl k] ∧ Q (.int (if k then 1 else 0)) H) (h : EvR te σ H (vI x)) : EvR (tCB rr (tCons te tNil)) σ H (vI x) := fun H1 e Q q => h H1 e _ fun v H2 e2 hv => by
  have hv' : v = .int x := hv
  subst hrr hv'
  exact .inl ⟨x, rfl, q _ H2 e2 rfl⟩
/-- [0] * k -/
theorem el_repI {ns : List Int} (h : EvL te σ H (ns.map V.int)) (hk : EvR tk σ H (vI x)) (hx : -100000 ≤ x ∧ x ≤ 100000) (hz : ns.length * x.toNat ≤ 100000) : EvL (tOp rRep te tk) σ H ((List.replicate x.toNat ns).flatten.map V.int) := fun H1 e Q q =>
  h H1 e _ fun p H2 hp e2 h2 => hk H2 (e.trans e2) _ fun v H3 e3 hv => by
    refine ⟨p, x, _, rfl, hv, e3 _ _ h2, by omega, by omega, sz_of (by rw [List.length_map]; exact hz), fun l hl => q l _ (fresh_back (e2.trans e3) hl) ((e2.trans e3).trans (Ex.new hl)) ?_⟩
    have e : (List.replicate x.toNat ns).flatten.map V.int = (List.replicate x.toNat (ns.map V.int)).flatten := by
      rw [List.map_flatten, List.map_replicate]
    rw [e]
    exact upd_same
theorem el_rep1 {a : Int} (h : EvL te σ H ([a].map V.int)) (hk : EvR tk σ H (vI x)) (hx : -100000 ≤ x ∧ x ≤ 100000) : EvL (tOp rRep te tk) σ H ((List.replicate x.toNat a).map V.int) := by
  have z := el_repI h hk hx (by rw [List.length_singleton]; omega)
  have e : (List.replicate x.toNat [a]).flatten = List.replicate x.toNat a := by simp
  rw [e] at z
  exact z
theorem el_catI (h : EvL te σ H (ns.map V.int)) (h2 : EvL tk σ H (ms.map V.int)) (hz : ns.length + ms.length ≤ 100000) : EvL (tOp rCat te tk) σ H ((ns ++ ms).map V.int) := fun H1 e Q q =>
  h H1 e _ fun p H2 hp e2 hp2 => h2 H2 (e.trans e2) _ fun p' H3 hp' e3 hp3 => by
    refine ⟨p, p', _, _, rfl, rfl, e3 _ _ hp2, hp3, sz_of (by rw [List.length_map, List.length_map]; exact hz), fun l hl => q l _ (fresh_back (e2.trans e3) hl) ((e2.trans e3).trans (Ex.new hl)) ?_⟩
    rw [List.map_append]
    exact upd_same
theorem evr_ofL (h : EvL te σ H (ns.map V.int)) : EvR te σ H (vL K ns) := evr_list h rfl
/-- an item of a row or a list by a place from 0 -/
theorem op_ixPn {n : Nat} (h : ns[n]? = some x) : OpV (rIxT K) (vP K ns) (vI (n : Int)) (vC (.int x)) H := op_ixP (atI_nat (by rw [List.getElem?_map, h] <;> rfl))
theorem op_ixLn {n : Nat} (h : ns[n]? = some x) : OpV (rIxL K) (vL K ns) (vI (n : Int)) (vC (.int x)) H := op_ixLi (atI_nat (by rw [List.getElem?_map, h] <;> rfl))
/-- xs[j] = e, xs a list that changes -/
theorem sr_set {tb : TE} {n : Nat} (hl : H l = some (.lst (ns.map V.int))) (h : EvR te σ H (vI x)) (ho : EvR tf σ H (vC (.ref l))) (hi : EvR tb σ H (vI (n : Int))) (hj : n < ns.length) (k : ∀ H1, Ex H H1 → D.nx σ (upd H1 l (.lst ((ns.set n x).map V.int)))) : tAsg te (gSub tf tb rSetL) D σ H :=
  Evl.s_setL hl h.ev ho.ev hi.ev (by rw [List.length_map]; exact hj) fun H1 e => by
    have z := k H1 e
    rw [List.map_set] at z
    exact z
theorem qr_set {tb : TE} {n : Nat} (hl : H l = some (.lst (ns.map V.int))) (h : EvR te σ H (vI x)) (ho : EvR tf σ H (vC (.ref l))) (hi : EvR tb σ H (vI (n : Int))) (hj : n < ns.length) (k : ∀ H1, Ex H H1 → tz D σ (upd H1 l (.lst ((ns.set n x).map V.int)))) : tSeq (tAsg te (gSub tf tb rSetL)) tz D σ H := sr_set (D := { D with nx := tz D }) hl h ho hi hj k
/-- for i, x in enumerate(row) -/
theorem sr_enumT {xs : List Int} (h : EvRs ta σ H [vP K xs]) (Pv : V → Nat → L2.St → Hp → Prop) (h0 : ∀ v H1, Ex H H1 → (vP K xs).R v H1 → Pv v 0 σ H1) (hl : ∀ v i σ' H', Pv v i σ' H' → (vP K xs).R v H')
    (hs : ∀ v n x σ' H' H2, xs[n]? = some x → Pv v n σ' H' → Ex H' H2 → tu { D with nx := Pv v (n + 1), ct := Pv v (n + 1), bk := D.nx } ((σ'.set i (some (.int (n : Int)))).set j (some (.int x))) H2)
    (hd : ∀ v σ' H', Pv v xs.length σ' H' → D.nx σ' H') : tFor (iEnumK true K ta) (gTup K 2 (gCons (gName i) (gCons (gName j) gNil))) tu D σ H :=
  h H (Ex.refl H) _ fun us H1 e ⟨v, _, h1, ⟨a, ha, hx⟩, h3⟩ => by
    have h3' : _ = [] := h3
    subst ha h3'
    refine ⟨a, _, h1, hx, for_it (walk_enumK (p := true) (xs := xs.map V.int)) (Pv (.ref a)) (h0 _ H1 e ⟨a, rfl, hx⟩) (fun n σ' H' _ p => ?_) (fun n y σ' H' H2 hn p yy => ?_) (fun σ' H' p => hd (.ref a) σ' H' (by rw [List.length_map] at p; exact p))⟩
    · obtain ⟨b, hb, hs⟩ := hl _ n σ' H' p
      cases hb
      exact hs
    · obtain ⟨T, y1, y2, rfl, hT, rfl, e1, e2⟩ := yy
      have e1' : some (V.int ((0 : Int) + (n : Nat))) = some y1 := e1
      have e2' : (xs.map V.int)[n]? = some y2 := e2
      rw [List.getElem?_map] at e2'
      cases hxn : xs[n]? with
      | none =>
        rw [hxn] at e2'
        cases e2'
      | some x =>
        rw [hxn] at e2'
        obtain rfl : V.int x = y2 := Option.some.inj e2'
        obtain rfl : V.int ((0 : Int) + (n : Nat)) = y1 := Option.some.inj e1'
        rw [Int.zero_add]
        exact ⟨T, _, rfl, st_of upd_same, rfl, _, _, rfl, _, _, rfl, rfl, hs (.ref a) n x σ' H' _ hxn p (Ex.new hT)⟩
theorem qr_enumT {xs : List Int} (h : EvRs ta σ H [vP K xs]) (Pv : V → Nat → L2.St → Hp → Prop) (h0 : ∀ v H1, Ex H H1 → (vP K xs).R v H1 → Pv v 0 σ H1) (hl : ∀ v i σ' H', Pv v i σ' H' → (vP K xs).R v H')
    (hs : ∀ v n x σ' H' H2, xs[n]? = some x → Pv v n σ' H' → Ex H' H2 → tu { D with nx := Pv v (n + 1), ct := Pv v (n + 1), bk := tz D } ((σ'.set i (some (.int (n : Int)))).set j (some (.int x))) H2)
    (hd : ∀ v σ' H', Pv v xs.length σ' H' → tz D σ' H') : tSeq (tFor (iEnumK true K ta) (gTup K 2 (gCons (gName i) (gCons (gName j) gNil))) tu) tz D σ H := sr_enumT (D := { D with nx := tz D }) h Pv h0 hl hs hd
/-- [e for i in range(n)], ints -/
theorem el_rngI {n : Nat} {vs : List Nat} (h : EvRs ta σ H [vI (n : Int)]) (f : Nat → Int) (hn : n ≤ 50000) (hv : ∀ x, wipe ((wipe σ vs).set j (some x)) vs = wipe σ vs)
    (he : ∀ i, i < n → ∀ H1, Ex H H1 → EvR te ((wipe σ vs).set j (some (.int (i : Int)))) H1 (vI (f i))) : EvL (tLc (iRng1 ta) (gName j) tYes te vs) σ H (((List.range n).map f).map V.int) := by
  have ha : EvA ta σ H [.int (n : Int)] := fun H1 e Q q => h H1 e _ fun us H2 e2 ⟨v, _, h1, hv, h3⟩ => by
    have h3' : _ = [] := h3
    have hv' : v = .int (n : Int) := hv
    subst h3' hv' h1
    exact q H2 e2
  have z := el_comp (vs := vs) (g := gName j) (tt := tYes) (te := te) (wk_rng1 ha (by omega)) (fun _ => true) (fun i => .int (f i)) (by omega) (fun i x H1 H2 hi e y R q => by
    obtain ⟨rfl, rfl⟩ := y
    refine q _ _ (hv _) (Ex.refl _) et_yes fun _ => ?_
    exact (he i (by omega) _ e).ev)
  rw [given_all] at z
  have el : (List.range (n : Int).toNat).map (fun i => V.int (f i)) = ((List.range n).map f).map V.int := by
    rw [Int.toNat_natCast, List.map_map]
    rfl
  rw [el] at z
  exact z
end
end Kt
namespace K0
open PySem PySem.Spec PyProof.Rows L2 Kt M
open Evl (Ex Ev EvL EvU EvT EvA EvO ex_l ex_t sq_of st_of sz_of sz_lt fresh_back)
theorem vP_upd {K : PySem.W.Frag} {H : Hp} {l : Addr} {xs ys : List V} {ns : List Int} {v : V} (h : (vP K ns).R v H) (hl : H l = some (.lst xs)) : (vP K ns).R v (upd H l (.lst ys)) := by
  obtain ⟨a, ha, hs⟩ := h
  refine ⟨a, ha, ?_⟩
  rcases hs with (h | ⟨o, h⟩) | h
  · refine .inl (.inl ?_)
    rw [upd_ne]
    · exact h
    · intro e
      rw [e, hl] at h
      cases h
  · refine .inl (.inr ⟨o, ?_⟩)
    rw [upd_ne]
    · exact h
    · intro e
      rw [e, hl] at h
      cases h
  · exact .inr h
/-! ### the law's own reckoning -/
theorem co_set {l : List Int} {k : Nat} (h : k < l.length) (x : Int) : co (l.set k x) = co l + ⟨cst (x - l[k])⟩ * Xp k := by
  ext i
  rw [PS.add_c, cst_c]
  show _ = _ + _ * (if i = k then (1 : Int) else 0)
  by_cases hi : i < l.length
  · rw [co_near (by rw [List.length_set]; exact hi), co_near hi, List.getElem_set]
    by_cases e : k = i
    · subst e
      rw [if_pos rfl, if_pos rfl]
      omega
    · rw [if_neg e, if_neg (Ne.symm e)]
      omega
  · rw [co_far (by rw [List.length_set]; omega), co_far (by omega), if_neg (by omega)]
    omega
theorem co_take {xs : List Int} {n : Nat} {x : Int} (h : xs[n]? = some x) : co (xs.take (n + 1)) = co (xs.take n) + ⟨cst x⟩ * Xp n := by
  obtain ⟨hn, rfl⟩ := List.getElem?_eq_some_iff.mp h
  ext i
  rw [PS.add_c, cst_c]
  show _ = _ + _ * (if i = n then (1 : Int) else 0)
  by_cases hi : i < n
  · rw [co_near (by rw [List.length_take]; omega), co_near (by rw [List.length_take]; omega), List.getElem_take, List.getElem_take, if_neg (by omega)]
    omega
  · rw [co_far (xs := xs.take n) (by rw [List.length_take]; omega)]
    by_cases e : i = n
    · subst e
      rw [co_near (by rw [List.length_take]; omega), List.getElem_take, if_pos rfl]
      omega
    · rw [co_far (by rw [List.length_take]; omega), if_neg e]
      omega
theorem Xp_add (i j : Nat) : Xp (i + j) = Xp i * Xp j := by
  rw [Xp_mul]
  ext k
  show (if k = i + j then (1 : Int) else 0) = if k < i then 0 else if k - i = j then 1 else 0
  split <;> split <;> (try split) <;> omega
theorem co_zeros (n : Nat) : co (List.replicate n 0) = 0 := by
  ext k
  show _ = cst 0 k
  rw [PS.cst0]
  by_cases h : k < n
  · rw [co_near (by rw [List.length_replicate]; exact h), List.getElem_replicate]
  · rw [co_far (by rw [List.length_replicate]; omega)]
theorem cst_mul2 (x y : Int) : (⟨cst (x * y)⟩ : PS) = ⟨cst x⟩ * ⟨cst y⟩ := by
  ext k
  rw [cst_c]
  cases k with
  | zero => rfl
  | succ k =>
    show (0 : Int) = x * 0
    omega
theorem cst0_mul (f : PS) : (⟨cst 0⟩ : PS) * f = 0 := by
  have : (⟨cst 0⟩ : PS) = 0 := rfl
  rw [this]
  grind
/-- a product from any list of its numbers -/
theorem prod_of {p : Int} {xs ys fs : List Int} (h : co fs = co xs * co ys) : trim (fs.map (· % p)) = prod p xs ys := by
  unfold prod
  apply trim_ext
  ext k
  rw [co_mod_c, co_mod_c, h, co_conv]
section
variable {P : Program} {w : World} {K : PySem.W.Frag} {mg : Str → Option Value} {base : Heap}
def sp__law_po_cut (K : PySem.W.Frag) : Sp := Con (G := List Int) (fun ns => ns.length ≤ 40000) (fun ns => [vL K ns]) (fun ns => vP K (trim ns))
def sp__law_po_sum (K : PySem.W.Frag) : Sp := Con (G := GA) (fun g => 0 < g.p ∧ g.xs.length ≤ 1000 ∧ g.ys.length ≤ 1000 ∧ Small g.xs ∧ Small g.ys) (fun g => [vI g.p, vP K g.xs, vP K g.ys, vI g.f]) (fun g => vP K (addScaled g.p g.xs g.ys g.f))
def sp__law_po_times (K : PySem.W.Frag) : Sp := Con (G := GS) (fun g => 0 < g.p ∧ g.ns.length ≤ 40000 ∧ Small g.ns) (fun g => [vI g.p, vP K g.ns, vI g.f]) (fun g => vP K (trim (g.ns.map fun n => g.f * n % g.p)))
def sp__law_po_product (K : PySem.W.Frag) : Sp := Con (G := GQ) (fun g => 0 < g.p ∧ Small g.xs ∧ g.xs.length ≤ 10000 ∧ g.ys.length ≤ 10000) (fun g => [vI g.p, vP K g.xs, vP K g.ys]) (fun g => vP K (prod g.p g.xs g.ys))
def sp__law_po_slope (K : PySem.W.Frag) : Sp := Con (G := GP) (fun g => 0 < g.p ∧ g.xs.length ≤ 1000 ∧ Small g.xs) (fun g => [vI g.p, vP K g.xs]) (fun g => vP K (slopeOf g.p g.xs))
def sp__law_po_power (K : PySem.W.Frag) : Sp := Con (G := GW) (fun g => 2 ≤ g.p ∧ g.p ≤ 10 ∧ g.xs.length ≤ 100 ∧ g.n ≤ 90) (fun g => [vI g.p, vP K g.xs, vI (g.n : Int)]) (fun g => vP K (pw g.p g.xs g.n))
def sp__law_po_at (K : PySem.W.Frag) : Sp := Con (G := GAt) (fun g => 2 ≤ g.p ∧ g.p ≤ 10 ∧ g.xs.length ≤ 1000) (fun g => [vI g.p, vP K g.xs, vI g.n]) (fun g => vI (polyAt g.p g.n 0 g.xs.reverse))
abbrev s__law_po_cut : Stmt := topS 63
abbrev N__law_po_cut : List Str := ["numbers", "many", "at"]
theorem sc__law_po_cut : FnScope N__law_po_cut ["numbers"] (defScope s__law_po_cut) := ⟨rfl, rfl, rfl, by decide +kernel, rfl, by decide +kernel, by decide +kernel⟩
theorem ok__law_po_cut {f : Addr} {fd : FuncData} (F : Fun K "_law_po_cut" "_law_po_cut" s__law_po_cut f fd) (B : Bis mg)   : FnOk P w K mg base CX0 1 f fd ["numbers"] (sp__law_po_cut K) := by
  refine F.ok sc__law_po_cut (fun vs H Q E h => ?_) (fun cdv A outer s H vs Q E hr h => ?_)
  · obtain ⟨g, _, ha, _⟩ := h
    exact ha.len
  · obtain ⟨ns, hlen, ⟨v_numbers, _, rfl, h_numbers, rfl⟩, q⟩ := h
    dsimp only at *
    refine ⟨_, (pss_cons (ps_set (i := 1) sc__law_po_cut.nd rfl (Or.inl rfl) (pe_callB call_len_seq (by rfl) (B "len" (by decide +kernel)) (by decide +kernel) (pa_cons (pv 0) pa_nil)))
      (pss_cons (ps_while PassesOwn.never (PW.pt (pw_and (pt_cmpR op_gt (pv 1) pe_int (nomark _)) (pw_and1 (pt_cmpR op_eq (pe_ix (r := rIxL K) ix_list (pv 0) (pe_op op_sub (pv 1) pe_int) (fun _ _ => rfl)) pe_int (nomark _))))) (pss_one (ps_set (i := 1) sc__law_po_cut.nd rfl (Or.inl rfl) (pe_op op_sub (pv 1) pe_int))))
      (pss_one (ps_ret (pe_callTy call_tuple_of (by rfl) (B "tuple" (by decide +kernel)) (by decide +kernel) (pa_cons (pe_lc (own := [("at", 2)]) (g := (gName 2)) (tt := tYes) rfl sc__law_po_cut.nd (pi_range1 (by rfl) (B "range" (by decide +kernel)) (pa_cons (pv 1) pa_nil)) (blkOk_by (own := [("at", 2)]) (N := N__law_po_cut) (sc := defScope s__law_po_cut) (by decide +kernel)) (fun _ _ _ _ _ => (pg_name (i := 2) sc__law_po_cut.nd rfl (Or.inl rfl))) (fun _ _ _ _ _ => pts_nil) (fun _ _ _ _ _ => (pe_ix (r := rIxL K) ix_list (pv 0) (pv 2) (fun _ _ => rfl)))) pa_nil)))))), ?_⟩
    refine qr_asg (evr_lenR rfl (EvR.kL (evr_var rfl h_numbers))) fun v H1 e1 hv => ?_
    obtain rfl := hv
    refine Evl.q_while (fun m σ H' => m ≤ ns.length ∧ σ = [some v_numbers, some (.int (m : Int)), none] ∧ Ex H H' ∧ ∀ x ∈ ns.drop m, x = 0) ns.length ⟨Nat.le_refl _, rfl, e1, by simp⟩ fun m σ H' hW => ?_
    obtain ⟨hm, rfl, e', hz⟩ := hW
    refine ⟨decide (0 < (m : Int)) && decide (V.int (ns.getD (m - 1) 0) = V.int 0), Evl.et_and (et_r (evr_op (evr_var rfl rfl) evr_c op_i0)) fun h0 => ?_, fun hb H5 e5 => ?_, fun hb H5 e5 => ?_⟩
    · have h0' : 0 < m := by
        have := of_decide_eq_true h0
        omega
      refine et_r (evr_op (evr_op (evr_var rfl ((vL K ns).st e' h_numbers)) (evr_op (evr_var rfl rfl) evr_c op_i0) (op_ixLi (z := .int (ns.getD (m - 1) 0)) ?_)) evr_c (op_eqS rfl))
      rw [show (m : Int) - 1 = ((m - 1 : Nat) : Int) by omega]
      exact atI_nat (by rw [List.getElem?_map, List.getD_eq_getElem?_getD, List.getElem?_eq_getElem (by omega : m - 1 < ns.length)] <;> rfl)
    · rw [Bool.and_eq_true] at hb
      have h0' : 0 < m := by
        have := of_decide_eq_true hb.1
        omega
      have hx : ns.getD (m - 1) 0 = 0 := V.int.inj (of_decide_eq_true hb.2)
      refine ⟨fun σ2 H2 => σ2 = [some v_numbers, some (.int ((m - 1 : Nat) : Int)), none] ∧ Ex H H2, fun σ2 H2 hN => ?_, ?_⟩
      · refine ⟨m - 1, by omega, by omega, hN.1, hN.2, fun x hx' => ?_⟩
        rw [List.drop_eq_getElem_cons (by omega)] at hx'
        rcases List.mem_cons.mp hx' with rfl | hx'
        · rw [List.getD_eq_getElem?_getD, List.getElem?_eq_getElem (by omega : m - 1 < ns.length)] at hx
          exact hx
        · rw [show m - 1 + 1 = m by omega] at hx'
          exact hz x hx'
      · refine sr_asg (r := vI ((m - 1 : Nat) : Int)) ((evr_op (evr_var rfl rfl) evr_c op_i0).eqI (by omega)) fun v H6 e6 hv => ?_
        obtain rfl := hv
        exact ⟨rfl, (e'.trans e5).trans e6⟩
    · have hc : m = 0 ∨ ns[m - 1]? ≠ some 0 := by
        by_cases h0 : m = 0
        · exact .inl h0
        · refine .inr fun z => ?_
          rw [decide_eq_true (by omega : 0 < (m : Int)), Bool.true_and, List.getD_eq_getElem?_getD, z] at hb
          cases hb
      refine sr_ret (evr_tupleL rfl (evr_ofL (el_rngI (evrs_cons (evr_var rfl rfl) evrs_nil) (fun i => ns.getD i 0) (by omega) (fun x => rfl) fun i hi H6 e6 => ?_))) fun v H6 e6 hv => q v H6 ((e'.trans e5).trans e6) ?_
      · refine evr_op (evr_var rfl ((vL K ns).st ((e'.trans e5).trans e6) h_numbers)) (evr_var rfl rfl) (op_ixLn ?_)
        rw [List.getD_eq_getElem?_getD, List.getElem?_eq_getElem (by omega : i < ns.length)] <;> rfl
      · have ee : (List.range m).map (fun i => ns.getD i 0) = trim ns := by
          rw [trim_take hm hz hc]
          apply List.ext_getElem
          · rw [List.length_map, List.length_range, List.length_take]
            omega
          · intro i h1 h2
            rw [List.length_map, List.length_range] at h1
            rw [List.getElem_map, List.getElem_range, List.getElem_take, List.getD_eq_getElem?_getD, List.getElem?_eq_getElem (by omega : i < ns.length)]
            rfl
        rw [ee] at hv
        exact hv
abbrev s__law_po_sum : Stmt := topS 64
abbrev N__law_po_sum : List Str := ["prime", "one", "other", "often", "size", "left", "right", "a", "b"]
theorem sc__law_po_sum : FnScope N__law_po_sum ["prime", "one", "other", "often"] (defScope s__law_po_sum) := ⟨rfl, rfl, rfl, by decide +kernel, rfl, by decide +kernel, by decide +kernel⟩
theorem ok__law_po_sum {f : Addr} {fd : FuncData} (F : Fun K "_law_po_sum" "_law_po_sum" s__law_po_sum f fd) (B : Bis mg)  (D__law_po_cut : De P w K mg base "_law_po_cut" ["numbers"] 1 (sp__law_po_cut K)) : FnOk P w K mg base CX0 2 f fd ["prime", "one", "other", "often"] (sp__law_po_sum K) := by
  refine F.ok sc__law_po_sum (fun vs H Q E h => ?_) (fun cdv A outer s H vs Q E hr h => ?_)
  · obtain ⟨g, _, ha, _⟩ := h
    exact ha.len
  · obtain ⟨⟨prime, one, other, often⟩, ⟨hp, hl1, hl2, sm1, sm2⟩, ⟨_, _, rfl, rfl, ⟨v_one, _, rfl, h_one, ⟨v_other, _, rfl, h_other, ⟨_, _, rfl, rfl, rfl⟩⟩⟩⟩, q⟩ := h
    dsimp only at *
    refine ⟨_, (pss_cons (ps_set (i := 4) sc__law_po_sum.nd rfl (Or.inl rfl) (pe_callB (call_max2 rfl) (by rfl) (B "max" (by decide +kernel)) (by decide +kernel) (pa_cons (pe_callB call_len_seq (by rfl) (B "len" (by decide +kernel)) (by decide +kernel) (pa_cons (pv 1) pa_nil)) (pa_cons (pe_callB call_len_seq (by rfl) (B "len" (by decide +kernel)) (by decide +kernel) (pa_cons (pv 2) pa_nil)) pa_nil))))
      (pss_cons (ps_par (i := 5) (j := 6) (by rfl) sc__law_po_sum.nd rfl rfl (by decide) rfl rfl (pa_cons (pe_op op_cat (pe_callTy call_list_of (by rfl) (B "list" (by decide +kernel)) (by decide +kernel) (pa_cons (pv 1) pa_nil)) (pe_op op_rep (pe_lst (pa_cons pe_int pa_nil)) (pe_op op_sub (pv 4) (pe_callB call_len_seq (by rfl) (B "len" (by decide +kernel)) (by decide +kernel) (pa_cons (pv 1) pa_nil))))) (pa_cons (pe_op op_cat (pe_callTy call_list_of (by rfl) (B "list" (by decide +kernel)) (by decide +kernel) (pa_cons (pv 2) pa_nil)) (pe_op op_rep (pe_lst (pa_cons pe_int pa_nil)) (pe_op op_sub (pv 4) (pe_callB call_len_seq (by rfl) (B "len" (by decide +kernel)) (by decide +kernel) (pa_cons (pv 2) pa_nil))))) pa_nil)) (by rfl))
      (pss_one (ps_ret (pe_call D__law_po_cut.ok (hr.mono (by decide)) (by rfl) D__law_po_cut.g D__law_po_cut.kp D__law_po_cut.b .nil pass0 (pa_cons (pe_lc (own := [("a", 7), ("b", 8)]) (g := (gTup K 2 (gCons (gName 7) (gCons (gName 8) gNil)))) (tt := tYes) rfl sc__law_po_sum.nd (pi_zipK false false (by rfl) (B "zip" (by decide +kernel)) (pa_cons (pv 5) (pa_cons (pv 6) pa_nil))) (blkOk_by (own := [("a", 7), ("b", 8)]) (N := N__law_po_sum) (sc := defScope s__law_po_sum) (by decide +kernel)) (fun _ _ _ _ _ => (pg_tup rfl (pgs_cons (pg_name (i := 7) sc__law_po_sum.nd rfl (Or.inl rfl)) (pgs_cons (pg_name (i := 8) sc__law_po_sum.nd rfl (Or.inl rfl)) pgs_nil)))) (fun _ _ _ _ _ => pts_nil) (fun _ _ _ _ _ => (pe_op op_mod (pe_callTy call_int1 (by rfl) (B "int" (by decide +kernel)) (by decide +kernel) (pa_cons (pe_op op_add (pv 7) (pe_op op_mul (pv 3) (pv 8))) pa_nil)) (pv 0)))) pa_nil)))))), ?_⟩
    have em : max (one.length : Int) other.length = ((max one.length other.length : Nat) : Int) := by omega
    refine qr_asg (evr_cb (evrs_cons (evr_lenR rfl (EvR.kP (evr_var rfl h_one))) (evrs_cons (evr_lenR rfl (EvR.kP (evr_var rfl h_other))) evrs_nil)) (cb_max rfl)) fun v H1 e1 hv => ?_
    obtain rfl := hv
    refine qr_par (r1 := vL K (pad one (max (one.length : Int) other.length - one.length))) (r2 := vL K (pad other (max (one.length : Int) other.length - other.length))) (evrs_cons (evr_ofL ?_) (evrs_cons (evr_ofL ?_) evrs_nil)) fun u v H2 e2 hu hv => ?_
    · refine el_catI (el_listK rfl (EvR.kP (evr_var rfl ((vP K one).st e1 h_one)))) (el_rep1 (el_dispI (evrs_cons evr_c evrs_nil) (by decide)) (evr_op (evr_var rfl rfl) (evr_lenR rfl (EvR.kP (evr_var rfl ((vP K one).st e1 h_one)))) op_i0) (by omega)) ?_
      rw [List.length_replicate]
      omega
    · refine el_catI (el_listK rfl (EvR.kP (evr_var rfl ((vP K other).st e1 h_other)))) (el_rep1 (el_dispI (evrs_cons evr_c evrs_nil) (by decide)) (evr_op (evr_var rfl rfl) (evr_lenR rfl (EvR.kP (evr_var rfl ((vP K other).st e1 h_other)))) op_i0) (by omega)) ?_
      rw [List.length_replicate]
      omega
    · have lA : (pad one (max (one.length : Int) other.length - one.length)).length = max one.length other.length := by rw [em, pad_len (by omega)]
      have lB : (pad other (max (one.length : Int) other.length - other.length)).length = max one.length other.length := by rw [em, pad_len (by omega)]
      have sB : Small (pad other (max (one.length : Int) other.length - other.length)) := fun n hn => by
        unfold pad at hn
        rcases List.mem_append.mp hn with hn | hn
        · exact sm2 n hn
        · obtain ⟨_, rfl⟩ := List.mem_replicate.mp hn
          omega
      refine sr_ret (evr_call (List.zipWith (fun a b => (a + often * b) % prime) (pad one (max (one.length : Int) other.length - one.length)) (pad other (max (one.length : Int) other.length - other.length))) ?_ (evrs_cons (evr_ofL (er_zipN (wk_zipK (evrs_cons (EvR.kL (evr_var rfl hu)) (evrs_cons (EvR.kL (evr_var rfl hv)) evrs_nil))) (fun a b => (a + often * b) % prime) (by omega) (fun x y => rfl) ?_)) evrs_nil)) fun v H3 e3 hv => q v H3 ((e1.trans e2).trans e3) hv
      · rw [List.length_zipWith]
        omega
      · intro a ha b hb H3 e3
        have := sB b hb
        exact evr_op (evr_int1 rfl (evr_op (evr_var rfl rfl) (evr_op (evr_var rfl rfl) (evr_var rfl rfl) (op_i (.inr (by omega)))) op_i0)) (evr_var rfl rfl) (op_i hp)
abbrev s__law_po_times : Stmt := topS 65
abbrev N__law_po_times : List Str := ["prime", "poly", "number", "entry"]
theorem sc__law_po_times : FnScope N__law_po_times ["prime", "poly", "number"] (defScope s__law_po_times) := ⟨rfl, rfl, rfl, by decide +kernel, rfl, by decide +kernel, by decide +kernel⟩
theorem ok__law_po_times {f : Addr} {fd : FuncData} (F : Fun K "_law_po_times" "_law_po_times" s__law_po_times f fd) (B : Bis mg)  (D__law_po_cut : De P w K mg base "_law_po_cut" ["numbers"] 1 (sp__law_po_cut K)) : FnOk P w K mg base CX0 2 f fd ["prime", "poly", "number"] (sp__law_po_times K) := by
  refine F.ok sc__law_po_times (fun vs H Q E h => ?_) (fun cdv A outer s H vs Q E hr h => ?_)
  · obtain ⟨g, _, ha, _⟩ := h
    exact ha.len
  · obtain ⟨⟨prime, poly, number⟩, ⟨hp, hl, sm⟩, ⟨_, _, rfl, rfl, ⟨v_poly, _, rfl, h_poly, ⟨_, _, rfl, rfl, rfl⟩⟩⟩, q⟩ := h
    dsimp only at *
    refine ⟨_, (pss_one (ps_ret (pe_call D__law_po_cut.ok (hr.mono (by decide)) (by rfl) D__law_po_cut.g D__law_po_cut.kp D__law_po_cut.b .nil pass0 (pa_cons (pe_lc (own := [("entry", 3)]) (g := (gName 3)) (tt := tYes) rfl sc__law_po_times.nd (pi_tup (pv 1)) (blkOk_by (own := [("entry", 3)]) (N := N__law_po_times) (sc := defScope s__law_po_times) (by decide +kernel)) (fun _ _ _ _ _ => (pg_name (i := 3) sc__law_po_times.nd rfl (Or.inl rfl))) (fun _ _ _ _ _ => pts_nil) (fun _ _ _ _ _ => (pe_op op_mod (pe_callTy call_int1 (by rfl) (B "int" (by decide +kernel)) (by decide +kernel) (pa_cons (pe_op op_mul (pv 2) (pv 3)) pa_nil)) (pv 0)))) pa_nil)))), ?_⟩
    refine sr_ret (evr_call (poly.map fun n => number * n % prime) (by rw [List.length_map]; exact hl) (evrs_cons (er_mapI (wk_tupR (evr_var rfl h_poly)) (fun n => number * n % prime) (by omega) (fun x => rfl) ?_) evrs_nil)) fun v H3 e3 hv => q v H3 e3 hv
    intro x hx H1 e1
    have := sm x hx
    exact evr_op (evr_int1 rfl (evr_op (evr_var rfl rfl) (evr_var rfl rfl) (op_i (.inr (by omega))))) (evr_var rfl rfl) (op_i hp)
abbrev s__law_po_product : Stmt := topS 66
abbrev N__law_po_product : List Str := ["prime", "one", "other", "found", "at", "a", "to", "b", "entry"]
theorem sc__law_po_product : FnScope N__law_po_product ["prime", "one", "other"] (defScope s__law_po_product) := ⟨rfl, rfl, rfl, by decide +kernel, rfl, by decide +kernel, by decide +kernel⟩
theorem ok__law_po_product {f : Addr} {fd : FuncData} (F : Fun K "_law_po_product" "_law_po_product" s__law_po_product f fd) (B : Bis mg)  (D__law_po_cut : De P w K mg base "_law_po_cut" ["numbers"] 1 (sp__law_po_cut K)) : FnOk P w K mg base CX0 2 f fd ["prime", "one", "other"] (sp__law_po_product K) := by
  refine F.ok sc__law_po_product (fun vs H Q E h => ?_) (fun cdv A outer s H vs Q E hr h => ?_)
  · obtain ⟨g, _, ha, _⟩ := h
    exact ha.len
  · obtain ⟨⟨prime, one, other⟩, ⟨hp, sm1, hl1, hl2⟩, ⟨_, _, rfl, rfl, ⟨v_one, _, rfl, h_one, ⟨v_other, _, rfl, h_other, rfl⟩⟩⟩, q⟩ := h
    dsimp only at *
    refine ⟨_, (pss_cons (ps_set (i := 3) sc__law_po_product.nd rfl (Or.inl rfl) (pe_op op_rep (pe_lst (pa_cons pe_int pa_nil)) (pe_op op_add (pe_callB call_len_seq (by rfl) (B "len" (by decide +kernel)) (by decide +kernel) (pa_cons (pv 1) pa_nil)) (pe_callB call_len_seq (by rfl) (B "len" (by decide +kernel)) (by decide +kernel) (pa_cons (pv 2) pa_nil)))))
      (pss_cons (ps_for PassesOwn.never rfl (pi_enumK true (by rfl) (B "enumerate" (by decide +kernel)) (pa_cons (pv 1) pa_nil)) (pg_tup rfl (pgs_cons (pg_name (i := 4) sc__law_po_product.nd rfl (Or.inl rfl)) (pgs_cons (pg_name (i := 5) sc__law_po_product.nd rfl (Or.inl rfl)) pgs_nil))) (pss_one (ps_if (pt_cmpR op_ne (pv 5) pe_int (nomark _)) (pss_one (ps_for PassesOwn.never rfl (pi_enumK true (by rfl) (B "enumerate" (by decide +kernel)) (pa_cons (pv 2) pa_nil)) (pg_tup rfl (pgs_cons (pg_name (i := 6) sc__law_po_product.nd rfl (Or.inl rfl)) (pgs_cons (pg_name (i := 7) sc__law_po_product.nd rfl (Or.inl rfl)) pgs_nil))) (pss_one (ps_asg (pe_op op_add (pe_ix (r := rIxL K) ix_list (pv 3) (pe_op op_add (pv 4) (pv 6)) (fun _ _ => rfl)) (pe_op op_mul (pv 5) (pv 7))) (pg_sub (pv 3) (pe_op op_add (pv 4) (pv 6)) set_list))))) pss_nil)))
      (pss_one (ps_ret (pe_call D__law_po_cut.ok (hr.mono (by decide)) (by rfl) D__law_po_cut.g D__law_po_cut.kp D__law_po_cut.b .nil pass0 (pa_cons (pe_lc (own := [("entry", 8)]) (g := (gName 8)) (tt := tYes) rfl sc__law_po_product.nd (pi_list (pv 3)) (blkOk_by (own := [("entry", 8)]) (N := N__law_po_product) (sc := defScope s__law_po_product) (by decide +kernel)) (fun _ _ _ _ _ => (pg_name (i := 8) sc__law_po_product.nd rfl (Or.inl rfl))) (fun _ _ _ _ _ => pts_nil) (fun _ _ _ _ _ => (pe_op op_mod (pe_callTy call_int1 (by rfl) (B "int" (by decide +kernel)) (by decide +kernel) (pa_cons (pv 8) pa_nil)) (pv 0)))) pa_nil)))))), ?_⟩
    refine Evl.q_asgL (xs := (List.replicate (one.length + other.length) 0).map V.int) ?_ fun l H1 n1 e1 hA => ?_
    · rw [show one.length + other.length = ((one.length : Int) + (other.length : Int)).toNat by omega]
      exact el_rep1 (el_dispI (evrs_cons evr_c evrs_nil) (by decide)) (evr_op (evr_lenR rfl (EvR.kP (evr_var rfl h_one))) (evr_lenR rfl (EvR.kP (evr_var rfl h_other))) op_i0) (by omega)
    · refine qr_enumT (evrs_cons (evr_var rfl ((vP K one).st e1 h_one)) evrs_nil) (fun v i σ' H' => (vP K one).R v H' ∧ Ex H H' ∧ ∃ fs x4 x5 x6 x7, σ' = [some (.int prime), some v_one, some v_other, some (.ref l), x4, x5, x6, x7, none] ∧ H' l = some (.lst (fs.map V.int)) ∧ fs.length = one.length + other.length ∧ co fs = co (one.take i) * co other) ?_ (fun v i σ' H' p => p.1) ?_ ?_
      · intro v H2 e2 hv
        refine ⟨hv, e1.trans e2, _, none, none, none, none, rfl, e2 _ _ hA, by rw [List.length_replicate], ?_⟩
        rw [co_zeros, List.take_zero, co_nil]
        grind
      · rintro v n x σ' H' H2 hx ⟨hv, e', fs, x4, x5, x6, x7, rfl, hfs, hlen, hco⟩ e2
        obtain ⟨hn, hxn⟩ := List.getElem?_eq_some_iff.mp hx
        have hsx := sm1 x (hxn ▸ List.getElem_mem hn)
        have e02 := e'.trans e2
        refine Evl.s_when (b := !decide (V.int x = V.int 0)) (et_r (evr_op (evr_var rfl rfl) evr_c (op_neS rfl))) (fun hb H3 e3 => ?_) (fun hb H3 e3 => ?_)
        · refine sr_enumT (evrs_cons (evr_var rfl ((vP K other).st (e02.trans e3) h_other)) evrs_nil) (fun v2 m σ' H' => (vP K other).R v2 H' ∧ (vP K one).R v H' ∧ Ex H H' ∧ ∃ fs x6 x7, σ' = [some (.int prime), some v_one, some v_other, some (.ref l), some (.int (n : Int)), some (.int x), x6, x7, none] ∧ H' l = some (.lst (fs.map V.int)) ∧ fs.length = one.length + other.length ∧ co fs = co (one.take n) * co other + ⟨cst x⟩ * Xp n * co (other.take m)) ?_ (fun v2 m σ' H' p => p.1) ?_ ?_
          · intro v2 H4 e4 hv2
            refine ⟨hv2, (vP K one).st ((e2.trans e3).trans e4) hv, (e02.trans e3).trans e4, fs, x6, x7, rfl, e4 _ _ (e3 _ _ (e2 _ _ hfs)), hlen, ?_⟩
            rw [hco, List.take_zero, co_nil]
            grind
          · rintro v2 m y σ' H' H4 hy ⟨hv2, hv1, e5, fs, x6, x7, rfl, hfs, hlen, hco⟩ e4
            obtain ⟨hm, hym⟩ := List.getElem?_eq_some_iff.mp hy
            have hnm : n + m < fs.length := by omega
            have hfs4 := e4 _ _ hfs
            refine sr_set (n := n + m) (x := fs[n + m] + x * y) hfs4 (evr_op (evr_op (evr_mut rfl hfs4) (evr_op (evr_var rfl rfl) (evr_var rfl rfl) op_i0) (op_ixLn (n := n + m) (List.getElem?_eq_getElem hnm))) (evr_op (evr_var rfl rfl) (evr_var rfl rfl) (op_i (.inl (by omega)))) op_i0) (evr_var rfl rfl) ((evr_op (evr_var rfl rfl) (evr_var rfl rfl) op_i0).eqI (by omega)) hnm fun H5 e6 => ?_
            have e46 := e4.trans e6
            refine ⟨vP_upd ((vP K other).st e46 hv2) (e6 _ _ hfs4), vP_upd ((vP K one).st e46 hv1) (e6 _ _ hfs4), Ex.mut (e5.trans e46) n1, _, _, _, rfl, upd_same, by rw [List.length_set]; exact hlen, ?_⟩
            rw [co_set hnm, hco, co_take hy, Xp_add]
            have : (⟨cst (fs[n + m] + x * y - fs[n + m])⟩ : PS) = ⟨cst x⟩ * ⟨cst y⟩ := by
              rw [show fs[n + m] + x * y - fs[n + m] = x * y by omega]
              exact cst_mul2 x y
            rw [this]
            grind
          · rintro v2 σ' H' ⟨hv2, hv1, e5, fs, x6, x7, rfl, hfs, hlen, hco⟩
            refine ⟨hv1, e5, fs, _, _, x6, x7, rfl, hfs, hlen, ?_⟩
            rw [hco, List.take_length, co_take hx]
            grind
        · have hx0 : x = 0 := by
            have := of_decide_eq_true (by simpa using hb : decide (V.int x = V.int 0) = true)
            exact V.int.inj this
          refine ⟨(vP K one).st (e2.trans e3) hv, e02.trans e3, fs, _, _, x6, x7, rfl, e3 _ _ (e2 _ _ hfs), hlen, ?_⟩
          rw [co_take hx, hco, hx0]
          have := cst0_mul (Xp n)
          grind
      · rintro v σ' H' ⟨hv, e', fs, x4, x5, x6, x7, rfl, hfs, hlen, hco⟩
        rw [List.take_length] at hco
        rw [← prod_of hco] at q
        refine sr_ret (evr_call (fs.map (· % prime)) (by rw [List.length_map]; omega) (evrs_cons (er_mapI (wk_listR (evr_mut rfl hfs)) (· % prime) (by omega) (fun x => rfl) ?_) evrs_nil)) fun v H3 e3 hv => q v H3 (e'.trans e3) hv
        intro x hx H1 e1
        exact evr_op (evr_int1 rfl (evr_var rfl rfl)) (evr_var rfl rfl) (op_i hp)
end
end K0
namespace K0
open PySem PySem.Spec PyProof.Rows L2 Kt M
open Evl (Ex Ev EvL EvU EvT EvA EvO ex_l ex_t sq_of st_of sz_of sz_lt fresh_back given)
theorem pw_len (p : Int) (xs : List Int) : ∀ n, (pw p xs n).length ≤ 1 + n * xs.length
  | 0 => by simp [pw]
  | n + 1 => by
    have h1 := pw_len p xs n
    have h2 := prod_len p (pw p xs n) xs
    rw [pw, Nat.succ_mul]
    omega
theorem scale_map {p : Int} {ns : List Int} {f : Int} (hr : Red p ns) (ht : trim ns = ns) : scale p ns f = trim (ns.map fun n => f * n % p) := by
  unfold scale
  split
  next e =>
    subst e
    have z : ns.map (fun n => 1 * n % p) = ns := by
      refine (List.map_congr_left fun n hn => ?_).trans (List.map_id ns)
      have := hr n hn
      rw [Int.one_mul, Int.emod_eq_of_lt this.1 this.2]
      rfl
    rw [z, ht]
  next => rfl
theorem first_inv : ∀ p ∈ ([2, 3, 5, 7] : List Int), ∀ k : Fin 7, 0 < (k.val : Int) → (k.val : Int) < p → ((List.range (p - 1).toNat).filter fun i : Nat => decide ((1 + (i : Int)) * k.val % p = 1))[0]?.map (fun i : Nat => 1 + (i : Int)) = some (inv p k.val) := by decide
section
variable {P : Program} {w : World} {K : PySem.W.Frag} {mg : Str → Option Value} {base : Heap}
def sp__law_po_inverse (_ : PySem.W.Frag) : Sp := Con (G := G2) (fun g => Pr g.p ∧ 0 < g.n ∧ g.n < g.p) (fun g => [vI g.p, vI g.n]) (fun g => vI (inv g.p g.n))
def sp__law_po_monic (K : PySem.W.Frag) : Sp := Con (G := GP) (fun g => Pr g.p ∧ Red g.p g.xs ∧ trim g.xs = g.xs ∧ g.xs.length ≤ 1000) (fun g => [vI g.p, vP K g.xs]) (fun g => vP K (makeMonic g.p g.xs))
abbrev s__law_po_slope : Stmt := topS 71
abbrev N__law_po_slope : List Str := ["prime", "poly", "at", "entry"]
theorem sc__law_po_slope : FnScope N__law_po_slope ["prime", "poly"] (defScope s__law_po_slope) := ⟨rfl, rfl, rfl, by decide +kernel, rfl, by decide +kernel, by decide +kernel⟩
theorem ok__law_po_slope {f : Addr} {fd : FuncData} (F : Fun K "_law_po_slope" "_law_po_slope" s__law_po_slope f fd) (B : Bis mg)  (D__law_po_cut : De P w K mg base "_law_po_cut" ["numbers"] 1 (sp__law_po_cut K)) : FnOk P w K mg base CX0 2 f fd ["prime", "poly"] (sp__law_po_slope K) := by
  refine F.ok sc__law_po_slope (fun vs H Q E h => ?_) (fun cdv A outer s H vs Q E hr h => ?_)
  · obtain ⟨g, _, ha, _⟩ := h
    exact ha.len
  · obtain ⟨⟨p, xs⟩, ⟨hp, hl, hsm⟩, ⟨_, _, rfl, rfl, ⟨v_poly, _, rfl, h_poly, rfl⟩⟩, q⟩ := h
    dsimp only at *
    refine ⟨_, (pss_one (ps_ret (pe_call D__law_po_cut.ok (hr.mono (by decide)) (by rfl) D__law_po_cut.g D__law_po_cut.kp D__law_po_cut.b .nil pass0 (pa_cons (pe_slice sl_list (pe_lc (own := [("at", 2), ("entry", 3)]) (g := (gTup K 2 (gCons (gName 2) (gCons (gName 3) gNil)))) (tt := tYes) rfl sc__law_po_slope.nd (pi_enumK true (by rfl) (B "enumerate" (by decide +kernel)) (pa_cons (pv 1) pa_nil)) (blkOk_by (own := [("at", 2), ("entry", 3)]) (N := N__law_po_slope) (sc := defScope s__law_po_slope) (by decide +kernel)) (fun _ _ _ _ _ => (pg_tup rfl (pgs_cons (pg_name (i := 2) sc__law_po_slope.nd rfl (Or.inl rfl)) (pgs_cons (pg_name (i := 3) sc__law_po_slope.nd rfl (Or.inl rfl)) pgs_nil)))) (fun _ _ _ _ _ => pts_nil) (fun _ _ _ _ _ => (pe_op op_mod (pe_callTy call_int1 (by rfl) (B "int" (by decide +kernel)) (by decide +kernel) (pa_cons (pe_op op_mul (pv 2) (pv 3)) pa_nil)) (pv 0)))) (po_some pe_int) po_none) pa_nil)))), ?_⟩
    refine sr_ret (evr_call ((xs.mapIdx fun i n => (i : Int) * n % p).drop 1) ?_ (evrs_cons ?_ evrs_nil)) fun v H2 e2 hv => q v H2 e2 hv
    · show (List.drop 1 _).length ≤ 40000
      rw [List.length_drop, List.length_mapIdx]
      omega
    · rw [← cutI_drop (ns := xs.mapIdx fun i n => (i : Int) * n % p) (m := 1)]
      refine evr_slL (evr_list (er_enumI (wk_enumK (evrs_cons (EvR.kP (evr_var rfl h_poly)) evrs_nil)) (fun i n => (i : Int) * n % p) (by omega) (fun x y => rfl) ?_) rfl) (eo_some evr_c) eo_none
      intro i x hx H1 e1
      have := hsm x (List.mem_of_getElem? hx)
      exact evr_op (evr_int1 rfl (evr_op (evr_var rfl rfl) (evr_var rfl rfl) (op_i (.inr (by omega))))) (evr_var rfl rfl) (op_i hp)
abbrev s__law_po_inverse : Stmt := topS 67
abbrev N__law_po_inverse : List Str := ["prime", "number", "entry"]
theorem sc__law_po_inverse : FnScope N__law_po_inverse ["prime", "number"] (defScope s__law_po_inverse) := ⟨rfl, rfl, rfl, by decide +kernel, rfl, by decide +kernel, by decide +kernel⟩
theorem ok__law_po_inverse {f : Addr} {fd : FuncData} (F : Fun K "_law_po_inverse" "_law_po_inverse" s__law_po_inverse f fd) (B : Bis mg)   : FnOk P w K mg base CX0 1 f fd ["prime", "number"] (sp__law_po_inverse K) := by
  refine F.ok sc__law_po_inverse (fun vs H Q E h => ?_) (fun cdv A outer s H vs Q E hr h => ?_)
  · obtain ⟨g, _, ha, _⟩ := h
    exact ha.len
  · obtain ⟨⟨prime, number⟩, ⟨hpr, hn0, hn1⟩, ⟨_, _, rfl, rfl, ⟨_, _, rfl, rfl, rfl⟩⟩, q⟩ := h
    dsimp only at *
    refine ⟨_, (pss_one (ps_ret (pe_ix (r := rIxL K) ix_list (pe_lc (own := [("entry", 2)]) (g := (gName 2)) rfl sc__law_po_inverse.nd (pi_range2 (by rfl) (B "range" (by decide +kernel)) (pa_cons pe_int (pa_cons (pv 0) pa_nil))) (blkOk_by (own := [("entry", 2)]) (N := N__law_po_inverse) (sc := defScope s__law_po_inverse) (by decide +kernel)) (fun _ _ _ _ _ => (pg_name (i := 2) sc__law_po_inverse.nd rfl (Or.inl rfl))) (fun _ _ _ _ _ => pts_one (pt_cmpR op_eq (pe_op op_mod (pe_callTy call_int1 (by rfl) (B "int" (by decide +kernel)) (by decide +kernel) (pa_cons (pe_op op_mul (pv 2) (pv 1)) pa_nil)) (pv 0)) pe_int (nomark _))) (fun _ _ _ _ _ => (pv 2))) pe_int (fun _ _ => rfl)))), ?_⟩
    have hle := hpr.le
    have hp7 : prime ≤ 7 := by
      rcases hpr with h | h | h | h <;> omega
    have hw : Wk (iRng2 (tCons (tC (.int 1)) (tCons (tVar 0) tNil))) [some (.int prime), some (.int number), none] H (prime - 1).toNat (YFn fun i => .int (1 + (i : Int))) := wk_rng2 (fun H2 e2 Q q => ⟨_, rfl, q H2 (Ex.refl H2)⟩) (by omega)
    have hf : ∀ i : Nat, decide (V.int ((1 + (i : Int)) * number % prime) = V.int 1) = decide ((1 + (i : Int)) * number % prime = 1) := fun i => by
      by_cases h : (1 + (i : Int)) * number % prime = 1
      · rw [h]
        rfl
      · rw [decide_eq_false h, decide_eq_false (fun z => h (V.int.inj z))]
    have el := fun (tt : TT) (ht : ∀ i : Nat, ∀ H2, Ex H H2 → EvT tt [some (.int prime), some (.int number), some (.int (1 + (i : Int)))] H2 (decide ((1 + (i : Int)) * number % prime = 1))) => el_comp (vs := [2]) (g := gName 2) (tt := tt) (te := tVar 2) hw (fun i => decide ((1 + (i : Int)) * number % prime = 1)) (fun i => .int (1 + (i : Int))) (by omega) (fun i x H1 H2 hi e y R q => by
      obtain ⟨rfl, rfl⟩ := y
      exact q _ _ rfl (Ex.refl _) (ht i _ e) fun _ => Evl.ev_var rfl)
    have eg : given (prime - 1).toNat (fun i => decide ((1 + (i : Int)) * number % prime = 1)) (fun i => .int (1 + (i : Int))) = (((List.range (prime - 1).toNat).filter fun i : Nat => decide ((1 + (i : Int)) * number % prime = 1)).map fun i : Nat => 1 + (i : Int)).map V.int := by
      unfold given
      rw [List.map_map]
      rfl
    rw [eg] at el
    refine sr_ret (evr_op (evr_ofL (el _ fun i H2 e2 => ?_)) (evr_c (v := .int ((0 : Nat) : Int))) (op_ixLn (n := 0) (x := inv prime number) ?_)) fun v H6 e6 hv => q v H6 e6 hv
    · rw [← hf]
      exact et_r (evr_op (evr_op (evr_int1 rfl (evr_op (evr_var rfl rfl) (evr_var rfl rfl) (op_i (.inr (by omega))))) (evr_var rfl rfl) (op_i (by omega))) evr_c (op_eqS rfl))
    · rw [List.getElem?_map]
      have z := first_inv prime hpr.mem ⟨number.toNat, by omega⟩
      have e : ((number.toNat : Nat) : Int) = number := by omega
      simp only [e] at z
      exact z hn0 hn1
abbrev s__law_po_monic : Stmt := topS 69
abbrev N__law_po_monic : List Str := ["prime", "poly"]
theorem sc__law_po_monic : FnScope N__law_po_monic ["prime", "poly"] (defScope s__law_po_monic) := ⟨rfl, rfl, rfl, by decide +kernel, rfl, by decide +kernel, by decide +kernel⟩
theorem ok__law_po_monic {f : Addr} {fd : FuncData} (F : Fun K "_law_po_monic" "_law_po_monic" s__law_po_monic f fd) (B : Bis mg)  (D__law_po_times : De P w K mg base "_law_po_times" ["prime", "poly", "number"] 2 (sp__law_po_times K)) (D__law_po_inverse : De P w K mg base "_law_po_inverse" ["prime", "number"] 1 (sp__law_po_inverse K)) : FnOk P w K mg base CX0 3 f fd ["prime", "poly"] (sp__law_po_monic K) := by
  refine F.ok sc__law_po_monic (fun vs H Q E h => ?_) (fun cdv A outer s H vs Q E hr h => ?_)
  · obtain ⟨g, _, ha, _⟩ := h
    exact ha.len
  · obtain ⟨⟨prime, poly⟩, ⟨hpr, rx, tx, lx⟩, ⟨_, _, rfl, rfl, ⟨v_poly, _, rfl, h_poly, rfl⟩⟩, q⟩ := h
    dsimp only at *
    refine ⟨_, (pss_one (ps_ret (pe_ifExp (pt_cmpR (op_neD hr.units) (pv 1) (pe_tup pa_nil) (nomark _)) (pe_call D__law_po_times.ok (hr.mono (by decide)) (by rfl) D__law_po_times.g D__law_po_times.kp D__law_po_times.b .nil pass0 (pa_cons (pv 0) (pa_cons (pv 1) (pa_cons (pe_call D__law_po_inverse.ok (hr.mono (by decide)) (by rfl) D__law_po_inverse.g D__law_po_inverse.kp D__law_po_inverse.b .nil pass0 (pa_cons (pv 0) (pa_cons (pe_ix (r := rIxT K) ix_tup (pv 1) (pe_op op_sub (pe_callB call_len_seq (by rfl) (B "len" (by decide +kernel)) (by decide +kernel) (pa_cons (pv 1) pa_nil)) pe_int) (fun _ _ => rfl)) pa_nil))) pa_nil)))) (pe_tup pa_nil)))), ?_⟩
    have hle := hpr.le
    refine sr_ret (r := vP K (makeMonic prime poly)) (evr_if (et_r (evr_op (evr_var rfl h_poly) (evr_disp (K := K) (ns := []) evrs_nil (by decide)) op_neP)) (fun hb => ?_) (fun hb => ?_)) fun v H6 e6 hv => q v H6 e6 hv
    · have hne : poly ≠ [] := fun z => by
        rw [z] at hb
        cases hb
      have hpos := List.length_pos_iff.mpr hne
      have hb2 := rx _ (List.getLast_mem hne)
      have eL : poly.getLastD 0 = poly.getLast hne := by rw [List.getLastD_eq_getLast?, List.getLast?_eq_some_getLast hne] <;> rfl
      have h0 := trim_last tx hne
      rw [eL] at h0
      rw [makeMonic_eq hpr, eL]
      refine EvR.to (r := vP K (trim (poly.map fun n => inv prime (poly.getLast hne) * n % prime))) (evr_call (GS.mk prime poly (inv prime (poly.getLast hne))) ⟨by dsimp only; omega, by dsimp only; omega, rx.small (by omega)⟩ (evrs_cons (evr_var rfl rfl) (evrs_cons (evr_var rfl h_poly) (evrs_cons (evr_call (G2.mk prime (poly.getLast hne)) ⟨hpr, by dsimp only; omega, hb2.2⟩ (evrs_cons (evr_var rfl rfl) (evrs_cons (evr_op (evr_var rfl h_poly) ((evr_op (evr_lenR rfl (EvR.kP (evr_var rfl h_poly))) evr_c op_i0).eqI (y := ((poly.length - 1 : Nat) : Int)) (by omega)) (op_ixPn (by rw [← List.getLast?_eq_getElem?, List.getLast?_eq_some_getLast hne]))) evrs_nil))) evrs_nil)))) fun v H1 e1 hv => ?_
      rw [scale_map rx tx]
      exact hv
    · have hz : poly = [] := of_decide_eq_true (by simpa using hb)
      have e : makeMonic prime poly = [] := by
        rw [hz]
        rfl
      rw [e]
      exact evr_disp (ns := []) evrs_nil (by decide)
end
end K0
namespace Kt
open PySem PySem.Spec PyProof.Rows L2
open Evl (Ex Ev EvL EvU EvT EvA EvO ex_l ex_t sq_of st_of sz_of sz_lt fresh_back given)
section
variable {K : PySem.W.Frag} {σ : L2.St} {H : Hp} {te tf : TE} {D : Ends} {tz : TS} {i j : Nat} {x : Int} {ns : List Int}
theorem qr_parLI (h : EvL te σ H (ns.map V.int)) (h2 : EvR tf σ H (vI x)) (k : ∀ p H1, H p = none → Ex H H1 → H1 p = some (.lst (ns.map V.int)) → tz D ((σ.set i (some (.ref p))).set j (some (.int x))) H1) : tSeq (tPar i j (tCons te (tCons tf tNil))) tz D σ H :=
  h H (Ex.refl H) _ fun p H1 hp e1 h1 => h2 H1 e1 _ fun v H2 e2 hv => by
    have hv' : v = .int x := hv
    subst hv'
    exact ⟨.ref p, .int x, rfl, k p H2 hp (e1.trans e2) (e2 _ _ h1)⟩
end
end Kt
namespace K0
open PySem PySem.Spec PyProof.Rows L2 Kt M
open Evl (Ex Ev EvL EvU EvT EvA EvO ex_l ex_t sq_of st_of sz_of sz_lt fresh_back given)
theorem top_kill {p u lead : Int} (hu : u * lead % p = 1) (x : Int) : (x - x * u % p * lead) % p = 0 := by
  rw [Int.sub_emod, Int.mul_emod, Int.emod_emod, ← Int.mul_emod, Int.mul_assoc, Int.mul_emod, hu]
  simp
theorem trim_low {rs : List Int} {L : Nat} (h : ∀ k, L ≤ k → (co rs).c k = 0) : (trim rs).length ≤ L := by
  refine Nat.le_of_not_lt fun hlt => ?_
  have hne : trim rs ≠ [] := fun z => by
    rw [z] at hlt
    cases hlt
  refine trim_last (trim_trim rs) hne ?_
  rw [lastD_co hne, co_trim]
  exact h _ (by omega)
theorem Red.set {p : Int} {rs : List Int} (h : Red p rs) {k : Nat} {x : Int} (hx : 0 ≤ x ∧ x < p) : Red p (rs.set k x) := fun n hn => by
  rcases List.mem_or_eq_of_mem_set hn with h1 | h1
  · exact h n h1
  · rw [h1]
    exact hx
theorem red_at0 {p : Int} (hp : 0 < p) {rs : List Int} (h : Red p rs) {k : Nat} (hz : (co rs).c k % p = 0) : (co rs).c k = 0 := by
  have := h.co hp k
  rwa [Int.emod_eq_of_lt this.1 this.2] at hz
/-- one turn of the law's division -/
theorem turn_top {p u : Int} (hp : 0 < p) {ys rs rs2 : List Int} {s : Nat} (hne : ys ≠ []) (hu : u * ys.getLastD 0 % p = 1) (hr2 : Red p rs2) (hz : ∀ k, s + ys.length ≤ k → (co rs).c k = 0)
    (h : MEq p (co rs) (co rs2 + ⟨cst ((co rs).c (s + ys.length - 1) * u % p)⟩ * Xp s * co ys)) : ∀ k, s + ys.length - 1 ≤ k → (co rs2).c k = 0 := by
  intro k hk
  have hl := List.length_pos_iff.mpr hne
  apply red_at0 hp hr2
  have hc := h.c k
  rw [show (⟨cst ((co rs).c (s + ys.length - 1) * u % p)⟩ : PS) * Xp s * co ys = ⟨cst ((co rs).c (s + ys.length - 1) * u % p)⟩ * (Xp s * co ys) by grind, PS.add_c, cst_c, Xp_c] at hc
  have e : (sh s (co ys)).c k = (co ys).c (k - s) := by
    show (if k < s then 0 else (co ys).c (k - s)) = _
    rw [if_neg (by omega)]
  rw [e] at hc
  by_cases h1 : k = s + ys.length - 1
  · subst h1
    rw [lastD_co hne] at hu
    rw [show s + ys.length - 1 - s = ys.length - 1 by omega] at hc
    have z := top_kill hu ((co rs).c (s + ys.length - 1))
    have z2 : (co rs2).c (s + ys.length - 1) % p = ((co rs).c (s + ys.length - 1) - (co rs).c (s + ys.length - 1) * u % p * (co ys).c (ys.length - 1)) % p := by
      rw [Int.sub_emod, hc, ← Int.sub_emod]
      congr 1
      omega
    rw [z2, z]
  · rw [hz k (by omega), co_far (xs := ys) (by omega), Int.mul_zero, Int.add_zero] at hc
    rw [← hc]
    rfl
section
variable {P : Program} {w : World} {K : PySem.W.Frag} {mg : Str → Option Value} {base : Heap}
def DivPre2 (g : GQ) : Prop := Pr g.p ∧ Red g.p g.xs ∧ Red g.p g.ys ∧ trim g.ys = g.ys ∧ g.ys ≠ [] ∧ g.xs.length ≤ 1000 ∧ g.ys.length ≤ 1000
def sp__law_po_division (K : PySem.W.Frag) : Sp := Con (G := GQ) DivPre2 (fun g => [vI g.p, vP K g.xs, vP K g.ys]) (fun g => vT K [vP K (divide g.p g.xs g.ys).1, vP K (divide g.p g.xs g.ys).2])
abbrev s__law_po_division : Stmt := topS 68
abbrev N__law_po_division : List Str := ["prime", "one", "other", "rest", "size", "found", "head", "at", "spot", "factor", "to", "b"]
theorem sc__law_po_division : FnScope N__law_po_division ["prime", "one", "other"] (defScope s__law_po_division) := ⟨rfl, rfl, rfl, by decide +kernel, rfl, by decide +kernel, by decide +kernel⟩
theorem ok__law_po_division {f : Addr} {fd : FuncData} (F : Fun K "_law_po_division" "_law_po_division" s__law_po_division f fd) (B : Bis mg)  (D__law_po_inverse : De P w K mg base "_law_po_inverse" ["prime", "number"] 1 (sp__law_po_inverse K)) (D__law_po_cut : De P w K mg base "_law_po_cut" ["numbers"] 1 (sp__law_po_cut K)) : FnOk P w K mg base CX0 2 f fd ["prime", "one", "other"] (sp__law_po_division K) := by
  refine F.ok sc__law_po_division (fun vs H Q E h => ?_) (fun cdv A outer s H vs Q E hr h => ?_)
  · obtain ⟨g, _, ha, _⟩ := h
    exact ha.len
  · obtain ⟨⟨prime, one, other⟩, ⟨hpr, rx, ry, ty, hne, lx, ly⟩, ⟨_, _, rfl, rfl, ⟨v_one, _, rfl, h_one, ⟨v_other, _, rfl, h_other, rfl⟩⟩⟩, q⟩ := h
    dsimp only at *
    refine ⟨_, (pss_cons (ps_par (i := 3) (j := 4) (by rfl) sc__law_po_division.nd rfl rfl (by decide) rfl rfl (pa_cons (pe_callTy call_list_of (by rfl) (B "list" (by decide +kernel)) (by decide +kernel) (pa_cons (pv 1) pa_nil)) (pa_cons (pe_callB call_len_seq (by rfl) (B "len" (by decide +kernel)) (by decide +kernel) (pa_cons (pv 2) pa_nil)) pa_nil)) (by rfl))
      (pss_cons (ps_set (i := 5) sc__law_po_division.nd rfl (Or.inl rfl) (pe_op op_rep (pe_lst (pa_cons pe_int pa_nil)) (pe_callB (call_max2 rfl) (by rfl) (B "max" (by decide +kernel)) (by decide +kernel) (pa_cons pe_int (pa_cons (pe_op op_add (pe_op op_sub (pe_callB call_len_seq (by rfl) (B "len" (by decide +kernel)) (by decide +kernel) (pa_cons (pv 3) pa_nil)) (pv 4)) pe_int) pa_nil)))))
      (pss_cons (ps_set (i := 6) sc__law_po_division.nd rfl (Or.inl rfl) (pe_call D__law_po_inverse.ok (hr.mono (by decide)) (by rfl) D__law_po_inverse.g D__law_po_inverse.kp D__law_po_inverse.b .nil pass0 (pa_cons (pv 0) (pa_cons (pe_ix (r := rIxT K) ix_tup (pv 2) (pe_op op_sub (pv 4) pe_int) (fun _ _ => rfl)) pa_nil))))
      (pss_cons (ps_for PassesOwn.never rfl (pi_range1 (by rfl) (B "range" (by decide +kernel)) (pa_cons (pe_callB call_len_seq (by rfl) (B "len" (by decide +kernel)) (by decide +kernel) (pa_cons (pv 5) pa_nil)) pa_nil)) (pg_name (i := 7) sc__law_po_division.nd rfl (Or.inl rfl)) (pss_cons (ps_set (i := 8) sc__law_po_division.nd rfl (Or.inl rfl) (pe_op op_sub (pe_op op_sub (pe_callB call_len_seq (by rfl) (B "len" (by decide +kernel)) (by decide +kernel) (pa_cons (pv 5) pa_nil)) pe_int) (pv 7)))
      (pss_cons (ps_set (i := 9) sc__law_po_division.nd rfl (Or.inl rfl) (pe_op op_mod (pe_callTy call_int1 (by rfl) (B "int" (by decide +kernel)) (by decide +kernel) (pa_cons (pe_op op_mul (pe_ix (r := rIxL K) ix_list (pv 3) (pe_op op_sub (pe_op op_add (pv 8) (pv 4)) pe_int) (fun _ _ => rfl)) (pv 6)) pa_nil)) (pv 0)))
      (pss_cons (ps_asg (pv 9) (pg_sub (pv 5) (pv 8) set_list))
      (pss_one (ps_if (pt_cmpR op_ne (pv 9) pe_int (nomark _)) (pss_one (ps_for PassesOwn.never rfl (pi_enumK true (by rfl) (B "enumerate" (by decide +kernel)) (pa_cons (pv 2) pa_nil)) (pg_tup rfl (pgs_cons (pg_name (i := 10) sc__law_po_division.nd rfl (Or.inl rfl)) (pgs_cons (pg_name (i := 11) sc__law_po_division.nd rfl (Or.inl rfl)) pgs_nil))) (pss_one (ps_asg (pe_op op_mod (pe_callTy call_int1 (by rfl) (B "int" (by decide +kernel)) (by decide +kernel) (pa_cons (pe_op op_sub (pe_ix (r := rIxL K) ix_list (pv 3) (pe_op op_add (pv 8) (pv 10)) (fun _ _ => rfl)) (pe_op op_mul (pv 9) (pv 11))) pa_nil)) (pv 0)) (pg_sub (pv 3) (pe_op op_add (pv 8) (pv 10)) set_list))))) pss_nil))))))
      (pss_one (ps_ret (pe_tup (pa_cons (pe_call D__law_po_cut.ok (hr.mono (by decide)) (by rfl) D__law_po_cut.g D__law_po_cut.kp D__law_po_cut.b .nil pass0 (pa_cons (pv 5) pa_nil)) (pa_cons (pe_call D__law_po_cut.ok (hr.mono (by decide)) (by rfl) D__law_po_cut.g D__law_po_cut.kp D__law_po_cut.b .nil pass0 (pa_cons (pv 3) pa_nil)) pa_nil))))))))), ?_⟩
    have hle := hpr.le
    have hp0 : 0 < prime := by omega
    have hinv := Inv.mk' hpr ry ty hne
    have hpos := List.length_pos_iff.mpr hne
    have hlast := ry _ (List.getLast_mem hne)
    have eL : other.getLastD 0 = other.getLast hne := by rw [List.getLastD_eq_getLast?, List.getLast?_eq_some_getLast hne] <;> rfl
    have h0 := trim_last ty hne
    rw [eL] at h0
    refine qr_parLI (el_listK rfl (EvR.kP (evr_var rfl h_one))) (evr_lenR rfl (EvR.kP (evr_var rfl h_other))) fun l1 H1 n1 e1 hA => ?_
    refine Evl.q_asgL (xs := (List.replicate (one.length + 1 - other.length) 0).map V.int) ?_ fun l2 H2 n2 e2 hB => ?_
    · rw [show one.length + 1 - other.length = (max (0 : Int) ((one.length : Int) - (other.length : Int) + 1)).toNat by omega]
      exact el_rep1 (el_dispI (evrs_cons evr_c evrs_nil) (by decide)) (evr_cb (evrs_cons evr_c (evrs_cons (evr_op (evr_op (evr_lenR rfl (EvR.kL (evr_mut rfl hA))) (evr_var rfl rfl) op_i0) evr_c op_i0) evrs_nil)) (cb_max rfl)) (by omega)
    generalize hn : one.length + 1 - other.length = n at hB
    have hl12 : l1 ≠ l2 := fun z => by
      rw [← z, hA] at n2
      cases n2
    have n2' : H l2 = none := fresh_back e1 n2
    have e02 : Ex H H2 := e1.trans e2
    refine qr_asg (r := vI (inv prime (other.getLastD 0))) (by
      rw [eL]
      exact evr_call (G2.mk prime (other.getLast hne)) ⟨hpr, by dsimp only; omega, hlast.2⟩ (evrs_cons (evr_var rfl rfl) (evrs_cons (evr_op (evr_var rfl ((vP K other).st e02 h_other)) ((evr_op (evr_var rfl rfl) evr_c op_i0).eqI (y := ((other.length - 1 : Nat) : Int)) (by omega)) (op_ixPn (by rw [← List.getLast?_eq_getElem?, List.getLast?_eq_some_getLast hne]))) evrs_nil))) fun v H3 e3 hv => ?_
    obtain rfl := hv
    have hu := hinv.2
    have hub := inv_bd (n := other.getLastD 0) hp0
    generalize inv prime (other.getLastD 0) = u at hu hub
    refine Evl.q_forR1 (n := (n : Int)) (fun H4 e4 Q q => evr_lenR (K := K) (ns := List.replicate n 0) rfl (EvR.kL (evr_mut (l := l2) rfl (e4 _ _ (e3 _ _ hB)))) H4 (Ex.refl H4) _ fun v H5 e5 hv => by
        have hv' : v = .int ((List.replicate n (0 : Int)).length : Int) := hv
        rw [List.length_replicate] at hv'
        subst hv'
        exact q H5 e5) (by omega)
      (fun i σ' H' => ∃ rs fs x7 x8 x9 x10 x11, σ' = [some (.int prime), some v_one, some v_other, some (.ref l1), some (.int (other.length : Int)), some (.ref l2), some (.int u), x7, x8, x9, x10, x11] ∧ Ex H H' ∧ H' l1 = some (.lst (rs.map V.int)) ∧ H' l2 = some (.lst (fs.map V.int)) ∧
        rs.length = one.length ∧ fs.length = n ∧ Red prime rs ∧ Red prime fs ∧ (∀ k, n - i + other.length - 1 ≤ k → (co rs).c k = 0) ∧ (∀ k, k < n - i → (co fs).c k = 0) ∧ MEq prime (co one) (co fs * co other + co rs)) ?_ ?_ ?_
    · intro H4 e4
      refine ⟨one, List.replicate n 0, none, none, none, none, none, rfl, (e02.trans e3).trans e4, e4 _ _ (e3 _ _ (e2 _ _ hA)), e4 _ _ (e3 _ _ hB), rfl, List.length_replicate, rx, fun m hm => ?_, fun k hk => co_far (by omega), fun k hk => ?_, .of ?_⟩
      · obtain ⟨_, rfl⟩ := List.mem_replicate.mp hm
        omega
      · rw [co_zeros]
        exact PS.cst0 k
      · rw [co_zeros]
        grind
    · rintro i σ' H' hi ⟨rs, fs, x7, x8, x9, x10, x11, rfl, e', hR, hF, lR, lF, rR, rF, zR, zF, hM⟩
      have hin : i < n := by omega
      refine qr_asg (r := vI ((n - 1 - i : Nat) : Int)) ((evr_op (evr_op (evr_lenR rfl (EvR.kL (evr_mut rfl hF))) evr_c op_i0) (evr_var rfl rfl) op_i0).eqI (by omega)) fun v H4 e4 hv => ?_
      obtain rfl := hv
      generalize hs : n - 1 - i = s
      have hsn : s < n := by omega
      have hsl : s + other.length - 1 < rs.length := by omega
      have hget : rs[s + other.length - 1]? = some ((co rs).c (s + other.length - 1)) := by
        rw [co_near hsl]
        exact List.getElem?_eq_getElem hsl
      have hR4 := e4 _ _ hR
      have hcb := rR.co hp0 (s + other.length - 1)
      refine qr_asg (r := vI ((co rs).c (s + other.length - 1) * u % prime)) (evr_op (evr_int1 rfl (evr_op (evr_op (evr_mut rfl hR4) ((evr_op (evr_op (evr_var rfl rfl) (evr_var rfl rfl) op_i0) evr_c op_i0).eqI (y := ((s + other.length - 1 : Nat) : Int)) (by omega)) (op_ixLn hget)) (evr_var rfl rfl) (op_i (.inl (by omega))))) (evr_var rfl rfl) (op_i hp0)) fun v H5 e5 hv => ?_
      obtain rfl := hv
      have hz0 : ∀ k, s + other.length ≤ k → (co rs).c k = 0 := fun k hk => zR k (by omega)
      have htop := fun rs2 => turn_top (rs := rs) (rs2 := rs2) (s := s) hp0 hne hu
      have hf0 := Int.emod_nonneg ((co rs).c (s + other.length - 1) * u) (by omega : prime ≠ 0)
      have hf1 := Int.emod_lt_of_pos ((co rs).c (s + other.length - 1) * u) hp0
      generalize (co rs).c (s + other.length - 1) * u % prime = f at htop hf0 hf1
      have hF5 := e5 _ _ (e4 _ _ hF)
      have hR5 := e5 _ _ hR4
      have hsF : s < fs.length := by omega
      have hFs : fs[s] = 0 := by
        rw [← co_near hsF]
        exact zF s (by omega)
      refine qr_set (n := s) hF5 (evr_var rfl rfl) (evr_var rfl rfl) (evr_var rfl rfl) hsF fun H6 e6 => ?_
      have hn1 : H l1 = none := n1
      have eB : Ex H (upd H6 l2 (.lst ((fs.set s f).map V.int))) := Ex.mut (((e'.trans e4).trans e5).trans e6) n2'
      have hR7 : (upd H6 l2 (.lst ((fs.set s f).map V.int))) l1 = some (.lst (rs.map V.int)) := by
        rw [upd_ne hl12]
        exact e6 _ _ hR5
      have hF7 : (upd H6 l2 (.lst ((fs.set s f).map V.int))) l2 = some (.lst ((fs.set s f).map V.int)) := upd_same
      generalize (upd H6 l2 (.lst ((fs.set s f).map V.int))) = H7 at eB hR7 hF7
      have lF7 : (fs.set s f).length = n := by rw [List.length_set]; exact lF
      have rF7 : Red prime (fs.set s f) := rF.set ⟨hf0, hf1⟩
      have zF7 : ∀ k, k < n - (i + 1) → (co (fs.set s f)).c k = 0 := fun k hk => by
        rw [co_set hsF, PS.add_c, cst_c, zF k (by omega)]
        show 0 + _ * (if k = s then (1 : Int) else 0) = 0
        rw [if_neg (by omega), Int.mul_zero]
        rfl
      have cF7 : co (fs.set s f) = co fs + ⟨cst f⟩ * Xp s := by
        rw [co_set hsF, hFs, Int.sub_zero]
      have hidx : n - (i + 1) + other.length - 1 = s + other.length - 1 := by omega
      refine Evl.s_when (b := !decide (V.int f = V.int 0)) (et_r (evr_op (evr_var rfl rfl) evr_c (op_neS rfl))) (fun hb H8 e8 => ?_) (fun hb H8 e8 => ?_)
      · refine sr_enumT (evrs_cons (evr_var rfl ((vP K other).st (eB.trans e8) h_other)) evrs_nil) (fun v2 j σ' H' => (vP K other).R v2 H' ∧ Ex H H' ∧ ∃ rs2 x10 x11, σ' = [some (.int prime), some v_one, some v_other, some (.ref l1), some (.int (other.length : Int)), some (.ref l2), some (.int u), some (.int (i : Int)), some (.int (s : Int)), some (.int f), x10, x11] ∧ H' l1 = some (.lst (rs2.map V.int)) ∧ H' l2 = some (.lst ((fs.set s f).map V.int)) ∧
          rs2.length = one.length ∧ Red prime rs2 ∧ MEq prime (co rs) (co rs2 + ⟨cst f⟩ * Xp s * co (other.take j))) ?_ (fun v2 m σ' H' p => p.1) ?_ ?_
        · intro v2 H9 e9 hv2
          refine ⟨hv2, (eB.trans e8).trans e9, rs, x10, x11, rfl, e9 _ _ (e8 _ _ hR7), e9 _ _ (e8 _ _ hF7), lR, rR, .of ?_⟩
          rw [List.take_zero, co_nil]
          grind
        · rintro v2 j y σ' H' H9 hy ⟨hv2, e9, rs2, x10, x11, rfl, hR2, hF2, lR2, rR2, hM2⟩ e10
          obtain ⟨hj, hjy⟩ := List.getElem?_eq_some_iff.mp hy
          have hsj : s + j < rs2.length := by omega
          have hR3 := e10 _ _ hR2
          have hr2 := rR2 _ (List.getElem_mem hsj)
          refine sr_set (n := s + j) (x := (rs2[s + j] - f * y) % prime) hR3 (evr_op (evr_int1 rfl (evr_op (evr_op (evr_mut rfl hR3) (evr_op (evr_var rfl rfl) (evr_var rfl rfl) op_i0) (op_ixLn (n := s + j) (List.getElem?_eq_getElem hsj))) (evr_op (evr_var rfl rfl) (evr_var rfl rfl) (op_i (.inl (by omega)))) op_i0)) (evr_var rfl rfl) (op_i hp0)) (evr_var rfl rfl) ((evr_op (evr_var rfl rfl) (evr_var rfl rfl) op_i0).eqI (by omega)) hsj fun H11 e11 => ?_
          have e1011 := e10.trans e11
          refine ⟨vP_upd ((vP K other).st e1011 hv2) (e11 _ _ hR3), Ex.mut (e9.trans e1011) hn1, _, _, _, rfl, upd_same, ?_, by rw [List.length_set]; exact lR2, rR2.set ⟨Int.emod_nonneg _ (by omega), Int.emod_lt_of_pos _ hp0⟩, ?_⟩
          · rw [upd_ne (Ne.symm hl12)]
            exact e1011 _ _ hF2
          · refine hM2.trans ?_
            have key : MEq prime (co rs2) (co (rs2.set (s + j) ((rs2[s + j] - f * y) % prime)) + ⟨cst (f * y)⟩ * Xp (s + j)) := .ofc fun k => by
              rw [co_set hsj, PS.add_c, PS.add_c, cst_c, cst_c]
              show _ = ((co rs2).c k + _ * (if k = s + j then (1 : Int) else 0) + _ * (if k = s + j then (1 : Int) else 0)) % prime
              by_cases hk : k = s + j
              · subst hk
                rw [if_pos rfl, co_near hsj, Int.mul_one, Int.mul_one]
                rw [show rs2[s + j] + ((rs2[s + j] - f * y) % prime - rs2[s + j]) + f * y = (rs2[s + j] - f * y) % prime + f * y by omega, Int.emod_add_emod]
                congr 1
                omega
              · rw [if_neg hk, Int.mul_zero, Int.mul_zero, Int.add_zero, Int.add_zero]
            obtain ⟨a, ha⟩ := key
            refine ⟨a, ?_⟩
            rw [co_take hy]
            rw [Xp_add, cst_mul2] at ha
            grind
        · rintro v2 σ' H' ⟨hv2, e9, rs2, x10, x11, rfl, hR2, hF2, lR2, rR2, hM2⟩
          rw [List.take_length] at hM2
          refine ⟨rs2, fs.set s f, _, _, _, x10, x11, rfl, e9, hR2, hF2, lR2, lF7, rR2, rF7, ?_, zF7, ?_⟩
          · rw [hidx]
            exact htop rs2 rR2 hz0 hM2
          · refine hM.trans ?_
            obtain ⟨a, ha⟩ := hM2
            refine ⟨a, ?_⟩
            rw [cF7]
            grind
      · have hx0 : f = 0 := by
          have := of_decide_eq_true (by simpa using hb : decide (V.int f = V.int 0) = true)
          exact V.int.inj this
        refine ⟨rs, fs.set s f, _, _, _, x10, x11, rfl, eB.trans e8, e8 _ _ hR7, e8 _ _ hF7, lR, lF7, rR, rF7, ?_, zF7, ?_⟩
        · rw [hidx]
          refine htop rs rR hz0 (.of ?_)
          rw [hx0]
          have := cst0_mul (Xp s)
          grind
        · refine hM.trans (.of ?_)
          rw [cF7, hx0]
          have := cst0_mul (Xp s)
          grind
    · rintro σ' H' ⟨rs, fs, x7, x8, x9, x10, x11, rfl, e', hR, hF, lR, lF, rR, rF, zR, zF, hM⟩
      rw [Int.toNat_natCast] at zR
      have hlow := trim_low (rs := rs) (L := other.length - 1) fun k hk => zR k (by omega)
      have hd := divide_is hp0 rx hinv rF.trim rR.trim (trim_trim fs) (trim_trim rs) (by omega) (by rw [co_trim, co_trim]; exact hM)
      rw [hd] at q
      refine sr_ret (evr_dispT (evrs_cons (evr_call fs (by show fs.length ≤ 40000; omega) (evrs_cons (evr_mut rfl hF) evrs_nil)) (evrs_cons (evr_call rs (by show rs.length ≤ 40000; omega) (evrs_cons (evr_mut rfl hR) evrs_nil)) evrs_nil)) (Nat.le_of_ble_eq_true rfl)) fun v H6 e6 hv => q v H6 (e'.trans e6) hv
end
end K0
namespace K0
open PySem PySem.Spec PyProof.Rows L2 Kt M
open Evl (Ex Ev EvL EvU EvT EvA EvO ex_l ex_t sq_of st_of sz_of sz_lt fresh_back given)
def lawIter (p : Int) : Nat → List Int → List Int → List Int
  | 0, xs, _ => makeMonic p xs
  | n + 1, xs, ys => if ys = [] then makeMonic p xs else lawIter p n ys (divide p xs ys).2
theorem lawIter_more (p : Int) : ∀ (n m : Nat) (xs ys : List Int), ys.length < n → ys.length < m → lawIter p n xs ys = lawIter p m xs ys
  | 0, _, _, _, h, _ => by omega
  | _ + 1, 0, _, _, _, h => by omega
  | n + 1, m + 1, xs, ys, h1, h2 => by
    rw [lawIter, lawIter]
    by_cases hy : ys = []
    · rw [if_pos hy, if_pos hy]
    · rw [if_neg hy, if_neg hy]
      have := divide_len2 p xs hy
      rw [lawIter_more p n m ys (divide p xs ys).2 (by omega) (by omega)]
theorem monic_one {p : Int} (hp : Pr p) {ys : List Int} (hr : Red p ys) (ht : trim ys = ys) (h1 : ys.length = 1) : makeMonic p ys = [1] := by
  have hle := hp.le
  have hne : ys ≠ [] := fun z => by
    rw [z] at h1
    cases h1
  have ml := monic_len (Inv.mk' hp hr ht hne)
  have mr := scale_red (by omega : 0 < p) hr (inv p (ys.getLastD 0))
  rw [← makeMonic_eq hp] at ml mr
  rw [h1] at ml
  obtain ⟨l1, l2⟩ := ml
  match hm : makeMonic p ys with
  | [] =>
    rw [hm] at l1
    cases l1
  | [c] =>
    rw [hm] at l2 mr
    have l2' : c % p = 1 := l2
    have := mr c List.mem_cons_self
    rw [Int.emod_eq_of_lt this.1 this.2] at l2'
    rw [l2']
  | c :: d :: r =>
    rw [hm] at l1
    simp at l1
theorem comIter_law {p : Int} (hp : Pr p) : ∀ (n : Nat) (xs ys : List Int), ys.length < n → Red p xs → Red p ys → trim ys = ys → comIter p n xs ys = lawIter p n xs ys
  | 0, _, _, h, _, _, _ => by omega
  | n + 1, xs, ys, h, rx, ry, ty => by
    have hle := hp.le
    rw [comIter, lawIter]
    by_cases hy : ys = []
    · rw [if_pos hy, if_pos hy]
    · rw [if_neg hy, if_neg hy]
      have hlt := divide_len2 p xs hy
      by_cases h1 : ys.length = 1
      · rw [if_pos h1]
        have hz : (divide p xs ys).2 = [] := List.eq_nil_of_length_eq_zero (by omega)
        rw [hz]
        cases n with
        | zero => omega
        | succ n =>
          rw [lawIter, if_pos rfl, monic_one hp ry ty h1]
      · rw [if_neg h1]
        exact comIter_law hp n ys _ (by omega) ry (divide_red (by omega) ys rx).2 (divide_trim p xs ys).2
section
variable {P : Program} {w : World} {K : PySem.W.Frag} {mg : Str → Option Value} {base : Heap}
def sp__law_po_common (K : PySem.W.Frag) : Sp := Con (G := GQ) (fun g => Pr g.p ∧ Red g.p g.xs ∧ Red g.p g.ys ∧ trim g.xs = g.xs ∧ trim g.ys = g.ys ∧ g.xs.length ≤ 1000 ∧ g.ys.length ≤ 1000) (fun g => [vI g.p, vP K g.xs, vP K g.ys]) (fun g => vP K (common g.p g.xs g.ys))
abbrev s__law_po_common : Stmt := topS 70
abbrev N__law_po_common : List Str := ["prime", "one", "other", "turn"]
theorem sc__law_po_common : FnScope N__law_po_common ["prime", "one", "other"] (defScope s__law_po_common) := ⟨rfl, rfl, rfl, by decide +kernel, rfl, by decide +kernel, by decide +kernel⟩
theorem ok__law_po_common {f : Addr} {fd : FuncData} (F : Fun K "_law_po_common" "_law_po_common" s__law_po_common f fd) (B : Bis mg)  (D__law_po_division : De P w K mg base "_law_po_division" ["prime", "one", "other"] 2 (sp__law_po_division K)) (D__law_po_monic : De P w K mg base "_law_po_monic" ["prime", "poly"] 3 (sp__law_po_monic K)) : FnOk P w K mg base CX0 4 f fd ["prime", "one", "other"] (sp__law_po_common K) := by
  refine F.ok sc__law_po_common (fun vs H Q E h => ?_) (fun cdv A outer s H vs Q E hr h => ?_)
  · obtain ⟨g, _, ha, _⟩ := h
    exact ha.len
  · obtain ⟨⟨prime, one, other⟩, ⟨hpr, rx, ry, tx, ty, lx, ly⟩, ⟨_, _, rfl, rfl, ⟨v_one, _, rfl, h_one, ⟨v_other, _, rfl, h_other, rfl⟩⟩⟩, q⟩ := h
    dsimp only at *
    refine ⟨_, (pss_cons (ps_for PassesOwn.never rfl (pi_range1 (by rfl) (B "range" (by decide +kernel)) (pa_cons (pe_op op_add (pe_op op_add (pe_callB call_len_seq (by rfl) (B "len" (by decide +kernel)) (by decide +kernel) (pa_cons (pv 1) pa_nil)) (pe_callB call_len_seq (by rfl) (B "len" (by decide +kernel)) (by decide +kernel) (pa_cons (pv 2) pa_nil))) pe_int) pa_nil)) (pg_name (i := 3) sc__law_po_common.nd rfl (Or.inl rfl)) (pss_cons (ps_if (pt_cmpR (op_eqD hr.units) (pv 2) (pe_tup pa_nil) (nomark _)) (pss_one ps_break) pss_nil)
      (pss_one (ps_par (i := 1) (j := 2) (by rfl) sc__law_po_common.nd rfl rfl (by decide) rfl rfl (pa_cons (pv 2) (pa_cons (pe_ix (r := rIxT K) ix_tup (pe_call D__law_po_division.ok (hr.mono (by decide)) (by rfl) D__law_po_division.g D__law_po_division.kp D__law_po_division.b .nil pass0 (pa_cons (pv 0) (pa_cons (pv 1) (pa_cons (pv 2) pa_nil)))) pe_int (fun _ _ => rfl)) pa_nil)) (by rfl)))))
      (pss_one (ps_ret (pe_call D__law_po_monic.ok (hr.mono (by decide)) (by rfl) D__law_po_monic.g D__law_po_monic.kp D__law_po_monic.b .nil pass0 (pa_cons (pv 0) (pa_cons (pv 1) pa_nil)))))), ?_⟩
    have hle := hpr.le
    have hp0 : 0 < prime := by omega
    have hq : common prime one other = lawIter prime (other.length + 1) one other := comIter_law hpr _ _ _ (by omega) rx ry ty
    rw [hq] at q
    refine Evl.q_forR1 (n := ((one.length + other.length + 2 : Nat) : Int)) (fun H1 e1 Q q => evr_op (evr_op (evr_lenR (K := K) rfl (EvR.kP (evr_var rfl h_one))) (evr_lenR (K := K) rfl (EvR.kP (evr_var rfl h_other))) op_i0) evr_c op_i0 H1 e1 _ fun v H2 e2 hv => by
        have hv' : v = .int ((one.length : Int) + (other.length : Int) + 2) := hv
        subst hv'
        exact q H2 e2) (by omega) (fun i σ' H' => ∃ a b va vb x3, σ' = [some (.int prime), some va, some vb, x3] ∧ Ex H H' ∧ (vP K a).R va H' ∧ (vP K b).R vb H' ∧ Red prime a ∧ Red prime b ∧ trim a = a ∧ trim b = b ∧ a.length ≤ 1000 ∧ b.length ≤ 1000 ∧ b.length ≤ other.length - i ∧ lawIter prime (b.length + 1) a b = lawIter prime (other.length + 1) one other) ?_ ?_ ?_
    · intro H1 e1
      exact ⟨one, other, v_one, v_other, none, rfl, e1, (vP K _).st e1 h_one, (vP K _).st e1 h_other, rx, ry, tx, ty, lx, ly, by omega, rfl⟩
    · rintro i σ' H' hi ⟨a, b, va, vb, x3, rfl, e', ha, hb, ra, rb, ta, tb, la, lb, lbi, hI⟩
      refine Evl.q_when (et_r (evr_op (evr_var rfl hb) (evr_disp (K := K) (ns := []) evrs_nil (by decide)) op_eqP)) (fun hc H1 e1 => ?_) (fun hc H1 e1 => ?_)
      · have hz : b = [] := of_decide_eq_true hc
        rw [hz, lawIter, if_pos rfl] at hI
        unfold tBreak
        dsimp only
        refine sr_ret (evr_call (GP.mk prime a) ⟨hpr, ra, ta, la⟩ (evrs_cons (evr_var rfl rfl) (evrs_cons (evr_var rfl ((vP K a).st e1 ha)) evrs_nil))) fun v H2 e2 hv => q v H2 ((e'.trans e1).trans e2) ?_
        rw [← hI]
        exact hv
      · have hne : b ≠ [] := of_decide_eq_false hc
        have hlt := divide_len2 prime a hne
        rw [lawIter, if_neg hne] at hI
        refine sr_par (evrs_cons (evr_var rfl ((vP K b).st e1 hb)) (evrs_cons (evr_ixT (i := 1) (r := vP K (divide prime a b).2) (evr_call (GQ.mk prime a b) ⟨hpr, ra, rb, tb, hne, la, lb⟩ (evrs_cons (evr_var rfl rfl) (evrs_cons (evr_var rfl ((vP K a).st e1 ha)) (evrs_cons (evr_var rfl ((vP K b).st e1 hb)) evrs_nil)))) evr_c rfl) evrs_nil)) fun u v H2 e2 hu hv => ?_
        refine ⟨b, (divide prime a b).2, u, v, _, rfl, (e'.trans e1).trans e2, hu, hv, rb, (divide_red hp0 b ra).2, tb, (divide_trim prime a b).2, lb, by omega, by omega, ?_⟩
        rw [← hI]
        exact lawIter_more prime _ _ _ _ (by omega) (by omega)
    · rintro σ' H' ⟨a, b, va, vb, x3, rfl, e', ha, hb, ra, rb, ta, tb, la, lb, lbi, hI⟩
      have hz : b = [] := List.eq_nil_of_length_eq_zero (by omega)
      rw [hz, lawIter, if_pos rfl] at hI
      refine sr_ret (evr_call (GP.mk prime a) ⟨hpr, ra, ta, la⟩ (evrs_cons (evr_var rfl rfl) (evrs_cons (evr_var rfl ha) evrs_nil))) fun v H2 e2 hv => q v H2 (e'.trans e2) ?_
      rw [← hI]
      exact hv
end
end K0
namespace K0
open M
/-! ### what a paper is worth -/
def Po (f : PS) : Prop := ∃ l : List Int, f = co l
theorem Po.of (l : List Int) : Po (co l) := ⟨l, rfl⟩
theorem Po.mul {f g : PS} : Po f → Po g → Po (f * g) := fun ⟨a, ha⟩ ⟨b, hb⟩ => ⟨conv a b, by rw [co_conv, ha, hb]⟩
theorem Po.add {f g : PS} : Po f → Po g → Po (f + g) := fun ⟨a, ha⟩ ⟨b, hb⟩ => ⟨addL a b, by rw [co_addL, ha, hb]⟩
theorem Po.cst (n : Int) : Po ⟨cst n⟩ := ⟨[n], by
  rw [co_cons, co_nil]
  grind⟩
theorem Po.neg {f : PS} (h : Po f) : Po (-f) := by
  have z := (Po.cst (-1)).mul h
  have e : (⟨M.cst (-1)⟩ : PS) * f = -f := by
    ext k
    rw [cst_c]
    show -1 * f.c k = -f.c k
    omega
  rw [e] at z
  exact z
theorem Po.sub {f g : PS} (h : Po f) (h2 : Po g) : Po (f - g) := by
  have z := h.add h2.neg
  have e : f + -g = f - g := by grind
  rw [e] at z
  exact z
theorem Po.zero : Po 0 := ⟨[], co_nil.symm⟩
theorem Po.one : Po 1 := ⟨[1], co_one.symm⟩
/-- a division that goes out -/
theorem exact_div {p : Int} (hp : 0 < p) {xs ys : List Int} {T : PS} (hx : Red p xs) (hy : Inv p ys) (hT : Po T) (h : MEq p (co xs) (T * co ys)) : MEq p (co xs) (co (divide p xs ys).1 * co ys) := by
  obtain ⟨t, rfl⟩ := hT
  have hd := co_divide hp hx hy
  have hl := List.length_pos_iff.mpr hy.1
  have z := div_uniq (q := (divide p xs ys).1) (r := (divide p xs ys).2) (q2 := t) (r2 := []) hy (divide_len2 p xs hy.1) (by rw [List.length_nil]; exact hl) (hd.symm.trans (h.trans (.of (by rw [co_nil]; grind))))
  obtain ⟨a, ha⟩ := h
  obtain ⟨b, hb⟩ := z.1
  exact ⟨a - b * co ys, by grind⟩
/-- the last row of Euclid's walk divides both -/
theorem tr_div {p : Int} (hp : Pr p) : ∀ (n : Nat) (old new left right : List Int), new.length < n → Red p old → Red p new → trim new = new →
    ∃ a b : PS, Po a ∧ Po b ∧ MEq p (co old) (a * co (trIter p n old new left right).1) ∧ MEq p (co new) (b * co (trIter p n old new left right).1)
  | 0, _, _, _, _, h, _, _, _ => by omega
  | n + 1, old, new, left, right, h, ro, rn, tn => by
    have hle := hp.le
    rw [trIter]
    by_cases hy : new = []
    · rw [if_pos hy]
      refine ⟨1, 0, Po.one, Po.zero, .of (by grind), .of ?_⟩
      rw [hy, co_nil]
      grind
    · rw [if_neg hy]
      have hi := Inv.mk' hp rn tn hy
      have hlt := divide_len2 p old hy
      obtain ⟨a, b, pa, pb, ha, hb⟩ := tr_div hp n new (divide p old new).2 right (addScaled p left (prod p (divide p old new).1 right) (-1)) (by omega) rn (divide_red (by omega) new ro).2 (divide_trim p old new).2
      refine ⟨co (divide p old new).1 * a + b, a, ((Po.of _).mul pa).add pb, pa, ?_, ha⟩
      refine (co_divide (by omega) ro hi).trans ?_
      obtain ⟨x, hx⟩ := ha
      obtain ⟨y, hy2⟩ := hb
      generalize (trIter p n new (divide p old new).2 right (addScaled p left (prod p (divide p old new).1 right) (-1))).1 = g at hx hy2
      exact ⟨co (divide p old new).1 * x + y, by grind⟩
theorem tr_bez {p : Int} (hp : Pr p) (xs ys : List Int) : ∀ (n : Nat) (old new left right : List Int), new.length < n → Red p old → Red p new → trim new = new →
    (∃ t, Po t ∧ MEq p (co left * co xs + t * co ys) (co old)) → (∃ t, Po t ∧ MEq p (co right * co xs + t * co ys) (co new)) →
    ∃ t, Po t ∧ MEq p (co (trIter p n old new left right).2 * co xs + t * co ys) (co (trIter p n old new left right).1)
  | 0, _, _, _, _, h, _, _, _, _, _ => by omega
  | n + 1, old, new, left, right, h, ro, rn, tn, h1, h2 => by
    have hle := hp.le
    rw [trIter]
    by_cases hy : new = []
    · rw [if_pos hy]
      exact h1
    · rw [if_neg hy]
      have hi := Inv.mk' hp rn tn hy
      have hlt := divide_len2 p old hy
      refine tr_bez hp xs ys n new _ right _ (by omega) rn (divide_red (by omega) new ro).2 (divide_trim p old new).2 h2 ?_
      obtain ⟨t, pt, a, ha⟩ := h1
      obtain ⟨s, ps, b, hb⟩ := h2
      obtain ⟨c, hc⟩ := co_divide (by omega : 0 < p) ro hi
      obtain ⟨d, hd⟩ := co_addScaled (p := p) left (prod p (divide p old new).1 right) (-1)
      obtain ⟨e, he⟩ := co_prod (p := p) (divide p old new).1 right
      refine ⟨t - co (divide p old new).1 * s, pt.sub ((Po.of _).mul ps), ?_⟩
      have em : (⟨cst (-1)⟩ : PS) = -1 := by
        ext k
        cases k <;> rfl
      rw [em] at hd
      generalize addScaled p left (prod p (divide p old new).1 right) (-1) = A at hd ⊢
      generalize prod p (divide p old new).1 right = B at hd he
      refine ⟨a + d * co xs - e * co xs - co (divide p old new).1 * b + c, ?_⟩
      grind
theorem tr_monic {p : Int} : ∀ (n : Nat) (old new left right : List Int), makeMonic p (trIter p n old new left right).1 = lawIter p n old new
  | 0, _, _, _, _ => rfl
  | n + 1, old, new, left, right => by
    rw [trIter, lawIter]
    by_cases hy : new = []
    · rw [if_pos hy, if_pos hy]
    · rw [if_neg hy, if_neg hy]
      exact tr_monic n _ _ _ _
theorem tr_red {p : Int} (hp : Pr p) (N M : Nat) : ∀ (n : Nat) (old new left right : List Int), new.length < n → TrI p N M old new left right → TrI p N M (trIter p n old new left right).1 [] (trIter p n old new left right).2 [] ∨ ∃ r, TrI p N M (trIter p n old new left right).1 [] (trIter p n old new left right).2 r
  | 0, _, _, _, _, h, _ => by omega
  | n + 1, old, new, left, right, h, hT => by
    rw [trIter]
    by_cases hy : new = []
    · rw [if_pos hy]
      subst hy
      exact .inr ⟨right, hT⟩
    · rw [if_neg hy]
      have hlt := divide_len2 p old hy
      exact tr_red hp N M n _ _ _ _ (by omega) (hT.step hp hy)
/-- what the law asks of a paper -/
structure PaperOk (p : Int) (xs ys : List Int) (t : T3) : Prop where
  c : t.c = common p xs ys
  rc : Red p t.c
  tc : trim t.c = t.c
  ra : Red p t.a
  ta : trim t.a = t.a
  rb : Red p t.b
  tb : trim t.b = t.b
  made : addScaled p (prod p t.a xs) (prod p t.b ys) 1 = t.c
  e1 : xs = [] → t.a = []
  e2 : ys = [] → t.b = []
  len : xs ≠ [] → ys ≠ [] → t.a.length + t.c.length ≤ ys.length
  la : t.a.length ≤ 1 + ys.length
  lb : t.b.length ≤ xs.length + 2 * ys.length + 2
  lc : t.c.length ≤ xs.length + ys.length + 1
theorem divide_nil {p : Int} {ys : List Int} (h : ys ≠ []) : divide p [] ys = ([], []) := by
  have hl := List.length_pos_iff.mpr h
  unfold divide
  rw [show ([] : List Int).length + 1 - ys.length = 0 by rw [List.length_nil]; omega]
  rfl
theorem trI_nil_left {p : Int} {ys : List Int} (h : ys ≠ []) : (trIter p (ys.length + 1) [] ys [1] []).2 = [] := by
  have hl := List.length_pos_iff.mpr h
  rw [trIter, if_neg h, divide_nil h]
  match hn : ys.length with
  | 0 => omega
  | n + 1 =>
    rw [trIter, if_pos rfl]
theorem paper_ok {p : Int} (hp : Pr p) {xs ys : List Int} (rx : Red p xs) (ry : Red p ys) (tx : trim xs = xs) (ty : trim ys = ys) (lx : xs.length ≤ 400) (ly : ys.length ≤ 400) : PaperOk p xs ys (triple p xs ys) := by
  have hle := hp.le
  have hp0 : 0 < p := by omega
  have hone : ∀ f : PS, (⟨cst 1⟩ : PS) * f = f := fun f => by
    have : (⟨cst 1⟩ : PS) = 1 := rfl
    rw [this]
    grind
  by_cases hy : ys = []
  · subst hy
    have hc : common p xs [] = makeMonic p xs := by
      unfold common
      rw [comIter, if_pos rfl]
    have et : triple p xs [] = ⟨makeMonic p xs, if xs = [] then [] else [inv p (xs.getLastD 0)], []⟩ := by rw [triple, if_pos rfl]
    rw [et]
    have mr := scale_red hp0 rx (inv p (xs.getLastD 0))
    have mt := scale_trim p tx (inv p (xs.getLastD 0))
    have mc := co_scaled (p := p) xs (inv p (xs.getLastD 0))
    have ml := scale_len p xs (inv p (xs.getLastD 0))
    rw [← makeMonic_eq hp] at mr mt mc ml
    by_cases hx : xs = []
    · subst hx
      have e0 : makeMonic p [] = [] := rfl
      refine ⟨hc.symm, mr, mt, fun n hn => by simp at hn, rfl, fun n hn => by simp at hn, rfl, ?_, fun _ => by simp, fun _ => rfl, fun h => absurd rfl h, by simp, by simp, by simp [e0]⟩
      show addScaled p (prod p (if ([] : List Int) = [] then [] else [inv p (([] : List Int).getLastD 0)]) []) (prod p [] []) 1 = []
      rw [if_pos rfl, prod_nil hp0]
      rfl
    · have hi := Inv.mk' hp rx tx hx
      rw [if_neg hx]
      have hb := inv_bd (n := xs.getLastD 0) hp0
      have hu := hi.2
      generalize inv p (xs.getLastD 0) = u at *
      have hup : u ≠ p := fun z => by
        rw [z, Int.mul_emod_right] at hu
        cases hu
      have hu0 : u ≠ 0 := fun z => by
        rw [z, Int.zero_mul] at hu
        cases hu
      have ru : Red p [u] := fun n hn => by
        obtain rfl := List.mem_singleton.mp hn
        omega
      refine ⟨hc.symm, mr, mt, ru, trim_self (by simpa using hu0), fun n hn => by simp at hn, rfl, ?_, fun h => absurd h hx, fun _ => rfl, fun _ h => absurd rfl h, by simp, by simp, by dsimp only; omega⟩
      refine canon hp0 (addScaled_red hp0 _ _ _) mr (addScaled_trim _ _ _ _) mt ?_
      refine (co_addScaled _ _ _).trans (.trans ?_ mc.symm)
      obtain ⟨a, ha⟩ := co_prod (p := p) [u] xs
      obtain ⟨b, hb⟩ := co_prod (p := p) [] []
      have eu : co [u] = ⟨cst u⟩ := by
        rw [co_cons, co_nil]
        grind
      rw [co_nil] at hb
      rw [eu] at ha
      rw [hone]
      exact ⟨a + b, by grind⟩
  · have hT0 : TrI p 801 ys.length xs ys [1] [] := ⟨rx, ry, red_one hle.1, fun n hn => by simp at hn, tx, ty, rfl, rfl, by simp; omega, by simp; omega, fun _ => hy, Nat.le_refl _, fun z => absurd z hy⟩
    have hT1 : ∃ r, TrI p 801 ys.length (trIter p (ys.length + 1) xs ys [1] []).1 [] (trIter p (ys.length + 1) xs ys [1] []).2 r := by
      rcases tr_red hp 801 ys.length (ys.length + 1) xs ys [1] [] (by omega) hT0 with h | h
      · exact ⟨_, h⟩
      · exact h
    obtain ⟨r, hT⟩ := hT1
    obtain ⟨a, b, pa, pb, ha, hb⟩ := tr_div hp (ys.length + 1) xs ys [1] [] (by omega) rx ry ty
    obtain ⟨t, pt, hbz⟩ := tr_bez hp xs ys (ys.length + 1) xs ys [1] [] (by omega) rx ry ty ⟨0, Po.zero, .of (by rw [co_one]; grind)⟩ ⟨1, Po.one, .of (by rw [co_nil]; grind)⟩
    have hmon := tr_monic (p := p) (ys.length + 1) xs ys [1] []
    have hcom : common p xs ys = lawIter p (ys.length + 1) xs ys := comIter_law hp _ _ _ (by omega) rx ry ty
    have hleft : xs = [] → (trIter p (ys.length + 1) xs ys [1] []).2 = [] := fun h => by
      subst h
      exact trI_nil_left hy
    rw [triple, if_neg hy]
    simp only
    generalize (trIter p (ys.length + 1) xs ys [1] []).1 = g at *
    generalize (trIter p (ys.length + 1) xs ys [1] []).2 = left at *
    have hgn : g ≠ [] := fun z => hT.ne z rfl
    have hgi := Inv.mk' hp hT.r1 hT.t1 hgn
    have ml := monic_len hgi
    have mr := scale_red hp0 hT.r1 (inv p (g.getLastD 0))
    have mt := scale_trim p hT.t1 (inv p (g.getLastD 0))
    have mc := co_scaled (p := p) g (inv p (g.getLastD 0))
    have cr := scale_red hp0 hT.r3 (inv p (g.getLastD 0))
    have ct := scale_trim p hT.t3 (inv p (g.getLastD 0))
    have cc := co_scaled (p := p) left (inv p (g.getLastD 0))
    have cl := scale_len p left (inv p (g.getLastD 0))
    have hu := hgi.2
    rw [makeMonic_eq hp, ← hcom] at hmon
    have hlM := hT.lM.2 rfl
    have hN := hT.l2
    have hlu : MEq p (⟨cst (g.getLastD 0)⟩ * ⟨cst (inv p (g.getLastD 0))⟩) 1 := by
      rw [← cst_mul2, Int.mul_comm]
      refine .ofc fun k => ?_
      cases k with
      | zero =>
        show inv p (g.getLastD 0) * g.getLastD 0 % p = 1 % p
        rw [hu, Int.emod_eq_of_lt (by decide) (by omega)]
      | succ k => rfl
    generalize inv p (g.getLastD 0) = u at *
    generalize g.getLastD 0 = ld at hlu hu
    have hg : MEq p (co g) (⟨cst ld⟩ * co (scale p g u)) :=
      (MEq.of (by grind : co g = 1 * co g)).trans ((hlu.symm.mul (.refl (co g))).trans ((MEq.of (by grind)).trans ((MEq.refl (⟨cst ld⟩ : PS)).mul mc.symm)))
    have mne : scale p g u ≠ [] := fun z => by
      have := List.length_pos_iff.mpr hgn
      rw [z] at ml
      simp at ml
      done
    have mi := Inv.mk' hp mr mt mne
    rw [quotientOf_eq hp ry ty, quotientOf_eq hp (addScaled_red hp0 _ _ _) (addScaled_trim _ _ _ _)]
    have hxa : MEq p (co xs) (a * ⟨cst ld⟩ * co (scale p g u)) := ha.trans (((MEq.refl a).mul hg).trans (.of (by grind)))
    have hyb : MEq p (co ys) (b * ⟨cst ld⟩ * co (scale p g u)) := hb.trans (((MEq.refl b).mul hg).trans (.of (by grind)))
    have hyq := exact_div hp0 ry mi (pb.mul (Po.cst ld)) hyb
    have qn := divide_ne hp0 ry ty mi (by omega)
    have qr := (divide_red hp0 (scale p g u) ry).1
    have qt := (divide_trim p ys (scale p g u)).1
    have ql := divide_len1 p ys (scale p g u)
    have hgl := List.length_pos_iff.mpr hgn
    generalize (divide p ys (scale p g u)).1 = yq at *
    have qi := Inv.mk' hp qr qt qn
    have hd := co_divide hp0 cr qi
    have fl := divide_len2 p (scale p left u) qn
    have fr := (divide_red hp0 yq cr).2
    have ft := (divide_trim p (scale p left u) yq).2
    have fnil : left = [] → (divide p (scale p left u) yq).2 = [] := fun h => by
      subst h
      have : scale p [] u = [] := by
        unfold scale
        split <;> rfl
      rw [this, divide_nil qn]
    generalize (divide p (scale p left u) yq).2 = first at *
    generalize (divide p (scale p left u) yq).1 = k at *
    generalize scale p left u = lw at *
    generalize scale p g u = c at *
    have h1 : MEq p (co first) (⟨cst u⟩ * co left - co k * co yq) := (MEq.of (by grind : co first = (co k * co yq + co first) - co k * co yq)).trans ((hd.symm.trans cc).sub (.refl _))
    have h2 : MEq p (co left * co xs) (co g - t * co ys) := (MEq.of (by grind : co left * co xs = (co left * co xs + t * co ys) - t * co ys)).trans (hbz.sub (.refl _))
    have h3 : MEq p (co yq * co xs) (a * ⟨cst ld⟩ * co ys) := ((MEq.refl (co yq)).mul hxa).trans ((MEq.of (by grind : co yq * (a * ⟨cst ld⟩ * co c) = a * ⟨cst ld⟩ * (co yq * co c))).trans ((MEq.refl (a * ⟨cst ld⟩)).mul hyq.symm))
    have h4 : MEq p (co first * co xs) (co c - (⟨cst u⟩ * t + co k * (a * ⟨cst ld⟩)) * co ys) := by
      refine (h1.mul (.refl (co xs))).trans ?_
      refine (MEq.of (by grind : (⟨cst u⟩ * co left - co k * co yq) * co xs = ⟨cst u⟩ * (co left * co xs) - co k * (co yq * co xs))).trans ?_
      refine (((MEq.refl (⟨cst u⟩ : PS)).mul h2).sub ((MEq.refl (co k)).mul h3)).trans ?_
      refine (MEq.of (by grind : ⟨cst u⟩ * (co g - t * co ys) - co k * (a * ⟨cst ld⟩ * co ys) = ⟨cst u⟩ * co g - (⟨cst u⟩ * t + co k * (a * ⟨cst ld⟩)) * co ys)).trans ?_
      exact mc.symm.sub (.refl _)
    have em : (⟨cst (-1)⟩ : PS) = -1 := by
      ext k
      cases k <;> rfl
    have hmis : MEq p (co (addScaled p c (prod p first xs) (-1))) ((⟨cst u⟩ * t + co k * (a * ⟨cst ld⟩)) * co ys) := by
      refine (co_addScaled _ _ _).trans ?_
      rw [em]
      refine ((MEq.refl (co c)).add ((MEq.refl (-1 : PS)).mul ((co_prod _ _).trans h4))).trans (.of (by grind))
    have hyi := Inv.mk' hp ry ty hy
    have sr := (divide_red hp0 ys (addScaled_red hp0 c (prod p first xs) (-1))).1
    have st := (divide_trim p (addScaled p c (prod p first xs) (-1)) ys).1
    have sl := divide_len1 p (addScaled p c (prod p first xs) (-1)) ys
    have sl2 := addScaled_len p c (prod p first xs) (-1)
    have sl3 := prod_len p first xs
    have hex := exact_div hp0 (addScaled_red hp0 c (prod p first xs) (-1)) hyi (((Po.cst u).mul pt).add ((Po.of k).mul (pa.mul (Po.cst ld)))) hmis
    have hcs : MEq p (co (addScaled p c (prod p first xs) (-1))) (co c - co first * co xs) := by
      refine (co_addScaled _ _ _).trans ?_
      rw [em]
      refine ((MEq.refl (co c)).add ((MEq.refl (-1 : PS)).mul (co_prod _ _))).trans (.of (by grind))
    generalize (divide p (addScaled p c (prod p first xs) (-1)) ys).1 = second at *
    refine ⟨hmon, mr, mt, fr, ft, sr, st, ?_, fun h => fnil (hleft h), fun h => absurd h hy, fun _ _ => by dsimp only; omega, by dsimp only; omega, by dsimp only; omega, by dsimp only; omega⟩
    refine canon hp0 (addScaled_red hp0 _ _ _) mr (addScaled_trim _ _ _ _) mt ?_
    refine (co_addScaled _ _ _).trans ?_
    rw [hone]
    refine ((co_prod first xs).add (co_prod second ys)).trans ?_
    refine ((MEq.refl (co first * co xs)).add (hex.symm.trans hcs)).trans (.of (by grind))
end K0
namespace K0
open M
/-! ### rows modulo p as a ring -/
def meqS (p : Int) : Setoid PS := ⟨MEq p, ⟨.refl, .symm, .trans⟩⟩
def QP (p : Int) : Type := Quotient (meqS p)
namespace QP
variable {p : Int}
def E (f : PS) : QP p := Quotient.mk (meqS p) f
theorem sound {f g : PS} (h : MEq p f g) : (E f : QP p) = E g := Quotient.sound h
theorem exact {f g : PS} (h : (E f : QP p) = E g) : MEq p f g := Quotient.exact h
theorem rep (x : QP p) : ∃ f, x = E f := let ⟨f, h⟩ := Quotient.exists_rep x; ⟨f, h.symm⟩
instance : Add (QP p) := ⟨Quotient.lift₂ (fun f g => E (f + g)) fun _ _ _ _ h1 h2 => sound (MEq.add h1 h2)⟩
instance : Mul (QP p) := ⟨Quotient.lift₂ (fun f g => E (f * g)) fun _ _ _ _ h1 h2 => sound (MEq.mul h1 h2)⟩
instance : Sub (QP p) := ⟨Quotient.lift₂ (fun f g => E (f - g)) fun _ _ _ _ h1 h2 => sound (MEq.sub h1 h2)⟩
instance : Neg (QP p) := ⟨Quotient.lift (fun f => E (-f)) fun _ _ ⟨h, e⟩ => sound ⟨-h, by grind⟩⟩
instance : NatCast (QP p) := ⟨fun n => E ⟨cst n⟩⟩
instance : IntCast (QP p) := ⟨fun n => E ⟨cst n⟩⟩
instance (n : Nat) : OfNat (QP p) n := ⟨E ⟨cst n⟩⟩
def pow (x : QP p) : Nat → QP p
  | 0 => 1
  | n + 1 => pow x n * x
instance : HPow (QP p) Nat (QP p) := ⟨pow⟩
instance : SMul Nat (QP p) := ⟨fun n x => E ⟨cst n⟩ * x⟩
instance : SMul Int (QP p) := ⟨fun n x => E ⟨cst n⟩ * x⟩
theorem add_E (f g : PS) : (E f : QP p) + E g = E (f + g) := rfl
theorem mul_E (f g : PS) : (E f : QP p) * E g = E (f * g) := rfl
theorem sub_E (f g : PS) : (E f : QP p) - E g = E (f - g) := rfl
theorem neg_E (f : PS) : -(E f : QP p) = E (-f) := rfl
theorem zero_E : (0 : QP p) = E 0 := rfl
theorem one_E : (1 : QP p) = E 1 := rfl
instance : Lean.Grind.CommRing (QP p) where
  nsmul := ⟨fun n f => n • f⟩
  zsmul := ⟨fun n f => n • f⟩
  npow := ⟨pow⟩
  add_zero x := by
    obtain ⟨f, rfl⟩ := rep x
    exact congrArg E (by grind : f + 0 = f)
  add_comm x y := by
    obtain ⟨f, rfl⟩ := rep x
    obtain ⟨g, rfl⟩ := rep y
    exact congrArg E (by grind : f + g = g + f)
  add_assoc x y z := by
    obtain ⟨f, rfl⟩ := rep x
    obtain ⟨g, rfl⟩ := rep y
    obtain ⟨h, rfl⟩ := rep z
    exact congrArg E (by grind : f + g + h = f + (g + h))
  mul_assoc x y z := by
    obtain ⟨f, rfl⟩ := rep x
    obtain ⟨g, rfl⟩ := rep y
    obtain ⟨h, rfl⟩ := rep z
    exact congrArg E (by grind : f * g * h = f * (g * h))
  mul_one x := by
    obtain ⟨f, rfl⟩ := rep x
    exact congrArg E (by grind : f * 1 = f)
  one_mul x := by
    obtain ⟨f, rfl⟩ := rep x
    exact congrArg E (by grind : 1 * f = f)
  left_distrib x y z := by
    obtain ⟨f, rfl⟩ := rep x
    obtain ⟨g, rfl⟩ := rep y
    obtain ⟨h, rfl⟩ := rep z
    exact congrArg E (by grind : f * (g + h) = f * g + f * h)
  right_distrib x y z := by
    obtain ⟨f, rfl⟩ := rep x
    obtain ⟨g, rfl⟩ := rep y
    obtain ⟨h, rfl⟩ := rep z
    exact congrArg E (by grind : (f + g) * h = f * h + g * h)
  zero_mul x := by
    obtain ⟨f, rfl⟩ := rep x
    exact congrArg E (by grind : 0 * f = 0)
  mul_zero x := by
    obtain ⟨f, rfl⟩ := rep x
    exact congrArg E (by grind : f * 0 = 0)
  neg_add_cancel x := by
    obtain ⟨f, rfl⟩ := rep x
    exact congrArg E (by grind : -f + f = 0)
  sub_eq_add_neg x y := by
    obtain ⟨f, rfl⟩ := rep x
    obtain ⟨g, rfl⟩ := rep y
    exact congrArg E (by grind : f - g = f + -g)
  mul_comm x y := by
    obtain ⟨f, rfl⟩ := rep x
    obtain ⟨g, rfl⟩ := rep y
    exact congrArg E (by grind : f * g = g * f)
  pow_zero x := rfl
  pow_succ x n := rfl
  ofNat_succ n := by
    show (E ⟨cst ((n + 1 : Nat) : Int)⟩ : QP p) = E (⟨cst (n : Int)⟩ + ⟨cst 1⟩)
    rw [← PS.cst_add]
    rfl
  nsmul_eq_natCast_mul n x := rfl
  intCast_ofNat n := rfl
  intCast_neg n := by
    show (E ⟨cst (-n)⟩ : QP p) = E (-⟨cst n⟩)
    congr 1
    ext k
    cases k <;> simp [cst]
  neg_zsmul n x := by
    obtain ⟨f, rfl⟩ := rep x
    show (E (⟨cst (-n)⟩ * f) : QP p) = E (-(⟨cst n⟩ * f))
    congr 1
    have : (⟨cst (-n)⟩ : PS) = -⟨cst n⟩ := by
      ext k
      cases k <;> simp [cst]
    rw [this]
    grind
  zsmul_natCast_eq_nsmul n x := rfl
end QP
example {p : Int} (a b c : QP p) (h : a * b = 1) (h2 : c * a = a * a) : c = a := by grind
/-! ### polynomials modulo p -/
open QP
variable {p : Int}
structure Pl (p : Int) (xs : List Int) : Prop where
  r : Red p xs
  t : trim xs = xs
def e (p : Int) (xs : List Int) : QP p := E (co xs)
def kc (p n : Int) : QP p := E ⟨cst n⟩
theorem e_prod (xs ys : List Int) : e p (prod p xs ys) = e p xs * e p ys := sound (co_prod xs ys)
theorem e_add (xs ys : List Int) (f : Int) : e p (addScaled p xs ys f) = e p xs + kc p f * e p ys := sound (co_addScaled xs ys f)
theorem e_scale (xs : List Int) (f : Int) : e p (scale p xs f) = kc p f * e p xs := sound (co_scaled xs f)
theorem e_nil : e p [] = 0 := congrArg E co_nil
theorem e_one : e p [1] = 1 := congrArg E co_one
theorem kc_one : kc p 1 = 1 := rfl
theorem kc_neg : kc p (-1) = -1 := by
  show E ⟨cst (-1)⟩ = E (-1)
  congr 1
  ext k
  cases k <;> rfl
theorem kc_mul (a b : Int) : kc p a * kc p b = kc p (a * b) := by
  show E (⟨cst a⟩ * ⟨cst b⟩) = E ⟨cst (a * b)⟩
  congr 1
  ext k
  rw [cst_c]
  cases k with
  | zero => rfl
  | succ k => exact Int.mul_zero a
theorem kc_mod (hp : 0 < p) (a : Int) : kc p (a % p) = kc p a := sound (.ofc fun k => by
  cases k with
  | zero => exact Int.emod_emod_of_dvd a (Int.dvd_refl p)
  | succ k => rfl)
theorem e_inj (hp : 0 < p) {xs ys : List Int} (hx : Pl p xs) (hy : Pl p ys) (h : e p xs = e p ys) : xs = ys := canon hp hx.r hy.r hx.t hy.t (exact h)
/-- of finitely many numbers -/
def Fi (x : QP p) : Prop := ∃ l : List Int, x = e p l
theorem Fi.of (l : List Int) : Fi (e p l) := ⟨l, rfl⟩
theorem Fi.po {f : PS} (h : Po f) : Fi (E f : QP p) := let ⟨l, h⟩ := h; ⟨l, by rw [h]; rfl⟩
theorem Fi.mul {x y : QP p} : Fi x → Fi y → Fi (x * y) := fun ⟨a, ha⟩ ⟨b, hb⟩ => ⟨prod p a b, by rw [e_prod, ha, hb]⟩
theorem Fi.add {x y : QP p} : Fi x → Fi y → Fi (x + y) := fun ⟨a, ha⟩ ⟨b, hb⟩ => ⟨addScaled p a b 1, by rw [e_add, ha, hb, kc_one]; grind⟩
theorem Fi.sub {x y : QP p} : Fi x → Fi y → Fi (x - y) := fun ⟨a, ha⟩ ⟨b, hb⟩ => ⟨addScaled p a b (-1), by rw [e_add, ha, hb, kc_neg]; grind⟩
theorem Fi.kc (n : Int) : Fi (K0.kc p n) := ⟨[n], by
  show E ⟨cst n⟩ = E (co [n])
  congr 1
  ext k
  cases k <;> rfl⟩
theorem Fi.zero : Fi (0 : QP p) := ⟨[], e_nil.symm⟩
theorem Fi.one : Fi (1 : QP p) := ⟨[1], e_one.symm⟩
/-- as a polynomial -/
theorem Fi.pl (hp : 0 < p) {x : QP p} (h : Fi x) : ∃ l, Pl p l ∧ x = e p l := by
  obtain ⟨l, rfl⟩ := h
  refine ⟨trim (l.map (· % p)), ⟨(red_mod hp l).trim, trim_trim _⟩, sound ?_⟩
  rw [co_trim]
  exact (co_mod l).symm
theorem Pl.inv (hp : Pr p) {ys : List Int} (h : Pl p ys) (hne : ys ≠ []) : Inv p ys := Inv.mk' hp h.r h.t hne
theorem Pl.one (hp : Pr p) : Pl p [1] := ⟨red_one hp.le.1, rfl⟩
theorem Pl.nil : Pl p [] := ⟨fun n hn => by simp at hn, rfl⟩
theorem Pl.prod (hp : 0 < p) (xs ys : List Int) : Pl p (prod p xs ys) := ⟨prod_red hp _ _, prod_trim _ _ _⟩
theorem Pl.add (hp : 0 < p) (xs ys : List Int) (f : Int) : Pl p (addScaled p xs ys f) := ⟨addScaled_red hp _ _ _, addScaled_trim _ _ _ _⟩
theorem Pl.scale (hp : 0 < p) {xs : List Int} (h : Pl p xs) (f : Int) : Pl p (scale p xs f) := ⟨scale_red hp h.r f, scale_trim p h.t f⟩
theorem Pl.div1 (hp : 0 < p) {xs : List Int} (h : Pl p xs) (ys : List Int) : Pl p (divide p xs ys).1 := ⟨(divide_red hp ys h.r).1, (divide_trim p xs ys).1⟩
theorem Pl.div2 (hp : 0 < p) {xs : List Int} (h : Pl p xs) (ys : List Int) : Pl p (divide p xs ys).2 := ⟨(divide_red hp ys h.r).2, (divide_trim p xs ys).2⟩
theorem e_zero (hp : 0 < p) {xs : List Int} (h : Pl p xs) (hz : e p xs = 0) : xs = [] := e_inj hp h .nil (by rw [hz, e_nil])
/-- no zero divisors -/
theorem cancel (hp : Pr p) {x y : QP p} {ys : List Int} (hx : Fi x) (hy : Fi y) (h : Pl p ys) (hne : ys ≠ []) (hm : x * e p ys = y * e p ys) : x = y := by
  have hp0 : 0 < p := by have := hp.le; omega
  obtain ⟨a, rfl⟩ := hx
  obtain ⟨b, rfl⟩ := hy
  have hl := List.length_pos_iff.mpr hne
  have hm' : MEq p (co a * co ys) (co b * co ys) := exact hm
  refine sound (div_uniq (h.inv hp hne) (r := []) (r2 := []) (q := a) (q2 := b) hl hl ?_).1
  rw [co_nil]
  obtain ⟨z, hz⟩ := hm'
  exact ⟨z, by grind⟩
theorem mul_ne (hp : Pr p) {xs ys : List Int} (hx : Pl p xs) (hy : Pl p ys) (nx : xs ≠ []) (ny : ys ≠ []) : e p xs * e p ys ≠ 0 := fun hz => by
  have hp0 : 0 < p := by have := hp.le; omega
  have := cancel hp (x := e p xs) (y := 0) (.of _) .zero hy ny (by rw [hz]; grind)
  exact nx (e_zero hp0 hx this)
/-- a division that goes out -/
theorem div_out (hp : Pr p) {xs ys : List Int} {T : QP p} (hx : Pl p xs) (hy : Pl p ys) (ny : ys ≠ []) (hT : Fi T) (h : e p xs = T * e p ys) : e p (divide p xs ys).1 = T ∧ (divide p xs ys).2 = [] := by
  have hp0 : 0 < p := by have := hp.le; omega
  obtain ⟨t, rfl⟩ := hT
  have hd := co_divide hp0 hx.r (hy.inv hp ny)
  have hl := List.length_pos_iff.mpr ny
  have z := div_uniq (q := (divide p xs ys).1) (r := (divide p xs ys).2) (q2 := t) (r2 := []) (hy.inv hp ny) (divide_len2 p xs ny) (by rw [List.length_nil]; exact hl) (hd.symm.trans ((exact h).trans (.of (by rw [co_nil]; grind))))
  refine ⟨sound z.1, e_zero hp0 (hx.div2 hp0 ys) ?_⟩
  exact (sound z.2).trans e_nil
/-- degrees add up -/
theorem len_mul (hp : Pr p) {xs ys zs : List Int} (hx : Pl p xs) (hy : Pl p ys) (hz : Pl p zs) (nx : xs ≠ []) (ny : ys ≠ []) (h : e p zs = e p xs * e p ys) : zs.length + 1 = xs.length + ys.length := by
  have hp0 : 0 < p := by have := hp.le; omega
  have hd := div_out hp hz hy ny (.of xs) h
  have e1 : (divide p zs ys).1 = xs := e_inj hp0 (hz.div1 hp0 ys) hx hd.1
  have l1 := divide_len1 p zs ys
  rw [e1] at l1
  have lx := List.length_pos_iff.mpr nx
  have e2 : prod p xs ys = zs := e_inj hp0 (.prod hp0 xs ys) hz (by rw [e_prod, h])
  have l2 := prod_len1 hp0 xs ys
  rw [e2] at l2
  have ly := List.length_pos_iff.mpr ny
  omega
end K0
namespace K0
open M QP
variable {p : Int}
/-! ### common divisors in the ring -/
theorem tr_pl (hp : 0 < p) : ∀ (n : Nat) (old new left right : List Int), Pl p old → Pl p new → Pl p (trIter p n old new left right).1
  | 0, _, _, _, _, h, _ => h
  | n + 1, old, new, left, right, h, h2 => by
    rw [trIter]
    by_cases hy : new = []
    · rw [if_pos hy]
      exact h
    · rw [if_neg hy]
      exact tr_pl hp n _ _ _ _ h2 (h.div2 hp new)
/-- monic -/
def Mo (xs : List Int) : Prop := xs ≠ [] ∧ xs.getLastD 0 = 1
theorem Mo.one : Mo [1] := ⟨by simp, rfl⟩
structure Com (p : Int) (xs ys g : List Int) : Prop where
  pl : Pl p g
  zero : xs = [] → ys = [] → g = []
  mo : xs ≠ [] ∨ ys ≠ [] → Mo g
  dv : ∃ a b : QP p, Fi a ∧ Fi b ∧ e p xs = a * e p g ∧ e p ys = b * e p g
  bz : ∃ u v : QP p, Fi u ∧ Fi v ∧ u * e p xs + v * e p ys = e p g
theorem last_range {xs : List Int} (h : Pl p xs) (hne : xs ≠ []) : 0 < xs.getLastD 0 ∧ xs.getLastD 0 < p := by
  have h1 := trim_last h.t hne
  have h2 := h.r (xs.getLastD 0) (by
    rw [List.getLastD_eq_getLast?, List.getLast?_eq_some_getLast hne]
    exact List.getLast_mem hne)
  omega
theorem kc_inv (hp : Pr p) {n : Int} (h0 : 0 < n) (h1 : n < p) : kc p (inv p n) * kc p n = 1 := by
  have hle := hp.le
  rw [kc_mul, ← kc_mod (by omega), inv_pr hp h0 h1]
  rfl
theorem com_ok (hp : Pr p) {xs ys : List Int} (hx : Pl p xs) (hy : Pl p ys) (lx : xs.length ≤ 400) (ly : ys.length ≤ 400) : Com p xs ys (common p xs ys) := by
  have hle := hp.le
  have hp0 : 0 < p := by omega
  have P := paper_ok hp hx.r hy.r hx.t hy.t lx ly
  have hpl : Pl p (common p xs ys) := ⟨P.c ▸ P.rc, P.c ▸ P.tc⟩
  have hold := tr_pl hp0 (ys.length + 1) xs ys [1] [] hx hy
  obtain ⟨a, b, pa, pb, ha, hb⟩ := tr_div hp (ys.length + 1) xs ys [1] [] (by omega) hx.r hy.r hy.t
  have hg : common p xs ys = makeMonic p (trIter p (ys.length + 1) xs ys [1] []).1 := by
    rw [tr_monic]
    exact comIter_law hp _ _ _ (by omega) hx.r hy.r hy.t
  have qa : e p xs = E a * e p (trIter p (ys.length + 1) xs ys [1] []).1 := sound ha
  have qb : e p ys = E b * e p (trIter p (ys.length + 1) xs ys [1] []).1 := sound hb
  generalize (trIter p (ys.length + 1) xs ys [1] []).1 = old at hold ha hb hg qa qb
  rw [makeMonic_eq hp] at hg
  have bz : ∃ u v : QP p, Fi u ∧ Fi v ∧ u * e p xs + v * e p ys = e p (common p xs ys) := by
    refine ⟨e p (triple p xs ys).a, e p (triple p xs ys).b, .of _, .of _, ?_⟩
    rw [← P.c, ← P.made, e_add, e_prod, e_prod, kc_one]
    grind
  by_cases ho : old = []
  · subst ho
    have zx : xs = [] := e_zero hp0 hx (by rw [qa, e_nil]; grind)
    have zy : ys = [] := e_zero hp0 hy (by rw [qb, e_nil]; grind)
    have zg : common p xs ys = [] := by
      rw [hg]
      exact e_zero hp0 (Pl.scale hp0 .nil _) (by rw [e_scale, e_nil]; grind)
    refine ⟨hpl, fun _ _ => zg, fun h => ?_, ⟨0, 0, .zero, .zero, ?_, ?_⟩, bz⟩
    · rcases h with h | h
      · exact absurd zx h
      · exact absurd zy h
    · rw [zx, e_nil]
      grind
    · rw [zy, e_nil]
      grind
  · obtain ⟨r0, r1⟩ := last_range hold ho
    have ki := kc_inv hp r0 r1
    have eg : e p (common p xs ys) = kc p (inv p (old.getLastD 0)) * e p old := by rw [hg, e_scale]
    have ml := monic_len (hold.inv hp ho)
    rw [← hg] at ml
    have gne : common p xs ys ≠ [] := fun z => by
      rw [z] at ml
      have := List.length_pos_iff.mpr ho
      simp at ml
    have gl := last_range hpl gne
    have gm : Mo (common p xs ys) := ⟨gne, by
      have := ml.2
      rw [Int.emod_eq_of_lt (Int.le_of_lt gl.1) gl.2] at this
      exact this⟩
    refine ⟨hpl, fun zx zy => ?_, fun _ => gm, ⟨E a * kc p (old.getLastD 0), E b * kc p (old.getLastD 0), (Fi.po pa).mul (.kc _), (Fi.po pb).mul (.kc _), ?_, ?_⟩, bz⟩
    · exfalso
      obtain ⟨u, v, _, _, huv⟩ := bz
      have ex : e p xs = 0 := by rw [zx, e_nil]
      have ey : e p ys = 0 := by rw [zy, e_nil]
      rw [ex, ey] at huv
      exact gne (e_zero hp0 hpl (by rw [← huv]; grind))
    · rw [eg, qa]
      grind
    · rw [eg, qb]
      grind
/-! ### without a common divisor -/
def Cop (x y : QP p) : Prop := ∃ u v : QP p, Fi u ∧ Fi v ∧ u * x + v * y = 1
theorem Cop.symm {x y : QP p} : Cop x y → Cop y x := fun ⟨u, v, hu, hv, h⟩ => ⟨v, u, hv, hu, by grind⟩
theorem Cop.one {x : QP p} : Cop x 1 := ⟨0, 1, .zero, .one, by grind⟩
theorem Cop.mul {x y z : QP p} (fx : Fi x) (fy : Fi y) (fz : Fi z) : Cop x y → Cop x z → Cop x (y * z) := fun ⟨u, v, hu, hv, h⟩ ⟨u2, v2, hu2, hv2, h2⟩ =>
  ⟨u * u2 * x + u * v2 * z + v * y * u2, v * v2, (((hu.mul hu2).mul fx).add ((hu.mul hv2).mul fz)).add ((hv.mul fy).mul hu2), hv.mul hv2, by
    have : (u * x + v * y) * (u2 * x + v2 * z) = 1 := by rw [h, h2]; grind
    grind⟩
theorem Cop.part {x y k : QP p} (fk : Fi k) : Cop (x * k) y → Cop x y := fun ⟨u, v, hu, hv, h⟩ => ⟨u * k, v, hu.mul fk, hv, by grind⟩
theorem Cop.plus {x y t : QP p} (ft : Fi t) : Cop x y → Cop (x + y * t) y := fun ⟨u, v, hu, hv, h⟩ => ⟨u, v - u * t, hu, hv.sub (hu.mul ft), by grind⟩
/-! ### functions in lowest terms -/
structure NF (p : Int) (f : List Int × List Int) : Prop where
  t : Pl p f.1
  b : Pl p f.2
  mo : Mo f.2
  cop : Cop (e p f.1) (e p f.2)
theorem NF.nb {f : List Int × List Int} (h : NF p f) : f.2 ≠ [] := h.mo.1
theorem mo_uniq (hp : Pr p) {b c : List Int} {T S : QP p} (hb : Pl p b) (hc : Pl p c) (mb : Mo b) (mc : Mo c) (fT : Fi T) (fS : Fi S) (h1 : e p c = T * e p b) (h2 : e p b = S * e p c) : b = c := by
  have hp0 : 0 < p := by have := hp.le; omega
  obtain ⟨t, pt, rfl⟩ := fT.pl hp0
  obtain ⟨s, ps, rfl⟩ := fS.pl hp0
  have tn : t ≠ [] := fun z => mc.1 (e_zero hp0 hc (by rw [h1, z, e_nil]; grind))
  have sn : s ≠ [] := fun z => mb.1 (e_zero hp0 hb (by rw [h2, z, e_nil]; grind))
  have l1 := len_mul hp pt hb hc tn mb.1 h1
  have l2 := len_mul hp ps hc hb sn mc.1 h2
  have lt := List.length_pos_iff.mpr tn
  have ls := List.length_pos_iff.mpr sn
  have l3 : t.length = 1 := by omega
  have l4 : c.length = b.length := by omega
  match ht : t, l3 with
  | [n], _ =>
    have rn := pt.r n List.mem_cons_self
    have hm : MEq p (co c) (co [n] * co b) := exact h1
    have hk := hm.c (c.length - 1)
    have ec : co [n] = ⟨cst n⟩ := by
      ext k
      cases k <;> rfl
    rw [ec, cst_c, ← lastD_co mc.1, l4, ← lastD_co mb.1, mc.2, mb.2, Int.mul_one, Int.emod_eq_of_lt rn.1 rn.2, Int.emod_eq_of_lt (by decide) (by have := hp.le; omega)] at hk
    refine e_inj hp0 hb hc ?_
    rw [h1, ← hk, e_one]
    grind
/-- a function is told by its quotient -/
theorem nf_uniq (hp : Pr p) {f g : List Int × List Int} (hf : NF p f) (hg : NF p g) (h : e p f.1 * e p g.2 = e p g.1 * e p f.2) : f = g := by
  have hp0 : 0 < p := by have := hp.le; omega
  obtain ⟨u, v, fu, fv, h1⟩ := hf.cop
  obtain ⟨u2, v2, fu2, fv2, h2⟩ := hg.cop
  have eb : f.2 = g.2 := mo_uniq hp hf.b hg.b hf.mo hg.mo (T := u * e p g.1 + v * e p g.2) (S := u2 * e p f.1 + v2 * e p f.2) ((fu.mul (.of _)).add (fv.mul (.of _))) ((fu2.mul (.of _)).add (fv2.mul (.of _))) (by grind) (by grind)
  have et : f.1 = g.1 := by
    refine e_inj hp0 hf.t hg.t (cancel hp (.of _) (.of _) hf.b hf.nb ?_)
    rw [← eb] at h
    exact h
  exact Prod.ext et eb
/-- f is the quotient of x and y -/
def Re (f : List Int × List Int) (x y : QP p) : Prop := e p f.1 * y = x * e p f.2
theorem Re.self (f : List Int × List Int) : Re f (e p f.1) (e p f.2) := rfl
/-- of no zero divisor -/
def Nz (y : QP p) : Prop := ∃ l, Pl p l ∧ l ≠ [] ∧ y = e p l
theorem Nz.of {l : List Int} (h : Pl p l) (hn : l ≠ []) : Nz (e p l) := ⟨l, h, hn, rfl⟩
theorem Nz.fi {y : QP p} : Nz y → Fi y := fun ⟨l, _, _, h⟩ => ⟨l, h⟩
theorem Nz.mul (hp : Pr p) {x y : QP p} : Nz x → Nz y → Nz (x * y) := fun ⟨a, ha, na, ea⟩ ⟨b, hb, nb, eb⟩ => by
  have hp0 : 0 < p := by have := hp.le; omega
  refine ⟨prod p a b, .prod hp0 a b, fun z => ?_, by rw [e_prod, ea, eb]⟩
  have := e_prod (p := p) a b
  rw [z, e_nil] at this
  exact mul_ne hp ha hb na nb this.symm
theorem Nz.one (hp : Pr p) : Nz (1 : QP p) := ⟨[1], .one hp, by simp, e_one.symm⟩
theorem Nz.cancel (hp : Pr p) {x y z : QP p} (hz : Nz z) (hx : Fi x) (hy : Fi y) (h : x * z = y * z) : x = y := by
  obtain ⟨l, hl, hn, rfl⟩ := hz
  exact K0.cancel hp hx hy hl hn h
theorem re_uniq (hp : Pr p) {f g : List Int × List Int} {x y x2 y2 : QP p} (hf : NF p f) (hg : NF p g) (h1 : Re f x y) (h2 : Re g x2 y2) (ny : Nz y) (ny2 : Nz y2) (h : x * y2 = x2 * y) : f = g := by
  refine nf_uniq hp hf hg (Nz.cancel hp (ny.mul hp ny2) ((Fi.of _).mul (.of _)) ((Fi.of _).mul (.of _)) ?_)
  unfold Re at h1 h2
  grind
end K0
namespace K0
open M QP
variable {p : Int}
/-! ### what the quotient of two polynomials is in lowest terms -/
def nf (p : Int) (t b : List Int) : List Int × List Int :=
  if t = [] then ([], [1]) else
    (scale p (divide p t (common p t b)).1 (inv p ((divide p b (common p t b)).1.getLastD 0)), scale p (divide p b (common p t b)).1 (inv p ((divide p b (common p t b)).1.getLastD 0)))
theorem NF.zero (hp : Pr p) : NF p ([], [1]) := ⟨.nil, .one hp, .one, by rw [e_one]; exact .one⟩
/-- shortened by a divisor that takes all in common, a monic top left as it is -/
theorem short_ok (hp : Pr p) {t b g : List Int} (ht : Pl p t) (hb : Pl p b) (nb : b ≠ []) (C : Com p t b g) :
    ∃ X Y : QP p, Fi X ∧ Fi Y ∧ e p (divide p t g).1 = X ∧ e p (divide p b g).1 = Y ∧ e p t = X * e p g ∧ e p b = Y * e p g ∧ Cop X Y ∧ g ≠ [] ∧ (divide p b g).1 ≠ [] := by
  have hp0 : 0 < p := by have := hp.le; omega
  obtain ⟨a, c, fa, fc, ha, hc⟩ := C.dv
  have gm := C.mo (.inr nb)
  obtain ⟨u, v, fu, fv, hu⟩ := C.bz
  have da := div_out hp ht C.pl gm.1 fa ha
  have dc := div_out hp hb C.pl gm.1 fc hc
  refine ⟨a, c, fa, fc, da.1, dc.1, ha, hc, ⟨u, v, fu, fv, ?_⟩, gm.1, fun z => ?_⟩
  · refine cancel hp ((fu.mul fa).add (fv.mul fc)) .one C.pl gm.1 ?_
    grind
  · have : c = 0 := by rw [← dc.1, z, e_nil]
    exact nb (e_zero hp0 hb (by rw [hc, this]; grind))
theorem scale_last (hp : Pr p) {xs : List Int} (hx : Pl p xs) (nx : xs ≠ []) : Mo (scale p xs (inv p (xs.getLastD 0))) := by
  have hp0 : 0 < p := by have := hp.le; omega
  have ml := monic_len (hx.inv hp nx)
  have hs := hx.scale hp0 (inv p (xs.getLastD 0))
  have ne : scale p xs (inv p (xs.getLastD 0)) ≠ [] := fun z => by
    rw [z] at ml
    have := List.length_pos_iff.mpr nx
    simp at ml
  have gl := last_range hs ne
  refine ⟨ne, ?_⟩
  have := ml.2
  rw [Int.emod_eq_of_lt (Int.le_of_lt gl.1) gl.2] at this
  exact this
theorem nf_ok (hp : Pr p) {t b : List Int} (ht : Pl p t) (hb : Pl p b) (nb : b ≠ []) (lt : t.length ≤ 400) (lb : b.length ≤ 400) : NF p (nf p t b) ∧ Re (nf p t b) (e p t) (e p b) := by
  have hp0 : 0 < p := by have := hp.le; omega
  unfold nf
  by_cases hz : t = []
  · rw [if_pos hz]
    refine ⟨.zero hp, ?_⟩
    show e p [] * e p b = e p t * e p [1]
    rw [hz, e_nil]
    grind
  · rw [if_neg hz]
    have C := com_ok hp ht hb lt lb
    obtain ⟨X, Y, fX, fY, eX, eY, tX, bY, cop, gne, ne⟩ := short_ok hp ht hb nb C
    have pX := ht.div1 hp0 (common p t b)
    have pY := hb.div1 hp0 (common p t b)
    generalize (divide p t (common p t b)).1 = x at *
    generalize (divide p b (common p t b)).1 = y at *
    obtain ⟨r0, r1⟩ := last_range pY ne
    have ki := kc_inv hp r0 r1
    refine ⟨⟨pX.scale hp0 _, pY.scale hp0 _, scale_last hp pY ne, ?_⟩, ?_⟩
    · show Cop (e p (scale p x _)) (e p (scale p y _))
      rw [e_scale, e_scale, eX, eY]
      obtain ⟨u, v, fu, fv, h⟩ := cop
      exact ⟨u * kc p (y.getLastD 0), v * kc p (y.getLastD 0), fu.mul (.kc _), fv.mul (.kc _), by grind⟩
    · show e p (scale p x _) * e p b = e p t * e p (scale p y _)
      rw [e_scale, e_scale, eX, eY, tX, bY]
      grind
theorem nf_is (hp : Pr p) {t b : List Int} {f : List Int × List Int} (ht : Pl p t) (hb : Pl p b) (nb : b ≠ []) (lt : t.length ≤ 400) (lb : b.length ≤ 400) (hf : NF p f) (h : Re f (e p t) (e p b)) : f = nf p t b := by
  have N := nf_ok hp ht hb nb lt lb
  exact re_uniq hp hf N.1 h N.2 (.of hb nb) (.of hb nb) rfl
theorem divide_len1' (p : Int) {xs ys : List Int} (h : ys ≠ []) : (divide p xs ys).1.length ≤ xs.length := by
  have := divide_len1 p xs ys
  have := List.length_pos_iff.mpr h
  omega
theorem nf_len (hp : Pr p) {t b : List Int} (ht : Pl p t) (hb : Pl p b) (nb : b ≠ []) (lt : t.length ≤ 400) (lb : b.length ≤ 400) : (nf p t b).1.length ≤ t.length ∧ (nf p t b).2.length ≤ b.length := by
  have hl := List.length_pos_iff.mpr nb
  unfold nf
  by_cases hz : t = []
  · rw [if_pos hz]
    exact ⟨Nat.zero_le _, hl⟩
  · rw [if_neg hz]
    have C := com_ok hp ht hb lt lb
    have g1 := (C.mo (.inr nb)).1
    exact ⟨Nat.le_trans (scale_len _ _ _) (divide_len1' p g1), Nat.le_trans (scale_len _ _ _) (divide_len1' p g1)⟩
theorem nf_self (hp : Pr p) {f : List Int × List Int} (hf : NF p f) (l1 : f.1.length ≤ 400) (l2 : f.2.length ≤ 400) : nf p f.1 f.2 = f := (nf_is hp hf.t hf.b hf.nb l1 l2 hf (Re.self f)).symm
/-! ### the package's ways -/
/-- top and bottom over their common divisor, by the bottom's last number -/
def lowest (p : Int) (t b : List Int) : List Int × List Int := (scale p (quotientOf p t (common p t b)) (inv p (b.getLastD 0)), scale p (quotientOf p b (common p t b)) (inv p (b.getLastD 0)))
theorem last_mul (hp : Pr p) {x g b : List Int} (hx : Pl p x) (hg : Pl p g) (hb : Pl p b) (mg : Mo g) (nx : x ≠ []) (nb : b ≠ []) (h : e p b = e p x * e p g) : x.getLastD 0 = b.getLastD 0 := by
  have hp0 : 0 < p := by have := hp.le; omega
  have l := len_mul hp hx hg hb nx mg.1 h
  have hm : MEq p (co b) (co x * co g) := exact h
  have hk := hm.c (b.length - 1)
  have lx := List.length_pos_iff.mpr nx
  have lg := List.length_pos_iff.mpr mg.1
  rw [← lastD_co nb, PS.mul_c, show b.length - 1 = (x.length - 1) + (g.length - 1) by omega, mulc_top (p := p) (m := g.length - 1) (g := (co g).c) (fun j hj => co_far (by omega)) (x.length - 1) (co x).c (fun i hi => by rw [co_far (by omega)]; rfl), ← lastD_co nx, ← lastD_co mg.1, mg.2, Int.mul_one] at hk
  have r1 := last_range hx nx
  have r2 := last_range hb nb
  rw [Int.emod_eq_of_lt (by omega) r1.2, Int.emod_eq_of_lt (by omega) r2.2] at hk
  exact hk.symm
theorem lowest_ok (hp : Pr p) {t b : List Int} (ht : Pl p t) (hb : Pl p b) (nb : b ≠ []) (lt : t.length ≤ 400) (lb : b.length ≤ 400) : lowest p t b = nf p t b := by
  have hp0 : 0 < p := by have := hp.le; omega
  have C := com_ok hp ht hb lt lb
  obtain ⟨X, Y, fX, fY, eX, eY, tX, bY, cop, gne, ne⟩ := short_ok hp ht hb nb C
  unfold lowest
  rw [quotientOf_eq hp ht.r ht.t, quotientOf_eq hp hb.r hb.t]
  have pX := ht.div1 hp0 (common p t b)
  have pY := hb.div1 hp0 (common p t b)
  have hl := last_mul hp pY C.pl hb (C.mo (.inr nb)) ne nb (by rw [eY]; exact bY)
  rw [← hl]
  refine nf_is hp ht hb nb lt lb ?_ ?_
  · obtain ⟨r0, r1⟩ := last_range pY ne
    have ki := kc_inv hp r0 r1
    refine ⟨pX.scale hp0 _, pY.scale hp0 _, scale_last hp pY ne, ?_⟩
    show Cop (e p (scale p _ _)) (e p (scale p _ _))
    rw [e_scale, e_scale, eX, eY]
    obtain ⟨u, v, fu, fv, h⟩ := cop
    exact ⟨u * kc p ((divide p b (common p t b)).1.getLastD 0), v * kc p ((divide p b (common p t b)).1.getLastD 0), fu.mul (.kc _), fv.mul (.kc _), by grind⟩
  · show e p (scale p _ _) * e p b = e p t * e p (scale p _ _)
    rw [e_scale, e_scale, eX, eY, tX, bY]
    grind
theorem mo_div (hp : Pr p) {b g : List Int} (hb : Pl p b) (hg : Pl p g) (mb : Mo b) (mg : Mo g) {Y : QP p} (fY : Fi Y) (h : e p b = Y * e p g) : Mo (divide p b g).1 := by
  have hp0 : 0 < p := by have := hp.le; omega
  have d := div_out hp hb hg mg.1 fY h
  have ne : (divide p b g).1 ≠ [] := fun z => by
    have : Y = 0 := by rw [← d.1, z, e_nil]
    exact mb.1 (e_zero hp0 hb (by rw [h, this]; grind))
  refine ⟨ne, ?_⟩
  rw [last_mul hp (hb.div1 hp0 g) hg hb mg ne mb.1 (by rw [d.1]; exact h)]
  exact mb.2
theorem mo_prod (hp : Pr p) {a b : List Int} (ha : Pl p a) (hb : Pl p b) (ma : Mo a) (mb : Mo b) : Mo (prod p a b) := by
  have hp0 : 0 < p := by have := hp.le; omega
  have ne : prod p a b ≠ [] := fun z => by
    have := e_prod (p := p) a b
    rw [z, e_nil] at this
    exact mul_ne hp ha hb ma.1 mb.1 this.symm
  refine ⟨ne, ?_⟩
  rw [← last_mul hp ha hb (.prod hp0 a b) mb ma.1 ne (e_prod a b)]
  exact ma.2
/-- a quotient whose common divisors all divide c, shortened -/
def shorten (p : Int) (t b c : List Int) : List Int × List Int := (quotientOf p t (common p t c), quotientOf p b (common p t c))
theorem shorten_ok (hp : Pr p) {t b c : List Int} {R : QP p} (ht : Pl p t) (hb : Pl p b) (hc : Pl p c) (mb : Mo b) (mc : Mo c) (lt : t.length ≤ 400) (lb : b.length ≤ 400) (lc : c.length ≤ 400) (fR : Fi R) (hR : e p b = R * e p c) (cop : Cop (e p t) R) : shorten p t b c = nf p t b := by
  have hp0 : 0 < p := by have := hp.le; omega
  have C := com_ok hp ht hc lt lc
  obtain ⟨X, Y, fX, fY, eX, eY, tX, cY, cop2, gne, ne⟩ := short_ok hp ht hc mc.1 C
  have gm := C.mo (.inr mc.1)
  have hbg : e p b = (R * Y) * e p (common p t c) := by rw [hR, cY]; grind
  have db := div_out hp hb C.pl gne (fR.mul fY) hbg
  unfold shorten
  rw [quotientOf_eq hp ht.r ht.t, quotientOf_eq hp hb.r hb.t]
  refine nf_is hp ht hb mb.1 lt lb ⟨ht.div1 hp0 _, hb.div1 hp0 _, mo_div hp hb C.pl mb gm (fR.mul fY) hbg, ?_⟩ ?_
  · show Cop (e p (divide p t _).1) (e p (divide p b _).1)
    rw [eX, db.1]
    refine Cop.mul fX fR fY ?_ cop2
    rw [tX] at cop
    exact cop.part (.of _)
  · show e p (divide p t _).1 * e p b = e p t * e p (divide p b _).1
    rw [eX, db.1, tX, hbg]
    grind
end K0
namespace K0
open M QP
variable {p : Int}
/-! ### sums, products, quotients, powers of functions -/
def fAdd (p : Int) (F G : List Int × List Int) (f : Int) : List Int × List Int := nf p (addScaled p (prod p F.1 G.2) (prod p G.1 F.2) f) (prod p F.2 G.2)
def fMul (p : Int) (F G : List Int × List Int) : List Int × List Int := nf p (prod p F.1 G.1) (prod p F.2 G.2)
def fBack (p : Int) (F : List Int × List Int) : List Int × List Int := nf p F.2 F.1
def fPow (p : Int) (F : List Int × List Int) : Nat → List Int × List Int
  | 0 => ([1], [1])
  | n + 1 => fMul p (fPow p F n) F
/-- lengths that all ways bear -/
def Le (m : Nat) (F : List Int × List Int) : Prop := F.1.length ≤ m ∧ F.2.length ≤ m
theorem Le.mono {m n : Nat} {F : List Int × List Int} (h : Le m F) (hn : m ≤ n) : Le n F := ⟨Nat.le_trans h.1 hn, Nat.le_trans h.2 hn⟩
theorem prod_ne (hp : Pr p) {a b : List Int} (ha : Pl p a) (hb : Pl p b) (na : a ≠ []) (nb : b ≠ []) : prod p a b ≠ [] := fun z => by
  have := e_prod (p := p) a b
  rw [z, e_nil] at this
  exact mul_ne hp ha hb na nb this.symm
theorem nf_le (hp : Pr p) {t b : List Int} {m : Nat} (ht : Pl p t) (hb : Pl p b) (nb : b ≠ []) (h : Le m (t, b)) (hm : m ≤ 400) : Le m (nf p t b) := by
  have := nf_len hp ht hb nb (Nat.le_trans h.1 hm) (Nat.le_trans h.2 hm)
  exact ⟨Nat.le_trans this.1 h.1, Nat.le_trans this.2 h.2⟩
theorem fAdd_ok (hp : Pr p) {F G : List Int × List Int} {m n : Nat} (hF : NF p F) (hG : NF p G) (lF : Le m F) (lG : Le n G) (hm : m + n ≤ 400) (f : Int) : NF p (fAdd p F G f) ∧ Re (fAdd p F G f) (e p F.1 * e p G.2 + kc p f * (e p G.1 * e p F.2)) (e p F.2 * e p G.2) ∧ Le (m + n) (fAdd p F G f) := by
  have hp0 : 0 < p := by have := hp.le; omega
  have l1 := prod_len p F.1 G.2
  have l2 := prod_len p G.1 F.2
  have l3 := prod_len p F.2 G.2
  have l4 := addScaled_len p (prod p F.1 G.2) (prod p G.1 F.2) f
  have := lF.1
  have := lF.2
  have := lG.1
  have := lG.2
  have L : Le (m + n) (addScaled p (prod p F.1 G.2) (prod p G.1 F.2) f, prod p F.2 G.2) := ⟨by show (addScaled _ _ _ _).length ≤ _; omega, by show (prod _ _ _).length ≤ _; omega⟩
  have N := nf_ok hp (t := addScaled p (prod p F.1 G.2) (prod p G.1 F.2) f) (b := prod p F.2 G.2) (.add hp0 _ _ _) (.prod hp0 _ _) (prod_ne hp hF.b hG.b hF.nb hG.nb) (Nat.le_trans L.1 hm) (Nat.le_trans L.2 hm)
  refine ⟨N.1, ?_, nf_le hp (.add hp0 _ _ _) (.prod hp0 _ _) (prod_ne hp hF.b hG.b hF.nb hG.nb) L hm⟩
  have h := N.2
  rw [e_add, e_prod, e_prod, e_prod] at h
  exact h
theorem fMul_ok (hp : Pr p) {F G : List Int × List Int} {m n : Nat} (hF : NF p F) (hG : NF p G) (lF : Le m F) (lG : Le n G) (hm : m + n ≤ 400) : NF p (fMul p F G) ∧ Re (fMul p F G) (e p F.1 * e p G.1) (e p F.2 * e p G.2) ∧ Le (m + n) (fMul p F G) := by
  have hp0 : 0 < p := by have := hp.le; omega
  have l1 := prod_len p F.1 G.1
  have l3 := prod_len p F.2 G.2
  have := lF.1
  have := lF.2
  have := lG.1
  have := lG.2
  have L : Le (m + n) (prod p F.1 G.1, prod p F.2 G.2) := ⟨by show (prod _ _ _).length ≤ _; omega, by show (prod _ _ _).length ≤ _; omega⟩
  have N := nf_ok hp (t := prod p F.1 G.1) (b := prod p F.2 G.2) (.prod hp0 _ _) (.prod hp0 _ _) (prod_ne hp hF.b hG.b hF.nb hG.nb) (Nat.le_trans L.1 hm) (Nat.le_trans L.2 hm)
  refine ⟨N.1, ?_, nf_le hp (.prod hp0 _ _) (.prod hp0 _ _) (prod_ne hp hF.b hG.b hF.nb hG.nb) L hm⟩
  have h := N.2
  rw [e_prod, e_prod] at h
  exact h
theorem fBack_ok (hp : Pr p) {F : List Int × List Int} {m : Nat} (hF : NF p F) (nz : F.1 ≠ []) (lF : Le m F) (hm : m ≤ 400) : NF p (fBack p F) ∧ Re (fBack p F) (e p F.2) (e p F.1) ∧ Le m (fBack p F) := by
  have N := nf_ok hp hF.b hF.t nz (Nat.le_trans lF.2 hm) (Nat.le_trans lF.1 hm)
  exact ⟨N.1, N.2, nf_le hp hF.b hF.t nz ⟨lF.2, lF.1⟩ hm⟩
/-- the package's sum -/
def gAdd (p : Int) (F G : List Int × List Int) (f : Int) : List Int × List Int :=
  shorten p (addScaled p (prod p F.1 (quotientOf p G.2 (if G.2 = F.2 then F.2 else common p F.2 G.2))) (prod p G.1 (quotientOf p F.2 (if G.2 = F.2 then F.2 else common p F.2 G.2))) f)
    (prod p F.2 (quotientOf p G.2 (if G.2 = F.2 then F.2 else common p F.2 G.2))) (if G.2 = F.2 then F.2 else common p F.2 G.2)
theorem quot_len (hp : Pr p) {xs ys : List Int} (hx : Pl p xs) (ny : ys ≠ []) : (quotientOf p xs ys).length ≤ xs.length := by
  rw [quotientOf_eq hp hx.r hx.t]
  exact divide_len1' p ny
theorem com_len (hp : Pr p) {xs ys g : List Int} (hx : Pl p xs) (nx : xs ≠ []) (C : Com p xs ys g) : g.length ≤ xs.length := by
  have hp0 : 0 < p := by have := hp.le; omega
  obtain ⟨a, b, fa, fb, ha, hb⟩ := C.dv
  obtain ⟨l, pl, rfl⟩ := fa.pl hp0
  have gm := C.mo (.inl nx)
  have nl : l ≠ [] := fun z => nx (e_zero hp0 hx (by rw [ha, z, e_nil]; grind))
  have := len_mul hp pl C.pl hx nl gm.1 ha
  have := List.length_pos_iff.mpr nl
  omega
theorem gAdd_ok (hp : Pr p) {F G : List Int × List Int} {m n : Nat} (hF : NF p F) (hG : NF p G) (lF : Le m F) (lG : Le n G) (hm : m + n ≤ 400) {f : Int} (hf : kc p f * kc p f = 1) : gAdd p F G f = fAdd p F G f := by
  have hp0 : 0 < p := by have := hp.le; omega
  have A := fAdd_ok hp hF hG lF lG hm f
  have h1 := lF.1
  have h2 := lF.2
  have h3 := lG.1
  have h4 := lG.2
  -- the divisor taken out
  have hc : ∃ c : List Int, (if G.2 = F.2 then F.2 else common p F.2 G.2) = c ∧ Pl p c ∧ Mo c ∧ c.length ≤ m ∧ ∃ L R : QP p, Fi L ∧ Fi R ∧ e p F.2 = L * e p c ∧ e p G.2 = R * e p c ∧ Cop L R := by
    refine ⟨_, rfl, ?_⟩
    by_cases he : G.2 = F.2
    · rw [if_pos he]
      exact ⟨hF.b, hF.mo, h2, 1, 1, .one, .one, by grind, by rw [he]; grind, .one⟩
    · rw [if_neg he]
      have C := com_ok hp hF.b hG.b (by omega) (by omega)
      obtain ⟨a, b, fa, fb, ha, hb⟩ := C.dv
      have gm := C.mo (.inl hF.nb)
      obtain ⟨u, v, fu, fv, hu⟩ := C.bz
      have hl := com_len hp hF.b hF.nb C
      refine ⟨C.pl, gm, by omega, a, b, fa, fb, ha, hb, u, v, fu, fv, cancel hp ((fu.mul fa).add (fv.mul fb)) .one C.pl gm.1 ?_⟩
      rw [ha, hb] at hu
      grind
  obtain ⟨c, ec, pc, mc, lc, L, R, fL, fR, hL, hR, cop⟩ := hc
  unfold gAdd
  rw [ec]
  have dl := div_out hp hF.b pc mc.1 fL hL
  have dr := div_out hp hG.b pc mc.1 fR hR
  have ql : e p (quotientOf p F.2 c) = L := by rw [quotientOf_eq hp hF.b.r hF.b.t]; exact dl.1
  have qr : e p (quotientOf p G.2 c) = R := by rw [quotientOf_eq hp hG.b.r hG.b.t]; exact dr.1
  have mr : Mo (quotientOf p G.2 c) := by rw [quotientOf_eq hp hG.b.r hG.b.t]; exact mo_div hp hG.b pc hG.mo mc fR hR
  have pr : Pl p (quotientOf p G.2 c) := by rw [quotientOf_eq hp hG.b.r hG.b.t]; exact hG.b.div1 hp0 c
  have len1 := quot_len hp hG.b mc.1
  have len2 := quot_len hp hF.b mc.1
  have len3 := prod_len p F.1 (quotientOf p G.2 c)
  have len4 := prod_len p G.1 (quotientOf p F.2 c)
  have len5 := prod_len p F.2 (quotientOf p G.2 c)
  have len6 := addScaled_len p (prod p F.1 (quotientOf p G.2 c)) (prod p G.1 (quotientOf p F.2 c)) f
  have et : e p (addScaled p (prod p F.1 (quotientOf p G.2 c)) (prod p G.1 (quotientOf p F.2 c)) f) = e p F.1 * R + kc p f * (e p G.1 * L) := by rw [e_add, e_prod, e_prod, ql, qr]
  have eb : e p (prod p F.2 (quotientOf p G.2 c)) = (L * R) * e p c := by rw [e_prod, qr, hL]; grind
  have cF : Cop (e p F.1) L := by
    have := hF.cop
    rw [hL] at this
    exact (this.symm.part (.of c)).symm
  have cG : Cop (e p G.1) R := by
    have := hG.cop
    rw [hR] at this
    exact (this.symm.part (.of c)).symm
  have cT : Cop (e p F.1 * R + kc p f * (e p G.1 * L)) (L * R) := by
    refine Cop.mul (((Fi.of _).mul fR).add ((Fi.kc f).mul ((Fi.of _).mul fL))) fL fR ?_ ?_
    · have h : Cop (e p F.1 * R) L := (Cop.mul fL (.of _) fR cF.symm cop).symm
      have z := h.plus (t := kc p f * e p G.1) ((Fi.kc f).mul (.of _))
      have ez : e p F.1 * R + L * (kc p f * e p G.1) = e p F.1 * R + kc p f * (e p G.1 * L) := by grind
      rw [ez] at z
      exact z
    · have h : Cop (e p G.1 * L) R := (Cop.mul fR (.of _) fL cG.symm cop.symm).symm
      have h2 : Cop (kc p f * (e p G.1 * L)) R := by
        obtain ⟨u, v, fu, fv, hu⟩ := h
        exact ⟨u * kc p f, v, fu.mul (.kc f), fv, by grind⟩
      have z := h2.plus (t := e p F.1) (.of _)
      have ez : kc p f * (e p G.1 * L) + R * e p F.1 = e p F.1 * R + kc p f * (e p G.1 * L) := by grind
      rw [ez] at z
      exact z
  have pb : Pl p (prod p F.2 (quotientOf p G.2 c)) := .prod hp0 _ _
  have mb := mo_prod hp hF.b pr hF.mo mr
  rw [shorten_ok hp (.add hp0 _ _ _) pb pc mb mc (by omega) (by omega) (by omega) (fL.mul fR) eb (by rw [et]; exact cT)]
  have N := nf_ok hp (t := addScaled p (prod p F.1 (quotientOf p G.2 c)) (prod p G.1 (quotientOf p F.2 c)) f) (b := prod p F.2 (quotientOf p G.2 c)) (.add hp0 _ _ _) pb mb.1 (by omega) (by omega)
  refine re_uniq hp N.1 A.1 N.2 A.2.1 (.of pb mb.1) ((Nz.of hF.b hF.nb).mul hp (.of hG.b hG.nb)) ?_
  rw [et, eb, hL, hR]
  grind
/-- the package's product -/
def gMul (p : Int) (F G : List Int × List Int) : List Int × List Int :=
  (prod p (quotientOf p F.1 (common p F.1 G.2)) (quotientOf p G.1 (common p G.1 F.2)), prod p (quotientOf p F.2 (common p G.1 F.2)) (quotientOf p G.2 (common p F.1 G.2)))
theorem gMul_ok (hp : Pr p) {F G : List Int × List Int} {m n : Nat} (hF : NF p F) (hG : NF p G) (lF : Le m F) (lG : Le n G) (hm : m + n ≤ 400) : gMul p F G = fMul p F G := by
  have hp0 : 0 < p := by have := hp.le; omega
  have A := fMul_ok hp hF hG lF lG hm
  have h1 := lF.1
  have h2 := lF.2
  have h3 := lG.1
  have h4 := lG.2
  have C1 := com_ok hp hF.t hG.b (by omega) (by omega)
  have C2 := com_ok hp hG.t hF.b (by omega) (by omega)
  obtain ⟨a, d, fa, fd, ea, ed, hta, hbd, cop1, n1, _⟩ := short_ok hp hF.t hG.b hG.nb C1
  obtain ⟨c, b, fc, fb, ec, eb, htc, hbb, cop2, n2, _⟩ := short_ok hp hG.t hF.b hF.nb C2
  have m1 := C1.mo (.inr hG.nb)
  have m2 := C2.mo (.inr hF.nb)
  unfold gMul
  rw [quotientOf_eq hp hF.t.r hF.t.t, quotientOf_eq hp hG.t.r hG.t.t, quotientOf_eq hp hF.b.r hF.b.t, quotientOf_eq hp hG.b.r hG.b.t]
  have mb := mo_div hp hF.b C2.pl hF.mo m2 fb hbb
  have md := mo_div hp hG.b C1.pl hG.mo m1 fd hbd
  have pb := hF.b.div1 hp0 (common p G.1 F.2)
  have pd := hG.b.div1 hp0 (common p F.1 G.2)
  have cF := hF.cop
  have cG := hG.cop
  rw [hta, hbb] at cF
  rw [htc, hbd] at cG
  have cab : Cop a b := ((cF.part (.of _)).symm.part (.of _)).symm
  have ccd : Cop c d := ((cG.part (.of _)).symm.part (.of _)).symm
  have N : NF p (prod p (divide p F.1 (common p F.1 G.2)).1 (divide p G.1 (common p G.1 F.2)).1, prod p (divide p F.2 (common p G.1 F.2)).1 (divide p G.2 (common p F.1 G.2)).1) := by
    refine ⟨.prod hp0 _ _, .prod hp0 _ _, mo_prod hp pb pd mb md, ?_⟩
    show Cop (e p (prod p _ _)) (e p (prod p _ _))
    rw [e_prod, e_prod, ea, ec, eb, ed]
    exact (Cop.mul (fb.mul fd) fa fc (Cop.mul fa fb fd cab cop1).symm (Cop.mul fc fb fd cop2 ccd).symm).symm
  refine re_uniq hp N A.1 (x := a * c) (y := b * d) ?_ A.2.1 ?_ ((Nz.of hF.b hF.nb).mul hp (.of hG.b hG.nb)) ?_
  · show e p (prod p _ _) * (b * d) = a * c * e p (prod p _ _)
    rw [e_prod, e_prod, ea, ec, eb, ed]
  · have z := (Nz.of pb mb.1).mul hp (Nz.of pd md.1)
    rw [eb, ed] at z
    exact z
  · rw [hta, htc, hbb, hbd]
    grind
/-- the package's way to turn round -/
def gBack (p : Int) (F : List Int × List Int) : List Int × List Int := (scale p F.2 (inv p (F.1.getLastD 0)), scale p F.1 (inv p (F.1.getLastD 0)))
theorem gBack_ok (hp : Pr p) {F : List Int × List Int} {m : Nat} (hF : NF p F) (nz : F.1 ≠ []) (lF : Le m F) (hm : m ≤ 400) : gBack p F = fBack p F := by
  have hp0 : 0 < p := by have := hp.le; omega
  obtain ⟨r0, r1⟩ := last_range hF.t nz
  have ki := kc_inv hp r0 r1
  refine nf_is hp hF.b hF.t nz (Nat.le_trans lF.2 hm) (Nat.le_trans lF.1 hm) ⟨hF.b.scale hp0 _, hF.t.scale hp0 _, scale_last hp hF.t nz, ?_⟩ ?_
  · show Cop (e p (scale p _ _)) (e p (scale p _ _))
    rw [e_scale, e_scale]
    obtain ⟨u, v, fu, fv, h⟩ := hF.cop
    exact ⟨v * kc p (F.1.getLastD 0), u * kc p (F.1.getLastD 0), fv.mul (.kc _), fu.mul (.kc _), by grind⟩
  · show e p (scale p _ _) * e p F.1 = e p F.2 * e p (scale p _ _)
    rw [e_scale, e_scale]
    grind
theorem kc_sub1 (hp : Pr p) : kc p (p - 1) = -1 := by
  have hp0 : 0 < p := by have := hp.le; omega
  rw [← kc_mod hp0, show (p - 1) % p = (-1) % p by rw [show p - 1 = -1 + p by omega, Int.add_emod_right], kc_mod hp0, kc_neg]
/-- the opposite -/
theorem gNeg_ok (hp : Pr p) {F : List Int × List Int} {m : Nat} (hF : NF p F) (lF : Le m F) (hm : 1 + m ≤ 400) : (scale p F.1 (p - 1), F.2) = fAdd p ([], [1]) F (-1) := by
  have hp0 : 0 < p := by have := hp.le; omega
  have A := fAdd_ok hp (NF.zero hp) hF (m := 1) ⟨by simp, by simp⟩ lF hm (-1)
  refine re_uniq hp ⟨hF.t.scale hp0 _, hF.b, hF.mo, ?_⟩ A.1 (x := -1 * e p F.1) (y := e p F.2) ?_ A.2.1 (.of hF.b hF.nb) ((Nz.of (.one hp) (by simp)).mul hp (.of hF.b hF.nb)) ?_
  · show Cop (e p (scale p _ _)) (e p F.2)
    rw [e_scale, kc_sub1 hp]
    obtain ⟨u, v, fu, fv, h⟩ := hF.cop
    exact ⟨0 - u, v, Fi.zero.sub fu, fv, by grind⟩
  · show e p (scale p _ _) * e p F.2 = -1 * e p F.1 * e p F.2
    rw [e_scale, kc_sub1 hp]
  · show -1 * e p F.1 * (e p [1] * e p F.2) = (e p [] * e p F.2 + kc p (-1) * (e p F.1 * e p [1])) * e p F.2
    rw [e_one, e_nil, kc_neg]
    grind
end K0
namespace K0
open M QP
variable {p : Int}
/-! ### powers -/
theorem pw_pl (hp : Pr p) {xs : List Int} (n : Nat) : Pl p (pw p xs n) := ⟨pw_red hp.le.1 xs n, pw_trim p xs n⟩
theorem pw_len1 (hp : Pr p) {xs : List Int} : ∀ n, (pw p xs n).length ≤ 1 + n * xs.length
  | 0 => by simp [pw]
  | n + 1 => by
    have := pw_len1 hp (xs := xs) n
    have := prod_len p (pw p xs n) xs
    rw [pw, Nat.succ_mul]
    omega
theorem pw_mo (hp : Pr p) {xs : List Int} (hx : Pl p xs) (mx : Mo xs) : ∀ n, Mo (pw p xs n)
  | 0 => .one
  | n + 1 => mo_prod hp (pw_pl hp n) hx (pw_mo hp hx mx n) mx
theorem cop_pw {x : QP p} (fx : Fi x) {b : List Int} (h : Cop x (e p b)) : ∀ n, Cop x (e p (pw p b n))
  | 0 => by
    show Cop x (e p [1])
    rw [e_one]
    exact .one
  | n + 1 => by
    show Cop x (e p (prod p (pw p b n) b))
    rw [e_prod]
    exact Cop.mul fx (.of _) (.of _) (cop_pw fx h n) h
theorem gPow_nf (hp : Pr p) {F : List Int × List Int} (hF : NF p F) (n : Nat) : NF p (pw p F.1 n, pw p F.2 n) :=
  ⟨pw_pl hp n, pw_pl hp n, pw_mo hp hF.b hF.mo n, cop_pw (.of _) (cop_pw (.of _) hF.cop.symm n).symm n⟩
theorem gPow_ok (hp : Pr p) {F : List Int × List Int} {m : Nat} (hF : NF p F) (lF : Le m F) : ∀ n, 1 + n * m ≤ 400 → (pw p F.1 n, pw p F.2 n) = fPow p F n
  | 0, _ => rfl
  | n + 1, h => by
    rw [Nat.succ_mul] at h
    have ih := gPow_ok hp hF lF n (by omega)
    have hn := gPow_nf hp hF n
    have hn1 := gPow_nf hp hF (n + 1)
    have l1 := pw_len1 hp (xs := F.1) n
    have l2 := pw_len1 hp (xs := F.2) n
    have b1 : n * F.1.length ≤ n * m := Nat.mul_le_mul_left _ lF.1
    have b2 : n * F.2.length ≤ n * m := Nat.mul_le_mul_left _ lF.2
    have A := fMul_ok hp hn hF (m := 1 + n * m) (n := m) ⟨by show (pw p F.1 n).length ≤ _; omega, by show (pw p F.2 n).length ≤ _; omega⟩ lF (by omega)
    rw [fPow, ← ih]
    refine re_uniq hp hn1 A.1 (x := e p (pw p F.1 n) * e p F.1) (y := e p (pw p F.2 n) * e p F.2) ?_ A.2.1 ((Nz.of hn.b hn.nb).mul hp (.of hF.b hF.nb)) ((Nz.of hn.b hn.nb).mul hp (.of hF.b hF.nb)) rfl
    show e p (prod p (pw p F.1 n) F.1) * _ = _ * e p (prod p (pw p F.2 n) F.2)
    rw [e_prod, e_prod]
theorem fPow_le (hp : Pr p) {F : List Int × List Int} {m : Nat} (hF : NF p F) (lF : Le m F) (n : Nat) (h : 1 + n * m ≤ 400) : NF p (fPow p F n) ∧ Le (1 + n * m) (fPow p F n) := by
  rw [← gPow_ok hp hF lF n h]
  have l1 := pw_len1 hp (xs := F.1) n
  have l2 := pw_len1 hp (xs := F.2) n
  have b1 : n * F.1.length ≤ n * m := Nat.mul_le_mul_left _ lF.1
  have b2 : n * F.2.length ≤ n * m := Nat.mul_le_mul_left _ lF.2
  exact ⟨gPow_nf hp hF n, by show (pw p F.1 n).length ≤ _; omega, by show (pw p F.2 n).length ≤ _; omega⟩
/-! ### the field's laws -/
/-- a function of the length m that is x / y -/
structure Fn (p : Int) (m : Nat) (F : List Int × List Int) (x y : QP p) : Prop where
  nf : NF p F
  le : Le m F
  re : Re F x y
  nz : Nz y
  fx : Fi x
theorem Fn.self {F : List Int × List Int} {m : Nat} (h : NF p F) (l : Le m F) : Fn p m F (e p F.1) (e p F.2) := ⟨h, l, rfl, .of h.b h.nb, .of _⟩
theorem Fn.add (hp : Pr p) {F G : List Int × List Int} {m n : Nat} {x y x2 y2 : QP p} (hF : Fn p m F x y) (hG : Fn p n G x2 y2) (hm : m + n ≤ 400) (f : Int) : Fn p (m + n) (fAdd p F G f) (x * y2 + kc p f * (x2 * y)) (y * y2) := by
  have A := fAdd_ok hp hF.nf hG.nf hF.le hG.le hm f
  refine ⟨A.1, A.2.2, ?_, hF.nz.mul hp hG.nz, (hF.fx.mul hG.nz.fi).add ((Fi.kc f).mul (hG.fx.mul hF.nz.fi))⟩
  have z := A.2.1
  have a := hF.re
  have b := hG.re
  unfold Re at z a b ⊢
  refine Nz.cancel hp ((Nz.of hF.nf.b hF.nf.nb).mul hp (.of hG.nf.b hG.nf.nb)) ((Fi.of _).mul (hF.nz.fi.mul hG.nz.fi)) (((hF.fx.mul hG.nz.fi).add ((Fi.kc f).mul (hG.fx.mul hF.nz.fi))).mul (.of _)) ?_
  grind
theorem Fn.mul (hp : Pr p) {F G : List Int × List Int} {m n : Nat} {x y x2 y2 : QP p} (hF : Fn p m F x y) (hG : Fn p n G x2 y2) (hm : m + n ≤ 400) : Fn p (m + n) (fMul p F G) (x * x2) (y * y2) := by
  have A := fMul_ok hp hF.nf hG.nf hF.le hG.le hm
  refine ⟨A.1, A.2.2, ?_, hF.nz.mul hp hG.nz, hF.fx.mul hG.fx⟩
  have z := A.2.1
  have a := hF.re
  have b := hG.re
  unfold Re at z a b ⊢
  refine Nz.cancel hp ((Nz.of hF.nf.b hF.nf.nb).mul hp (.of hG.nf.b hG.nf.nb)) ((Fi.of _).mul (hF.nz.fi.mul hG.nz.fi)) ((hF.fx.mul hG.fx).mul (.of _)) ?_
  grind
theorem Fn.top (hp : Pr p) {F : List Int × List Int} {m : Nat} {x y : QP p} (hF : Fn p m F x y) (nz : F.1 ≠ []) : Nz x := by
  have hp0 : 0 < p := by have := hp.le; omega
  obtain ⟨l, pl, rfl⟩ := hF.fx.pl hp0
  refine ⟨l, pl, fun z => ?_, rfl⟩
  have h := hF.re
  unfold Re at h
  rw [z, e_nil] at h
  obtain ⟨d, hd, nd, ed⟩ := hF.nz
  rw [ed] at h
  exact mul_ne hp hF.nf.t hd nz nd (by rw [h]; grind)
theorem Fn.back (hp : Pr p) {F : List Int × List Int} {m : Nat} {x y : QP p} (hF : Fn p m F x y) (nz : F.1 ≠ []) (hm : m ≤ 400) : Fn p m (fBack p F) y x := by
  have A := fBack_ok hp hF.nf nz hF.le hm
  have nx := hF.top hp nz
  refine ⟨A.1, A.2.2, ?_, nx, hF.nz.fi⟩
  have z := A.2.1
  have a := hF.re
  unfold Re at z a ⊢
  refine Nz.cancel hp ((Nz.of hF.nf.b hF.nf.nb).mul hp (.of hF.nf.t nz)) ((Fi.of _).mul nx.fi) (hF.nz.fi.mul (.of _)) ?_
  grind
theorem Fn.eq (hp : Pr p) {F G : List Int × List Int} {m n : Nat} {x y x2 y2 : QP p} (hF : Fn p m F x y) (hG : Fn p n G x2 y2) (h : x * y2 = x2 * y) : F = G := re_uniq hp hF.nf hG.nf hF.re hG.re hF.nz hG.nz h
section
variable {F G H : List Int × List Int} {m : Nat}
theorem f_assoc (hp : Pr p) (hF : NF p F) (hG : NF p G) (hH : NF p H) (lF : Le m F) (lG : Le m G) (lH : Le m H) (hm : m + m + m ≤ 400) : fAdd p (fAdd p F G 1) H 1 = fAdd p F (fAdd p G H 1) 1 :=
  Fn.eq hp (((Fn.self hF lF).add hp (Fn.self hG lG) (by omega) 1).add hp (Fn.self hH lH) (by omega) 1) ((Fn.self hF lF).add hp ((Fn.self hG lG).add hp (Fn.self hH lH) (by omega) 1) (by omega) 1) (by rw [kc_one]; grind)
theorem f_comm (hp : Pr p) (hF : NF p F) (hG : NF p G) (lF : Le m F) (lG : Le m G) (hm : m + m ≤ 400) : fAdd p F G 1 = fAdd p G F 1 :=
  Fn.eq hp ((Fn.self hF lF).add hp (Fn.self hG lG) (by omega) 1) ((Fn.self hG lG).add hp (Fn.self hF lF) (by omega) 1) (by rw [kc_one]; grind)
theorem f_massoc (hp : Pr p) (hF : NF p F) (hG : NF p G) (hH : NF p H) (lF : Le m F) (lG : Le m G) (lH : Le m H) (hm : m + m + m ≤ 400) : fMul p (fMul p F G) H = fMul p F (fMul p G H) :=
  Fn.eq hp (((Fn.self hF lF).mul hp (Fn.self hG lG) (by omega)).mul hp (Fn.self hH lH) (by omega)) ((Fn.self hF lF).mul hp ((Fn.self hG lG).mul hp (Fn.self hH lH) (by omega)) (by omega)) (by grind)
theorem f_mcomm (hp : Pr p) (hF : NF p F) (hG : NF p G) (lF : Le m F) (lG : Le m G) (hm : m + m ≤ 400) : fMul p F G = fMul p G F :=
  Fn.eq hp ((Fn.self hF lF).mul hp (Fn.self hG lG) (by omega)) ((Fn.self hG lG).mul hp (Fn.self hF lF) (by omega)) (by grind)
theorem f_distr (hp : Pr p) (hF : NF p F) (hG : NF p G) (hH : NF p H) (lF : Le m F) (lG : Le m G) (lH : Le m H) (hm : m + m + (m + m) ≤ 400) : fMul p (fAdd p F G 1) H = fAdd p (fMul p F H) (fMul p G H) 1 :=
  Fn.eq hp (((Fn.self hF lF).add hp (Fn.self hG lG) (by omega) 1).mul hp (Fn.self hH lH) (by omega)) (((Fn.self hF lF).mul hp (Fn.self hH lH) (by omega)).add hp ((Fn.self hG lG).mul hp (Fn.self hH lH) (by omega)) (by omega) 1) (by rw [kc_one]; grind)
theorem f_over (hp : Pr p) (hF : NF p F) (hG : NF p G) (nz : G.1 ≠ []) (lF : Le m F) (lG : Le m G) (hm : m + m + m ≤ 400) : fMul p (fMul p F (fBack p G)) G = F :=
  Fn.eq hp (((Fn.self hF lF).mul hp ((Fn.self hG lG).back hp nz (by omega)) (by omega)).mul hp (Fn.self hG lG) (by omega)) (Fn.self hF lF) (by grind)
theorem f_less (hp : Pr p) (hF : NF p F) (lF : Le m F) (hm : m + m ≤ 400) : fAdd p F F (-1) = ([], [1]) :=
  Fn.eq hp ((Fn.self hF lF).add hp (Fn.self hF lF) (by omega) (-1)) (Fn.self (m := 1) (NF.zero hp) ⟨by simp, by simp⟩) (by
    show (e p F.1 * e p F.2 + kc p (-1) * (e p F.1 * e p F.2)) * e p [1] = e p [] * _
    rw [kc_neg, e_nil]
    grind)
end
end K0
namespace Kt
open PySem PySem.Spec PyProof.Rows L2
open Evl (Ex Ev EvL EvU EvT EvA EvO ex_l ex_t sq_of st_of sz_of sz_lt fresh_back given)
/-! ### own operators -/
/-- C's own method under a special name -/
structure OwnM (K : PySem.W.Frag) (C : Addr) (m : Str) (f : Addr) : Prop where
  at_ : PySem.W.findIn K (.ref C) m = some (some (.ref f))
  fn : PySem.W.isFn K (.ref f) = true
def rOwn2 (C : Addr) (sp : Sp) (E : XK) : R2 := fun x y H Q => ∃ a dx fs b dy gs, x = .ref a ∧ y = .ref b ∧ H a = some (.ins C dx fs) ∧ H b = some (.ins C dy gs) ∧ sp [.ref a, .ref b] H Q E
def rOwn1 (C : Addr) (sp : Sp) (E : XK) : V → Hp → VK → Prop := fun x H Q => ∃ a dx fs, x = .ref a ∧ H a = some (.ins C dx fs) ∧ sp [.ref a] H Q E
theorem back_of {X : Cx} {pins : List (Addr × Obj)} {σ : L2.St} {Q : VK} {v : Value} {s' : Shared} (h : EP X pins σ Q v s') : PySem.W.CmpBack (EP X pins σ Q) v s' := by
  have hne : v ≠ .notImplemented := fun e => by
    obtain ⟨z, H', I', rz, q⟩ := h
    subst e
    cases z <;> simp [L2.RelV] at rz
  cases v <;> first | exact h | exact absurd rfl hne
section
variable {X : Cx} {CX : CXT} {k : Nat} {C f : Addr} {fd : FuncData} {ps : List Str} {sp : Sp} {E : XK}
/-- a + b .., both of one own class -/
theorem op_own {op : Operator} (c : OwnM X.K C (PySem.dunder op.info.2) f) (hc : PySem.W.selfFirst X.K C = true) (F : FnOk X.prog X.w X.K X.mg X.base CX k f fd ps sp) (hr : Room k X.A) (hb : Binds X.K fd ps []) (hx : Passes CX X E) :
    OpR X (binaryOp op) (rOwn2 C sp E) := by
  intro pins s σ H x y v u Q I rx ry h
  obtain ⟨a, dx, fs, b, dy, gs, rfl, rfl, ha, hb', hsp⟩ := h
  obtain rfl : v = .ref a := rx
  obtain rfl : u = .ref b := ry
  obtain ⟨mA, O, _, _, _, _⟩ := ins_get I.hok ha
  obtain ⟨od, J, _⟩ := O.look
  obtain ⟨mB, O2, _, _, _, _⟩ := ins_get I.hok hb'
  obtain ⟨od2, J2, _⟩ := O2.look
  obtain ⟨m, Fr⟩ := I.fr
  refine PySem.W.binop_K Fr I.ok.mod.kin J J2.type hc c.at_ c.fn ?_
  exact wpAny_mono (run_fn (vs := [V.ref a, V.ref b]) (us := [Value.ref a, Value.ref b]) F hr hb .nil hx I (.cons rfl (.cons rfl .nil)) hsp) (fun v s' hv => back_of hv) fun _ _ e => e
/-- -a -/
theorem un_own (c : OwnM X.K C "__neg__" f) (F : FnOk X.prog X.w X.K X.mg X.base CX k f fd ps sp) (hr : Room k X.A) (hb : Binds X.K fd ps []) (hx : Passes CX X E) : UnR X (unaryOp .USub) (rOwn1 C sp E) := by
  intro pins s σ H x v Q I rx h
  obtain ⟨a, dx, fs, rfl, ha, hsp⟩ := h
  obtain rfl : v = .ref a := rx
  obtain ⟨mA, O, _, _, _, _⟩ := ins_get I.hok ha
  obtain ⟨od, J, _⟩ := O.look
  obtain ⟨m, Fr⟩ := I.fr
  exact PySem.W.ksp_neg Fr I.ok.mod.kin J c.at_ c.fn (run_fn (vs := [V.ref a]) (us := [Value.ref a]) F hr hb .nil hx I (.cons rfl .nil) hsp)
/-- a's truth by its own __bool__ -/
theorem tru_own (c : OwnM X.K C "__bool__" f) (F : FnOk X.prog X.w X.K X.mg X.base CX k f fd ps sp) (hr : Room k X.A) (hb : Binds X.K fd ps []) (hx : Passes CX X E) :
    TruR X (fun x H Q => ∃ a dx fs, x = .ref a ∧ H a = some (.ins C dx fs) ∧ sp [.ref a] H (fun v H' => ∃ b, v = .bl b ∧ Q b H') E) := by
  intro pins s σ H x v Q I rx h
  obtain ⟨a, dx, fs, rfl, ha, hsp⟩ := h
  obtain rfl : v = .ref a := rx
  obtain ⟨mA, O, _, _, _, _⟩ := ins_get I.hok ha
  obtain ⟨od, J, _⟩ := O.look
  obtain ⟨m, Fr⟩ := I.fr
  refine PySem.W.truthy_K Fr I.ok.mod.kin J c.at_ c.fn (wpAny_mono (run_fn (vs := [V.ref a]) (us := [Value.ref a]) F hr hb .nil hx I (.cons rfl .nil) hsp) (fun v s' hv => ?_) fun _ _ e => e)
  obtain ⟨z, H', I', rz, b, rfl, q⟩ := hv
  obtain rfl : v = .bool b := rz
  exact ⟨H', I', q⟩
/-- a == b, both of one own class -/
theorem eq_own (c : OwnM X.K C "__eq__" f) (hn : PySem.W.notFirst X.K C (.ref C) = true) (hu : X.A.units < cLine) (F : FnOk X.prog X.w X.K X.mg X.base CX k f fd ps sp) (hr : Room k X.A) (hb : Binds X.K fd ps []) (hx : Passes CX X E) :
    OpR X (compareOp .Eq) (rOwn2 C sp E) := by
  intro pins s σ H x y v u Q I rx ry h
  obtain ⟨a, dx, fs, b, dy, gs, rfl, rfl, ha, hb', hsp⟩ := h
  obtain rfl : v = .ref a := rx
  obtain rfl : u = .ref b := ry
  obtain ⟨mA, O, _, _, _, _⟩ := ins_get I.hok ha
  obtain ⟨od, J, _⟩ := O.look
  obtain ⟨mB, O2, _, _, _, _⟩ := ins_get I.hok hb'
  obtain ⟨od2, J2, _⟩ := O2.look
  obtain ⟨m, Fr⟩ := I.fr
  refine PySem.W.cmp_ofEq ?_
  refine PySem.W.cmp_K (op := .Eq) hu Fr I.ok.mod.kin J J2.type hn c.at_ c.fn ?_
  exact wpAny_mono (run_fn (vs := [V.ref a, V.ref b]) (us := [Value.ref a, Value.ref b]) F hr hb .nil hx I (.cons rfl (.cons rfl .nil)) hsp) (fun v s' hv => back_of hv) fun _ _ e => e
end
end Kt
namespace Kt
open PySem PySem.Spec PySem.Calls PyProof.Rows L2
section
variable {X : Cx} {CX : CXT} {k : Nat} {C f : Addr} {fd : FuncData} {ps : List Str} {sp : Sp} {E : XK}
/-- the callee runs deeper in, within a builtin -/
theorem run_deep {A' : Around} {pins : List (Addr × Obj)} {σ : L2.St} {H : Hp} {s : Shared} {Q : VK} {us : List Value} {vs : List V} (F : FnOk X.prog X.w X.K X.mg X.base CX k f fd ps sp) (hr : Room k A') (he : Env0 X.prog X.w X.K X.mg X.base A' X.stack s H) (hb : Binds X.K fd ps []) (hx : Passes CX X E)
    (I : Inv X pins σ H s) (r : Vals vs us) (h : sp vs H Q E) : wpAny (model X.prog X.w) A' (call (.ref f) us) (EP X pins σ Q) X.xe s := by
  have hl : (us ++ []).length = ps.length := by
    rw [List.append_nil, ← r.length]
    exact F.len _ _ _ _ h
  have hbs := hb s us I.kIn hl
  rw [List.append_nil] at hbs
  refine wpAny_call (codeAny_mono (F.run A' X.stack s H ⟨us, []⟩ us vs Q E hr he hbs r h) fun res s' hq => ?_)
  cases res with
  | error e => exact hx pins σ H s e s' I hq
  | ok fl =>
    cases fl with
    | ret u => exact I.after hq
    | next => exact False.elim hq
    | brk => exact False.elim hq
    | cont => exact False.elim hq
end
theorem bool_in {prog : Program} {w : World} {v : Value} : MeetsIn prog w (Builtin.«bool.__new__» ⟨[.type "bool", v], []⟩) (fun A R s => wpAny (model prog w) A.in1 (truthy v) (fun b s' => R (.ok (.ret (.bool b))) s') (fun e s' => R (.error e) s') s) := by
  intro A R s h
  obtain ⟨hp, g, d, tk, os⟩ := s
  have f1 := F.conv_sub_bool
  repeat (any_goals (first | (refine wpAny_bind (m := truthy v) (wpAny_mono h (fun b s' hb => ?_) fun _ _ e => e)) | wp_step))
  all_goals first | exact hb | exact wpAny_pure hb
theorem str_in {prog : Program} {w : World} {v : Value} : MeetsIn prog w (Builtin.«str.__new__» ⟨[.type "str", v], []⟩) (fun A R s => wpAny (model prog w) A.in1 (Builtin.Str.strOf v) (fun r s' => R (.ok (.ret r)) s') (fun e s' => R (.error e) s') s) := by
  intro B R s h
  rw [str_new_tree v]
  refine wpAny_bind (wpAny_pure (wpAny_bind (wpAny_of_eq isSubtype_str_str (wpAny_bind (wpAny_mono h (fun r s' hr => wpAny_pure hr) fun _ _ e => e)))))
theorem strOf_own {M : Model} {A : Around} {E : Value → Shared → Prop} {s : Shared} {K : PySem.W.Frag} {a C f : Addr} {ox : Obj} {od : Option Obj} {Q : Value → Shared → Prop} (hu : A.units < cLine) (X : K.In s.heap) (J : PySem.W.InstAt s.heap a ox C od) (c : OwnM K C "__str__" f)
    (h : wpAny M A (call (.ref f) [.ref a]) (fun r s' => ∃ x t, r = .str x t ∧ Q r s') E s) : wpAny M A (Builtin.Str.strOf (.ref a)) Q E s := by
  unfold Builtin.Str.strOf
  simp only [show Builtin.Str.isExactStr (.ref a) = false from rfl]
  refine wpAny_bind (m := cRoomFor _ _) (wpAny_cRoomFor hu ?_)
  refine wpAny_bind (m := callSpecial? (.ref a) (Str.ofString "__str__")) (PySem.W.special_fn X J c.at_ (beq_iff_eq.mp c.fn) (wpAny_mono h (fun r s' hr => ?_) fun _ _ e => e))
  obtain ⟨x, t, rfl, q⟩ := hr
  exact wpAny_pure q
section
variable {X : Cx} {CX : CXT} {k : Nat} {C f : Addr} {fd : FuncData} {ps : List Str} {sp : Sp} {E : XK}
/-- bool(a), by its own __bool__ -/
theorem call_boolO (c : OwnM X.K C "__bool__" f) (G : FnOk X.prog X.w X.K X.mg X.base CX k f fd ps sp) (hr : Room (k + 2) X.A) (hb : Binds X.K fd ps []) (hx : Passes CX X E) :
    CallR X (.type "bool") (fun xs H Q => ∃ a dx fs, xs = [.ref a] ∧ H a = some (.ins C dx fs) ∧ sp [.ref a] H (fun v H' => ∃ b, v = .bl b ∧ Q (.bl b) H') E) := by
  intro pins s σ H xs us Q I r h
  obtain ⟨a, dx, fs, rfl, ha, hsp⟩ := h
  obtain rfl := Vals.ref1 r
  obtain ⟨mA, O, _, _, _, _⟩ := ins_get I.hok ha
  obtain ⟨od, J, _⟩ := O.look
  obtain ⟨m, Fr⟩ := I.fr
  refine callType_newIn PySem.F.called_bool PySem.F.newNe_bool (PySem.F.typeCall_bool_1 _) (PySem.F.newCall_bool_1 _) (fun obj => PySem.F.args_object_init_2 obj _) PySem.F.entry_bool_new bool_in ?_
  refine PySem.W.truthy_K Fr I.ok.mod.kin J c.at_ c.fn (wpAny_mono (run_deep (vs := [V.ref a]) (us := [Value.ref a]) G hr.in1.in1 I.env0.in1.in1 hb hx I (.cons rfl .nil) hsp) (fun v s' hv => ?_) fun _ _ e => e)
  obtain ⟨z, H', I', rz, b, rfl, q⟩ := hv
  obtain rfl : v = .bool b := rz
  exact ⟨rfl, .bl b, H', I', rfl, q⟩
/-- str(a), by its own __str__ -/
theorem call_strO (c : OwnM X.K C "__str__" f) (G : FnOk X.prog X.w X.K X.mg X.base CX k f fd ps sp) (hr : Room (k + 2) X.A) (hb : Binds X.K fd ps []) (hx : Passes CX X E) :
    CallR X (.type "str") (fun xs H Q => ∃ a dx fs, xs = [.ref a] ∧ H a = some (.ins C dx fs) ∧ sp [.ref a] H (fun v H' => ∃ z, v = .str z ∧ Q (.str z) H') E) := by
  intro pins s σ H xs us Q I r h
  obtain ⟨a, dx, fs, rfl, ha, hsp⟩ := h
  obtain rfl := Vals.ref1 r
  obtain ⟨mA, O, _, _, _, _⟩ := ins_get I.hok ha
  obtain ⟨od, J, _⟩ := O.look
  refine callType_newIn PySem.F.called_str (by decide) (PySem.F.typeCall_str_1 _) (PySem.F.newCall_str_1 _) (fun obj => PySem.F.args_object_init_2 obj _) PySem.F.entry_str_new str_in ?_
  refine strOf_own (by have := hr.un; show X.A.units + 1 + 1 < cLine; omega) I.kIn J c (wpAny_mono (run_deep (vs := [V.ref a]) (us := [Value.ref a]) G hr.in1.in1 I.env0.in1.in1 hb hx I (.cons rfl .nil) hsp) (fun v s' hv => ?_) fun _ _ e => e)
  obtain ⟨z, H', I', rz, y, rfl, q⟩ := hv
  obtain ⟨t, rfl⟩ := rz
  exact ⟨y, t, rfl, typeIs_str _ _ _, .str y, H', I', ⟨t, rfl⟩, q⟩
end
end Kt
namespace Kt
open PySem PySem.Spec PySem.Calls PyProof.Rows L2
/-- != of an own class with __eq__ alone -/
theorem ne_body {prog : Program} {w : World} {A : Around} {E : Value → Shared → Prop} {s : Shared} {K : PySem.W.Frag} {a b C f : Addr} {ox : Obj} {od : Option Obj} {Q : PySem.Fin → Shared → Prop} (hu : A.units < cLine) (X : K.In s.heap) (J : PySem.W.InstAt s.heap a ox C od) (c : OwnM K C "__eq__" f)
    (h : wpAny (model prog w) A (call (.ref f) [.ref a, .ref b]) (fun v s' => ∃ r, v = .bool r ∧ Q (.done (.ret (.bool (!r)))) s') E s) : wpAny (model prog w) A (Builtin.«object.__ne__» ⟨[.ref a, .ref b], []⟩) Q E s := by
  unfold Builtin.«object.__ne__»
  repeat (first
    | with_reducible refine wpAny_cRoomFor hu ?_
    | (refine wpAny_bind (m := callSpecialIfBound? (.ref a) (Str.ofString "__eq__") [.ref b]) (PySem.W.ifBound_K X J c.at_ c.fn (wpAny_mono h (fun r s' hr => by
        obtain ⟨z, rfl, hq⟩ := hr
        repeat (first | exact hq | exact wpAny_pure hq | exact wpAny_truthy_bool hq | (refine wpAny_bind (m := truthy (.bool _)) (wpAny_truthy_bool ?_)) | wp_step)) fun _ _ e => e)))
    | wp_step)
/-- the class has no __ne__ of its own -/
structure NoNe (K : PySem.W.Frag) (C : Addr) : Prop where
  at_ : PySem.W.findIn K (.ref C) "__ne__" = some (some (.builtin "object.__ne__"))
  sub : PySem.W.subIn K (.ref C) (.type "object") = some true
theorem ne_try {prog : Program} {w : World} {A : Around} {E : Value → Shared → Prop} {s : Shared} {K : PySem.W.Frag} {a b C f : Addr} {ox : Obj} {od : Option Obj} {Q : Option Value → Shared → Prop} (hu : A.units + 1 < cLine) (X : K.In s.heap) (J : PySem.W.InstAt s.heap a ox C od) (n : NoNe K C) (c : OwnM K C "__eq__" f)
    (h : wpAny (model prog w) A.in1 (call (.ref f) [.ref a, .ref b]) (fun v s' => ∃ r, v = .bool r ∧ Q (some (.bool (!r))) s') E s) : wpAny (model prog w) A (tryCompare (.ref a) "__ne__" (.ref b)) Q E s := by
  have hc : wpAny (model prog w) A (call (.builtin "object.__ne__") [.ref a, .ref b]) (fun v s' => ∃ r, v = .bool r ∧ Q (some (.bool r)) s') E s := by
    refine wpAny_call (codeAny_call_builtin PySem.F.cmp_object.ne.plain PySem.F.cmpEntry_ne (PySem.W.check_slot PySem.F.cmpKind_ne PySem.F.cmpSplit_ne (J.type.andThen (PySem.W.looks_subIn X n.sub)) (PySem.F.cmpArgs_ne _ _) (ne_body (A := A.in1) hu X J c (wpAny_mono h (fun v s' hv => ?_) fun _ _ e => e))))
    obtain ⟨r, rfl, q⟩ := hv
    exact ⟨r, rfl, !r, rfl, q⟩
  have L1 : PySem.W.Looks (model prog w) s.heap (typeLookup (.ref C) "__ne__") (some (.builtin "object.__ne__")) := PySem.W.looks_findIn X n.at_
  simp only [tryCompare, callSpecialIfBound?, bindSpecialIfBound?]
  refine wpAny_bind (wpAny_holding (wpAny_bind (wpAny_bind ?_)))
  unfold specialOf
  refine wpAny_bind (J.type.here (L1.here ?_))
  simp only [PySem.F.cmp_object.ne.bind]
  have fin : wpAny (model prog w) A (call (.builtin "object.__ne__") ([.ref a] ++ [.ref b]) >>= fun v => pure (some v)) (fun v s' => ∃ r, v = some (.bool r) ∧ Q (some (.bool r)) s') E s := wpAny_bind (wpAny_mono hc (fun v s' ⟨r, e, q⟩ => wpAny_pure ⟨r, by rw [e], q⟩) fun _ _ e => e)
  refine wpAny_bind (wpAny_askSetting (wpAny_ite ?_))
  split
  · refine wpAny_pure (wpAny_mono fin (fun v s' hv => ?_) fun _ _ e => e)
    obtain ⟨r, rfl, q⟩ := hv
    exact wpAny_pure q
  · refine wpAny_pure (wpAny_mono fin (fun v s' hv => ?_) fun _ _ e => e)
    obtain ⟨r, rfl, q⟩ := hv
    exact wpAny_pure q
section
variable {X : Cx} {CX : CXT} {k : Nat} {C f : Addr} {fd : FuncData} {ps : List Str} {sp : Sp} {E : XK}
/-- what a != b asks: __eq__ gives a truth value -/
def rOwnNe (C : Addr) (sp : Sp) (E : XK) : R2 := fun x y H Q => ∃ a dx fs b dy gs, x = .ref a ∧ y = .ref b ∧ H a = some (.ins C dx fs) ∧ H b = some (.ins C dy gs) ∧ sp [.ref a, .ref b] H (fun v H' => ∃ r, v = .bl r ∧ Q (.bl (!r)) H') E
/-- a != b, both of one own class with __eq__ alone -/
theorem ne_own (c : OwnM X.K C "__eq__" f) (n : NoNe X.K C) (G : FnOk X.prog X.w X.K X.mg X.base CX k f fd ps sp) (hr : Room (k + 1) X.A) (hb : Binds X.K fd ps []) (hx : Passes CX X E) :
    OpR X (compareOp .NotEq) (rOwnNe C sp E) := by
  intro pins s σ H x y v u Q I rx ry h
  obtain ⟨a, dx, fs, b, dy, gs, rfl, rfl, ha, hb', hsp⟩ := h
  obtain rfl : v = .ref a := rx
  obtain rfl : u = .ref b := ry
  obtain ⟨mA, O, _, _, _, _⟩ := ins_get I.hok ha
  obtain ⟨od, J, _⟩ := O.look
  obtain ⟨mB, O2, _, _, _, _⟩ := ins_get I.hok hb'
  obtain ⟨od2, J2, _⟩ := O2.look
  have hu := hr.un
  have z : wpAny (model X.prog X.w) X.A (tryCompare (.ref a) "__ne__" (.ref b)) (fun r s' => ∃ v, r = some v ∧ EP X pins σ Q v s') X.xe s := by
    refine ne_try (by omega) I.kIn J n c (wpAny_mono (run_deep (vs := [V.ref a, V.ref b]) (us := [Value.ref a, Value.ref b]) G hr.in1 I.env0.in1 hb hx I (.cons rfl (.cons rfl .nil)) hsp) (fun v s' hv => ?_) fun _ _ e => e)
    obtain ⟨z, H', I', rz, r, rfl, q⟩ := hv
    obtain rfl : v = .bool r := rz
    exact ⟨r, rfl, _, rfl, .bl (!r), H', I', rfl, q⟩
  refine PySem.W.cmp_ofNotEq ?_
  unfold richCompare
  simp only [oneThing_ref]
  refine wpAny_holding (wpAny_bind (wpAny_cRoomFor (by omega) ?_))
  rw [cmpInfo_NotEq]
  dsimp only
  refine wpAny_bind (J.type.here (wpAny_bind (J2.type.here ?_)))
  simp only [bne_self_eq_false, Bool.false_eq_true, if_false]
  refine wpAny_bind (wpAny_pure ?_)
  simp only [Bool.false_eq_true, if_false]
  refine wpAny_bind (wpAny_mono z (fun r s' hr' => ?_) fun _ _ e => e)
  obtain ⟨v, rfl, q⟩ := hr'
  exact wpAny_pure q
/-- a ** n .., an int on the right -/
def rOwnI (C : Addr) (sp : Sp) (E : XK) : R2 := fun x y H Q => ∃ a dx fs n, x = .ref a ∧ y = .int n ∧ H a = some (.ins C dx fs) ∧ sp [.ref a, .int n] H Q E
/-- what the class and int must have for that -/
structure OwnI (K : PySem.W.Frag) (C : Addr) (op : Operator) : Prop where
  first : PySem.W.selfFirst K C = true
  right : PySem.W.findIn K (.ref C) (dunderR op.info.2) = some none
  sub : PySem.W.subIn K (.type "int") (.ref C) = some false
  l : ∃ fo, PySem.W.findIn K (.type "int") (PySem.dunder op.info.2) = some fo
  r : ∃ ro, PySem.W.findIn K (.type "int") (dunderR op.info.2) = some ro
theorem op_ownI {op : Operator} (c : OwnM X.K C (PySem.dunder op.info.2) f) (o : OwnI X.K C op) (G : FnOk X.prog X.w X.K X.mg X.base CX k f fd ps sp) (hr : Room k X.A) (hb : Binds X.K fd ps []) (hx : Passes CX X E) :
    OpR X (binaryOp op) (rOwnI C sp E) := by
  intro pins s σ H x y v u Q I rx ry h
  obtain ⟨a, dx, fs, n, rfl, rfl, ha, hsp⟩ := h
  obtain rfl : v = .ref a := rx
  obtain ⟨tk, rfl⟩ := ry
  obtain ⟨mA, O, _, _, _, _⟩ := ins_get I.hok ha
  obtain ⟨od, J, _⟩ := O.look
  obtain ⟨m, Fr⟩ := I.fr
  obtain ⟨fo, h1⟩ := o.l
  obtain ⟨ro, h2⟩ := o.r
  refine PySem.W.ksp_binT (T := "int") Fr I.ok.mod.kin J rfl o.first c.at_ c.fn o.right (.inl rfl) h1 h2 o.sub ?_
  exact wpAny_mono (run_fn (vs := [V.ref a, V.int n]) (us := [Value.ref a, Value.int n tk]) G hr hb .nil hx I (.cons rfl (.cons ⟨tk, rfl⟩ .nil)) hsp) (fun v s' hv => back_of hv) fun _ _ e => e
end
end Kt
namespace Kt
open PySem PySem.Spec PyProof.Rows L2
open Evl (Ex Ev EvL EvU EvT EvA EvO ex_l ex_t sq_of st_of sz_of sz_lt fresh_back given)
/-- data of a depth that == may walk -/
def Tame (ds : List PyData) : Prop := ∀ d ∈ ds, d.canLay0 = true ∧ d.depth ≤ 60
theorem tame_lay : ∀ {ds : List PyData}, Tame ds → PyData.canLayAll0 ds = true ∧ PyData.depthAll ds ≤ 60
  | [], _ => ⟨rfl, by decide⟩
  | d :: ds, h => by
    have h1 := h d List.mem_cons_self
    have h2 := tame_lay (ds := ds) fun x hx => h x (List.mem_cons_of_mem _ hx)
    constructor
    · rw [PyData.canLayAll0, h1.1, h2.1]
      rfl
    · rw [PyData.depthAll]
      omega
theorem shaped_list {ds : List PyData} (h : Tame ds) : SeqAt.shaped (.list ds) = true := by
  have z := tame_lay h
  unfold SeqAt.shaped
  rw [PyData.canLay0, z.1, PyData.depth, decide_eq_true (by omega)]
  rfl
theorem shaped_tuple {ds : List PyData} (h : Tame ds) : SeqAt.shaped (.tuple ds) = true := by
  have z := tame_lay h
  unfold SeqAt.shaped
  rw [PyData.canLay0, z.1, PyData.depth, decide_eq_true (by omega)]
  rfl
theorem Tame.filter {ds : List PyData} (h : Tame ds) (g : PyData → Bool) : Tame (ds.filter g) := fun d hd => h d (List.mem_filter.mp hd).1
theorem tame_ints (ns : List Int) : Tame (ns.map PyData.int) := fun d hd => by
  obtain ⟨n, _, rfl⟩ := List.mem_map.mp hd
  refine ⟨rfl, ?_⟩
  rw [PyData.depth]
  decide
theorem eqv_nil (ds : List PyData) : PyData.eqv (.list ds) (.list []) = ds.isEmpty := by
  rw [PyData.eqv]
  cases ds <;> rfl
theorem range_getD (ds : List PyData) : (List.range ds.length).map (fun i => ds.getD i .none) = ds := by
  apply List.ext_getElem
  · simp
  · intro i h1 h2
    rw [List.getElem_map, List.getElem_range, List.getD_eq_getElem?_getD, List.getElem?_eq_getElem h2]
    rfl
section
variable {K : PySem.W.Frag} {σ : L2.St} {H : Hp} {te tf : TE} {tt : TT} {D : Ends} {tz : TS} {i j k : Nat} {r1 r2 r3 : VR}
theorem dpa_pick {xs : List V} {ds : List PyData} (hd : DpAll K H xs ds) : ∀ {is : List Nat}, (∀ i ∈ is, i < ds.length) → DpAll K H (is.map fun i => xs.getD i .non) (is.map fun i => ds.getD i .none)
  | [], _ => .nil
  | i :: is, h => by
    have hi := h i List.mem_cons_self
    have hl := Dpa_len hd
    have hx : xs[i]? = some xs[i] := List.getElem?_eq_getElem (by omega)
    obtain ⟨d, h1, h2⟩ := Dpa_get hd hx
    refine .cons ?_ (dpa_pick hd fun x hx => h x (List.mem_cons_of_mem _ hx))
    show Dp K H (xs.getD i V.non) (ds.getD i PyData.none)
    rw [List.getD_eq_getElem?_getD, List.getD_eq_getElem?_getD, hx, h1]
    exact h2
/-- [x for x in data if test] -/
theorem er_filtD {wi : TI} {vs : List Nat} {xs : List V} {ds : List PyData} (hd : DpAll K H xs ds) (hw : Wk wi σ H xs.length (YAt xs)) (g : PyData → Bool) (hn : ds.length ≤ 50000) (hv : ∀ x, wipe ((wipe σ vs).set j (some x)) vs = wipe σ vs) (hj : ∀ x, ((wipe σ vs).set j (some x))[j]? = some (some x))
    (ht : ∀ x d H1, d ∈ ds → Ex H H1 → (vD K d).R x H1 → EvT tt ((wipe σ vs).set j (some x)) H1 (g d)) : EvR (tLc wi (gName j) tt (tVar j) vs) σ H (vD K (.list (ds.filter g))) := by
  have hlen := Dpa_len hd
  have z := el_comp (vs := vs) (g := gName j) (tt := tt) (te := tVar j) hw (fun i => g (ds.getD i .none)) (fun i => xs.getD i .non) (by omega) (fun i x H1 H2 hi e y R q => by
    obtain ⟨rfl, hx⟩ := y
    obtain ⟨d, h1, h2⟩ := Dpa_get hd hx
    have eg : ds.getD i .none = d := by rw [List.getD_eq_getElem?_getD, h1] <;> rfl
    have ex : xs.getD i .non = x := by rw [List.getD_eq_getElem?_getD, hx] <;> rfl
    refine q _ _ (hv _) (Ex.refl _) ?_ fun _ => ?_
    · rw [eg]
      exact ht x d _ (List.mem_of_getElem? h1) e (dp_ex e h2)
    · rw [ex]
      exact Evl.ev_var (hj x))
  have hp : DpAll K H (given xs.length (fun i => g (ds.getD i .none)) fun i => xs.getD i .non) (ds.filter g) := by
    unfold given
    have h2 := dpa_pick hd (is := (List.range xs.length).filter fun i => g (ds.getD i .none)) fun i hi => by
      have := List.mem_range.mp (List.mem_filter.mp hi).1
      omega
    have e : ((List.range xs.length).filter fun i => g (ds.getD i .none)).map (fun i => ds.getD i .none) = ds.filter g := by
      have e2 := List.filter_map (f := fun i => ds.getD i .none) (p := g) (l := List.range ds.length)
      rw [range_getD] at e2
      rw [e2, hlen]
      rfl
    rw [e] at h2
    exact h2
  intro H1 e Q q
  exact z H1 e Q fun p H2 hp1 e2 h2 => q (.ref p) H2 e2 (Dp.lst (sq_of h2) (dpa_ex (e.trans e2) hp))
theorem evr_lenT {rr : List V → Hp → VK → Prop} {rs : List VR} (hrr : rr = fun xs H Q => ∃ p ys, xs = [.ref p] ∧ (SqL K H p ys ∨ SqT K H p ys) ∧ Q (.int ys.length) H) (h : EvR te σ H (vT K rs)) : EvR (tCB rr (tCons te tNil)) σ H (vI (rs.length : Int)) := fun H1 e Q q => h H1 e _ fun v H2 e2 ⟨a, xs, ha, hs, hal⟩ => by
  subst hrr ha
  refine ⟨a, xs, rfl, .inr hs, ?_⟩
  rw [hal.len]
  exact q _ H2 e2 rfl
/-- data in three parts -/
theorem qr_un3 (h : EvR te σ H (vT K [r1, r2, r3])) (kk : ∀ u v w H1, Ex H H1 → r1.R u H1 → r2.R v H1 → r3.R w H1 → tz D (((σ.set i (some u)).set j (some v)).set k (some w)) H1) : tSeq (tAsg te (gTup K 3 (gCons (gName i) (gCons (gName j) (gCons (gName k) gNil))))) tz D σ H :=
  h H (Ex.refl H) _ fun x H1 e ⟨a, xs, ha, hs, ⟨u, _, h1, hu, ⟨v, _, h2, hv, ⟨w, _, h3, hw, h4⟩⟩⟩⟩ => by
    have h4' : _ = [] := h4
    subst h4' h3 h2 h1
    exact ⟨a, _, ha, hs, rfl, u, _, rfl, v, _, rfl, w, _, rfl, rfl, kk u v w H1 e hu hv hw⟩
theorem Alls_D : ∀ {rows : List (List Int)} {xs : List V}, Alls (rows.map (vP K)) xs H → DpAll K H xs (rows.map dP)
  | [], _, h => by
    have h' : _ = [] := h
    rw [h']
    exact .nil
  | r :: rs, _, ⟨v, ws, h1, h2, h3⟩ => by
    rw [h1]
    exact .cons (vP_D h2) (Alls_D h3)
theorem vT_D {rows : List (List Int)} {v : V} (h : (vT K (rows.map (vP K))).R v H) : (vD K (.tuple (rows.map dP))).R v H := by
  obtain ⟨a, xs, rfl, hs, hal⟩ := h
  exact .tup hs (Alls_D hal)
theorem tame_rows (rows : List (List Int)) : Tame (rows.map dP) := fun d hd => by
  obtain ⟨ns, _, rfl⟩ := List.mem_map.mp hd
  refine ⟨?_, ?_⟩
  · unfold dP
    rw [PyData.canLay0, lay_ints]
  · unfold dP
    rw [PyData.depth, depth_ints]
    decide
end
end Kt
namespace K0
open PySem PySem.Spec PyProof.Rows L2 Kt M
open Evl (Ex Ev EvL EvU EvT EvA EvO ex_l ex_t sq_of st_of sz_of sz_lt fresh_back given)
def OV.Ok : OV → Prop
  | .d (.tuple ds) => Tame ds
  | _ => True
def isIn (p : Int) : PyData → Bool
  | .int n => decide (0 ≤ n) && decide (n < p)
  | _ => false
theorem all_ints : ∀ {ds : List PyData}, ds.filter (fun d => isB d || !isIB d) = [] → ∃ ns : List Int, ds = ns.map PyData.int
  | [], _ => ⟨[], rfl⟩
  | d :: ds, h => by
    rw [List.filter_cons] at h
    split at h
    · cases h
    · next hd =>
      obtain ⟨ns, rfl⟩ := all_ints h
      cases d with
      | int i => exact ⟨i :: ns, rfl⟩
      | none => exact absurd rfl hd
      | bool b => exact absurd rfl hd
      | str z => exact absurd rfl hd
      | list l => exact absurd rfl hd
      | tuple l => exact absurd rfl hd
      | dict l => exact absurd rfl hd
theorem not_ints {p : Int} {ds : List PyData} (h : ds.filter (fun d => isB d || !isIB d) ≠ []) : (ds.map fun d => isWithin d 0 (p - 1)).all id = false := by
  cases hc : (ds.map fun d => isWithin d 0 (p - 1)).all id with
  | false => rfl
  | true =>
    obtain ⟨ns, rfl, _⟩ := ints_of hc
    refine absurd ?_ h
    rw [List.filter_eq_nil_iff]
    intro d hd
    obtain ⟨n, _, rfl⟩ := List.mem_map.mp hd
    exact Bool.false_ne_true
theorem in_within {p : Int} (hp : p ≤ 10) (ns : List Int) : ((ns.map PyData.int).map fun d => isWithin d 0 (p - 1)).all id = ((ns.map PyData.int).filter fun d => !isIn p d).isEmpty := by
  induction ns with
  | nil => rfl
  | cons n ns ih =>
    rw [List.map_cons, List.map_cons, List.all_cons, ih, List.filter_cons]
    have e : isWithin (.int n) 0 (p - 1) = isIn p (.int n) := by
      show (decide ((if n < 0 then -n else n) < 10 ^ 60) && (decide (0 ≤ n) && decide (n ≤ p - 1))) = (decide (0 ≤ n) && decide (n < p))
      by_cases h0 : 0 ≤ n
      · by_cases h1 : n < p
        · rw [if_neg (by omega), decide_eq_true (by omega), decide_eq_true h0, decide_eq_true (by omega), decide_eq_true h1]
          rfl
        · rw [decide_eq_false h1, decide_eq_false (show ¬ n ≤ p - 1 by omega), Bool.and_false, Bool.and_false]
      · rw [decide_eq_false h0, Bool.false_and, Bool.false_and, Bool.and_false]
    show (isWithin (.int n) 0 (p - 1) && _) = _
    rw [e]
    cases isIn p (.int n) <;> rfl
structure GR where
  p : Int
  xs : List Int
  ys : List Int
  t : T3
section
variable {P : Program} {w : World} {K : PySem.W.Frag} {mg : Str → Option Value} {base : Heap}
def sp__law_is_poly_here (K : PySem.W.Frag) : Sp := Con (G := GO) (fun g => g.p ≤ 10 ∧ g.o.Ok) (fun g => [vI g.p, vO K g.o]) (fun g => vB (hpf g.p g.o))
def sp__law_is_paper_right (K : PySem.W.Frag) : Sp := Con (G := GR) (fun g => Pr g.p ∧ PolyOk g.p g.xs ∧ PolyOk g.p g.ys ∧ PaperOk g.p g.xs g.ys g.t) (fun g => [vI g.p, vP K g.xs, vP K g.ys, vT K [vP K g.t.c, vP K g.t.a, vP K g.t.b]]) (fun _ => vB true)
def sp__law_quotients_right (K : PySem.W.Frag) : Sp := Con (G := GQ) (fun g => Pr g.p ∧ PolyOk g.p g.xs ∧ PolyOk g.p g.ys) (fun g => [vI g.p, vP K g.xs, vP K g.ys]) (fun _ => vB true)
end
end K0
namespace Kt
open PySem PySem.Spec PyProof.Rows L2
open Evl (Ex Ev EvL EvU EvT EvA EvO ex_l ex_t sq_of st_of sz_of sz_lt fresh_back given)
section
variable {K : PySem.W.Frag} {σ : L2.St} {H H' H'' : Hp} {te tf : TE} {l : Addr} {ns : List Int} {v : V} {b : Bool}
theorem evr_int1b {rr : List V → Hp → VK → Prop} (hrr : rr = fun xs H Q => (∃ i, xs = [.int i] ∧ Q (.int i) H) ∨ ∃ k, xs = [.bl k] ∧ Q (.int (if k then 1 else 0)) H) (h : EvR te σ H (vB b)) : EvR (tCB rr (tCons te tNil)) σ H (vI (if b = true then 1 else 0)) := fun H1 e Q q => h H1 e _ fun v H2 e2 hv => by
  have hv' : v = .bl b := hv
  subst hrr hv'
  exact .inr ⟨b, rfl, q _ H2 e2 rfl⟩
/-- the bag at l: three ints -/
def Bag (l : Addr) (H : Hp) : Prop := ∃ b0 b1 b2 : Int, H l = some (.lst [.int b0, .int b1, .int b2])
/-- all but what stands at l is kept -/
def ExB (l : Addr) (H H' : Hp) : Prop := ∀ a o, a ≠ l → H a = some o → H' a = some o
theorem ExB.refl : ExB l H H := fun _ _ _ h => h
theorem ExB.trans (h : ExB l H H') (h2 : ExB l H' H'') : ExB l H H'' := fun a o n e => h2 a o n (h a o n e)
theorem ExB.of (h : Ex H H') : ExB l H H' := fun a o _ e => h a o e
theorem ExB.upd {o : HO} (h : ExB l H H') : ExB l H (upd H' l o) := fun a o' n e => by
  rw [upd_ne n]
  exact h a o' n e
theorem vP_exB (h : (vP K ns).R v H) (hb : Bag l H) (e : ExB l H H') : (vP K ns).R v H' := by
  obtain ⟨a, ha, hs⟩ := h
  obtain ⟨b0, b1, b2, hl⟩ := hb
  refine ⟨a, ha, ?_⟩
  rcases hs with (h | ⟨o, h⟩) | h
  · refine .inl (.inl (e _ _ ?_ h))
    intro z
    rw [z, hl] at h
    cases h
  · refine .inl (.inr ⟨o, e _ _ ?_ h⟩)
    intro z
    rw [z, hl] at h
    cases h
  · exact .inr h
theorem Bag.ex (h : Bag l H) (e : Ex H H') : Bag l H' := by
  obtain ⟨b0, b1, b2, hl⟩ := h
  exact ⟨b0, b1, b2, e _ _ hl⟩
end
end Kt
namespace K0
open PySem PySem.Spec PyProof.Rows L2 Kt M
open Evl (Ex Ev EvL EvU EvT EvA EvO ex_l ex_t sq_of st_of sz_of sz_lt fresh_back given)
section
variable {P : Program} {w : World} {K : PySem.W.Frag} {mg : Str → Option Value} {base : Heap}
def sp__law_bag (K : PySem.W.Frag) : Sp := fun vs H Q _ => ∃ (ns : List Int) (spot : Nat) (v : V), vs = [v, .int (spot : Int)] ∧ (vL K ns).R v H ∧ spot ≤ 1000 ∧ ∀ p H', H p = none → Ex H H' → Bag p H' → Q (.ref p) H'
def sp__law_grab (_ : PySem.W.Frag) : Sp := fun vs H Q _ => ∃ (l : Addr) (total : Int), vs = [.ref l, .int total] ∧ Bag l H ∧ 0 < total ∧ total.natAbs < 2 ^ 250 ∧ ∀ r H', 0 ≤ r → r < total → ExB l H H' → Bag l H' → Q (.int r) H'
def sp__law_one_of (_ : PySem.W.Frag) : Sp := fun vs H Q _ => ∃ (l a : Addr) (ns : List Int), vs = [.ref l, .ref a] ∧ a ≠ l ∧ Bag l H ∧ H a = some (.lst (ns.map V.int)) ∧ ns ≠ [] ∧ ns.length ≤ 1000 ∧ ∀ n H', n ∈ ns → ExB l H H' → Bag l H' → Q (.int n) H'
abbrev s__law_bag : Stmt := topS 56
abbrev N__law_bag : List Str := ["script", "spot", "cell", "great", "mixed"]
theorem sc__law_bag : FnScope N__law_bag ["script", "spot"] (defScope s__law_bag) := ⟨rfl, rfl, rfl, by decide +kernel, rfl, by decide +kernel, by decide +kernel⟩
theorem ok__law_bag {f : Addr} {fd : FuncData} (F : Fun K "_law_bag" "_law_bag" s__law_bag f fd) (B : Bis mg)   : FnOk P w K mg base CX0 1 f fd ["script", "spot"] (sp__law_bag K) := by
  refine F.ok sc__law_bag (fun vs H Q E h => ?_) (fun cdv A outer s H vs Q E hr h => ?_)
  · obtain ⟨_, _, _, rfl, _⟩ := h
    rfl
  · obtain ⟨ns, spot, v_script, rfl, h_script, hspot, q⟩ := h
    refine ⟨_, (pss_cons (ps_set (i := 2) sc__law_bag.nd rfl (Or.inl rfl) (pe_ifExp (pt_cmpR op_lt (pv 1) (pe_callB call_len_seq (by rfl) (B "len" (by decide +kernel)) (by decide +kernel) (pa_cons (pv 0) pa_nil)) (nomark _)) (pe_ix (r := rIxL K) ix_list (pv 0) (pv 1) (fun _ _ => rfl)) (pe_op op_add (pe_op op_mul pe_int (pv 1)) pe_int)))
      (pss_cons (ps_set (i := 3) sc__law_bag.nd rfl (Or.inl rfl) (pe_op op_mod (pe_callTy call_int1 (by rfl) (B "int" (by decide +kernel)) (by decide +kernel) (pa_cons (pe_callB call_abs (by rfl) (B "abs" (by decide +kernel)) (by decide +kernel) (pa_cons (pv 2) pa_nil)) pa_nil)) (pe_op op_mulW (pe_op op_pow pe_int pe_int) (pe_op op_pow pe_int pe_int))))
      (pss_cons (ps_set (i := 4) sc__law_bag.nd rfl (Or.inl rfl) (pe_op op_add (pe_op op_add (pe_op op_add (pe_op op_mul (pe_op op_mod (pv 3) pe_int) pe_int) (pe_op op_mul pe_int (pv 1))) (pe_op op_mul pe_int (pe_callTy call_int1 (by rfl) (B "int" (by decide +kernel)) (by decide +kernel) (pa_cons (pe_cmpR op_lt (pv 2) pe_int (nomark _)) pa_nil)))) pe_int))
      (pss_one (ps_ret (pe_lst (pa_cons (pe_callB (call_max2 rfl) (by rfl) (B "max" (by decide +kernel)) (by decide +kernel) (pa_cons pe_int (pa_cons (pe_op op_sub (pv 3) (pe_op op_pow pe_int pe_int)) pa_nil))) (pa_cons (pe_op op_mod (pe_callTy call_int1 (by rfl) (B "int" (by decide +kernel)) (by decide +kernel) (pa_cons (pv 4) pa_nil)) pe_int) (pa_cons pe_int pa_nil))))))))), ?_⟩
    refine qr_asg (r := vI (if spot < ns.length then ns.getD spot 0 else 127 * spot + 61)) (evr_if (et_r (evr_op (evr_var rfl rfl) (evr_lenR rfl (EvR.kL (evr_var rfl h_script))) op_i0)) (fun hb => ?_) (fun hb => ?_)) fun v H1 e1 hv => ?_
    · have hlt : spot < ns.length := by
        have := of_decide_eq_true hb
        omega
      rw [if_pos hlt]
      exact evr_op (evr_var rfl h_script) (evr_var rfl rfl) (op_ixLn (by rw [List.getD_eq_getElem?_getD, List.getElem?_eq_getElem hlt] <;> rfl))
    · have hlt : ¬ spot < ns.length := by
        have := of_decide_eq_false hb
        omega
      rw [if_neg hlt]
      exact evr_op (evr_op evr_c (evr_var rfl rfl) (op_i (.inl (by decide)))) evr_c op_i0
    · obtain rfl := hv
      generalize (if spot < ns.length then ns.getD spot 0 else 127 * spot + 61 : Int) = cell
      refine qr_asg (evr_op (evr_int1 rfl (evr_abs rfl (evr_var rfl rfl))) (evr_op (evr_op evr_c evr_c (op_i ⟨by decide, by decide, by decide⟩)) (evr_op evr_c evr_c (op_i ⟨by decide, by decide, by decide⟩)) (op_i ?_)) (op_i ?_)) fun v H2 e2 hv => ?_
      · exact wide_mul (a := 250) (b := 250) (by decide) (by decide) (by decide) (by decide) (by decide)
      · decide
      · obtain rfl := hv
        generalize (if cell < 0 then -cell else cell) % (10 ^ (59 : Int).toNat * 10 ^ (60 : Int).toNat) = great
        refine qr_asg (evr_op (evr_op (evr_op (evr_op (evr_op (evr_var rfl rfl) evr_c (op_i (by decide))) evr_c (op_i (.inr (by decide)))) (evr_op evr_c (evr_var rfl rfl) (op_i (.inl (by decide)))) op_i0) (evr_op evr_c (evr_int1b rfl (evr_op (evr_var rfl rfl) evr_c op_i0)) (op_i (.inl (by decide)))) op_i0) evr_c op_i0) fun v H3 e3 hv => ?_
        obtain rfl := hv
        refine Evl.s_retL (xs := [_, _, _].map V.int) (el_dispI (evrs_cons (evr_cb (evrs_cons evr_c (evrs_cons (evr_op (evr_var rfl rfl) (evr_op evr_c evr_c (op_i ⟨by decide, by decide, by decide⟩)) op_i0) evrs_nil)) (cb_max rfl)) (evrs_cons (evr_op (evr_int1 rfl (evr_var rfl rfl)) evr_c (op_i (by decide))) (evrs_cons evr_c evrs_nil))) (Nat.le_of_ble_eq_true rfl)) fun p H4 n4 e4 h4 => ?_
        exact q p H4 (fresh_back ((e1.trans e2).trans e3) n4) (((e1.trans e2).trans e3).trans e4) ⟨_, _, _, h4⟩
abbrev s__law_grab : Stmt := topS 57
abbrev N__law_grab : List Str := ["bag", "total", "found", "one", "two"]
theorem sc__law_grab : FnScope N__law_grab ["bag", "total"] (defScope s__law_grab) := ⟨rfl, rfl, rfl, by decide +kernel, rfl, by decide +kernel, by decide +kernel⟩
theorem ok__law_grab {f : Addr} {fd : FuncData} (F : Fun K "_law_grab" "_law_grab" s__law_grab f fd) (B : Bis mg)   : FnOk P w K mg base CX0 1 f fd ["bag", "total"] (sp__law_grab K) := by
  refine F.ok sc__law_grab (fun vs H Q E h => ?_) (fun cdv A outer s H vs Q E hr h => ?_)
  · obtain ⟨_, _, rfl, _⟩ := h
    rfl
  · obtain ⟨l, total, rfl, ⟨b0, b1, b2, hl⟩, ht0, htw, q⟩ := h
    refine ⟨_, (pss_cons (ps_if (pt_cmpR op_gt (pe_ix (r := rIxL K) ix_list (pv 0) pe_int (fun _ _ => rfl)) pe_int (nomark _)) (pss_cons (ps_set (i := 2) sc__law_grab.nd rfl (Or.inl rfl) (pe_op op_mod (pe_callTy call_int1 (by rfl) (B "int" (by decide +kernel)) (by decide +kernel) (pa_cons (pe_ix (r := rIxL K) ix_list (pv 0) pe_int (fun _ _ => rfl)) pa_nil)) (pv 1)))
      (pss_cons (ps_asg (pe_op op_fdivW (pe_ix (r := rIxL K) ix_list (pv 0) pe_int (fun _ _ => rfl)) (pv 1)) (pg_sub (pv 0) pe_int set_list))
      (pss_one (ps_ret (pv 2))))) pss_nil)
      (pss_cons (ps_asg (pe_op op_add (pe_ix (r := rIxL K) ix_list (pv 0) pe_int (fun _ _ => rfl)) pe_int) (pg_sub (pv 0) pe_int set_list))
      (pss_cons (ps_set (i := 3) sc__law_grab.nd rfl (Or.inl rfl) (pe_op op_mod (pe_callTy call_int1 (by rfl) (B "int" (by decide +kernel)) (by decide +kernel) (pa_cons (pe_op op_add (pe_ix (r := rIxL K) ix_list (pv 0) pe_int (fun _ _ => rfl)) (pe_op op_mul pe_int (pe_ix (r := rIxL K) ix_list (pv 0) pe_int (fun _ _ => rfl)))) pa_nil)) pe_int))
      (pss_cons (ps_set (i := 4) sc__law_grab.nd rfl (Or.inl rfl) (pe_op op_add (pe_op op_mul (pe_op op_mod (pe_callTy call_int1 (by rfl) (B "int" (by decide +kernel)) (by decide +kernel) (pa_cons (pe_op op_add (pe_op op_mul (pv 3) (pv 3)) (pe_op op_mul pe_int (pe_ix (r := rIxL K) ix_list (pv 0) pe_int (fun _ _ => rfl)))) pa_nil)) pe_int) pe_int) (pv 3)))
      (pss_one (ps_ret (pe_op op_mod (pe_callTy call_int1 (by rfl) (B "int" (by decide +kernel)) (by decide +kernel) (pa_cons (pe_op op_fdiv (pv 4) pe_int) pa_nil)) (pv 1)))))))), ?_⟩
    have ix : ∀ {H' : Hp} {a0 a1 a2 : Int} {σ' : L2.St} (k : Nat) (z : Int), σ'[0]? = some (some (.ref l)) → H' l = some (.lst ([a0, a1, a2].map V.int)) → [a0, a1, a2][k]? = some z → EvR (tOp (rIxL K) (tVar 0) (tC (.int (k : Int)))) σ' H' (vI z) := fun k z h1 h2 h3 => evr_op (evr_mut h1 h2) evr_c (op_ixLn h3)
    refine Evl.q_when (et_r (evr_op (ix 0 b0 rfl hl rfl) evr_c op_i0)) (fun hb H1 e1 => ?_) (fun hb H1 e1 => ?_)
    · refine qr_asg (evr_op (evr_int1 rfl (ix 0 b0 rfl (e1 _ _ hl) rfl)) (evr_var rfl rfl) (op_i ht0)) fun v H2 e2 hv => ?_
      obtain rfl := hv
      have hl2 : H2 l = some (.lst ([b0, b1, b2].map V.int)) := e2 _ _ (e1 _ _ hl)
      refine qr_set (n := 0) hl2 (evr_op (ix 0 b0 rfl hl2 rfl) (evr_var rfl rfl) (op_i (wide_div ht0 htw (by decide) (by decide)))) (evr_var rfl rfl) evr_c (by show 0 < 3; decide) fun H3 e3 => ?_
      refine sr_ret (evr_var (r := vI (b0 % total)) rfl rfl) fun v H4 e4 hv => ?_
      obtain rfl := hv
      exact q _ H4 (Int.emod_nonneg _ (by omega)) (Int.emod_lt_of_pos _ ht0) ((ExB.of ((e1.trans e2).trans e3)).upd.trans (ExB.of e4)) ⟨_, _, _, e4 _ _ upd_same⟩
    · have hl1 : H1 l = some (.lst ([b0, b1, b2].map V.int)) := e1 _ _ hl
      refine qr_set (n := 2) hl1 (evr_op (ix 2 b2 rfl hl1 rfl) evr_c op_i0) (evr_var rfl rfl) evr_c (by show 2 < 3; decide) fun H2 e2 => ?_
      have hl3 : (upd H2 l (.lst (([b0, b1, b2].set 2 (b2 + 1)).map V.int))) l = some (.lst ([b0, b1, b2 + 1].map V.int)) := upd_same
      have eB : ExB l H (upd H2 l (.lst (([b0, b1, b2].set 2 (b2 + 1)).map V.int))) := (ExB.of (e1.trans e2)).upd
      generalize (upd H2 l (.lst (([b0, b1, b2].set 2 (b2 + 1)).map V.int))) = H3 at hl3 eB
      refine qr_asg (evr_op (evr_int1 rfl (evr_op (ix 1 b1 rfl hl3 rfl) (evr_op evr_c (ix 2 (b2 + 1) rfl hl3 rfl) (op_i (.inl (by decide)))) op_i0)) evr_c (op_i (by decide))) fun v H4 e4 hv => ?_
      obtain rfl := hv
      have ho0 := Int.emod_nonneg (b1 + 67867979 * (b2 + 1)) (by decide : (2305843009213693951 : Int) ≠ 0)
      have ho1 := Int.emod_lt_of_pos (b1 + 67867979 * (b2 + 1)) (by decide : (0 : Int) < 2305843009213693951)
      generalize (b1 + 67867979 * (b2 + 1)) % 2305843009213693951 = one at ho0 ho1
      have hl4 := e4 _ _ hl3
      refine qr_asg (evr_op (evr_op (evr_op (evr_int1 rfl (evr_op (evr_op (evr_var rfl rfl) (evr_var rfl rfl) (op_i (.inl (by omega)))) (evr_op evr_c (ix 2 (b2 + 1) rfl hl4 rfl) (op_i (.inl (by decide)))) op_i0)) evr_c (op_i (by decide))) evr_c (op_i (.inr (by decide)))) (evr_var rfl rfl) op_i0) fun v H5 e5 hv => ?_
      obtain rfl := hv
      generalize (one * one + 101 * (b2 + 1)) % 2305843009213693921 * 4256233 + one = two
      refine sr_ret (evr_op (evr_int1 rfl (evr_op (evr_var rfl rfl) evr_c (op_i ⟨by decide, by decide⟩))) (evr_var rfl rfl) (op_i ht0)) fun v H6 e6 hv => ?_
      obtain rfl := hv
      exact q _ H6 (Int.emod_nonneg _ (by omega)) (Int.emod_lt_of_pos _ ht0) (eB.trans (ExB.of ((e4.trans e5).trans e6))) ⟨_, _, _, e6 _ _ (e5 _ _ hl4)⟩
abbrev s__law_one_of : Stmt := topS 58
abbrev N__law_one_of : List Str := ["bag", "items"]
theorem sc__law_one_of : FnScope N__law_one_of ["bag", "items"] (defScope s__law_one_of) := ⟨rfl, rfl, rfl, by decide +kernel, rfl, by decide +kernel, by decide +kernel⟩
theorem ok__law_one_of {f : Addr} {fd : FuncData} (F : Fun K "_law_one_of" "_law_one_of" s__law_one_of f fd) (B : Bis mg)  (D__law_grab : De P w K mg base "_law_grab" ["bag", "total"] 1 (sp__law_grab K)) : FnOk P w K mg base CX0 2 f fd ["bag", "items"] (sp__law_one_of K) := by
  refine F.ok sc__law_one_of (fun vs H Q E h => ?_) (fun cdv A outer s H vs Q E hr h => ?_)
  · obtain ⟨_, _, _, rfl, _⟩ := h
    rfl
  · obtain ⟨l, a, ns, rfl, hne, hb, hs, hn, hz, q⟩ := h
    refine ⟨_, (pss_one (ps_ret (pe_ix (r := rIxL K) ix_list (pv 1) (pe_call D__law_grab.ok (hr.mono (by decide)) (by rfl) D__law_grab.g D__law_grab.kp D__law_grab.b .nil pass0 (pa_cons (pv 0) (pa_cons (pe_callB call_len_seq (by rfl) (B "len" (by decide +kernel)) (by decide +kernel) (pa_cons (pv 1) pa_nil)) pa_nil))) (fun _ _ => rfl)))), ?_⟩
    have hpos := List.length_pos_iff.mpr hn
    refine ⟨.ref a, rfl, .ref l, rfl, .ref a, rfl, a, _, rfl, .inl (sq_of hs), ?_⟩
    rw [List.length_map]
    refine ⟨l, (ns.length : Int), rfl, hb, by omega, ?_, fun r H' h0 h1 eB hb' => ?_⟩
    · have : (ns.length : Int).natAbs ≤ 1000 := by omega
      exact Nat.lt_of_le_of_lt this (by decide)
    · obtain ⟨k, rfl⟩ := Int.eq_ofNat_of_zero_le h0
      have hr : k < ns.length := by omega
      exact ⟨a, _, (k : Int), .int ns[k], rfl, rfl, sq_of (eB a _ hne hs), atI_nat (by rw [List.getElem?_map, List.getElem?_eq_getElem hr] <;> rfl), q _ H' (List.getElem_mem hr) eB hb'⟩
end
end K0
namespace K0
open PySem PySem.Spec PyProof.Rows L2 Kt M
open Evl (Ex Ev EvL EvU EvT EvA EvO ex_l ex_t sq_of st_of sz_of sz_lt fresh_back given)
section
variable {P : Program} {w : World} {K : PySem.W.Frag} {mg : Str → Option Value} {base : Heap}
def sp__law_poly_drawn (K : PySem.W.Frag) : Sp := fun vs H Q _ => ∃ (l : Addr) (p : Int) (most : Nat), vs = [.ref l, .int p, .int (most : Int)] ∧ Bag l H ∧ 0 < p ∧ p ≤ 10 ∧ most ≤ 100 ∧ ∀ ns v H', Red p ns → trim ns = ns → ns.length ≤ most + 1 → ExB l H H' → Bag l H' → (vP K ns).R v H' → Q v H'
abbrev s__law_poly_drawn : Stmt := topS 60
abbrev N__law_poly_drawn : List Str := ["bag", "prime", "most", "found", "turn"]
theorem sc__law_poly_drawn : FnScope N__law_poly_drawn ["bag", "prime", "most"] (defScope s__law_poly_drawn) := ⟨rfl, rfl, rfl, by decide +kernel, rfl, by decide +kernel, by decide +kernel⟩
theorem ok__law_poly_drawn {f : Addr} {fd : FuncData} (F : Fun K "_law_poly_drawn" "_law_poly_drawn" s__law_poly_drawn f fd) (B : Bis mg)  (D__law_grab : De P w K mg base "_law_grab" ["bag", "total"] 1 (sp__law_grab K)) : FnOk P w K mg base CX0 2 f fd ["bag", "prime", "most"] (sp__law_poly_drawn K) := by
  refine F.ok sc__law_poly_drawn (fun vs H Q E h => ?_) (fun cdv A outer s H vs Q E hr h => ?_)
  · obtain ⟨_, _, _, rfl, _⟩ := h
    rfl
  · obtain ⟨l, prime, most, rfl, hb, hp0, hp1, hm, q⟩ := h
    refine ⟨_, (pss_cons (ps_setLc (i := 3) (own := [("turn", 4)]) (g := (gName 4)) (tt := tYes) rfl sc__law_poly_drawn.nd rfl rfl (sw_true rfl rfl rfl (by decide +kernel)) (pi_range1 (by rfl) (B "range" (by decide +kernel)) (pa_cons (pe_call D__law_grab.ok (hr.mono (by decide)) (by rfl) D__law_grab.g D__law_grab.kp D__law_grab.b .nil pass0 (pa_cons (pv 0) (pa_cons (pe_op op_add (pv 2) pe_int) pa_nil))) pa_nil)) (blkOk_by (own := [("turn", 4)]) (N := N__law_poly_drawn) (sc := defScope s__law_poly_drawn) (by decide +kernel)) (fun _ _ _ _ _ => (pg_name (i := 4) sc__law_poly_drawn.nd rfl (Or.inl rfl))) (fun _ _ _ _ _ => pts_nil) (fun _ _ _ _ _ => (pe_call D__law_grab.ok (hr.mono (by decide)) (by rfl) D__law_grab.g D__law_grab.kp D__law_grab.b .nil pass0 (pa_cons (pv 0) (pa_cons (pv 1) pa_nil)))))
      (pss_cons (ps_while PassesOwn.never (PW.pt (pw_and (pt_cmpR (r := rNeD K) (op_neD hr.units) (pv 3) (pe_lst pa_nil) (nomark _)) (pw_and1 (pt_cmpR op_eq (pe_ix (r := rIxL K) ix_list (pv 3) (pe_un un_neg pe_int) (fun _ _ => rfl)) pe_int (nomark _))))) (pss_one (ps_expr (pe_bm0 PySem.F.plainAttrs_list PySem.F.slot_list_pop PySem.F.type_list_pop mt_pop (pv 3)))))
      (pss_one (ps_ret (pe_callTy call_tuple_of (by rfl) (B "tuple" (by decide +kernel)) (by decide +kernel) (pa_cons (pv 3) pa_nil)))))), ?_⟩
    refine ⟨.ref l, rfl, .int (most : Int), rfl, (most : Int), 2, rfl, rfl, l, (most : Int) + 2, rfl, hb, by omega, ?_, fun r H1 h0 h1 eB hb1 => ?_⟩
    · have : ((most : Int) + 2).natAbs ≤ 200 := by omega
      exact Nat.lt_of_le_of_lt this (by decide)
    obtain ⟨n, rfl⟩ := Int.eq_ofNat_of_zero_le h0
    refine ⟨(n : Int), rfl, by omega, by omega, fun D hD => ?_⟩
    have hDl : D ≠ l := fun z => by
      obtain ⟨b0, b1, b2, h⟩ := hb1
      rw [z, h] at hD
      cases hD
    have hD0 : H D = none := by
      cases h : H D with
      | none => rfl
      | some o =>
        rw [eB D o hDl h] at hD
        cases hD
    have up : ∀ {H' : Hp} {o : HO}, ExB l H H' → Bag l H' → ExB l H (upd H' D o) ∧ Bag l (upd H' D o) := fun e hb => by
      constructor
      · intro a o' ha e'
        rw [upd_ne]
        · exact e a o' ha e'
        · intro z
          rw [z, hD0] at e'
          cases e'
      · obtain ⟨b0, b1, b2, h⟩ := hb
        exact ⟨b0, b1, b2, by rw [upd_ne (Ne.symm hDl)]; exact h⟩
    refine lc_it (walk_range (lo := 0) (n := n)) (fun i H' => ∃ acc : List Int, acc.length = i ∧ Red prime acc ∧ H' D = some (.lst (acc.map V.int)) ∧ ExB l H H' ∧ Bag l H') ⟨[], rfl, fun m hm => by simp at hm, upd_same, up eB hb1⟩ (fun _ _ _ _ => trivial) (fun i x H2 H3 hi p y => ?_) fun H2 p => ?_
    · obtain ⟨acc, la, ra, hA, e2, b2⟩ := p
      obtain ⟨rfl, rfl⟩ := y
      refine ⟨rfl, ?_⟩
      unfold tYes
      dsimp only
      rw [if_pos rfl]
      refine ⟨.ref l, rfl, .int prime, rfl, l, prime, rfl, b2, hp0, ?_, fun r H4 g0 g1 e4 b4 => ?_⟩
      · have : prime.natAbs ≤ 10 := by omega
        exact Nat.lt_of_le_of_lt this (by decide)
      · refine ⟨acc.map V.int, e4 _ _ hDl hA, sz_lt (by rw [List.length_map]; omega), acc ++ [r], by rw [List.length_append, la]; rfl, fun m hm => ?_, ?_, up (e2.trans e4) b4⟩
        · rcases List.mem_append.mp hm with h | h
          · exact ra m h
          · obtain rfl := List.mem_singleton.mp h
            exact ⟨g0, g1⟩
        · rw [List.map_append]
          exact upd_same
    · obtain ⟨acc, la, ra, hA, e2, b2⟩ := p
      refine Evl.q_while (fun m σ' H' => σ' = [some (.ref l), some (.int prime), some (.int (most : Int)), some (.ref D), none] ∧ ∃ acc : List Int, m = acc.length ∧ acc.length ≤ n ∧ Red prime acc ∧ H' D = some (.lst (acc.map V.int)) ∧ ExB l H H' ∧ Bag l H') acc.length ⟨rfl, acc, rfl, by omega, ra, hA, e2, b2⟩ fun m σ' H' hW => ?_
      obtain ⟨rfl, acc, rfl, la, ra, hA, e2, b2⟩ := hW
      refine ⟨!decide (acc = []) && decide (V.int (acc.getLastD 0) = V.int 0), Evl.et_and (et_r (evr_op (evr_mut rfl hA) (evr_dispL (K := K) (ns := []) evrs_nil (by decide)) op_neLL)) fun h1 => ?_, fun hb H5 e5 => ?_, fun hb H5 e5 => ?_⟩
      · have hne : acc ≠ [] := fun z => by
          rw [z] at h1
          cases h1
        refine et_r (evr_op (evr_op (evr_mut rfl hA) (un_negI evr_c) (op_ixLi (z := .int (acc.getLastD 0)) ?_)) evr_c (op_eqS rfl))
        rw [List.getLastD_eq_getLast?, List.getLast?_eq_some_getLast hne]
        exact atI_lastI hne
      · rw [Bool.and_eq_true] at hb
        have hne : acc ≠ [] := fun z => by
          rw [z] at hb
          cases hb.1
        have hpos := List.length_pos_iff.mpr hne
        refine ⟨fun σ2 H2 => σ2 = [some (.ref l), some (.int prime), some (.int (most : Int)), some (.ref D), none] ∧ H2 D = some (.lst (acc.dropLast.map V.int)) ∧ ExB l H H2 ∧ Bag l H2, fun σ2 H2 hN => ?_, ?_⟩
        · exact ⟨acc.dropLast.length, by rw [List.length_dropLast]; omega, hN.1, acc.dropLast, rfl, by rw [List.length_dropLast]; omega, fun m hm => ra m (List.dropLast_subset _ hm), hN.2.1, hN.2.2⟩
        · refine sr_pop (ns := acc) (e5 _ _ hA) (Evl.ev_var rfl) hne fun H6 e6 => ?_
          exact ⟨rfl, upd_same, up (e2.trans (ExB.of (e5.trans e6))) ((b2.ex e5).ex e6)⟩
      · have ht : trim acc = acc := by
          by_cases hz : acc = []
          · rw [hz]
            rfl
          · refine trim_self fun z => ?_
            rw [decide_eq_false hz, z] at hb
            cases hb
        refine sr_ret (evr_tupleL rfl (evr_mut rfl (e5 _ _ hA))) fun v H6 e6 hv => ?_
        exact q acc v H6 ra ht (by omega) (e2.trans (ExB.of (e5.trans e6))) ((b2.ex e5).ex e6) hv
end
end K0
namespace Kt
open PySem PySem.Spec PyProof.Rows L2
open Evl (Ex Ev EvL EvU EvT EvA EvO ex_l ex_t sq_of st_of sz_of sz_lt fresh_back given)
section
variable {K : PySem.W.Frag} {σ : L2.St} {H H' : Hp} {te tf : TE} {ta tk : TA} {l : Addr} {P P' : Int → Prop} {n : Nat} {x : Int} {D : Ends} {tz : TS} {i : Nat}
/-- an int of P comes; the bag may change -/
def EvB (l : Addr) (te : TE) (σ : L2.St) (P : Int → Prop) : Prop := ∀ H1, Bag l H1 → ∀ Q : VK, (∀ n H2, P n → ExB l H1 H2 → Bag l H2 → Q (.int n) H2) → te σ H1 Q
def EvBs (l : Addr) (ta : TA) (σ : L2.St) (n : Nat) (P : Int → Prop) : Prop := ∀ H1, Bag l H1 → ∀ Q : List V → Hp → Prop, (∀ (ns : List Int) H2, ns.length = n → (∀ m ∈ ns, P m) → ExB l H1 H2 → Bag l H2 → Q (ns.map V.int) H2) → ta σ H1 Q
theorem EvB.imp (h : EvB l te σ P) (k : ∀ n, P n → P' n) : EvB l te σ P' := fun H1 hb Q q => h H1 hb Q fun n H2 hp => q n H2 (k n hp)
theorem evb_r (h : ∀ H1, EvR te σ H1 (vI x)) : EvB l te σ (fun n => n = x) := fun H1 hb Q q => h H1 H1 (Ex.refl H1) Q fun v H2 e2 hv => by
  have hv' : v = .int x := hv
  subst hv'
  exact q x H2 rfl (ExB.of e2) (hb.ex e2)
theorem evb_sub (h : ∀ H1, EvR te σ H1 (vI x)) (h2 : EvB l tf σ P) : EvB l (tOp (rI0 fun i j => .int (i - j)) te tf) σ (fun n => ∃ m, P m ∧ n = x - m) := fun H1 hb Q q => h H1 H1 (Ex.refl H1) _ fun v H2 e2 hv => by
  have hv' : v = .int x := hv
  subst hv'
  exact h2 H2 (hb.ex e2) _ fun m H3 hm e3 b3 => ⟨x, m, rfl, rfl, q _ H3 ⟨m, hm, rfl⟩ ((ExB.of e2).trans e3) b3⟩
theorem evbs_nil : EvBs l tNil σ 0 P := fun H1 hb Q q => q [] H1 rfl (fun m hm => by simp at hm) ExB.refl hb
theorem evbs_cons (h : EvB l te σ P) (h2 : EvBs l ta σ n P) : EvBs l (tCons te ta) σ (n + 1) P := fun H1 hb Q q => h H1 hb _ fun m H2 hm e2 b2 => h2 H2 b2 _ fun ns H3 hl hP e3 b3 => by
  refine q (m :: ns) H3 (by rw [List.length_cons, hl]) (fun k hk => ?_) (e2.trans e3) b3
  rcases List.mem_cons.mp hk with rfl | hk
  · exact hm
  · exact hP k hk
theorem qb_asg (h : EvB l te σ P) (hb : Bag l H) (k : ∀ n H1, P n → ExB l H H1 → Bag l H1 → tz D (σ.set i (some (.int n))) H1) : tSeq (tAsg te (gName i)) tz D σ H := h H hb _ fun n H1 hp e b => k n H1 hp e b
theorem Alls.append : ∀ {rs rk : List VR} {vs zs : List V}, Alls rs vs H → Alls rk zs H → Alls (rs ++ rk) (vs ++ zs) H
  | [], _, _, _, h, h2 => by
    have h' : _ = [] := h
    rw [h']
    exact h2
  | r :: rs, _, _, _, ⟨v, ws, h1, h3, h4⟩, h2 => by
    rw [h1]
    exact ⟨v, _, rfl, h3, Alls.append h4 h2⟩
/-- a call that is told a keyword too -/
theorem evr_callN {G : Type} {pre : G → Prop} {args : G → List VR} {res : G → VR} {E : XK} {n m : Nat} {rs rk : List VR} (g : G) (hp : pre g) (h : EvRs ta σ H rs) (hk : EvRs tk σ H rk) (hn : rs.length = n) (hm : rk.length = m) (ha : args g = rs ++ rk) : EvR (tCallN n m (Con pre args res) (fun vs zs => vs ++ zs) E ta tk) σ H (res g) := fun H1 e Q q =>
  h H1 e _ fun vs H2 e2 hvs => hk H2 (e.trans e2) _ fun zs H3 e3 hzs => ⟨by rw [hvs.len]; exact hn, by rw [hzs.len]; exact hm, g, hp, by
    rw [ha]
    exact (hvs.mono e3).append hzs, fun v H4 e4 hv => q v H4 ((e2.trans e3).trans e4) hv⟩
/-- a call whose last arguments stand as defaults -/
theorem evr_callD {G : Type} {pre : G → Prop} {args : G → List VR} {res : G → VR} {E : XK} {dvs : List V} {rs rk : List VR} (g : G) (hp : pre g) (h : EvRs ta σ H rs) (hk : ∀ H', Alls rk dvs H') (ha : args g = rs ++ rk) : EvR (tCall (Con pre args res) dvs E ta) σ H (res g) := fun H1 e Q q =>
  h H1 e _ fun vs H2 e2 hvs => ⟨g, hp, by
    rw [ha]
    exact hvs.append (hk H2), fun v H3 e3 hv => q v H3 (e2.trans e3) hv⟩
end
end Kt
namespace K0
open PySem PySem.Spec PyProof.Rows L2 Kt M
open Evl (Ex Ev EvL EvU EvT EvA EvO ex_l ex_t sq_of st_of sz_of sz_lt fresh_back given)
theorem evb_grab {K : PySem.W.Frag} {σ : L2.St} {te : TE} {l : Addr} {t : Int} {E : XK} (h0 : σ[0]? = some (some (.ref l))) (h : ∀ H1, EvR te σ H1 (vI t)) (ht : 0 < t) (hw : t.natAbs < 2 ^ 250) : EvB l (tCall (sp__law_grab K) [] E (tCons (tVar 0) (tCons te tNil))) σ (fun n => 0 ≤ n ∧ n < t) := fun H1 hb Q q =>
  ⟨.ref l, h0, h H1 H1 (Ex.refl H1) _ fun v H2 e2 hv => by
    have hv' : v = .int t := hv
    subst hv'
    exact ⟨l, t, rfl, hb.ex e2, ht, hw, fun r H3 g0 g1 e3 b3 => q r H3 ⟨g0, g1⟩ ((ExB.of e2).trans e3) b3⟩⟩
theorem evb_oneof {K : PySem.W.Frag} {σ : L2.St} {ta : TA} {l : Addr} {n : Nat} {P : Int → Prop} {E : XK} (h0 : σ[0]? = some (some (.ref l))) (h : EvBs l ta σ n P) (hn : 0 < n ∧ n ≤ 1000) : EvB l (tCall (sp__law_one_of K) [] E (tCons (tVar 0) (tCons (tLst ta) tNil))) σ P := fun H1 hb Q q =>
  ⟨.ref l, h0, h H1 hb _ fun ns H2 hl hP e2 b2 => by
    refine ⟨sz_of (by rw [List.length_map]; omega), fun p hp => ?_⟩
    have hpl : p ≠ l := fun z => by
      obtain ⟨b0, b1, bb, h⟩ := b2
      rw [z, h] at hp
      cases hp
    have b3 : Bag l (upd H2 p (.lst (ns.map V.int))) := by
      obtain ⟨b0, b1, bb, h⟩ := b2
      exact ⟨b0, b1, bb, by rw [upd_ne (Ne.symm hpl)]; exact h⟩
    refine ⟨l, p, ns, rfl, hpl, b3, upd_same, ?_, by omega, fun m H3 hm e3 b4 => q m H3 (hP m hm) (e2.trans ((ExB.of (Ex.new hp)).trans e3)) b4⟩
    intro z
    rw [z] at hl
    simp at hl
    omega⟩
end K0
namespace Kt
open PySem PySem.Spec PyProof.Rows L2
open Evl (Ex Ev EvL EvU EvT EvA EvO ex_l ex_t sq_of st_of sz_of sz_lt fresh_back given)
def reprB (b : Bool) : Str := if b then "True" else "False"
def rReprB : List V → Hp → VK → Prop := fun xs H Q => ∃ b, xs = [.bl b] ∧ Q (.str (reprB b)) H
theorem call_repr_bool {X : Cx} : CallR X (.builtin "repr") rReprB := by
  intro pins s σ H xs us Q I r h
  obtain ⟨b, rfl, q⟩ := h
  obtain ⟨u, rfl, rfl⟩ := vals1 r
  exact PySem.P.repr_of_bool ⟨.str _, H, I.tok _, ⟨_, rfl⟩, q⟩
section
variable {K : PySem.W.Frag} {σ : L2.St} {H H' : Hp} {te tf tl tk : TE} {ta : TA} {tt : TT} {rs os rk : List VR} {r : VR} {j : Nat} {vs : List Nat} {b : Bool} {ns : List Int} {D : Ends} {tz : TS}
theorem evr_reprB (h : EvR te σ H (vB b)) : EvR (tCB rReprB (tCons te tNil)) σ H (vS (reprB b)) := fun H1 e Q q => h H1 e _ fun v H2 e2 hv => by
  have hv' : v = .bl b := hv
  subst hv'
  exact ⟨b, rfl, q _ H2 e2 rfl⟩
/-- a new list of such things -/
def EvM (te : TE) (σ : L2.St) (H : Hp) (rs : List VR) : Prop := ∀ H1, Ex H H1 → ∀ Q : VK, (∀ p xs H2, H1 p = none → Ex H1 H2 → H2 p = some (.lst xs) → Alls rs xs H2 → Q (.ref p) H2) → te σ H1 Q
theorem EvM.ls (h : EvM te σ H rs) : EvR te σ H (vLs K rs) := fun H1 e Q q => h H1 e Q fun p xs H2 _ e2 h2 ha => q (.ref p) H2 e2 ⟨p, xs, rfl, sq_of h2, ha⟩
theorem em_disp (h : EvRs ta σ H rs) (hl : rs.length ≤ 100000) : EvM (tLst ta) σ H rs := fun H1 e Q q =>
  h H1 e _ fun vs H2 e2 hvs => ⟨sz_of (by rw [hvs.len]; exact hl), fun p hp => q p vs _ (fresh_back e2 hp) (e2.trans (Ex.new hp)) upd_same (hvs.mono (Ex.new hp))⟩
theorem em_cat (h : EvM te σ H rs) (h2 : EvM tk σ H rk) (hz : rs.length + rk.length ≤ 100000) : EvM (tOp rCat te tk) σ H (rs ++ rk) := fun H1 e Q q =>
  h H1 e _ fun p xs H2 hp e2 hp2 ha => h2 H2 (e.trans e2) _ fun p' ys H3 hp' e3 hp3 hb => by
    refine ⟨p, p', _, _, rfl, rfl, e3 _ _ hp2, hp3, sz_of (by rw [ha.len, hb.len]; exact hz), fun l hl => q l _ _ (fresh_back (e2.trans e3) hl) ((e2.trans e3).trans (Ex.new hl)) upd_same ?_⟩
    exact (((ha.mono e3).append hb).mono (Ex.new hl))
theorem Alls.one : ∀ {rs : List VR} {xs : List V} {i : Nat} {x : V} {H : Hp}, Alls rs xs H → xs[i]? = some x → ∃ r : VR, rs[i]? = some r ∧ r.R x H
  | [], _, _, _, _, h, hx => by
    have h' : _ = [] := h
    rw [h'] at hx
    simp at hx
  | r :: rs, _, 0, x, _, ⟨v, ws, h1, h2, h3⟩, hx => by
    subst h1
    obtain rfl := Option.some.inj hx
    exact ⟨r, rfl, h2⟩
  | r :: rs, _, i + 1, x, _, ⟨v, ws, h1, h2, h3⟩, hx => by
    subst h1
    obtain ⟨r', h4, h5⟩ := Alls.one h3 hx
    exact ⟨r', h4, h5⟩
theorem Alls.snoc {r : VR} {vs : List V} {v : V} {H : Hp} (h : Alls rs vs H) (hv : r.R v H) : Alls (rs ++ [r]) (vs ++ [v]) H := Alls.append h ⟨_, [], rfl, hv, rfl⟩
/-- what holds of a value whatever a list holds -/
def Stab (r : VR) : Prop := ∀ (v : V) (H : Hp) (l : Addr) (xs ys : List V), r.R v H → H l = some (.lst xs) → r.R v (upd H l (.lst ys))
theorem Alls.stab : ∀ {rs : List VR} {vs : List V} {H : Hp} {l : Addr} {xs ys : List V}, (∀ r ∈ rs, Stab r) → Alls rs vs H → H l = some (.lst xs) → Alls rs vs (upd H l (.lst ys))
  | [], _, _, _, _, _, _, h, _ => h
  | r :: rs, _, _, _, _, _, hs, ⟨v, ws, h1, h2, h3⟩, hl => ⟨v, ws, h1, hs r List.mem_cons_self _ _ _ _ _ h2 hl, Alls.stab (fun x hx => hs x (List.mem_cons_of_mem _ hx)) h3 hl⟩
theorem stab_I {x : Int} : Stab (vI x) := fun _ _ _ _ _ h _ => h
theorem stab_P {ns : List Int} : Stab (vP K ns) := fun _ _ _ _ _ h hl => K0.vP_upd h hl
/-- [e for x in things], of a walk that gives the i-th of xs -/
theorem em_comp {wi : TI} {xs : List V} (hw : Wk wi σ H xs.length (YAt xs)) (hal : Alls rs xs H) (hlen : os.length = rs.length) (hz : rs.length ≤ 50000) (hv : ∀ x, wipe ((wipe σ vs).set j (some x)) vs = wipe σ vs)
    (hst : ∀ o ∈ os, Stab o) (he : ∀ (i : Nat) (r o : VR) (x : V) (H1 : Hp), rs[i]? = some r → os[i]? = some o → Ex H H1 → r.R x H1 → EvR te ((wipe σ vs).set j (some x)) H1 o) : EvM (tLc wi (gName j) tYes te vs) σ H os := fun H0 e Q q =>
  hw H0 e _ fun J H1 G e1 w hG Dd hD => by
    have hxl := hal.len
    refine lc_it w (fun i H' => H1 Dd = none ∧ Ex H1 H' ∧ ∃ acc, H' Dd = some (.lst acc) ∧ Alls (os.take i) acc H') ⟨hD, Ex.new hD, [], upd_same, rfl⟩ (fun i H' _ p => hG H' p.2.1) (fun i x Ha Hb hi p y => ?_) (fun H' p => ?_)
    · obtain ⟨p1, p2, acc, p3, p4⟩ := p
      obtain ⟨rfl, hx⟩ := y
      refine ⟨hv x, ?_⟩
      unfold tYes
      dsimp only
      rw [if_pos rfl]
      obtain ⟨r, hr, hrx⟩ := Alls.one hal hx
      have hio : i < os.length := by omega
      have ho : os[i]? = some os[i] := List.getElem?_eq_getElem hio
      have eH : Ex H Hb := (e.trans e1).trans p2
      refine he i r _ x Hb hr ho eH (r.st eH hrx) Hb (Ex.refl Hb) _ fun v H4 e4 hv4 => ?_
      refine ⟨acc, e4 _ _ p3, sz_lt (by have := p4.len; rw [List.length_take] at this; omega), p1, Ex.mut (p2.trans e4) p1, acc ++ [v], upd_same, ?_⟩
      rw [List.take_add_one, ho]
      refine Alls.stab (fun o ho' => hst o ?_) ((p4.mono e4).snoc hv4) (e4 _ _ p3)
      rcases List.mem_append.mp ho' with h | h
      · exact List.mem_of_mem_take h
      · obtain rfl := List.mem_singleton.mp h
        exact List.getElem_mem hio
    · obtain ⟨p1, p2, acc, p3, p4⟩ := p
      rw [hxl, ← hlen, List.take_length] at p4
      exact q Dd acc H' (fresh_back e1 p1) (e1.trans p2) p3 p4
end
end Kt
namespace Kt
open PySem PySem.Spec PyProof.Rows L2
open Evl (Ex Ev EvL EvU EvT EvA EvO ex_l ex_t sq_of st_of sz_of sz_lt fresh_back given)
section
variable {K : PySem.W.Frag} {σ : L2.St} {H H' : Hp} {te tf tl to : TE} {ta : TA} {t u : TT} {rs os rk : List VR} {r : VR} {j : Nat} {vs : List Nat} {b c : Bool} {ns : List Int} {D : Ends} {tz tu : TS} {l : Addr}
abbrev rLenK (K : PySem.W.Frag) : List V → Hp → VK → Prop := fun xs H Q => ∃ p ys, xs = [V.ref p] ∧ (SqL K H p ys ∨ SqT K H p ys) ∧ Q (.int ys.length) H
/-- a list of which the test keeps nothing -/
theorem er_none {wi : TI} {xs : List V} (hw : Wk wi σ H xs.length (YAt xs)) (hal : Alls rs xs H) (hz : rs.length ≤ 50000) (hv : ∀ x, wipe ((wipe σ vs).set j (some x)) vs = wipe σ vs)
    (ht : ∀ (r : VR) (x : V) (H1 : Hp), r ∈ rs → Ex H H1 → r.R x H1 → EvT t ((wipe σ vs).set j (some x)) H1 false) : EvR (tLc wi (gName j) t te vs) σ H (vL K []) := by
  have z := el_comp (vs := vs) (g := gName j) (tt := t) (te := te) hw (fun _ => false) (fun _ => .non) (by rw [hal.len]; omega) (fun i x H1 H2 hi e y R q => by
    obtain ⟨rfl, hx⟩ := y
    obtain ⟨r, hr, hrx⟩ := Alls.one hal hx
    exact q _ _ (hv _) (Ex.refl _) (ht r x _ (List.mem_of_getElem? hr) e (r.st e hrx)) fun h => by cases h)
  have e : given xs.length (fun _ => false) (fun _ => V.non) = ([] : List Int).map V.int := by
    unfold given
    rw [List.filter_eq_nil_iff.mpr fun _ _ => Bool.false_ne_true]
    rfl
  rw [e] at z
  exact evr_ofL z
theorem Alls_dpa : ∀ {ds : List PyData} {xs : List V}, Alls (ds.map (vD K)) xs H → DpAll K H xs ds
  | [], _, h => by
    have h' : _ = [] := h
    rw [h']
    exact .nil
  | d :: ds, _, ⟨v, ws, h1, h2, h3⟩ => by
    rw [h1]
    exact .cons h2 (Alls_dpa h3)
theorem evr_dispD {ds : List PyData} (h : EvRs ta σ H (ds.map (vD K))) (hl : ds.length ≤ 100000) : EvR (tTup ta) σ H (vD K (.tuple ds)) := by
  have z := evr_dispT (K := K) h (by rw [List.length_map]; exact hl)
  refine z.to fun v H e hv => ?_
  obtain ⟨a, xs, rfl, hs, hal⟩ := hv
  exact Dp.tup hs (Alls_dpa hal)
theorem evr_dict : EvR tDNewK σ H (K0.vO K .dict) := fun H1 e Q q p hp => q (.ref p) _ (Ex.new hp) ⟨p, rfl, upd_same⟩
theorem evr_ixLs {i : Nat} (h : EvR te σ H (vLs K rs)) (hi : EvR to σ H (vI (i : Int))) (hr : rs[i]? = some r) : EvR (tOp (rIxL K) te to) σ H r := fun H1 e Q q =>
  h H1 e _ fun v H2 e2 ⟨a, xs, ha, hs, hal⟩ => hi H2 (e.trans e2) _ fun u H3 e3 hu => by
    obtain ⟨x, hx, rx⟩ := Alls.get hal hr
    have hu' : u = .int (i : Int) := hu
    subst ha hu'
    exact ⟨a, xs, _, x, rfl, rfl, ex_l e3 hs, atI_nat hx, q x H3 (e2.trans e3) (r.st e3 rx)⟩
theorem EvM.ints (h : EvM te σ H (ns.map vI)) : EvR te σ H (vL K ns) := fun H1 e Q q => h H1 e Q fun p xs H2 _ e2 h2 ha => q (.ref p) H2 e2 ⟨p, rfl, by
  rw [← ha.ints]
  exact sq_of h2⟩
theorem evr_max2 {x y : Int} {rr : List V → Hp → VK → Prop} (hrr : rr = rMax K) (h : EvR te σ H (vL K [x, y])) : EvR (tCB rr (tCons te tNil)) σ H (vI (max x y)) := fun H1 e Q q => h H1 e _ fun v H2 e2 ⟨a, ha, hs⟩ => by
  subst ha hrr
  refine ⟨a, [x, y], rfl, hs, by simp, fun m hm hle => ?_⟩
  have h1 := hle x List.mem_cons_self
  have h2 := hle y (List.mem_cons_of_mem _ List.mem_cons_self)
  have e : m = max x y := by
    simp only [List.mem_cons, List.not_mem_nil, or_false] at hm
    rcases hm with rfl | rfl <;> omega
  rw [e]
  exact q _ H2 e2 rfl
theorem em_catV {i : Nat} {p : Addr} {xs : List V} (hv : σ[i]? = some (some (.ref p))) (hp : H p = some (.lst xs)) (hal : Alls rs xs H) (h2 : EvM te σ H rk) (hz : rs.length + rk.length ≤ 100000) : EvM (tOp rCat (tVar i) te) σ H (rs ++ rk) := fun H1 e Q q =>
  ⟨.ref p, hv, h2 H1 e _ fun p' ys H2 hp' e2 hp2 hb => by
    refine ⟨p, p', _, _, rfl, rfl, e2 _ _ (e _ _ hp), hp2, sz_of (by rw [hal.len, hb.len]; exact hz), fun l hl => q l _ _ (fresh_back e2 hl) (e2.trans (Ex.new hl)) upd_same ?_⟩
    exact (((hal.mono (e.trans e2)).append hb).mono (Ex.new hl))⟩
theorem qr_asgM {i : Nat} (h : EvM te σ H rs) (k : ∀ p xs H1, H p = none → Ex H H1 → H1 p = some (.lst xs) → Alls rs xs H1 → tz D (σ.set i (some (.ref p))) H1) : tSeq (tAsg te (gName i)) tz D σ H := h H (Ex.refl H) _ fun p xs H1 hp e h1 ha => k p xs H1 hp e h1 ha
/-- a test that may change the bag -/
def EvTB (l : Addr) (t : TT) (σ : L2.St) (H : Hp) (c : Bool) : Prop := ∀ Q : Bool → Hp → Prop, (∀ H1, ExB l H H1 → Bag l H1 → Q c H1) → t σ H Q
theorem qb_when (h : EvTB l t σ H false) (k : ∀ H1, ExB l H H1 → Bag l H1 → tz D σ H1) : tSeq (tIfS t tu tNext) tz D σ H := h _ fun H1 e b => iteF (k H1 e b)
theorem sb_when (h : EvTB l t σ H false) (k : ∀ H1, ExB l H H1 → Bag l H1 → D.nx σ H1) : tIfS t tu tNext D σ H := h _ fun H1 e b => iteF (k H1 e b)
theorem etb_or (h : EvTB l t σ H false) (h2 : ∀ H1, ExB l H H1 → Bag l H1 → EvTB l u σ H1 false) : EvTB l (tOr t u) σ H false := fun Q q => h _ fun H1 e b => iteF (h2 H1 e b Q fun H2 e2 b2 => q H2 (e.trans e2) b2)
theorem etb_of (h : EvT t σ H c) (b : Bag l H) : EvTB l t σ H c := fun Q q => h H (Ex.refl H) Q fun H1 e => q H1 (ExB.of e) (b.ex e)
end
end Kt
namespace Kt
open PySem PySem.Spec PySem.Calls PyProof.Rows L2 PySem.W
def hexT (a : Int) : Str := ⟨((Nat.toDigits 16 a.natAbs).map Char.toNat).toArray⟩
open Builtin Builtin.Str Builtin.Int Builtin.Float
def fmtX : FormatSpec := { align := 62, type := some 120 }
theorem parse_x : parseFormatSpec (PySem.Str.ofString "x").cps.toList "int" 62 = .ok fmtX := by rfl
theorem field_x {a : Int} (h0 : 0 ≤ a) : intField' fmtX (decide (a < 0)) [] ((Nat.toDigits 16 a.natAbs).map fun c => (if (120 : Nat) == 88 then c.toUpper else c).toNat) [] 4 = hexT a := by
  have hl := tDigits_len_ge 16 a.natAbs
  have he : ((Nat.toDigits 16 a.natAbs).map Char.toNat).isEmpty = false := by
    cases h : Nat.toDigits 16 a.natAbs with
    | nil =>
      rw [h] at hl
      simp at hl
    | cons c r => rfl
  rw [decide_eq_false (by omega)]
  show intField' fmtX false [] ((Nat.toDigits 16 a.natAbs).map Char.toNat) [] 4 = ⟨((Nat.toDigits 16 a.natAbs).map Char.toNat).toArray⟩
  generalize (Nat.toDigits 16 a.natAbs).map Char.toNat = ds at he
  unfold intField' fmtX
  simp [he]
  try omega
theorem meets_x {a : Int} {t : Tok} (h0 : 0 ≤ a) (hz : (hexT a).length ≤ sizeLine) : ∀ u, Meets («int.__format__» ⟨[.int a t, .str (PySem.Str.ofString "x") u], []⟩) (fun _ R s => ∀ t' k, R (.ok (.ret (.str (hexT a) t'))) { s with toks := k }) := by
  intro _
  apply KPc.meets_of
  intro _ _ _ _ _ _ hQ
  unfold Builtin.«int.__format__»
  refine wpAny_bind (wpAny_of_eq (a := (_, _)) rfl ?_)
  refine wpAny_bind (wpAny_of_eq (a := _) rfl ?_)
  kxf_if
  refine wpAny_bind (wpAny_typeNameOf (T := "str") (typeIs_str _ _ _) (by decide) fun _ => ?_)
  refine wpAny_bind (wpAny_of_eq (a := some _) rfl ?_)
  dsimp only
  rw [if_neg (by decide), if_neg (by decide)]
  refine wpAny_bind (wpAny_typeNameOfCut_int ?_)
  simp only [parse_x]
  rw [if_pos (by decide)]
  show wpAny _ _ (retStr _) _ _ _
  refine KXf.ret_text (T := hexT a) ?_ ?_ hQ
  · exact field_x h0
  · exact Nat.le_trans (Nat.le_of_eq (congrArg Str.length (field_x h0))) hz
end Kt
namespace Kt
open PySem PySem.Spec PySem.Calls PyProof.Rows L2 PySem.W
open Evl (Ex Ev EvL EvU EvT EvA EvO ex_l ex_t sq_of st_of sz_of sz_lt fresh_back given)
def tFmtX (te : TE) : TE := fun σ H Q => te σ H fun x H1 => ∃ i : Int, x = .int i ∧ 0 ≤ i ∧ (hexT i).length ≤ sizeLine ∧ Q (.str (hexT i)) H1
/-- {e:x}, an int from 0 -/
theorem pe_fmtX {X : Cx} {e spec : Expr} {te : TE} {pos : Pos} (he : PE X e te) (hs : PE X spec (tC (.str (PySem.Str.ofString "x")))) : PE X (.FormattedValue e (-1) (some spec) pos) (tFmtX te) := by
  refine ⟨fun pins s σ H Q I h => ?_⟩
  refine wpAny_FormattedValue_spec (thn (he.run pins s σ H _ I h) fun v s1 hv => ?_)
  obtain ⟨x, H1, I1, r1, i, rfl, h0, hz, q⟩ := hv
  obtain ⟨t, rfl⟩ := r1
  refine thn (hs.run pins s1 σ H1 (fun y H2 => y = .str (PySem.Str.ofString "x") ∧ H2 = H1) I1 ⟨rfl, rfl⟩) fun u s2 hu => ?_
  obtain ⟨y, H2, I2, r2, rfl, rfl⟩ := hu
  obtain ⟨t2, rfl⟩ := r2
  refine ⟨_, t2, rfl, ?_⟩
  exact KXf.field_int rfl (by decide) (by decide) (meets_x h0 hz) fun t' k => ⟨.str (hexT i), H2, I2.tok _, ⟨_, rfl⟩, q⟩
theorem evr_fmtX {σ : L2.St} {H : Hp} {te : TE} {i : Int} (h : EvR te σ H (vI i)) (h0 : 0 ≤ i) (hz : (hexT i).length ≤ sizeLine) : EvR (tFmtX te) σ H (vS (hexT i)) := fun H1 e Q q => h H1 e _ fun v H2 e2 hv => ⟨i, hv, h0, hz, q _ H2 e2 rfl⟩
end Kt
namespace Mh
open L2.Hx
/-! ### a whole number in base 16, by its signs -/
def hexL (n : Nat) : List Nat := (Nat.toDigits 16 n).map Char.toNat
theorem digit_hv : ∀ d : Nat, d < 16 → hv (Nat.digitChar d).toNat = d := by decide
theorem digit_is : ∀ d : Nat, d < 16 → IsHex (Nat.digitChar d).toNat := by unfold IsHex; decide
theorem fold_hex : ∀ (l : List Nat) (a : Nat), l.foldl (fun a c => a * 16 + hv c) a = a * 16 ^ l.length + hexNum l
  | [], a => by simp [hexNum]
  | c :: l, a => by
    have h1 : hexNum (c :: l) = (0 * 16 + hv c) * 16 ^ l.length + hexNum l := fold_hex l (0 * 16 + hv c)
    rw [List.foldl_cons, fold_hex l (a * 16 + hv c), h1, List.length_cons, Nat.pow_succ]
    grind
theorem hexNum_app (a b : List Nat) : hexNum (a ++ b) = hexNum a * 16 ^ b.length + hexNum b := by
  show (a ++ b).foldl (fun a c => a * 16 + hv c) 0 = _
  rw [List.foldl_append, fold_hex b]
  rfl
theorem hex_snoc (n : Nat) (h : ¬ n < 16) : hexL n = hexL (n / 16) ++ [(Nat.digitChar (n % 16)).toNat] := by
  have hm : n % 16 < 16 := Nat.mod_lt n (by decide)
  have t : Nat.toDigits 16 (n / 16) ++ Nat.toDigits 16 (n % 16) = Nat.toDigits 16 (16 * (n / 16) + n % 16) := Nat.toDigits_append_toDigits (by decide) (by omega) hm
  rw [Nat.div_add_mod] at t
  unfold hexL
  rw [← t, List.map_append, Nat.toDigits_of_lt_base hm]
  rfl
theorem hex_one {n : Nat} (h : n < 16) : hexL n = [(Nat.digitChar n).toNat] := by
  unfold hexL
  rw [Nat.toDigits_of_lt_base h]
  rfl
theorem hex_back (n : Nat) : hexNum (hexL n) = n := by
  induction n using Nat.strongRecOn with
  | _ n ih =>
    by_cases h : n < 16
    · rw [hex_one h]
      have e := digit_hv n h
      show 0 * 16 + hv (Nat.digitChar n).toNat = n
      omega
    · rw [hex_snoc n h, hexNum_app, ih (n / 16) (by omega)]
      have e := digit_hv (n % 16) (Nat.mod_lt n (by decide))
      show n / 16 * 16 ^ 1 + (0 * 16 + hv (Nat.digitChar (n % 16)).toNat) = n
      omega
theorem hex_all (n : Nat) : ∀ c ∈ hexL n, IsHex c := by
  induction n using Nat.strongRecOn with
  | _ n ih =>
    by_cases h : n < 16
    · rw [hex_one h]
      intro c hc
      obtain rfl := List.mem_singleton.mp hc
      exact digit_is n h
    · rw [hex_snoc n h]
      intro c hc
      rcases List.mem_append.mp hc with hc | hc
      · exact ih (n / 16) (by omega) c hc
      · obtain rfl := List.mem_singleton.mp hc
        exact digit_is _ (Nat.mod_lt n (by decide))
theorem hex_ne (n : Nat) : hexL n ≠ [] := by
  by_cases h : n < 16
  · rw [hex_one h]
    simp
  · rw [hex_snoc n h]
    simp
theorem hex_len : ∀ {k n : Nat}, 1 ≤ k → n < 16 ^ k → (hexL n).length ≤ k
  | 0, _, h, _ => by omega
  | k + 1, n, _, hn => by
    by_cases h : n < 16
    · rw [hex_one h]
      simp
    · rw [hex_snoc n h, List.length_append, List.length_singleton]
      have hk : 1 ≤ k := by
        cases k with
        | zero => simp at hn; omega
        | succ k => omega
      rw [Nat.pow_succ] at hn
      have := hex_len (k := k) (n := n / 16) hk (by omega)
      omega
theorem hex_zeros : ∀ (k : Nat) (l : List Nat), hexNum (List.replicate k 48 ++ l) = hexNum l
  | k, l => by
    rw [hexNum_app]
    have : ∀ k, hexNum (List.replicate k 48) = 0 := fun k => by
      induction k with
      | zero => rfl
      | succ k ih =>
        rw [List.replicate_succ, show (48 :: List.replicate k 48) = [48] ++ List.replicate k 48 from rfl, hexNum_app, ih]
        show hv 48 * _ + 0 = 0
        have : hv 48 = 0 := by decide
        rw [this]
        simp
    rw [this]
    simp
/-- the text of a number, its lanes of four signs full -/
def pad4 (n : Nat) : List Nat := List.replicate (((hexL n).length + 4 - 1) / 4 * 4 - (hexL n).length) 48 ++ hexL n
theorem pad4_len (n : Nat) : (pad4 n).length = 4 * (((hexL n).length + 4 - 1) / 4) := by
  unfold pad4
  rw [List.length_append, List.length_replicate]
  omega
theorem pad4_num (n : Nat) : hexNum (pad4 n) = n := by
  unfold pad4
  rw [hex_zeros, hex_back]
theorem pad4_all (n : Nat) : ∀ c ∈ pad4 n, IsHex c := fun c hc => by
  rcases List.mem_append.mp hc with hc | hc
  · rw [List.mem_replicate] at hc
    rw [hc.2]
    exact .inl (by decide)
  · exact hex_all n c hc
def lanesOf : Nat → List Nat → List Nat
  | 0, _ => []
  | m + 1, t => hexNum (t.drop (4 * m)) :: lanesOf m (t.take (4 * m))
theorem lanesOf_range : ∀ (m : Nat) (t : List Nat), t.length = 4 * m → lanesOf m t = (List.range m).map fun i => hexNum ((t.drop (4 * (m - 1 - i))).take 4)
  | 0, _, _ => rfl
  | m + 1, t, h => by
    rw [lanesOf, lanesOf_range m (t.take (4 * m)) (by rw [List.length_take]; omega), List.range_succ_eq_map, List.map_cons, List.map_map]
    congr 1
    · rw [List.take_of_length_le (by rw [List.length_drop]; omega)]
      rfl
    · apply List.map_congr_left
      intro i hi
      have hi' := List.mem_range.mp hi
      show hexNum _ = hexNum _
      rw [List.drop_take, List.take_take, show m + 1 - 1 - (i + 1) = m - 1 - i by omega, Nat.min_eq_left (by omega)]
theorem lanesOf_len : ∀ (m : Nat) (t : List Nat), (lanesOf m t).length = m
  | 0, _ => rfl
  | m + 1, t => by rw [lanesOf, List.length_cons, lanesOf_len]
theorem hexNum_lt : ∀ {l : List Nat}, (∀ c ∈ l, IsHex c) → hexNum l < 16 ^ l.length := by
  intro l
  induction l with
  | nil => intro _; decide
  | cons c l ih =>
    intro h
    have h1 := hv_lt (h c List.mem_cons_self)
    have h2 := ih fun d hd => h d (List.mem_cons_of_mem _ hd)
    rw [show c :: l = [c] ++ l from rfl, hexNum_app, List.length_append, List.length_singleton, Nat.pow_add]
    have h3 : hexNum [c] = hv c := by show 0 * 16 + hv c = hv c; omega
    rw [h3]
    have : (hv c + 1) * 16 ^ l.length ≤ 16 * 16 ^ l.length := Nat.mul_le_mul_right _ h1
    rw [Nat.add_mul] at this
    omega
theorem lanesOf_lt : ∀ (m : Nat) (t : List Nat), t.length = 4 * m → (∀ c ∈ t, IsHex c) → ∀ n ∈ lanesOf m t, n < 65536
  | 0, _, _, _, n, hn => by simp [lanesOf] at hn
  | m + 1, t, h, ht, n, hn => by
    rw [lanesOf] at hn
    rcases List.mem_cons.mp hn with rfl | hn
    · have := hexNum_lt (l := t.drop (4 * m)) fun c hc => ht c (List.mem_of_mem_drop hc)
      rw [List.length_drop, show t.length - 4 * m = 4 by omega] at this
      exact this
    · exact lanesOf_lt m (t.take (4 * m)) (by rw [List.length_take]; omega) (fun c hc => ht c (List.mem_of_mem_take hc)) n hn
/-- the signs of a digit's lane -/
def laneL (n : Nat) : List Nat := [48, 48, 48, 48 + n]
theorem laneL_all : ∀ n, n ≤ 6 → ∀ c ∈ laneL n, IsHex c := by
  intro n hn c hc
  unfold laneL at hc
  simp at hc
  left
  omega
theorem laneL_num : ∀ n, n ≤ 6 → hexNum (laneL n) = n
  | 0, _ => by decide
  | 1, _ => by decide
  | 2, _ => by decide
  | 3, _ => by decide
  | 4, _ => by decide
  | 5, _ => by decide
  | 6, _ => by decide
  | n + 7, h => by omega
end Mh
namespace Kt
open PySem PySem.Spec PyProof.Rows L2
open Evl (Ex Ev EvL EvU EvT EvA EvO ex_l ex_t sq_of st_of sz_of sz_lt fresh_back given)
section
variable {K : PySem.W.Frag} {σ : L2.St} {H H' : Hp} {te tf tl to tn th : TE} {ta : TA} {D : Ends} {tz tu : TS} {g : TG} {wi : TI} {n : Nat} {Y : Nat → Hp → V → Hp → Prop} {j : Nat} {vs : List Nat}
theorem ea3 {lo hi c : Int} (h : EvRs ta σ H [vI lo, vI hi, vI c]) : EvA ta σ H [.int lo, .int hi, .int c] := fun H1 e Q q => h H1 e _ fun us H2 e2 ⟨v, _, h1, hv, ⟨v2, _, h2, hv2, ⟨v3, _, h3, hv3, h4⟩⟩⟩ => by
  have h4' : _ = [] := h4
  have e1 : v = .int lo := hv
  have e2' : v2 = .int hi := hv2
  have e3 : v3 = .int c := hv3
  subst h4' e1 e2' e3 h3 h2 h1
  exact q H2 e2
/-- for i in range(lo, hi, c) -/
theorem sr_forR3 {lo hi c : Int} (h : EvRs ta σ H [vI lo, vI hi, vI c]) (hn : RgC lo hi c n) (Pv : Nat → L2.St → Hp → Prop) (h0 : ∀ H1, Ex H H1 → Pv 0 σ H1)
    (hs : ∀ i σ' H', i < n → Pv i σ' H' → tu { D with nx := Pv (i + 1), ct := Pv (i + 1), bk := D.nx } (σ'.set j (some (.int (lo + (i : Nat) * c)))) H') (hd : ∀ σ' H', Pv n σ' H' → D.nx σ' H') : tFor (iRng3 ta) (gName j) tu D σ H :=
  ea3 h H (Ex.refl H) _ fun H1 e => ⟨lo, hi, c, n, rfl, hn, for_it walk_rangeC Pv (h0 H1 e) (fun _ _ _ _ _ => trivial) (fun i x σ' H' H2 hi p y => by
    obtain ⟨rfl, rfl⟩ := y
    exact hs i σ' _ hi p) hd⟩
/-- [e for x in ..] over ints, any plain values -/
theorem el_mapV {ns : List Int} (hw : Wk wi σ H (ns.map V.int).length (YAt (ns.map V.int))) (f : Int → V) (hn : ns.length ≤ 50000) (hv : ∀ x, wipe ((wipe σ vs).set j (some x)) vs = wipe σ vs)
    (he : ∀ x ∈ ns, ∀ H1, Ex H H1 → Ev te ((wipe σ vs).set j (some (.int x))) H1 (f x)) : EvL (tLc wi (gName j) tYes te vs) σ H (ns.map f) := by
  have z := el_comp (vs := vs) (g := gName j) (tt := tYes) (te := te) hw (fun _ => true) (fun i => f (ns.getD i 0)) (by rw [List.length_map]; exact hn) (fun i x H1 H2 hi e y R q => by
    obtain ⟨rfl, hx⟩ := y
    rw [List.length_map] at hi
    have hxi : ns[i]? = some ns[i] := List.getElem?_eq_getElem hi
    rw [List.getElem?_map, hxi] at hx
    have ex : V.int ns[i] = x := Option.some.inj hx
    subst ex
    have eg : ns.getD i 0 = ns[i] := by simp [List.getD, hxi]
    refine q _ _ (hv _) (Ex.refl _) et_yes fun _ => ?_
    show Ev te _ _ (f (ns.getD i 0))
    rw [eg]
    exact he _ (List.getElem_mem hi) _ e)
  rw [given_all] at z
  have el : (List.range (ns.map V.int).length).map (fun i => f (ns.getD i 0)) = ns.map f := by
    apply List.ext_getElem
    · simp
    · intro i h1 h2
      simp at h1 h2 ⊢
      simp [h1]
  rw [el] at z
  exact z
/-- [e for i in range(lo, hi, c)], ints -/
theorem el_rng3 {lo hi c : Int} (h : EvRs ta σ H [vI lo, vI hi, vI c]) (hr : RgC lo hi c n) (f : Nat → Int) (hn : n ≤ 50000) (hv : ∀ x, wipe ((wipe σ vs).set j (some x)) vs = wipe σ vs)
    (he : ∀ i, i < n → ∀ H1, Ex H H1 → EvR te ((wipe σ vs).set j (some (.int (lo + (i : Nat) * c)))) H1 (vI (f i))) : EvL (tLc (iRng3 ta) (gName j) tYes te vs) σ H (((List.range n).map f).map V.int) := by
  have ha : EvA ta σ H [.int lo, .int hi, .int c] := fun H1 e Q q => h H1 e _ fun us H2 e2 ⟨v, _, h1, hv, ⟨v2, _, h2, hv2, ⟨v3, _, h3, hv3, h4⟩⟩⟩ => by
    have h4' : _ = [] := h4
    have e1 : v = .int lo := hv
    have e2' : v2 = .int hi := hv2
    have e3 : v3 = .int c := hv3
    subst h4' e1 e2' e3 h3 h2 h1
    exact q H2 e2
  have z := el_comp (vs := vs) (g := gName j) (tt := tYes) (te := te) (wk_rng3 ha hr) (fun _ => true) (fun i => .int (f i)) hn (fun i x H1 H2 hi e y R q => by
    obtain ⟨rfl, rfl⟩ := y
    exact q _ _ (hv _) (Ex.refl _) et_yes fun _ => (he i hi _ e).ev)
  rw [given_all] at z
  rw [List.map_map]
  exact z
/-- range(0, m, c) of one step -/
theorem rg_one {m c : Int} (h0 : 0 < m) (h1 : m ≤ c) (hc : c ≤ 1000) : RgC 0 m c 1 := by
  have hs : Builtin.Range.rangeSize 0 m c = 1 := by
    unfold Builtin.Range.rangeSize
    rw [if_pos (by omega), if_pos (by omega), Int.sub_zero, Int.ediv_eq_zero_of_lt (by omega) (by omega)]
    rfl
  refine ⟨by omega, by omega, ?_, hs⟩
  unfold Builtin.Range.small
  rw [hs]
  simp only [Builtin.Range.rangeFitsLong, Bool.and_eq_true, Bool.or_eq_true, decide_eq_true_eq, beq_iff_eq, show c > 0 by omega, if_true]
  omega
/-- range(4 m - 4, -1, -4) -/
theorem rg_down4 {m : Nat} (hm : 1 ≤ m) (hm2 : m ≤ 1000) : RgC (4 * (m : Int) - 4) (-1) (-4) m := by
  have hs : Builtin.Range.rangeSize (4 * (m : Int) - 4) (-1) (-4) = m := by
    unfold Builtin.Range.rangeSize
    rw [if_neg (by decide), if_pos (by omega)]
    show (4 * (m : Int) - 4 - -1 - 1) / 4 + 1 = m
    omega
  refine ⟨by decide, by decide, ?_, hs⟩
  unfold Builtin.Range.small
  rw [hs]
  simp only [Builtin.Range.rangeFitsLong, Bool.and_eq_true, Bool.or_eq_true, decide_eq_true_eq, beq_iff_eq, show ¬ ((-4 : Int) > 0) by decide, if_false]
  omega
/-! ### texts -/
theorem evr_intHex {l : List Nat} (h : EvR te σ H (vS (SX.S l))) (hne : l ≠ []) (hl : l.length ≤ 640) (hx : ∀ c ∈ l, Hx.IsHex c) : EvR (tCB rIntHex (tCons te (tCons (tC (.int 16)) tNil))) σ H (vI ((Hx.hexNum l : Nat) : Int)) := fun H1 e Q q => h H1 e _ fun v H2 e2 hv => by
  have hv' : v = .str (SX.S l) := hv
  subst hv'
  exact ⟨l, rfl, hne, hl, hx, q _ H2 e2 rfl⟩
theorem evr_join {a : Str} {ys : List Str} {r : V → List V → Hp → VK → Prop} (hr : r = fun x xs H Q => ∃ a p, ∃ ys : List Str, x = .str a ∧ xs = [.ref p] ∧ (SqL K H p (ys.map V.str) ∨ SqT K H p (ys.map V.str)) ∧ (ys.map (·.length)).sum + ys.length * a.length ≤ 16777216 ∧ Q (.str (Txt.join a ys)) H)
    (h : EvL te σ H (ys.map V.str)) (hz : (ys.map (·.length)).sum + ys.length * a.length ≤ 16777216) : EvR (tBM K "str" r (tC (.str a)) (tCons te tNil)) σ H (vS (Txt.join a ys)) := fun H1 e Q q => by
  subst hr
  refine ⟨rfl, h H1 e _ fun p H2 _ e2 hp => ?_⟩
  exact ⟨a, p, ys, rfl, rfl, .inl (sq_of hp), hz, q _ H2 e2 rfl⟩
theorem evr_zfill {a : Str} {i : Int} {r : V → List V → Hp → VK → Prop} (hr : r = fun x xs H Q => ∃ (a : Str) (i : Int), x = .str a ∧ xs = [.int i] ∧ PadOk i = true ∧ Q (.str (Txt.zfill a i)) H)
    (h : EvR te σ H (vS a)) (h2 : EvR tf σ H (vI i)) (hp : PadOk i = true) : EvR (tBM K "str" r te (tCons tf tNil)) σ H (vS (Txt.zfill a i)) := fun H1 e Q q => h H1 e _ fun v H2 e2 hv => by
  have hv' : v = .str a := hv
  subst hv' hr
  refine ⟨rfl, h2 H2 (e.trans e2) _ fun w H3 e3 hw => ?_⟩
  have hw' : w = .int i := hw
  subst hw'
  exact ⟨a, i, rfl, rfl, hp, q _ H3 (e2.trans e3) rfl⟩
theorem evr_lenS {z : Str} {r : List V → Hp → VK → Prop} (hr : r = fun xs H Q => ∃ z, xs = [.str z] ∧ z.length ≤ sizeLine ∧ Q (.int z.length) H) (h : EvR te σ H (vS z)) (hz : z.length ≤ sizeLine) : EvR (tCB r (tCons te tNil)) σ H (vI z.length) := fun H1 e Q q => h H1 e _ fun v H2 e2 hv => by
  have hv' : v = .str z := hv
  subst hv' hr
  exact ⟨z, rfl, hz, q _ H2 e2 rfl⟩
theorem evr_slS {z : Str} {lo hi : Option Int} {tlo thi : TO} (h : EvR te σ H (vS z)) (hl : EvO tlo σ H lo) (hu : EvO thi σ H hi) (hz : z.length ≤ sizeLine) : EvR (tSl rSlS te tlo thi) σ H (vS (cutS z lo hi)) := fun H1 e Q q =>
  h H1 e _ fun v H2 e2 hv => hl H2 (e.trans e2) _ fun H3 e3 => hu H3 ((e.trans e2).trans e3) _ fun H4 e4 => by
    have hv' : v = .str z := hv
    subst hv'
    exact ⟨z, rfl, hz, q _ H4 ((e2.trans e3).trans e4) rfl⟩
theorem zfill_hex {l : List Nat} {m : Nat} (hl : l ≠ []) (hx : ∀ c ∈ l, Hx.IsHex c) : Txt.zfill (SX.S l) (m : Int) = SX.S (List.replicate (m - l.length) 48 ++ l) := by
  unfold Txt.zfill
  rw [SX.S_len]
  split
  next h => rw [show m - l.length = 0 by omega]; rfl
  next h =>
    rw [Int.toNat_natCast]
    unfold PySem.zfilled
    cases l with
    | nil => exact absurd rfl hl
    | cons c l =>
      have hc := hx c List.mem_cons_self
      have h43 : c ≠ 43 ∧ c ≠ 45 := by
        unfold Hx.IsHex at hc
        omega
      show (match some c with | some 43 | some 45 => _ | _ => _) = _
      split
      next h => exact absurd (Option.some.inj h) h43.1
      next h => exact absurd (Option.some.inj h) h43.2
      next =>
        unfold PySem.Builtin.Str.padded
        apply TL.ext_tl
        simp [TL.tl]
theorem cutS_lane {t : List Nat} {a : Nat} (h : a + 4 ≤ t.length) : cutS (SX.S t) (some (a : Int)) (some ((a + 4 : Nat) : Int)) = SX.S ((t.drop a).take 4) := by
  unfold cutS
  rw [SX.S_len, HT.sIx_nat, HT.sIx_nat, Nat.min_eq_left (by omega), Nat.min_eq_left (by omega), Nat.add_sub_cancel_left]
end
end Kt
namespace Kt
open PySem PySem.Spec PyProof.Rows L2
open Evl (Ex Ev EvL EvU EvT EvA EvO ex_l ex_t sq_of st_of sz_of sz_lt fresh_back given)
section
variable {K : PySem.W.Frag} {σ : L2.St} {H H' : Hp} {te tf tl to : TE} {ta : TA}
theorem evr_dispLD {ds : List PyData} (h : EvRs ta σ H (ds.map (vD K))) (hl : ds.length ≤ 100000) : EvR (tLst ta) σ H (vD K (.list ds)) := by
  have z := (em_disp h (by rw [List.length_map]; exact hl)).ls (K := K)
  refine z.to fun v H e hv => ?_
  obtain ⟨a, xs, rfl, hs, hal⟩ := hv
  exact Dp.lst hs (Alls_dpa hal)
theorem ea_of {n : Int} (h : EvRs ta σ H [vI n]) : EvA ta σ H [.int n] := fun H1 e Q q => h H1 e _ fun us H2 e2 ⟨v, _, h1, hv, h3⟩ => by
  have h3' : _ = [] := h3
  have hv' : v = .int n := hv
  subst h3' hv' h1
  exact q H2 e2
theorem cb_min {i j : Int} {rr : List V → Hp → VK → Prop} (hrr : rr = fun xs H Q => ∃ i j, xs = [.int i, .int j] ∧ Q (.int (if j < i then j else i)) H) : CallV rr [vI i, vI j] (vI (if j < i then j else i)) H := fun vs H1 _ ⟨v, ws, h1, hv, ⟨w', ws', h2, hw, h3⟩⟩ Q q => by
  subst hrr
  have hv' : v = .int i := hv
  have hw' : w' = .int j := hw
  have h3' : ws' = [] := h3
  subst hv' hw' h3' h2
  exact ⟨i, j, h1, q _ H1 (Ex.refl H1) rfl⟩
theorem EvR.pD {ns : List Int} (h : EvR te σ H (vP K ns)) : EvR te σ H (vD K (dP ns)) := h.to fun v H e hv => vP_D hv
end
end Kt
namespace K0
open PySem PySem.Spec PyProof.Rows L2 Kt M
open Evl (Ex Ev EvL EvU EvT EvA EvO ex_l ex_t sq_of st_of sz_of sz_lt fresh_back given)
theorem cut_co {fs ys : List Int} {x : Int} {m : Nat} (h : m + ys.length ≤ fs.length) : co (fs.take m ++ List.zipWith (fun n y => n + x * y) ((fs.drop m).take ys.length) ys ++ fs.drop (m + ys.length)) = co fs + ⟨cst x⟩ * (Xp m * co ys) := by
  have l1 : (fs.take m).length = m := by
    rw [List.length_take]
    omega
  have l2 : (List.zipWith (fun n y => n + x * y) ((fs.drop m).take ys.length) ys).length = ys.length := by
    rw [List.length_zipWith, List.length_take, List.length_drop]
    omega
  have l3 : (fs.take m ++ List.zipWith (fun n y => n + x * y) ((fs.drop m).take ys.length) ys).length = m + ys.length := by rw [List.length_append, l1, l2]
  have l4 : (fs.take m ++ List.zipWith (fun n y => n + x * y) ((fs.drop m).take ys.length) ys ++ fs.drop (m + ys.length)).length = fs.length := by
    rw [List.length_append, l3, List.length_drop]
    omega
  ext k
  rw [PS.add_c, cst_c, Xp_c]
  show _ = _ + x * (if k < m then 0 else (co ys).c (k - m))
  by_cases h1 : k < fs.length
  · rw [co_near (by omega), co_near h1]
    by_cases h2 : k < m
    · rw [if_pos h2, List.getElem_append_left (by omega), List.getElem_append_left (by omega), List.getElem_take]
      omega
    · rw [if_neg h2]
      by_cases h3 : k < m + ys.length
      · rw [List.getElem_append_left (by omega), List.getElem_append_right (by omega), List.getElem_zipWith, co_near (by omega)]
        simp only [l1, List.getElem_take, List.getElem_drop, Nat.add_sub_cancel' (by omega : m ≤ k)]
      · rw [List.getElem_append_right (by omega), co_far (by omega)]
        simp only [l3, List.getElem_drop, Nat.add_sub_cancel' (by omega : m + ys.length ≤ k)]
        omega
  · rw [co_far (by omega), co_far (xs := fs) (by omega)]
    by_cases h2 : k < m
    · rw [if_pos h2]
      omega
    · rw [if_neg h2, co_far (by omega)]
      omega
theorem cutI_mid {fs : List Int} {m n : Nat} (h : m + n ≤ fs.length) : cutI fs (some (m : Int)) (some ((m + n : Nat) : Int)) = (fs.drop m).take n := by
  unfold cutI
  rw [HT.sIx_nat, HT.sIx_nat, Nat.min_eq_left (by omega), Nat.min_eq_left (by omega), Nat.add_sub_cancel_left]
section
variable {P : Program} {w : World} {K : PySem.W.Frag} {mg : Str → Option Value} {base : Heap}
abbrev s_multiply_short : Stmt := topS 17
abbrev N_multiply_short : List Str := ["prime", "one", "other", "out", "place", "factor", "stop", "_", "number", "further"]
theorem sc_multiply_short : FnScope N_multiply_short ["prime", "one", "other"] (defScope s_multiply_short) := ⟨rfl, rfl, rfl, by decide +kernel, rfl, by decide +kernel, by decide +kernel⟩
theorem ok_multiply_short {f : Addr} {fd : FuncData} (F : Fun K "multiply_short" "multiply_short" s_multiply_short f fd) (B : Bis mg)  (D_trimmed : De P w K mg base "trimmed" ["numbers"] 1 (sp_trimmed K)) : FnOk P w K mg base CX0 2 f fd ["prime", "one", "other"] (sp_multiply_short K) := by
  refine F.ok sc_multiply_short (fun vs H Q E h => ?_) (fun cdv A outer s H vs Q E hr h => ?_)
  · obtain ⟨g, _, ha, _⟩ := h
    exact ha.len
  · obtain ⟨⟨prime, one, other⟩, ⟨hm, h5, hlo⟩, ⟨_, _, rfl, rfl, ⟨v_one, _, rfl, h_one, ⟨v_other, _, rfl, h_other, rfl⟩⟩⟩, q⟩ := h
    dsimp only at *
    refine ⟨_, (pss_cons (ps_setLc (i := 3) (own := [("_", 7)]) (g := (gName 7)) (tt := tYes) rfl sc_multiply_short.nd rfl rfl (sw_true rfl rfl rfl (by decide +kernel)) (pi_range1 (by rfl) (B "range" (by decide +kernel)) (pa_cons (pe_op op_add (pe_callB call_len_seq (by rfl) (B "len" (by decide +kernel)) (by decide +kernel) (pa_cons (pv 1) pa_nil)) (pe_callB call_len_seq (by rfl) (B "len" (by decide +kernel)) (by decide +kernel) (pa_cons (pv 2) pa_nil))) pa_nil)) (blkOk_by (own := [("_", 7)]) (N := N_multiply_short) (sc := defScope s_multiply_short) (by decide +kernel)) (fun _ _ _ _ _ => (pg_name (i := 7) sc_multiply_short.nd rfl (Or.inl rfl))) (fun _ _ _ _ _ => pts_nil) (fun _ _ _ _ _ => pe_int))
      (pss_cons (ps_for PassesOwn.never rfl (pi_enumK true (by rfl) (B "enumerate" (by decide +kernel)) (pa_cons (pv 1) pa_nil)) (pg_tup rfl (pgs_cons (pg_name (i := 4) sc_multiply_short.nd rfl (Or.inl rfl)) (pgs_cons (pg_name (i := 5) sc_multiply_short.nd rfl (Or.inr rfl)) pgs_nil))) (pss_one (ps_if (pt_truth (pv 5) (by intro _; rfl)) (pss_cons (ps_set (i := 6) sc_multiply_short.nd rfl (Or.inl rfl) (pe_op op_add (pv 4) (pe_callB call_len_seq (by rfl) (B "len" (by decide +kernel)) (by decide +kernel) (pa_cons (pv 2) pa_nil))))
      (pss_one (ps_asg (pe_lc (own := [("number", 8), ("further", 9)]) (g := (gTup K 2 (gCons (gName 8) (gCons (gName 9) gNil)))) (tt := tYes) rfl sc_multiply_short.nd (pi_zipK false true (by rfl) (B "zip" (by decide +kernel)) (pa_cons (pe_slice sl_list (pv 3) (po_some (pv 4)) (po_some (pv 6))) (pa_cons (pv 2) pa_nil))) (blkOk_by (own := [("number", 8), ("further", 9)]) (N := N_multiply_short) (sc := defScope s_multiply_short) (by decide +kernel)) (fun _ _ _ _ _ => (pg_tup rfl (pgs_cons (pg_name (i := 8) sc_multiply_short.nd rfl (Or.inl rfl)) (pgs_cons (pg_name (i := 9) sc_multiply_short.nd rfl (Or.inl rfl)) pgs_nil)))) (fun _ _ _ _ _ => pts_nil) (fun _ _ _ _ _ => (pe_op op_add (pv 8) (pe_op op_mul (pv 5) (pv 9))))) (pg_cut (pv 3) (po_some (pv 4)) (po_some (pv 6)))))) pss_nil)))
      (pss_one (ps_ret (pe_call D_trimmed.ok (hr.mono (by decide)) (by rfl) D_trimmed.g D_trimmed.kp D_trimmed.b .nil pass0 (pa_cons (pe_lc (own := [("number", 8)]) (g := (gName 8)) (tt := tYes) rfl sc_multiply_short.nd (pi_list (pv 3)) (blkOk_by (own := [("number", 8)]) (N := N_multiply_short) (sc := defScope s_multiply_short) (by decide +kernel)) (fun _ _ _ _ _ => (pg_name (i := 8) sc_multiply_short.nd rfl (Or.inl rfl))) (fun _ _ _ _ _ => pts_nil) (fun _ _ _ _ _ => (pe_op op_mod (pv 8) (pv 0)))) pa_nil)))))), ?_⟩
    have hp2 := hm.p0
    have hp10 := hm.p1
    have hly := hm.ly
    have rx := hm.rx
    dsimp only at hp2 hp10 hly rx
    have hp0 : 0 < prime := by omega
    refine Evl.q_asgL (xs := (List.replicate (one.length + other.length) 0).map V.int) ?_ fun l H1 n1 e1 hA => ?_
    · rw [show List.replicate (one.length + other.length) (0 : Int) = (List.range (one.length + other.length)).map (fun _ => 0) by rw [List.map_const', List.length_range]]
      exact el_rngI (n := one.length + other.length) (evrs_cons (EvR.eqI (evr_op (evr_lenR rfl (EvR.kP (evr_var rfl h_one))) (evr_lenR rfl (EvR.kP (evr_var rfl h_other))) op_i0) (by omega)) evrs_nil) (fun _ => 0) (by omega) (fun x => rfl) fun i hi H1 e1 => evr_c
    · refine qr_enumT (evrs_cons (evr_var rfl ((vP K one).st e1 h_one)) evrs_nil) (fun v i σ' H' => (vP K one).R v H' ∧ Ex H H' ∧ ∃ fs x4 x5 x6, σ' = [some (.int prime), some v_one, some v_other, some (.ref l), x4, x5, x6, none, none, none] ∧ H' l = some (.lst (fs.map V.int)) ∧ fs.length = one.length + other.length ∧ co fs = co (one.take i) * co other) ?_ (fun v i σ' H' p => p.1) ?_ ?_
      · intro v H2 e2 hv
        refine ⟨hv, e1.trans e2, _, none, none, none, rfl, e2 _ _ hA, by rw [List.length_replicate], ?_⟩
        rw [co_zeros, List.take_zero, co_nil]
        grind
      · rintro v n x σ' H' H2 hx ⟨hv, e', fs, x4, x5, x6, rfl, hfs, hlen, hco⟩ e2
        obtain ⟨hn, hxn⟩ := List.getElem?_eq_some_iff.mp hx
        have hsx := rx x (hxn ▸ List.getElem_mem hn)
        have e02 := e'.trans e2
        have hfs2 := e2 _ _ hfs
        refine Evl.s_when (et_truI (evr_var rfl rfl)) (fun hb H3 e3 => ?_) (fun hb H3 e3 => ?_)
        · refine qr_asg (r := vI ((n + other.length : Nat) : Int)) ((evr_op (evr_var rfl rfl) (evr_lenR rfl (EvR.kP (evr_var rfl ((vP K other).st (e02.trans e3) h_other)))) op_i0).eqI (by omega)) fun v6 H4 e4 hv6 => ?_
          obtain rfl := hv6
          have e34 := e3.trans e4
          have hfs4 := e34 _ _ hfs2
          refine sr_cut (ns := fs) (ms := List.zipWith (fun a y => a + x * y) ((fs.drop n).take other.length) other) (lo := some (n : Int)) (hi := some ((n + other.length : Nat) : Int)) hfs4 (fun H1 e1 => Evl.ev_var rfl) (fun H1 e1 => eo_some (evr_var rfl rfl)) (fun H1 e1 => eo_some (evr_var rfl rfl)) ?_ ?_ fun H5 e5 => ?_
          · refine er_zipN (wk_zipK (evrs_cons (EvR.kL ?_) (evrs_cons (EvR.kP (evr_var rfl ((vP K other).st (e02.trans e34) h_other))) evrs_nil))) (fun a y => a + x * y) (by rw [List.length_take, List.length_drop]; omega) (fun x y => rfl) ?_
            · rw [← cutI_mid (by omega)]
              exact evr_slL (evr_mut rfl hfs4) (eo_some (evr_var rfl rfl)) (eo_some (evr_var rfl rfl))
            · intro a ha y hy H6 e6
              exact evr_op (evr_var rfl rfl) (evr_op (evr_var rfl rfl) (evr_var rfl rfl) (op_i (.inl (by omega)))) op_i0
          · rw [List.length_zipWith, List.length_take, List.length_drop]
            omega
          · have ec1 : cutA (some (n : Int)) fs.length = n := by
              unfold cutA
              rw [HT.sIx_nat]
              omega
            have ec2 : cutC (some (n : Int)) (some ((n + other.length : Nat) : Int)) fs.length = n + other.length := by
              unfold cutC
              rw [HT.sIx_nat, HT.sIx_nat]
              omega
            rw [ec1, ec2]
            refine ⟨vP_upd ((vP K one).st ((e2.trans e34).trans e5) hv) (e5 _ _ hfs4), Ex.mut ((e02.trans e34).trans e5) n1, _, _, _, _, rfl, upd_same, ?_, ?_⟩
            · rw [List.length_append, List.length_append, List.length_take, List.length_zipWith, List.length_take, List.length_drop, List.length_drop]
              omega
            · rw [cut_co (by omega), hco, co_take hx]
              grind
        · have hx0 : x = 0 := by simpa using hb
          refine ⟨(vP K one).st (e2.trans e3) hv, e02.trans e3, fs, _, _, x6, rfl, e3 _ _ hfs2, hlen, ?_⟩
          rw [co_take hx, hco, hx0]
          have := cst0_mul (Xp n)
          grind
      · rintro v σ' H' ⟨hv, e', fs, x4, x5, x6, rfl, hfs, hlen, hco⟩
        rw [List.take_length] at hco
        rw [← prod_of hco] at q
        refine sr_ret (evr_call (fs.map (· % prime)) (by rw [List.length_map]; omega) (evrs_cons (er_mapI (wk_listR (evr_mut rfl hfs)) (· % prime) (by omega) (fun x => rfl) ?_) evrs_nil)) fun v H3 e3 hv => q v H3 (e'.trans e3) hv
        intro x hx H1 e1
        exact evr_op (evr_var rfl rfl) (evr_var rfl rfl) (op_i hp0)
end
end K0
namespace K0
open M
/-! ### rows as numbers in a base -/
def val (B : Int) : List Int → Int
  | [] => 0
  | x :: xs => x + B * val B xs
theorem val_addL (B : Int) : ∀ a b : List Int, val B (addL a b) = val B a + val B b
  | [], b => by simp [addL, val]
  | x :: a, [] => by simp [addL, val]
  | x :: a, y :: b => by
    rw [addL, val, val, val, val_addL B a b]
    grind
theorem val_scale (B x : Int) : ∀ a : List Int, val B (a.map (x * ·)) = x * val B a
  | [] => by simp [val]
  | y :: a => by
    rw [List.map_cons, val, val, val_scale B x a]
    grind
theorem val_conv (B : Int) : ∀ a b : List Int, val B (conv a b) = val B a * val B b
  | [], b => by simp [conv, val]
  | x :: a, b => by
    rw [conv, val_addL, val_scale, val, val, val_conv B a b]
    grind
def Dig (B : Int) (l : List Int) : Prop := ∀ n ∈ l, 0 ≤ n ∧ n < B
theorem val_zero {B : Int} (hB : 0 < B) : ∀ {a : List Int}, Dig B a → val B a = 0 → co a = 0
  | [], _, _ => co_nil
  | x :: a, h, hv => by
    have hx := h x List.mem_cons_self
    have ha : Dig B a := fun n hn => h n (List.mem_cons_of_mem _ hn)
    rw [val] at hv
    have hm : x % B = 0 := by
      have : (x + B * val B a) % B = 0 := by rw [hv]; rfl
      rwa [Int.add_mul_emod_self_left] at this
    rw [Int.emod_eq_of_lt hx.1 hx.2] at hm
    subst hm
    have hz : val B a = 0 := by
      have h2 : B * val B a = 0 := by omega
      rcases Int.mul_eq_zero.mp h2 with h3 | h3
      · omega
      · exact h3
    have := val_zero hB ha hz
    ext k
    cases k with
    | zero => rfl
    | succ k =>
      rw [co_consS, this]
      show cst 0 k = cst 0 (k + 1)
      rw [PS.cst0, PS.cst0]
/-- rows of digits are told apart by their numbers -/
theorem val_inj {B : Int} (hB : 0 < B) : ∀ {a b : List Int}, Dig B a → Dig B b → val B a = val B b → co a = co b
  | [], b, _, hb, h => by rw [co_nil, val_zero hB hb h.symm]
  | x :: a, [], ha, _, h => by rw [co_nil, val_zero hB ha h]
  | x :: a, y :: b, ha, hb, h => by
    have hx := ha x List.mem_cons_self
    have hy := hb y List.mem_cons_self
    rw [val, val] at h
    have hm : x % B = y % B := by
      have : (x + B * val B a) % B = (y + B * val B b) % B := by rw [h]
      rwa [Int.add_mul_emod_self_left, Int.add_mul_emod_self_left] at this
    rw [Int.emod_eq_of_lt hx.1 hx.2, Int.emod_eq_of_lt hy.1 hy.2] at hm
    subst hm
    have hz : val B a = val B b := by
      have h2 : B * val B a = B * val B b := by omega
      exact Int.eq_of_mul_eq_mul_left (by omega) h2
    have := val_inj hB (fun n hn => ha n (List.mem_cons_of_mem _ hn)) (fun n hn => hb n (List.mem_cons_of_mem _ hn)) hz
    ext k
    cases k with
    | zero => rfl
    | succ k => rw [co_consS, co_consS, this]
theorem addL_bd {c d : Int} (hc : 0 ≤ c) (hd : 0 ≤ d) : ∀ {a b : List Int}, (∀ n ∈ a, 0 ≤ n ∧ n ≤ c) → (∀ n ∈ b, 0 ≤ n ∧ n ≤ d) → ∀ n ∈ addL a b, 0 ≤ n ∧ n ≤ c + d
  | [], b, _, hb, n, hn => by
    have := hb n (by simpa [addL] using hn)
    omega
  | x :: a, [], ha, _, n, hn => by
    have := ha n (by simpa [addL] using hn)
    omega
  | x :: a, y :: b, ha, hb, n, hn => by
    rw [addL] at hn
    rcases List.mem_cons.mp hn with rfl | hn
    · have h1 := ha x List.mem_cons_self
      have h2 := hb y List.mem_cons_self
      omega
    · exact addL_bd hc hd (fun n hn => ha n (List.mem_cons_of_mem _ hn)) (fun n hn => hb n (List.mem_cons_of_mem _ hn)) n hn
theorem conv_bd {c : Int} (hc : 0 ≤ c) : ∀ {a b : List Int}, (∀ n ∈ a, 0 ≤ n ∧ n ≤ c) → (∀ n ∈ b, 0 ≤ n ∧ n ≤ c) → ∀ n ∈ conv a b, 0 ≤ n ∧ n ≤ (a.length : Int) * (c * c)
  | [], b, _, _, n, hn => by simp [conv] at hn
  | x :: a, b, ha, hb, n, hn => by
    have hx := ha x List.mem_cons_self
    have ih := conv_bd hc (a := a) (fun n hn => ha n (List.mem_cons_of_mem _ hn)) hb
    have hcc : 0 ≤ c * c := Int.mul_nonneg hc hc
    have hl : 0 ≤ (a.length : Int) * (c * c) := Int.mul_nonneg (by omega) hcc
    rw [conv] at hn
    have z := addL_bd hcc hl (a := b.map (x * ·)) (b := 0 :: conv a b) (fun m hm => by
      obtain ⟨y, hy, rfl⟩ := List.mem_map.mp hm
      have h1 := hb y hy
      exact ⟨Int.mul_nonneg hx.1 h1.1, Int.mul_le_mul hx.2 h1.2 h1.1 hc⟩) (fun m hm => by
      rcases List.mem_cons.mp hm with rfl | hm
      · omega
      · exact ih m hm) n hn
    rw [List.length_cons]
    have e : ((a.length + 1 : Nat) : Int) * (c * c) = c * c + (a.length : Int) * (c * c) := by
      rw [show ((a.length + 1 : Nat) : Int) = (a.length : Int) + 1 by omega, Int.add_mul]
      omega
    omega
/-- lanes of 65536: the product of two numbers is the row's product -/
theorem lanes_prod {a b ds : List Int} (ha : Red 10 a) (hb : Red 10 b) (hl : a.length ≤ 90) (hd : Dig 65536 ds) (h : val 65536 ds = val 65536 a * val 65536 b) : co ds = co a * co b := by
  rw [← co_conv]
  refine val_inj (by decide) hd (fun n hn => ?_) (by rw [h, val_conv])
  have z := conv_bd (c := 9) (by decide) (fun n hn => by have := ha n hn; omega) (fun n hn => by have := hb n hn; omega) n hn
  omega
end K0
namespace K0
open PySem PySem.Spec PyProof.Rows L2 Kt M
open Evl (Ex Ev EvL EvU EvT EvA EvO ex_l ex_t sq_of st_of sz_of sz_lt fresh_back given)
/-! ### long products -/
theorem val_nn {B : Int} (hB : 0 < B) : ∀ {ds : List Int}, Dig B ds → 0 ≤ val B ds
  | [], _ => Int.le_refl 0
  | x :: ds, h => by
    have h1 := h x List.mem_cons_self
    have h2 := val_nn hB (ds := ds) fun n hn => h n (List.mem_cons_of_mem _ hn)
    rw [val]
    have := Int.mul_nonneg (Int.le_of_lt hB) h2
    omega
theorem val_lt {B : Int} (hB : 0 < B) : ∀ {ds : List Int}, Dig B ds → val B ds < B ^ ds.length
  | [], _ => by simp [val]
  | x :: ds, h => by
    have h1 := h x List.mem_cons_self
    have h2 := val_lt hB (ds := ds) fun n hn => h n (List.mem_cons_of_mem _ hn)
    rw [val, List.length_cons, Int.pow_succ]
    have h3 : B * (val B ds + 1) ≤ B * B ^ ds.length := Int.mul_le_mul_of_nonneg_left h2 (Int.le_of_lt hB)
    rw [Int.mul_add, Int.mul_one] at h3
    rw [Int.mul_comm (B ^ ds.length)]
    omega
theorem mul_ltI {a b x y : Int} (ha : 0 ≤ a) (hb : 0 ≤ b) (h1 : a < x) (h2 : b < y) : a * b < x * y := by
  have h3 : a * b ≤ a * y := Int.mul_le_mul_of_nonneg_left (Int.le_of_lt h2) ha
  have h4 : (a + 1) * y ≤ x * y := Int.mul_le_mul_of_nonneg_right h1 (by omega)
  rw [Int.add_mul, Int.one_mul] at h4
  omega
/-- the lanes of a text are its number -/
theorem val_lanes : ∀ (m : Nat) (t : List Nat), t.length = 4 * m → val 65536 ((Mh.lanesOf m t).map Int.ofNat) = (Hx.hexNum t : Nat)
  | 0, t, h => by
    have : t = [] := List.eq_nil_of_length_eq_zero (by omega)
    subst this
    rfl
  | m + 1, t, h => by
    rw [Mh.lanesOf, List.map_cons, val, val_lanes m (t.take (4 * m)) (by rw [List.length_take]; omega)]
    have e : t = t.take (4 * m) ++ t.drop (4 * m) := (List.take_append_drop _ _).symm
    have e2 := Mh.hexNum_app (t.take (4 * m)) (t.drop (4 * m))
    rw [← e, List.length_drop, show t.length - 4 * m = 4 by omega] at e2
    show ((Hx.hexNum (t.drop (4 * m)) : Nat) : Int) + 65536 * ((Hx.hexNum (t.take (4 * m)) : Nat) : Int) = _
    omega
theorem lanes_dig {m : Nat} {t : List Nat} (h : t.length = 4 * m) (hx : ∀ c ∈ t, Hx.IsHex c) : Dig 65536 ((Mh.lanesOf m t).map Int.ofNat) := fun n hn => by
  obtain ⟨k, hk, rfl⟩ := List.mem_map.mp hn
  have := Mh.lanesOf_lt m t h hx k hk
  exact ⟨Int.natCast_nonneg k, by show (k : Int) < 65536; omega⟩
/-- the text of digits -/
def packL (ns : List Int) : List Nat := (ns.reverse.map fun n => Mh.laneL n.toNat).flatten
theorem packL_cons (x : Int) (ns : List Int) : packL (x :: ns) = packL ns ++ Mh.laneL x.toNat := by
  unfold packL
  rw [List.reverse_cons, List.map_append, List.flatten_append]
  simp
theorem packL_num : ∀ {ns : List Int}, (∀ n ∈ ns, 0 ≤ n ∧ n ≤ 6) → ((Hx.hexNum (packL ns) : Nat) : Int) = val 65536 ns
  | [], _ => rfl
  | x :: ns, h => by
    have hx := h x List.mem_cons_self
    have ih := packL_num (ns := ns) fun n hn => h n (List.mem_cons_of_mem _ hn)
    rw [packL_cons, Mh.hexNum_app, Mh.laneL_num x.toNat (by omega), val, ← ih]
    show (((Hx.hexNum (packL ns) * 16 ^ 4 + x.toNat : Nat)) : Int) = _
    omega
theorem packL_all : ∀ {ns : List Int}, (∀ n ∈ ns, 0 ≤ n ∧ n ≤ 6) → ∀ c ∈ packL ns, Hx.IsHex c
  | [], _, c, hc => by simp [packL] at hc
  | x :: ns, h, c, hc => by
    have hx := h x List.mem_cons_self
    rw [packL_cons] at hc
    rcases List.mem_append.mp hc with hc | hc
    · exact packL_all (ns := ns) (fun n hn => h n (List.mem_cons_of_mem _ hn)) c hc
    · exact Mh.laneL_all x.toNat (by omega) c hc
theorem packL_len : ∀ ns : List Int, (packL ns).length = 4 * ns.length
  | [] => rfl
  | x :: ns => by
    rw [packL_cons, List.length_append, packL_len ns, List.length_cons]
    show 4 * ns.length + 4 = _
    omega
/-- the tuple of texts under a name -/
def GTS (mg : Str → Option Value) (K : PySem.W.Frag) (x : Str) (zs : List Str) : Prop := ∃ a, mg x = some (.ref a) ∧ ∀ H, SqT K H a (zs.map V.str)
def lanes7 : List Str := ["0000", "0001", "0002", "0003", "0004", "0005", "0006"]
theorem lanes7_at : ∀ n : Nat, n ≤ 6 → lanes7[n]? = some (SX.S (Mh.laneL n))
  | 0, _ => by decide +kernel
  | 1, _ => by decide +kernel
  | 2, _ => by decide +kernel
  | 3, _ => by decide +kernel
  | 4, _ => by decide +kernel
  | 5, _ => by decide +kernel
  | 6, _ => by decide +kernel
  | n + 7, h => by omega
theorem lanes7_atI {n : Int} (h : 0 ≤ n ∧ n ≤ 6) : atI (lanes7.map V.str) n = some (.str (SX.S (Mh.laneL n.toNat))) := by
  obtain ⟨k, rfl⟩ := Int.eq_ofNat_of_zero_le h.1
  have hk : k ≤ 6 := by omega
  refine atI_nat ?_
  rw [List.getElem?_map, Int.toNat_natCast, lanes7_at k hk]
  rfl
theorem join_flat (ys : List (List Nat)) : Txt.join (SX.S []) (ys.map SX.S) = SX.S ys.flatten := by
  rw [SX.join_S]
  congr 1
  have : ∀ ys : List (List Nat), TL.joinL [] ys = ys.flatten := fun ys => by
    induction ys with
    | nil => rfl
    | cons p r ih =>
      cases r with
      | nil => simp [TL.joinL]
      | cons q r =>
        rw [TL.joinL, ih]
        simp
  exact this ys
/-- a row with lanes put over zeros -/
theorem co_over {ls : List Int} {n : Nat} (h : ls.length ≤ n) : co ((List.replicate n (0 : Int)).take 0 ++ List.zipWith (fun a b => a + b) (((List.replicate n (0 : Int)).drop 0).take ls.length) ls ++ (List.replicate n (0 : Int)).drop (0 + ls.length)) = co ls := by
  have e1 : List.zipWith (fun a b => a + b) (((List.replicate n (0 : Int)).drop 0).take ls.length) ls = ls := by
    rw [List.drop_zero, List.take_replicate, Nat.min_eq_left h]
    apply List.ext_getElem
    · simp
    · intro i h1 h2
      simp
  rw [e1, List.take_zero, List.nil_append, List.drop_replicate]
  ext k
  by_cases hk : k < ls.length
  · rw [co_near (by rw [List.length_append]; omega), co_near hk, List.getElem_append_left hk]
  · rw [co_far (xs := ls) (by omega)]
    by_cases h2 : k < (ls ++ List.replicate (n - (0 + ls.length)) (0 : Int)).length
    · rw [co_near h2, List.getElem_append_right (by omega), List.getElem_replicate]
    · rw [co_far (by omega)]
/-- the lanes of a product -/
def lanes (n : Nat) : List Int := (Mh.lanesOf (((Mh.hexL n).length + 4 - 1) / 4) (Mh.pad4 n)).map Int.ofNat
theorem lanes_val (n : Nat) : val 65536 (lanes n) = (n : Nat) := by
  rw [lanes, val_lanes _ _ (Mh.pad4_len n), Mh.pad4_num]
theorem lanes_digs (n : Nat) : Dig 65536 (lanes n) := lanes_dig (Mh.pad4_len n) (Mh.pad4_all n)
theorem lanes_len (n : Nat) : (lanes n).length = ((Mh.hexL n).length + 4 - 1) / 4 := by rw [lanes, List.length_map, Mh.lanesOf_len]
section
variable {P : Program} {w : World} {K : PySem.W.Frag} {mg : Str → Option Value} {base : Heap}
def sp_block_sum (K : PySem.W.Frag) : Sp := Con (G := G2) (fun g => CMulW g.p g.n) (fun g => [vL K [g.p], vL K [g.n], vI 0, vI 0, vI 1]) (fun g => vI (g.p * g.n))
def sp_packed (K : PySem.W.Frag) : Sp := Con (G := List Int) (fun ns => ns ≠ [] ∧ ns.length ≤ 90 ∧ ∀ n ∈ ns, 0 ≤ n ∧ n ≤ 6) (fun ns => [vP K ns]) (fun ns => vI (val 65536 ns))
def sp_unpacked (K : PySem.W.Frag) : Sp := Con (G := Nat) (fun n => (Mh.hexL n).length ≤ 1000) (fun n => [vI (n : Int)]) (fun n => vL K (lanes n))
def tot (a b : Int) : Nat → Int
  | 0 => 0
  | _ + 1 => a * b
abbrev s_block_sum : Stmt := topS 19
abbrev N_block_sum : List Str := ["lefts", "rights", "place", "start", "stop", "total", "low"]
theorem sc_block_sum : FnScope N_block_sum ["lefts", "rights", "place", "start", "stop"] (defScope s_block_sum) := ⟨rfl, rfl, rfl, by decide +kernel, rfl, by decide +kernel, by decide +kernel⟩
theorem ok_block_sum {f : Addr} {fd : FuncData} (F : Fun K "block_sum" "block_sum" s_block_sum f fd) (B : Bis mg)   : FnOk P w K mg base CX0 1 f fd ["lefts", "rights", "place", "start", "stop"] (sp_block_sum K) := by
  refine F.ok sc_block_sum (fun vs H Q E h => ?_) (fun cdv A outer s H vs Q E hr h => ?_)
  · obtain ⟨g, _, ha, _⟩ := h
    exact ha.len
  · obtain ⟨⟨a, b⟩, hc, ⟨v_lefts, _, rfl, h_lefts, ⟨v_rights, _, rfl, h_rights, ⟨_, _, rfl, rfl, ⟨_, _, rfl, rfl, ⟨_, _, rfl, rfl, rfl⟩⟩⟩⟩⟩, q⟩ := h
    dsimp only at *
    refine ⟨_, (pss_cons (ps_set (i := 5) sc_block_sum.nd rfl (Or.inl rfl) pe_int)
      (pss_cons (ps_for PassesOwn.never rfl (pi_range2 (by rfl) (B "range" (by decide +kernel)) (pa_cons (pv 3) (pa_cons (pv 4) pa_nil))) (pg_name (i := 6) sc_block_sum.nd rfl (Or.inl rfl)) (pss_one (ps_set (i := 5) sc_block_sum.nd rfl (Or.inl rfl) (pe_op op_add (pv 5) (pe_op op_mulW (pe_ix (r := rIxL K) ix_list (pv 0) (pv 6) (fun _ _ => rfl)) (pe_ix (r := rIxL K) ix_list (pv 1) (pe_op op_sub (pv 2) (pv 6)) (fun _ _ => rfl)))))))
      (pss_one (ps_ret (pv 5))))), ?_⟩
    refine qr_asg evr_c fun v H1 e1 hv => ?_
    obtain rfl := hv
    refine Evl.q_forR2 (lo := 0) (n := 1) (Evl.ea_cons (Evl.ev_var rfl) (Evl.ea_cons (Evl.ev_var rfl) Evl.ea_nil)) (by omega) (fun i σ' H' => (∃ x6, σ' = [some v_lefts, some v_rights, some (.int 0), some (.int 0), some (.int 1), some (.int (tot a b i)), x6]) ∧ Ex H H') (fun H2 e2 => ⟨⟨none, rfl⟩, e1.trans e2⟩) ?_ ?_
    · rintro i σ' H' hi ⟨⟨x6, rfl⟩, e'⟩
      have hi0 : i = 0 := by omega
      subst hi0
      refine sr_asg (r := vI (a * b)) (EvR.eqI (evr_op (evr_var rfl rfl) (evr_op (evr_op (evr_var rfl ((vL K [a]).st e' h_lefts)) (evr_var rfl rfl) (op_ixLi (z := .int a) rfl)) (evr_op (evr_var rfl ((vL K [b]).st e' h_rights)) (evr_op (evr_var rfl rfl) (evr_var rfl rfl) op_i0) (op_ixLi (z := .int b) rfl)) (op_i hc)) op_i0) ?_) fun v H2 e2 hv => ?_
      · show 0 + a * b = a * b
        omega
      · obtain rfl := hv
        exact ⟨⟨_, rfl⟩, e'.trans e2⟩
    · rintro σ' H' ⟨⟨x6, rfl⟩, e'⟩
      exact sr_ret (evr_var rfl rfl) fun v H2 e2 hv => q v H2 (e'.trans e2) hv
abbrev s_packed : Stmt := topS 20
abbrev N_packed : List Str := ["numbers", "number"]
theorem sc_packed : FnScope N_packed ["numbers"] (defScope s_packed) := ⟨rfl, rfl, rfl, by decide +kernel, rfl, by decide +kernel, by decide +kernel⟩
theorem ok_packed {f : Addr} {fd : FuncData} (F : Fun K "packed" "packed" s_packed f fd) (B : Bis mg) (C_LANES : GTS mg K "LANES" lanes7)  : FnOk P w K mg base CX0 1 f fd ["numbers"] (sp_packed K) := by
  refine F.ok sc_packed (fun vs H Q E h => ?_) (fun cdv A outer s H vs Q E hr h => ?_)
  · obtain ⟨g, _, ha, _⟩ := h
    exact ha.len
  · obtain ⟨numbers, ⟨hne, hl, hd⟩, ⟨v_numbers, _, rfl, h_numbers, rfl⟩, q⟩ := h
    dsimp only at *
    obtain ⟨al, hal, hsl⟩ := C_LANES
    refine ⟨_, (pss_one (ps_ret (pe_callTy call_int_hex (by rfl) (B "int" (by decide +kernel)) (by decide +kernel) (pa_cons (pe_bm PySem.F.plainAttrs_str PySem.F.slot_str_join PySem.F.type_str_join mt_join pe_str (pa_cons (pe_lc (own := [("number", 1)]) (g := (gName 1)) (tt := tYes) rfl sc_packed.nd (pi_tup (pe_stepT (pv 0) po_none po_none (po_some (pe_un un_neg pe_int)))) (blkOk_by (own := [("number", 1)]) (N := N_packed) (sc := defScope s_packed) (by decide +kernel)) (fun _ _ _ _ _ => (pg_name (i := 1) sc_packed.nd rfl (Or.inl rfl))) (fun _ _ _ _ _ => pts_nil) (fun _ _ _ _ _ => (pe_ix (r := rIxT K) ix_tup (pe_glob (v := .ref al) rfl hal rfl) (pv 1) (fun _ _ => rfl)))) pa_nil)) (pa_cons pe_int pa_nil))))), ?_⟩
    have hrv := packL_num hd
    rw [← hrv] at q
    refine sr_ret (evr_intHex (l := packL numbers) ?_ ?_ ?_ (packL_all hd)) fun v H1 e1 hv => q v H1 e1 hv
    · have hj := join_flat (numbers.reverse.map fun n => Mh.laneL n.toNat)
      rw [List.map_map] at hj
      show EvR _ _ _ (vS (SX.S (numbers.reverse.map fun n => Mh.laneL n.toNat).flatten))
      rw [← hj]
      have er := evr_stepT (K := K) (σ := [some v_numbers, none]) (te := tVar 0) (evr_var (H := H) rfl h_numbers) eo_none eo_none (eo_some (un_negI (evr_c (v := .int 1)))) (by decide) (by decide) (by rw [pickA_rev, List.length_reverse]; omega)
      rw [pickA_rev] at er
      refine evr_join rfl (ys := numbers.reverse.map fun n => SX.S (Mh.laneL n.toNat)) ?_ ?_
      · rw [List.map_map]
        refine el_mapV (wk_tupR er) (fun n => .str (SX.S (Mh.laneL n.toNat))) (by rw [List.length_reverse]; omega) (fun x => rfl) fun x hx H1 e1 H2 e2 Q k => ?_
        exact ⟨.int x, rfl, al, _, x, _, rfl, rfl, hsl _, lanes7_atI (hd x (List.mem_reverse.mp hx)), k H2 (Ex.refl H2)⟩
      · have hs : ((numbers.reverse.map fun n => SX.S (Mh.laneL n.toNat)).map (·.length)).sum = 4 * numbers.length := by
          rw [List.map_map]
          have : ((fun (x : Str) => x.length) ∘ fun (n : Int) => SX.S (Mh.laneL n.toNat)) = fun _ => 4 := by
            funext n
            rfl
          rw [this, List.map_const', List.length_reverse]
          simp [Nat.mul_comm]
        rw [hs]
        show 4 * numbers.length + _ * 0 ≤ _
        omega
    · intro z
      have := congrArg List.length z
      rw [packL_len] at this
      have := List.length_pos_iff.mpr hne
      simp at *
      omega
    · rw [packL_len]
      omega
abbrev s_unpacked : Stmt := topS 21
abbrev N_unpacked : List Str := ["whole", "text", "many", "start"]
theorem sc_unpacked : FnScope N_unpacked ["whole"] (defScope s_unpacked) := ⟨rfl, rfl, rfl, by decide +kernel, rfl, by decide +kernel, by decide +kernel⟩
theorem ok_unpacked {f : Addr} {fd : FuncData} (F : Fun K "unpacked" "unpacked" s_unpacked f fd) (B : Bis mg) (C_LANE : GI mg "LANE" 4)  : FnOk P w K mg base CX0 1 f fd ["whole"] (sp_unpacked K) := by
  refine F.ok sc_unpacked (fun vs H Q E h => ?_) (fun cdv A outer s H vs Q E hr h => ?_)
  · obtain ⟨g, _, ha, _⟩ := h
    exact ha.len
  · obtain ⟨n, hn, ⟨_, _, rfl, rfl, rfl⟩, q⟩ := h
    dsimp only at *
    refine ⟨_, (pss_cons (ps_set (i := 1) sc_unpacked.nd rfl (Or.inr rfl) (pe_joined1 (pe_fmtX (pv 0) (pe_joined1 pe_str))))
      (pss_cons (ps_set (i := 2) sc_unpacked.nd rfl (Or.inl rfl) (pe_op op_fdiv (pe_op op_sub (pe_op op_add (pe_callB call_len_str (by rfl) (B "len" (by decide +kernel)) (by decide +kernel) (pa_cons (pv 1) pa_nil)) (pe_gi C_LANE (by rfl))) pe_int) (pe_gi C_LANE (by rfl))))
      (pss_cons (ps_set (i := 1) sc_unpacked.nd rfl (Or.inr rfl) (pe_bm PySem.F.plainAttrs_str PySem.F.slot_str_zfill PySem.F.type_str_zfill mt_zfill (pv 1) (pa_cons (pe_op op_mul (pv 2) (pe_gi C_LANE (by rfl))) pa_nil)))
      (pss_one (ps_ret (pe_lc (own := [("start", 3)]) (g := (gName 3)) (tt := tYes) rfl sc_unpacked.nd (pi_range3 (by rfl) (B "range" (by decide +kernel)) (pa_cons (pe_op op_sub (pe_callB call_len_str (by rfl) (B "len" (by decide +kernel)) (by decide +kernel) (pa_cons (pv 1) pa_nil)) (pe_gi C_LANE (by rfl))) (pa_cons (pe_un un_neg pe_int) (pa_cons (pe_un un_neg (pe_gi C_LANE (by rfl))) pa_nil)))) (blkOk_by (own := [("start", 3)]) (N := N_unpacked) (sc := defScope s_unpacked) (by decide +kernel)) (fun _ _ _ _ _ => (pg_name (i := 3) sc_unpacked.nd rfl (Or.inl rfl))) (fun _ _ _ _ _ => pts_nil) (fun _ _ _ _ _ => (pe_callTy call_int_hex (by rfl) (B "int" (by decide +kernel)) (by decide +kernel) (pa_cons (pe_slice sl_str (pv 1) (po_some (pv 3)) (po_some (pe_op op_add (pv 3) (pe_gi C_LANE (by rfl))))) (pa_cons pe_int pa_nil)))))))))), ?_⟩
    have hz : (SX.S (Mh.hexL n)).length ≤ sizeLine := by
      rw [SX.S_len]
      exact Nat.le_trans hn (by decide)
    refine qr_asg (r := vS (SX.S (Mh.hexL n))) (evr_fmtX (i := (n : Int)) (evr_var rfl rfl) (by omega) hz) fun v H1 e1 hv => ?_
    obtain rfl := hv
    generalize hm : ((Mh.hexL n).length + 4 - 1) / 4 = m
    have hh := Mh.hex_ne n
    have hpos := List.length_pos_iff.mpr hh
    have hl4 : (Mh.pad4 n).length = 4 * m := by rw [Mh.pad4_len, hm]
    refine qr_asg (r := vI (m : Int)) (EvR.eqI (evr_op (evr_op (evr_op (evr_lenS rfl (evr_var rfl rfl) hz) evr_c op_i0) evr_c op_i0) evr_c (op_i ⟨by decide, by decide⟩)) (by rw [SX.S_len]; omega)) fun v H2 e2 hv => ?_
    obtain rfl := hv
    refine qr_asg (r := vS (SX.S (Mh.pad4 n))) (EvR.to (evr_zfill (i := ((4 * m : Nat) : Int)) rfl (evr_var rfl rfl) (EvR.eqI (evr_op (evr_var rfl rfl) evr_c (op_i (.inr (by decide)))) (by omega)) ?_) fun v H' e' hv => ?_) fun v H3 e3 hv => ?_
    · have h1 : 4 * m ≤ 2000 := by omega
      unfold PadOk fitsSsize
      rw [Bool.and_eq_true]
      refine ⟨?_, ?_⟩
      · simp
        omega
      · show (!decide (((4 * m : Nat) : Int).toNat > sizeLine)) = true
        rw [Int.toNat_natCast, decide_eq_false]
        · rfl
        · have : sizeLine = 16777216 := rfl
          omega
    · rw [zfill_hex hh (Mh.hex_all n), show 4 * m = m * 4 by omega, ← hm] at hv
      exact hv
    obtain rfl := hv
    have hz4 : (SX.S (Mh.pad4 n)).length ≤ sizeLine := by
      rw [SX.S_len, hl4]
      exact Nat.le_trans (show 4 * m ≤ 2000 by omega) (by decide)
    have e03 : Ex H H3 := (e1.trans e2).trans e3
    have hls : lanes n = (List.range m).map fun i => ((Hx.hexNum (((Mh.pad4 n).drop (4 * (m - 1 - i))).take 4) : Nat) : Int) := by
      rw [lanes, hm, Mh.lanesOf_range m _ hl4, List.map_map]
      rfl
    rw [hls] at q
    refine sr_ret (evr_list (el_rng3 (n := m) (lo := 4 * (m : Int) - 4) (hi := -1) (c := -4) (evrs_cons (EvR.eqI (evr_op (evr_lenS rfl (evr_var rfl rfl) hz4) evr_c op_i0) (by rw [SX.S_len, hl4]; omega)) (evrs_cons (un_negI evr_c) (evrs_cons (un_negI evr_c) evrs_nil))) (rg_down4 (by omega) (by omega)) (fun i => ((Hx.hexNum (((Mh.pad4 n).drop (4 * (m - 1 - i))).take 4) : Nat) : Int)) (by omega) (fun x => rfl) fun i hi H4 e4 => ?_) rfl) fun v H4 e4 hv => q v H4 (e03.trans e4) hv
    have hi4 : (4 * (m : Int) - 4 + (i : Nat) * (-4)) = ((4 * (m - 1 - i) : Nat) : Int) := by omega
    have hc := cutS_lane (t := Mh.pad4 n) (a := 4 * (m - 1 - i)) (by omega)
    refine evr_intHex ?_ ?_ ?_ fun c hc => Mh.pad4_all n c (List.mem_of_mem_drop (List.mem_of_mem_take hc))
    · rw [← hc]
      exact evr_slS (evr_var rfl rfl) (eo_some ((evr_var rfl rfl).eqI hi4)) (eo_some (EvR.eqI (evr_op (evr_var rfl rfl) evr_c op_i0) (by omega))) hz4
    · intro z
      have := congrArg List.length z
      rw [List.length_take, List.length_drop, hl4, List.length_nil] at this
      omega
    · rw [List.length_take]
      omega
abbrev s_multiply_long : Stmt := topS 18
abbrev N_multiply_long : List Str := ["prime", "one", "other", "out", "lefts", "rights", "place", "first", "stop", "start", "lanes", "low", "high", "_", "number", "further"]
theorem sc_multiply_long : FnScope N_multiply_long ["prime", "one", "other"] (defScope s_multiply_long) := ⟨rfl, rfl, rfl, by decide +kernel, rfl, by decide +kernel, by decide +kernel⟩
theorem ok_multiply_long {f : Addr} {fd : FuncData} (F : Fun K "multiply_long" "multiply_long" s_multiply_long f fd) (B : Bis mg) (C_BLOCK : GI mg "BLOCK" 90) (C_MOST_SUMMED : GI mg "MOST_SUMMED" 20) (D_packed : De P w K mg base "packed" ["numbers"] 1 (sp_packed K)) (D_unpacked : De P w K mg base "unpacked" ["whole"] 1 (sp_unpacked K)) (D_block_sum : De P w K mg base "block_sum" ["lefts", "rights", "place", "start", "stop"] 1 (sp_block_sum K)) (D_trimmed : De P w K mg base "trimmed" ["numbers"] 1 (sp_trimmed K)) : FnOk P w K mg base CX0 2 f fd ["prime", "one", "other"] (sp_multiply_long K) := by
  refine F.ok sc_multiply_long (fun vs H Q E h => ?_) (fun cdv A outer s H vs Q E hr h => ?_)
  · obtain ⟨g, _, ha, _⟩ := h
    exact ha.len
  · obtain ⟨⟨prime, one, other⟩, ⟨hm, h5, hlo⟩, ⟨_, _, rfl, rfl, ⟨v_one, _, rfl, h_one, ⟨v_other, _, rfl, h_other, rfl⟩⟩⟩, q⟩ := h
    dsimp only at *
    refine ⟨_, (pss_cons (ps_setLc (i := 3) (own := [("_", 13)]) (g := (gName 13)) (tt := tYes) rfl sc_multiply_long.nd rfl rfl (sw_true rfl rfl rfl (by decide +kernel)) (pi_range1 (by rfl) (B "range" (by decide +kernel)) (pa_cons (pe_op op_add (pe_callB call_len_seq (by rfl) (B "len" (by decide +kernel)) (by decide +kernel) (pa_cons (pv 1) pa_nil)) (pe_callB call_len_seq (by rfl) (B "len" (by decide +kernel)) (by decide +kernel) (pa_cons (pv 2) pa_nil))) pa_nil)) (blkOk_by (own := [("_", 13)]) (N := N_multiply_long) (sc := defScope s_multiply_long) (by decide +kernel)) (fun _ _ _ _ _ => (pg_name (i := 13) sc_multiply_long.nd rfl (Or.inl rfl))) (fun _ _ _ _ _ => pts_nil) (fun _ _ _ _ _ => pe_int))
      (pss_cons (ps_setLc (i := 4) (own := [("start", 9)]) (g := (gName 9)) (tt := tYes) rfl sc_multiply_long.nd rfl rfl (sw_true rfl rfl rfl (by decide +kernel)) (pi_range3 (by rfl) (B "range" (by decide +kernel)) (pa_cons pe_int (pa_cons (pe_callB call_len_seq (by rfl) (B "len" (by decide +kernel)) (by decide +kernel) (pa_cons (pv 1) pa_nil)) (pa_cons (pe_gi C_BLOCK (by rfl)) pa_nil)))) (blkOk_by (own := [("start", 9)]) (N := N_multiply_long) (sc := defScope s_multiply_long) (by decide +kernel)) (fun _ _ _ _ _ => (pg_name (i := 9) sc_multiply_long.nd rfl (Or.inl rfl))) (fun _ _ _ _ _ => pts_nil) (fun _ _ _ _ _ => (pe_call D_packed.ok (hr.mono (by decide)) (by rfl) D_packed.g D_packed.kp D_packed.b .nil pass0 (pa_cons (pe_slice (r := rSlA K) sl_tupA (pv 1) (po_some (pv 9)) (po_some (pe_op op_add (pv 9) (pe_gi C_BLOCK (by rfl))))) pa_nil))))
      (pss_cons (ps_setLc (i := 5) (own := [("start", 9)]) (g := (gName 9)) (tt := tYes) rfl sc_multiply_long.nd rfl rfl (sw_true rfl rfl rfl (by decide +kernel)) (pi_range3 (by rfl) (B "range" (by decide +kernel)) (pa_cons pe_int (pa_cons (pe_callB call_len_seq (by rfl) (B "len" (by decide +kernel)) (by decide +kernel) (pa_cons (pv 2) pa_nil)) (pa_cons (pe_gi C_BLOCK (by rfl)) pa_nil)))) (blkOk_by (own := [("start", 9)]) (N := N_multiply_long) (sc := defScope s_multiply_long) (by decide +kernel)) (fun _ _ _ _ _ => (pg_name (i := 9) sc_multiply_long.nd rfl (Or.inl rfl))) (fun _ _ _ _ _ => pts_nil) (fun _ _ _ _ _ => (pe_call D_packed.ok (hr.mono (by decide)) (by rfl) D_packed.g D_packed.kp D_packed.b .nil pass0 (pa_cons (pe_slice (r := rSlA K) sl_tupA (pv 2) (po_some (pv 9)) (po_some (pe_op op_add (pv 9) (pe_gi C_BLOCK (by rfl))))) pa_nil))))
      (pss_cons (ps_for PassesOwn.never rfl (pi_range1 (by rfl) (B "range" (by decide +kernel)) (pa_cons (pe_op op_sub (pe_op op_add (pe_callB call_len_seq (by rfl) (B "len" (by decide +kernel)) (by decide +kernel) (pa_cons (pv 4) pa_nil)) (pe_callB call_len_seq (by rfl) (B "len" (by decide +kernel)) (by decide +kernel) (pa_cons (pv 5) pa_nil))) pe_int) pa_nil)) (pg_name (i := 6) sc_multiply_long.nd rfl (Or.inl rfl)) (pss_cons (ps_par (i := 7) (j := 8) (by rfl) sc_multiply_long.nd rfl rfl (by decide) rfl rfl (pa_cons (pe_callB (call_max2 rfl) (by rfl) (B "max" (by decide +kernel)) (by decide +kernel) (pa_cons pe_int (pa_cons (pe_op op_sub (pe_op op_add (pv 6) pe_int) (pe_callB call_len_seq (by rfl) (B "len" (by decide +kernel)) (by decide +kernel) (pa_cons (pv 5) pa_nil))) pa_nil))) (pa_cons (pe_callB (call_min2 rfl) (by rfl) (B "min" (by decide +kernel)) (by decide +kernel) (pa_cons (pe_op op_add (pv 6) pe_int) (pa_cons (pe_callB call_len_seq (by rfl) (B "len" (by decide +kernel)) (by decide +kernel) (pa_cons (pv 4) pa_nil)) pa_nil))) pa_nil)) (by rfl))
      (pss_one (ps_for PassesOwn.never rfl (pi_range3 (by rfl) (B "range" (by decide +kernel)) (pa_cons (pv 7) (pa_cons (pv 8) (pa_cons (pe_gi C_MOST_SUMMED (by rfl)) pa_nil)))) (pg_name (i := 9) sc_multiply_long.nd rfl (Or.inl rfl)) (pss_cons (ps_set (i := 10) sc_multiply_long.nd rfl (Or.inl rfl) (pe_call D_unpacked.ok (hr.mono (by decide)) (by rfl) D_unpacked.g D_unpacked.kp D_unpacked.b .nil pass0 (pa_cons (pe_call D_block_sum.ok (hr.mono (by decide)) (by rfl) D_block_sum.g D_block_sum.kp D_block_sum.b .nil pass0 (pa_cons (pv 4) (pa_cons (pv 5) (pa_cons (pv 6) (pa_cons (pv 9) (pa_cons (pe_callB (call_min2 rfl) (by rfl) (B "min" (by decide +kernel)) (by decide +kernel) (pa_cons (pe_op op_add (pv 9) (pe_gi C_MOST_SUMMED (by rfl))) (pa_cons (pv 8) pa_nil))) pa_nil)))))) pa_nil)))
      (pss_cons (ps_set (i := 11) sc_multiply_long.nd rfl (Or.inl rfl) (pe_op op_mul (pv 6) (pe_gi C_BLOCK (by rfl))))
      (pss_cons (ps_set (i := 12) sc_multiply_long.nd rfl (Or.inl rfl) (pe_op op_add (pv 11) (pe_callB call_len_seq (by rfl) (B "len" (by decide +kernel)) (by decide +kernel) (pa_cons (pv 10) pa_nil))))
      (pss_one (ps_asg (pe_lc (own := [("number", 14), ("further", 15)]) (g := (gTup K 2 (gCons (gName 14) (gCons (gName 15) gNil)))) (tt := tYes) rfl sc_multiply_long.nd (pi_zipK false false (by rfl) (B "zip" (by decide +kernel)) (pa_cons (pe_slice sl_list (pv 3) (po_some (pv 11)) (po_some (pv 12))) (pa_cons (pv 10) pa_nil))) (blkOk_by (own := [("number", 14), ("further", 15)]) (N := N_multiply_long) (sc := defScope s_multiply_long) (by decide +kernel)) (fun _ _ _ _ _ => (pg_tup rfl (pgs_cons (pg_name (i := 14) sc_multiply_long.nd rfl (Or.inl rfl)) (pgs_cons (pg_name (i := 15) sc_multiply_long.nd rfl (Or.inl rfl)) pgs_nil)))) (fun _ _ _ _ _ => pts_nil) (fun _ _ _ _ _ => (pe_op op_add (pv 14) (pv 15)))) (pg_cut (pv 3) (po_some (pv 11)) (po_some (pv 12))))))))))))
      (pss_one (ps_ret (pe_call D_trimmed.ok (hr.mono (by decide)) (by rfl) D_trimmed.g D_trimmed.kp D_trimmed.b .nil pass0 (pa_cons (pe_lc (own := [("number", 14)]) (g := (gName 14)) (tt := tYes) rfl sc_multiply_long.nd (pi_list (pv 3)) (blkOk_by (own := [("number", 14)]) (N := N_multiply_long) (sc := defScope s_multiply_long) (by decide +kernel)) (fun _ _ _ _ _ => (pg_name (i := 14) sc_multiply_long.nd rfl (Or.inl rfl))) (fun _ _ _ _ _ => pts_nil) (fun _ _ _ _ _ => (pe_op op_mod (pv 14) (pv 0)))) pa_nil)))))))), ?_⟩
    have hp2 := hm.p0
    have hp7 := hm.p1
    have rx := hm.rx
    have ry := hm.ry
    have lx := hm.lx
    have ly := hm.ly
    dsimp only at hp2 hp7 rx ry lx ly
    have hp0 : 0 < prime := by omega
    have d1 : ∀ n ∈ one, 0 ≤ n ∧ n ≤ 6 := fun n hn => by
      have := rx n hn
      omega
    have d2 : ∀ n ∈ other, 0 ≤ n ∧ n ≤ 6 := fun n hn => by
      have := ry n hn
      omega
    have ne1 : one ≠ [] := List.length_pos_iff.mp (by omega)
    have ne2 : other ≠ [] := List.length_pos_iff.mp (by omega)
    have g1 : Dig 65536 one := fun n hn => by
      have := d1 n hn
      omega
    have g2 : Dig 65536 other := fun n hn => by
      have := d2 n hn
      omega
    have v1 := val_nn (by decide) g1
    have v2 := val_nn (by decide) g2
    have w1 := val_lt (by decide) g1
    have w2 := val_lt (by decide) g2
    have hcut : ∀ ns : List Int, ns.length ≤ 90 → cutI ns (some (0 + ((0 : Nat) : Int) * 90)) (some (0 + ((0 : Nat) : Int) * 90 + 90)) = ns := fun ns h => by
      rw [show (0 + ((0 : Nat) : Int) * 90) = ((0 : Nat) : Int) from rfl, show (((0 : Nat) : Int) + 90) = ((90 : Nat) : Int) from rfl]
      unfold cutI
      rw [HT.sIx_nat, HT.sIx_nat, Nat.zero_min, List.drop_zero, Nat.sub_zero, Nat.min_eq_right h, List.take_length]
    refine Evl.q_asgL (xs := (List.replicate (one.length + other.length) 0).map V.int) ?_ fun l H1 n1 e1 hA => ?_
    · rw [show List.replicate (one.length + other.length) (0 : Int) = (List.range (one.length + other.length)).map (fun _ => 0) by rw [List.map_const', List.length_range]]
      exact el_rngI (n := one.length + other.length) (evrs_cons (EvR.eqI (evr_op (evr_lenR rfl (EvR.kP (evr_var rfl h_one))) (evr_lenR rfl (EvR.kP (evr_var rfl h_other))) op_i0) (by omega)) evrs_nil) (fun _ => 0) (by omega) (fun x => rfl) fun i hi H1 e1 => evr_c
    have h_one1 := (vP K one).st e1 h_one
    have h_other1 := (vP K other).st e1 h_other
    refine qr_asg (r := vL K [val 65536 one]) (evr_list (el_rng3 (n := 1) (lo := 0) (hi := (one.length : Int)) (c := 90) (evrs_cons evr_c (evrs_cons (evr_lenR rfl (EvR.kP (evr_var rfl h_one1))) (evrs_cons evr_c evrs_nil))) (rg_one (by omega) (by omega) (by decide)) (fun _ => val 65536 one) (by decide) (fun x => rfl) fun i hi H2 e2 => ?_) rfl) fun vl H2 e2 hvl => ?_
    · have hi0 : i = 0 := by omega
      subst hi0
      refine evr_call one ⟨ne1, lx, d1⟩ (evrs_cons (EvR.to (evr_slT (lo := some (0 + ((0 : Nat) : Int) * 90)) (hi := some (0 + ((0 : Nat) : Int) * 90 + 90)) (evr_var rfl ((vP K one).st e2 h_one1)) (eo_some (evr_var rfl rfl)) (eo_some (evr_op (evr_var rfl rfl) evr_c op_i0))) fun v H' e' hv => ?_) evrs_nil)
      rw [hcut one lx] at hv
      exact hv
    have h_other2 := (vP K other).st e2 h_other1
    refine qr_asg (r := vL K [val 65536 other]) (evr_list (el_rng3 (n := 1) (lo := 0) (hi := (other.length : Int)) (c := 90) (evrs_cons evr_c (evrs_cons (evr_lenR rfl (EvR.kP (evr_var rfl h_other2))) (evrs_cons evr_c evrs_nil))) (rg_one (by omega) (by omega) (by decide)) (fun _ => val 65536 other) (by decide) (fun x => rfl) fun i hi H3 e3 => ?_) rfl) fun vr H3 e3 hvr => ?_
    · have hi0 : i = 0 := by omega
      subst hi0
      refine evr_call other ⟨ne2, ly, d2⟩ (evrs_cons (EvR.to (evr_slT (lo := some (0 + ((0 : Nat) : Int) * 90)) (hi := some (0 + ((0 : Nat) : Int) * 90 + 90)) (evr_var rfl ((vP K other).st e3 h_other2)) (eo_some (evr_var rfl rfl)) (eo_some (evr_op (evr_var rfl rfl) evr_c op_i0))) fun v H' e' hv => ?_) evrs_nil)
      rw [hcut other ly] at hv
      exact hv
    replace hvl := (vL K [val 65536 one]).st e3 hvl
    have hA3 := e3 _ _ (e2 _ _ hA)
    have e03 : Ex H H3 := (e1.trans e2).trans e3
    generalize hvo : val 65536 one = A at *
    generalize hvt : val 65536 other = B at *
    have hAB : 0 ≤ A * B := Int.mul_nonneg v1 v2
    obtain ⟨N, hN⟩ := Int.eq_ofNat_of_zero_le hAB
    have hNlt : N < 16 ^ (4 * (one.length + other.length)) := by
      have h1 : A * B < 65536 ^ one.length * 65536 ^ other.length := mul_ltI v1 v2 w1 w2
      rw [← Int.pow_add, hN] at h1
      have h2 : (65536 : Int) ^ (one.length + other.length) = ((16 ^ (4 * (one.length + other.length)) : Nat) : Int) := by
        rw [Nat.pow_mul]
        simp
      omega
    have hNlen := Mh.hex_len (k := 4 * (one.length + other.length)) (by omega) hNlt
    have hll : (lanes N).length ≤ one.length + other.length := by
      rw [lanes_len]
      omega
    have hCM : CMulW A B := by
      have k1 : ∀ {ns : List Int} {v : Int}, ns.length ≤ 90 → 0 ≤ v → v < 65536 ^ ns.length → v.natAbs < 2 ^ 1440 := fun {ns v} h h0 h1 => by
        have h2 : (65536 : Nat) ^ ns.length ≤ 65536 ^ 90 := Nat.pow_le_pow_right (by decide) h
        have h3 : (65536 : Nat) ^ 90 = 2 ^ 1440 := by decide +kernel
        have h4 : ((65536 ^ ns.length : Nat) : Int) = (65536 : Int) ^ ns.length := by simp
        have h5 : v.natAbs < 65536 ^ ns.length := by
          rw [← h4] at h1
          generalize 65536 ^ ns.length = z at h1
          omega
        exact Nat.lt_of_lt_of_le h5 (Nat.le_trans h2 (Nat.le_of_eq h3))
      exact wide_mul (k1 lx v1 w1) (k1 ly v2 w2) (by decide) (by decide) (by decide)
    have hco : co (lanes N) = co one * co other := by
      refine lanes_prod (fun n hn => ?_) (fun n hn => ?_) lx (lanes_digs N) ?_
      · have := d1 n hn
        omega
      · have := d2 n hn
        omega
      · rw [lanes_val, hvo, hvt, hN]
    refine Evl.q_forR1 (n := 1) (ea_of (evrs_cons (EvR.eqI (evr_op (evr_op (evr_lenR rfl (EvR.kL (evr_var rfl hvl))) (evr_lenR rfl (EvR.kL (evr_var rfl hvr))) op_i0) evr_c op_i0) rfl) evrs_nil)) (by omega)
      (fun i σ' H' => Ex H H' ∧ (i = 0 → Ex H3 H') ∧ ∃ fs x6 x7 x8 x9 x10 x11 x12, σ' = [some (.int prime), some v_one, some v_other, some (.ref l), some vl, some vr, x6, x7, x8, x9, x10, x11, x12, none, none, none] ∧ H' l = some (.lst (fs.map V.int)) ∧ fs.length = one.length + other.length ∧ (i = 0 → fs = List.replicate (one.length + other.length) 0) ∧ (i = 1 → co fs = co one * co other))
      (fun H4 e4 => ⟨e03.trans e4, fun _ => e4, _, none, none, none, none, none, none, none, rfl, e4 _ _ hA3, by rw [List.length_replicate], fun _ => rfl, fun z => by omega⟩) ?_ ?_
    · rintro i σ' H4 hi ⟨e04, e4, fs, x6, x7, x8, x9, x10, x11, x12, rfl, hfs, hlen, hz, _⟩
      have hi0 : i = 0 := by omega
      subst hi0
      replace e4 := e4 rfl
      obtain rfl := hz rfl
      have hvl4 := (vL K [A]).st e4 hvl
      have hvr4 := (vL K [B]).st e4 hvr
      refine qr_par (r1 := vI 0) (r2 := vI 1) (evrs_cons (EvR.eqI (evr_cb (evrs_cons evr_c (evrs_cons (evr_op (evr_op (evr_var rfl rfl) evr_c op_i0) (evr_lenR rfl (EvR.kL (evr_var rfl hvr4))) op_i0) evrs_nil)) (cb_max rfl)) rfl) (evrs_cons (EvR.eqI (evr_cb (evrs_cons (evr_op (evr_var rfl rfl) evr_c op_i0) (evrs_cons (evr_lenR rfl (EvR.kL (evr_var rfl hvl4))) evrs_nil)) (cb_min rfl)) rfl) evrs_nil)) fun u v H5 e5 hu hv => ?_
      obtain rfl := hu
      obtain rfl := hv
      replace hvl4 := (vL K [A]).st e5 hvl4
      replace hvr4 := (vL K [B]).st e5 hvr4
      have hfs5 := e5 _ _ hfs
      refine sr_forR3 (n := 1) (lo := 0) (hi := 1) (c := 20) (evrs_cons (evr_var rfl rfl) (evrs_cons (evr_var rfl rfl) (evrs_cons evr_c evrs_nil))) (rg_one (by decide) (by decide) (by decide))
        (fun i σ' H' => Ex H H' ∧ (i = 0 → Ex H5 H') ∧ ∃ fs x9 x10 x11 x12, σ' = [some (.int prime), some v_one, some v_other, some (.ref l), some vl, some vr, some (.int ((0 : Nat) : Int)), some (.int 0), some (.int 1), x9, x10, x11, x12, none, none, none] ∧ H' l = some (.lst (fs.map V.int)) ∧ fs.length = one.length + other.length ∧ (i = 0 → fs = List.replicate (one.length + other.length) 0) ∧ (i = 1 → co fs = co one * co other))
        (fun H6 e6 => ⟨(e04.trans e5).trans e6, fun _ => e6, _, _, _, _, _, rfl, e6 _ _ hfs5, by rw [List.length_replicate], fun _ => rfl, fun z => by omega⟩) ?_ ?_
      · rintro i σ' H6 hi ⟨e06, e6, fs, x9, x10, x11, x12, rfl, hfs6, hlen6, hz6, _⟩
        have hi0 : i = 0 := by omega
        subst hi0
        replace e6 := e6 rfl
        obtain rfl := hz6 rfl
        replace hvl4 := (vL K [A]).st e6 hvl4
        replace hvr4 := (vL K [B]).st e6 hvr4
        refine qr_asg (r := vL K (lanes N)) (evr_call N (by show (Mh.hexL N).length ≤ 1000; omega) (evrs_cons (EvR.eqI (evr_call (G2.mk A B) hCM (evrs_cons (evr_var rfl hvl4) (evrs_cons (evr_var rfl hvr4) (evrs_cons (evr_var rfl rfl) (evrs_cons (evr_var rfl rfl) (evrs_cons (EvR.eqI (evr_cb (evrs_cons (evr_op (evr_var rfl rfl) evr_c op_i0) (evrs_cons (evr_var rfl rfl) evrs_nil)) (cb_min rfl)) rfl) evrs_nil)))))) hN) evrs_nil)) fun va H7 e7 hva => ?_
        refine qr_asg (r := vI ((0 : Nat) : Int)) (EvR.eqI (evr_op (evr_var rfl rfl) evr_c (op_i (.inl (by decide)))) rfl) fun v H8 e8 hv => ?_
        obtain rfl := hv
        have hva8 := (vL K (lanes N)).st e8 hva
        refine qr_asg (r := vI ((0 + (lanes N).length : Nat) : Int)) (EvR.eqI (evr_op (evr_var rfl rfl) (evr_lenR rfl (EvR.kL (evr_var rfl hva8))) op_i0) (by omega)) fun v H9 e9 hv => ?_
        obtain rfl := hv
        have e69 : Ex H6 H9 := (e7.trans e8).trans e9
        have hva9 := (vL K (lanes N)).st e9 hva8
        have hfs9 := e69 _ _ hfs6
        refine sr_cut (ns := List.replicate (one.length + other.length) 0) (ms := List.zipWith (fun a y => a + y) (((List.replicate (one.length + other.length) (0 : Int)).drop 0).take (lanes N).length) (lanes N)) (lo := some ((0 : Nat) : Int)) (hi := some ((0 + (lanes N).length : Nat) : Int)) hfs9 (fun H1 e1 => Evl.ev_var rfl) (fun H1 e1 => eo_some (evr_var rfl rfl)) (fun H1 e1 => eo_some (evr_var rfl rfl)) ?_ ?_ fun H10 e10 => ?_
        · refine er_zipN (wk_zipK (evrs_cons (EvR.kL ?_) (evrs_cons (EvR.kL (evr_var rfl hva9)) evrs_nil))) (fun a y => a + y) (by rw [List.length_take, List.length_drop, List.length_replicate]; omega) (fun x y => rfl) ?_
          · rw [← cutI_mid (by rw [List.length_replicate]; omega)]
            exact evr_slL (evr_mut rfl hfs9) (eo_some (evr_var rfl rfl)) (eo_some (evr_var rfl rfl))
          · intro a ha y hy H1 e1
            exact evr_op (evr_var rfl rfl) (evr_var rfl rfl) op_i0
        · rw [List.length_zipWith, List.length_take, List.length_drop, List.length_replicate]
          omega
        · have ec1 : cutA (some ((0 : Nat) : Int)) (List.replicate (one.length + other.length) (0 : Int)).length = 0 := by
            unfold cutA
            rw [HT.sIx_nat, Nat.zero_min]
          have ec2 : cutC (some ((0 : Nat) : Int)) (some ((0 + (lanes N).length : Nat) : Int)) (List.replicate (one.length + other.length) (0 : Int)).length = 0 + (lanes N).length := by
            unfold cutC
            rw [HT.sIx_nat, HT.sIx_nat, List.length_replicate]
            omega
          rw [ec1, ec2]
          refine ⟨Ex.mut ((e06.trans e69).trans e10) n1, fun z => by omega, _, _, _, _, _, rfl, upd_same, ?_, fun z => by omega, fun _ => ?_⟩
          · rw [List.length_append, List.length_append, List.length_take, List.length_zipWith, List.length_take, List.length_drop, List.length_drop, List.length_replicate]
            omega
          · rw [co_over hll, hco]
      · rintro σ' H6 ⟨e06, _, fs, x9, x10, x11, x12, rfl, hfs6, hlen6, _, hc6⟩
        exact ⟨e06, fun z => by omega, fs, _, _, _, _, _, _, _, rfl, hfs6, hlen6, fun z => by omega, fun _ => hc6 rfl⟩
    · rintro σ' H4 ⟨e04, _, fs, x6, x7, x8, x9, x10, x11, x12, rfl, hfs, hlen, _, hc4⟩
      have hc5 : co fs = co one * co other := hc4 rfl
      rw [← prod_of hc5] at q
      refine sr_ret (evr_call (fs.map (· % prime)) (by rw [List.length_map]; omega) (evrs_cons (er_mapI (wk_listR (evr_mut rfl hfs)) (· % prime) (by omega) (fun x => rfl) ?_) evrs_nil)) fun v H5 e5 hv => q v H5 (e04.trans e5) hv
      intro x hx H1 e1
      exact evr_op (evr_var rfl rfl) (evr_var rfl rfl) (op_i hp0)
end
end K0
namespace K0
open PySem PySem.Spec PyProof.Rows L2 Kt M
open Evl (Ex Ev EvL EvU EvT EvA EvO ex_l ex_t sq_of st_of sz_of sz_lt fresh_back given)
/-! ### values of the class Function -/
abbrev PF := List Int × List Int
def ffs (p : Int) (t b : Addr) : List (Str × V) := [("_prime", .int p), ("_top", .ref t), ("_bottom", .ref b)]
theorem n_tp : (("_top" : Str) == "_prime") = false := by decide +kernel
theorem n_bp : (("_bottom" : Str) == "_prime") = false := by decide +kernel
theorem n_bt : (("_bottom" : Str) == "_top") = false := by decide +kernel
theorem lk_p {p : Int} {t b : Addr} : (ffs p t b).lookup ("_prime" : Str) = some (.int p) := by
  unfold ffs
  simp only [List.lookup, beq_self_eq_true]
theorem lk_t {p : Int} {t b : Addr} : (ffs p t b).lookup ("_top" : Str) = some (.ref t) := by
  unfold ffs
  simp only [List.lookup, n_tp, beq_self_eq_true]
theorem lk_b {p : Int} {t b : Addr} : (ffs p t b).lookup ("_bottom" : Str) = some (.ref b) := by
  unfold ffs
  simp only [List.lookup, n_bp, n_bt, beq_self_eq_true]
theorem x_pt : ¬ (("_prime" : Str) = "_top") := by decide +kernel
theorem x_pb : ¬ (("_prime" : Str) = "_bottom") := by decide +kernel
theorem x_tb : ¬ (("_top" : Str) = "_bottom") := by decide +kernel
theorem put3 (p : Int) (t b : Addr) : putF "_bottom" (.ref b) (putF "_top" (.ref t) (putF "_prime" (.int p) [])) = ffs p t b := by
  simp only [putF, if_neg x_pt, if_neg x_pb, if_neg x_tb, ffs]
theorem putTB (p : Int) (t b t2 b2 : Addr) : putF "_bottom" (.ref b2) (putF "_top" (.ref t2) (ffs p t b)) = ffs p t2 b2 := by
  simp only [ffs, putF, if_neg x_pt, if_neg x_pb, if_neg x_tb, if_pos]
/-- a function of the program -/
def vF (K : PySem.W.Frag) (C : Addr) (p : Int) (F : PF) : VR := ⟨fun v H => ∃ a dx t b, v = .ref a ∧ H a = some (.ins C dx (ffs p t b)) ∧ SqT K H t (F.1.map V.int) ∧ SqT K H b (F.2.map V.int), fun e ⟨a, dx, t, b, h1, h2, h3, h4⟩ => ⟨a, dx, t, b, h1, e _ _ h2, ex_t e h3, ex_t e h4⟩⟩
/-- what the text has of the class -/
structure CF (K : PySem.W.Frag) (C : Addr) : Prop where
  cl : Cls K C
  nP : NoAttr K C "_prime"
  nT : NoAttr K C "_top"
  nB : NoAttr K C "_bottom"
section
variable {K : PySem.W.Frag} {C : Addr} {p q : Int} {F G : PF} {σ : L2.St} {H H' : Hp} {te tf : TE} {ta : TA} {E : XK} {GT : Type} {pre : GT → Prop} {args : GT → List VR} {res : GT → VR} {b : Bool}
theorem evr_fldP (c : CF K C) (h : EvR te σ H (vF K C p F)) : EvR (tFld K te "_prime") σ H (vI p) := fun H1 e Q k => h H1 e _ fun v H2 e2 ⟨a, dx, t, b, hv, ha, ht, hb⟩ => ⟨a, C, dx, _, _, hv, ha, c.cl, c.nP, lk_p, k _ H2 e2 rfl⟩
theorem evr_fldT (c : CF K C) (h : EvR te σ H (vF K C p F)) : EvR (tFld K te "_top") σ H (vP K F.1) := fun H1 e Q k => h H1 e _ fun v H2 e2 ⟨a, dx, t, b, hv, ha, ht, hb⟩ => ⟨a, C, dx, _, _, hv, ha, c.cl, c.nT, lk_t, k _ H2 e2 ⟨t, rfl, ht⟩⟩
theorem evr_fldB (c : CF K C) (h : EvR te σ H (vF K C p F)) : EvR (tFld K te "_bottom") σ H (vP K F.2) := fun H1 e Q k => h H1 e _ fun v H2 e2 ⟨a, dx, t, b, hv, ha, ht, hb⟩ => ⟨a, C, dx, _, _, hv, ha, c.cl, c.nB, lk_b, k _ H2 e2 ⟨b, rfl, hb⟩⟩
theorem evr_prop (g : GT) (hp : pre g) (ha : args g = [vF K C p F]) (h : EvR te σ H (vF K C p F)) : EvR (tProp C (Con pre args res) [] E te) σ H (res g) := fun H1 e Q k => h H1 e _ fun v H2 e2 hv => by
  obtain ⟨a, dx, t, b, rfl, h2, _⟩ := id hv
  exact ⟨a, dx, _, rfl, h2, g, hp, by rw [ha]; exact ⟨_, _, rfl, hv, rfl⟩, fun v H3 e3 hv3 => k v H3 (e2.trans e3) hv3⟩
theorem op_ownV (g : GT) (hp : pre g) (ha : args g = [vF K C p F, vF K C q G]) : OpV (rOwn2 C (Con pre args res) E) (vF K C p F) (vF K C q G) (res g) H := fun x y H1 e hx hy Q k => by
  obtain ⟨a, dx, t, b, rfl, h2, _⟩ := id hx
  obtain ⟨a', dx', t', b', rfl, h2', _⟩ := id hy
  exact ⟨a, dx, _, a', dx', _, rfl, rfl, h2, h2', g, hp, by rw [ha]; exact ⟨_, _, rfl, hx, _, _, rfl, hy, rfl⟩, k⟩
theorem op_ownNe (g : GT) (hp : pre g) (ha : args g = [vF K C p F, vF K C q G]) (hr : res g = vB b) : OpV (rOwnNe C (Con pre args res) E) (vF K C p F) (vF K C q G) (vB (!b)) H := fun x y H1 e hx hy Q k => by
  obtain ⟨a, dx, t, b', rfl, h2, _⟩ := id hx
  obtain ⟨a', dx', t', b', rfl, h2', _⟩ := id hy
  refine ⟨a, dx, _, a', dx', _, rfl, rfl, h2, h2', g, hp, by rw [ha]; exact ⟨_, _, rfl, hx, _, _, rfl, hy, rfl⟩, fun v H2 e2 hv => ?_⟩
  rw [hr] at hv
  exact ⟨b, hv, k _ H2 e2 rfl⟩
theorem op_ownIV {n : Int} (g : GT) (hp : pre g) (ha : args g = [vF K C p F, vI n]) : OpV (rOwnI C (Con pre args res) E) (vF K C p F) (vI n) (res g) H := fun x y H1 e hx hy Q k => by
  obtain ⟨a, dx, t, b, rfl, h2, _⟩ := id hx
  exact ⟨a, dx, _, n, rfl, hy, h2, g, hp, by
    have hy' : y = .int n := hy
    subst hy'
    rw [ha]
    exact ⟨_, _, rfl, hx, _, _, rfl, rfl, rfl⟩, k⟩
theorem evr_ownU (g : GT) (hp : pre g) (ha : args g = [vF K C p F]) (h : EvR te σ H (vF K C p F)) : EvR (tUn (rOwn1 C (Con pre args res) E) te) σ H (res g) := fun H1 e Q k => h H1 e _ fun v H2 e2 hv => by
  obtain ⟨a, dx, t, b, rfl, h2, _⟩ := id hv
  exact ⟨a, dx, _, rfl, h2, g, hp, by rw [ha]; exact ⟨_, _, rfl, hv, rfl⟩, fun v H3 e3 hv3 => k v H3 (e2.trans e3) hv3⟩
/-- what __init__ is handed and leaves -/
def sp___init__ (K : PySem.W.Frag) (C : Addr) : Sp := fun vs H Q _ => ∃ (H0 : Hp) (x dx : Addr) (p : Int) (t b : V) (xs ys : List Int), vs = [.ref x, .int p, t, b] ∧ H0 x = none ∧ Ex H0 H ∧ H x = some (.ins C dx []) ∧ Pr p ∧ PolyOk p xs ∧ PolyOk p ys ∧ ys ≠ [] ∧ (vP K xs).R t H0 ∧ (vP K ys).R b H0 ∧
  ∀ H', Ex H0 H' → (∃ ta tb, H' x = some (.ins C dx (ffs p ta tb)) ∧ SqT K H' ta ((nf p xs ys).1.map V.int) ∧ SqT K H' tb ((nf p xs ys).2.map V.int)) → Q .non H'
theorem mk_ex {H1 : Hp} {x dx : Addr} (hx : H1 x = none) (hd : H1 dx = none) (hn : dx ≠ x) {o : HO} {o2 : HO} : Ex H1 (upd (upd H1 dx o) x o2) := fun a oa ea => by
  rw [upd_ne (ne_of_none ea hx), upd_ne (ne_of_none ea hd)]
  exact ea
theorem evr_make {xs ys : List Int} (hp : Pr p) (hx : PolyOk p xs) (hy : PolyOk p ys) (ny : ys ≠ []) (h : EvRs ta σ H [vI p, vP K xs, vP K ys]) : EvR (tMake C (sp___init__ K C) [] E ta) σ H (vF K C p (nf p xs ys)) := fun H1 e Q k => h H1 e _ fun vs H2 e2 hvs => by
  obtain ⟨v1, w1, rfl, hv1, v2, w2, rfl, hv2, v3, w3, rfl, hv3, hw⟩ := hvs
  have hw' : w3 = [] := hw
  have hv1' : v1 = .int p := hv1
  subst hw' hv1'
  intro x dx nx nd hn
  refine ⟨H2, x, dx, p, v2, v3, xs, ys, rfl, nx, mk_ex nx nd hn, upd_same, hp, hx, hy, ny, hv2, hv3, fun H' e' ⟨ta, tb, h1, h2, h3⟩ => ⟨rfl, k _ H' (e2.trans e') ⟨x, dx, ta, tb, rfl, h1, h2, h3⟩⟩⟩
/-- .. a new one -/
theorem make_new {xs ys : List Int} (hp : Pr p) (hx : PolyOk p xs) (hy : PolyOk p ys) (ny : ys ≠ []) (h : EvRs ta σ H [vI p, vP K xs, vP K ys]) {Q : VK}
    (k : ∀ x dx t b H', H x = none → Ex H H' → H' x = some (.ins C dx (ffs p t b)) → Q (.ref x) H') : tMake C (sp___init__ K C) [] E ta σ H Q := h H (Ex.refl H) _ fun vs H2 e2 hvs => by
  obtain ⟨v1, w1, rfl, hv1, v2, w2, rfl, hv2, v3, w3, rfl, hv3, hw⟩ := hvs
  have hw' : w3 = [] := hw
  have hv1' : v1 = .int p := hv1
  subst hw' hv1'
  intro x dx nx nd hn
  have hx0 : H x = none := by
    cases hh : H x with
    | none => rfl
    | some o =>
      rw [e2 x o hh] at nx
      cases nx
  refine ⟨H2, x, dx, p, v2, v3, xs, ys, rfl, nx, mk_ex nx nd hn, upd_same, hp, hx, hy, ny, hv2, hv3, fun H' e' ⟨ta, tb, h1, h2, h3⟩ => ⟨rfl, k x dx ta tb H' hx0 (e2.trans e') h1⟩⟩
theorem sqT_upd {x a dx dx2 : Addr} {fs gs : List (Str × V)} {xs : List V} (hx : H x = some (.ins C dx fs)) (h : SqT K H a xs) : SqT K (upd H x (.ins C dx2 gs)) a xs := by
  rcases h with (h | ⟨o, h⟩) | h
  · exact .inl (.inl (by rw [upd_ne (ne_of h hx (by intro z; cases z))]; exact h))
  · exact .inl (.inr ⟨o, by rw [upd_ne (ne_of h hx (by intro z; cases z))]; exact h⟩)
  · exact .inr h
theorem vP_ins {x dx dx2 : Addr} {fs gs : List (Str × V)} {ns : List Int} {v : V} (hx : H x = some (.ins C dx fs)) (h : (vP K ns).R v H) : (vP K ns).R v (upd H x (.ins C dx2 gs)) := by
  obtain ⟨a, ha, hs⟩ := h
  exact ⟨a, ha, sqT_upd hx hs⟩
end
end K0
namespace K0
open PySem PySem.Spec PyProof.Rows L2 Kt M
open Evl (Ex Ev EvL EvU EvT EvA EvO ex_l ex_t sq_of st_of sz_of sz_lt fresh_back given)
/-! ### bundles: methods, properties, class methods -/
structure Dm (P : Program) (w : World) (K : PySem.W.Frag) (mg : Str → Option Value) (base : Heap) (C : Addr) (m : Str) (ps : List Str) (k : Nat) (sp : Sp) where
  f : Addr
  fd : FuncData
  ok : FnOk P w K mg base CX0 k f fd ps sp
  b : Binds K fd ps []
  own : OwnM K C m f
structure Dg (P : Program) (w : World) (K : PySem.W.Frag) (mg : Str → Option Value) (base : Heap) (C : Addr) (m : Str) (ps : List Str) (k : Nat) (sp : Sp) where
  f : Addr
  fd : FuncData
  p : Addr
  ok : FnOk P w K mg base CX0 k f fd ps sp
  b : Binds K fd ps []
  prop : PropOf K C m p f
structure Dk (P : Program) (w : World) (K : PySem.W.Frag) (mg : Str → Option Value) (base : Heap) (C : Addr) (m : Str) (ps : List Str) (k : Nat) (sp : Sp) where
  f : Addr
  fd : FuncData
  p : Addr
  mc : Value
  ok : FnOk P w K mg base CX0 k f fd ps sp
  b : Binds K fd ps []
  rd : ClX.CRead K C mc
  cm : ClX.CMet K C mc m p f
/-- what the text has of the class, with its name -/
structure CFm (K : PySem.W.Frag) (mg : Str → Option Value) (C : Addr) : Prop where
  c : CF K C
  mg : mg "Function" = some (.ref C)
  kp : PySem.W.keepIn K (.ref C) = true
  mks : PySem.W.makesIn K C = true
  ins : C8.InsC K C
  first : PySem.W.selfFirst K C = true
  notF : PySem.W.notFirst K C (.ref C) = true
  notT : PySem.W.notFirst K C (.type "tuple") = true
  nn : NoNe K C
  oi : OwnI K C .Pow
  kt : PySem.W.kitOne K (.type "tuple") (.ref C) = some false
theorem CFm.mkr {K : PySem.W.Frag} {mg : Str → Option Value} {C f : Addr} (c : CFm K mg C) (o : OwnM K C "__init__" f) : Mk K C f := ⟨c.mks, o.at_, o.fn, c.kp⟩
section
variable {K : PySem.W.Frag} {C f : Addr}
theorem own_add (o : OwnM K C "__add__" f) : OwnM K C (PySem.dunder Operator.Add.info.2) f := by
  rw [show PySem.dunder Operator.Add.info.2 = ("__add__" : Str) from by decide +kernel]
  exact o
theorem own_sub (o : OwnM K C "__sub__" f) : OwnM K C (PySem.dunder Operator.Sub.info.2) f := by
  rw [show PySem.dunder Operator.Sub.info.2 = ("__sub__" : Str) from by decide +kernel]
  exact o
theorem own_mul (o : OwnM K C "__mul__" f) : OwnM K C (PySem.dunder Operator.Mult.info.2) f := by
  rw [show PySem.dunder Operator.Mult.info.2 = ("__mul__" : Str) from by decide +kernel]
  exact o
theorem own_floordiv (o : OwnM K C "__floordiv__" f) : OwnM K C (PySem.dunder Operator.FloorDiv.info.2) f := by
  rw [show PySem.dunder Operator.FloorDiv.info.2 = ("__floordiv__" : Str) from by decide +kernel]
  exact o
theorem own_pow (o : OwnM K C "__pow__" f) : OwnM K C (PySem.dunder Operator.Pow.info.2) f := by
  rw [show PySem.dunder Operator.Pow.info.2 = ("__pow__" : Str) from by decide +kernel]
  exact o
end
section
variable {K : PySem.W.Frag} {mg : Str → Option Value} {C : Addr} {p q : Int} {F G : PF} {σ : L2.St} {H H' : Hp} {te tf : TE} {ta : TA} {ns : List Int}
theorem evr_isF (c : CFm K mg C) (h : EvR te σ H (vF K C p F)) : EvR (tCB (rIsi K) (tCons te (tCons (tC (.ref C)) tNil))) σ H (vB true) := fun H1 e1 Q q => h H1 e1 _ fun v H2 e2 hv => by
  obtain ⟨a, dx, t, b, rfl, h2, _⟩ := id hv
  exact ⟨.ref a, .ref C, .ref C, .ref C, true, rfl, .own C, .base (TyOf.ins h2 c.ins.cl c.ins.ha c.ins.hn c.ins.htk c.ins.hm), c.ins.me, q _ H2 e2 rfl⟩
theorem evr_isT {rs : List VR} (c : CFm K mg C) (h : EvR te σ H (vT K rs)) : EvR (tCB (rIsi K) (tCons te (tCons (tC (.ref C)) tNil))) σ H (vB false) := fun H1 e1 Q q => h H1 e1 _ fun v H2 e2 hv => by
  obtain ⟨a, xs, rfl, hs, _⟩ := id hv
  exact ⟨.ref a, .ref C, .type "tuple", .ref C, false, rfl, .own C, ty_sqT hs, c.kt, q _ H2 e2 rfl⟩
end
structure GF where
  p : Int
  F : PF
structure GFF where
  p : Int
  F : PF
  q : Int
  G : PF
structure GAF where
  p : Int
  F : PF
  G : PF
  f : Int
structure GTB where
  p : Int
  t : List Int
  b : List Int
structure GTBC where
  p : Int
  t : List Int
  b : List Int
  c : List Int
section
variable (K : PySem.W.Frag) (C : Addr)
def sp_F___init__ : Sp := sp___init__ K C
def sp_F_prime : Sp := Con (G := GF) (fun _ => True) (fun g => [vF K C g.p g.F]) (fun g => vI g.p)
def sp_F_top : Sp := Con (G := GF) (fun _ => True) (fun g => [vF K C g.p g.F]) (fun g => vP K g.F.1)
def sp_F_bottom : Sp := Con (G := GF) (fun _ => True) (fun g => [vF K C g.p g.F]) (fun g => vP K g.F.2)
def sp_F___bool__ : Sp := Con (G := GF) (fun _ => True) (fun g => [vF K C g.p g.F]) (fun g => vB (!g.F.1.isEmpty))
def sp_F___eq__ : Sp := Con (G := GFF) (fun _ => True) (fun g => [vF K C g.p g.F, vF K C g.q g.G]) (fun g => vB (decide (g.p = g.q) && (decide (g.F.1 = g.G.1) && decide (g.F.2 = g.G.2))))
def sp_lowest_terms : Sp := Con (G := GTB) (fun g => Pr g.p ∧ PolyOk g.p g.t ∧ PolyOk g.p g.b ∧ g.b ≠ []) (fun g => [vI g.p, vP K g.t, vP K g.b]) (fun g => vT K [vP K (nf g.p g.t g.b).1, vP K (nf g.p g.t g.b).2])
def sp_made_function : Sp := Con (G := GTB) (fun g => Pr g.p) (fun g => [vI g.p, vP K g.t, vP K g.b]) (fun g => vF K C g.p (g.t, g.b))
def sp_shortened : Sp := Con (G := GTBC) (fun g => Pr g.p ∧ Pl g.p g.t ∧ Pl g.p g.b ∧ Pl g.p g.c ∧ Mo g.b ∧ Mo g.c ∧ g.t.length ≤ 200 ∧ g.b.length ≤ 200 ∧ g.c.length ≤ 64) (fun g => [vI g.p, vP K g.t, vP K g.b, vP K g.c]) (fun g => vF K C g.p (shorten g.p g.t g.b g.c))
def sp_check_same_prime : Sp := Con (G := GAF) (fun _ => True) (fun g => [vT K [vF K C g.p g.F, vF K C g.p g.G]]) (fun _ => vN)
/-- two functions of not too great length -/
def FF (g : GAF) : Prop := Pr g.p ∧ NF g.p g.F ∧ NF g.p g.G ∧ Le 60 g.F ∧ Le 60 g.G
def sp_add_function : Sp := Con (G := GAF) (fun g => FF g ∧ (g.f = 1 ∨ g.f = -1)) (fun g => [vF K C g.p g.F, vF K C g.p g.G, vI g.f]) (fun g => vF K C g.p (fAdd g.p g.F g.G g.f))
def sp_multiply_function : Sp := Con (G := GAF) FF (fun g => [vF K C g.p g.F, vF K C g.p g.G]) (fun g => vF K C g.p (fMul g.p g.F g.G))
def sp_turned_round : Sp := Con (G := GF) (fun g => Pr g.p ∧ NF g.p g.F ∧ Le 60 g.F ∧ g.F.1 ≠ []) (fun g => [vF K C g.p g.F]) (fun g => vF K C g.p (fBack g.p g.F))
def sp_F___add__ : Sp := Con (G := GAF) FF (fun g => [vF K C g.p g.F, vF K C g.p g.G]) (fun g => vF K C g.p (fAdd g.p g.F g.G 1))
def sp_F___sub__ : Sp := Con (G := GAF) FF (fun g => [vF K C g.p g.F, vF K C g.p g.G]) (fun g => vF K C g.p (fAdd g.p g.F g.G (-1)))
def sp_F___mul__ : Sp := Con (G := GAF) FF (fun g => [vF K C g.p g.F, vF K C g.p g.G]) (fun g => vF K C g.p (fMul g.p g.F g.G))
def sp_F___floordiv__ : Sp := Con (G := GAF) (fun g => FF g ∧ g.G.1 ≠ []) (fun g => [vF K C g.p g.F, vF K C g.p g.G]) (fun g => vF K C g.p (fMul g.p g.F (fBack g.p g.G)))
def sp_F___neg__ : Sp := Con (G := GF) (fun g => Pr g.p ∧ NF g.p g.F ∧ Le 60 g.F) (fun g => [vF K C g.p g.F]) (fun g => vF K C g.p (fAdd g.p ([], [1]) g.F (-1)))
structure GFn where
  p : Int
  F : PF
  n : Nat
def sp_F___pow__ : Sp := Con (G := GFn) (fun g => Pr g.p ∧ NF g.p g.F ∧ g.n ≤ 20 ∧ ∃ m, Le m g.F ∧ g.n * (1 + m) ≤ 60) (fun g => [vF K C g.p g.F, vI (g.n : Int)]) (fun g => vF K C g.p (fPow g.p g.F g.n))
end
end K0
namespace K0
open PySem PySem.Spec PyProof.Rows L2 Kt M
open Evl (Ex Ev EvL EvU EvT EvA EvO ex_l ex_t sq_of st_of sz_of sz_lt fresh_back given)
theorem up {r : VR} {v : V} {H H' : Hp} (h : r.R v H) (e : Ex H H') : r.R v H' := r.st e h
theorem Pl.quot {p : Int} (hp : Pr p) {xs : List Int} (hx : Pl p xs) (ys : List Int) : Pl p (quotientOf p xs ys) := by
  rw [quotientOf_eq hp hx.r hx.t]
  exact hx.div1 (by have := hp.le; omega) ys
theorem Com.sym {p : Int} {xs ys g : List Int} (c : Com p xs ys g) : Com p ys xs g := ⟨c.pl, fun a b => c.zero b a, fun h => c.mo h.symm, (by obtain ⟨a, b, fa, fb, h1, h2⟩ := c.dv; exact ⟨b, a, fb, fa, h2, h1⟩), (by obtain ⟨u, v, fu, fv, h⟩ := c.bz; exact ⟨v, u, fv, fu, by rw [← h]; grind⟩)⟩
theorem Pl.sm {p : Int} (hp : Pr p) {xs : List Int} (hx : Pl p xs) : Small xs := hx.r.small (by have := hp.le; omega)
theorem dpre {p : Int} (hp : Pr p) {xs ys : List Int} (hx : Pl p xs) (hy : Pl p ys) (lx : xs.length ≤ 1000) (ly : ys.length ≤ 64) (ny : ys ≠ []) : DivPre ⟨p, xs, ys⟩ := ⟨by have := hp.le; show 0 < p; omega, by have := hp.le; show p ≤ 100000; omega, lx, ly, ny, hx.sm hp, hy.sm hp⟩
theorem cpre {p : Int} (hp : Pr p) {xs ys : List Int} (hx : Pl p xs) (hy : Pl p ys) (lx : xs.length ≤ 1000) (ly : ys.length ≤ 64) : 0 < (GQ.mk p xs ys).p ∧ (GQ.mk p xs ys).p ≤ 100000 ∧ (GQ.mk p xs ys).xs.length ≤ 1000 ∧ (GQ.mk p xs ys).ys.length ≤ 64 ∧ Small (GQ.mk p xs ys).xs ∧ Small (GQ.mk p xs ys).ys := ⟨by have := hp.le; show 0 < p; omega, by have := hp.le; show p ≤ 100000; omega, lx, ly, hx.sm hp, hy.sm hp⟩
theorem spre {p : Int} (hp : Pr p) {xs : List Int} (hx : Pl p xs) (f : Int) (lx : xs.length ≤ 1000) : 0 < (GS.mk p xs f).p ∧ (GS.mk p xs f).ns.length ≤ 40000 ∧ Small (GS.mk p xs f).ns := ⟨by have := hp.le; show 0 < p; omega, by show xs.length ≤ 40000; omega, hx.sm hp⟩
theorem mpre {p : Int} (hp : Pr p) {xs ys : List Int} (hx : Pl p xs) (hy : Pl p ys) (lx : xs.length ≤ 90) (ly : ys.length ≤ 90) : MulPre ⟨p, xs, ys⟩ := ⟨hp.le.1, hp.le7, hx.r, hy.r, hx.t, hy.t, lx, ly⟩
theorem q_new {K : PySem.W.Frag} {C : Addr} {p : Int} {xs ys : List Int} {ta : TA} {σ : L2.St} {H : Hp} {E : XK} {i : Nat} {tz : TS} {D : Ends} (hp : Pr p) (hx : PolyOk p xs) (hy : PolyOk p ys) (ny : ys ≠ []) (h : EvRs ta σ H [vI p, vP K xs, vP K ys])
    (k : ∀ x dx t b H', H x = none → Ex H H' → H' x = some (.ins C dx (ffs p t b)) → tz D (σ.set i (some (.ref x))) H') : tSeq (tAsg (tMake C (sp_F___init__ K C) [] E ta) (gName i)) tz D σ H := by
  show tMake C (sp___init__ K C) [] E ta σ H (fun v H1 => tz D (σ.set i (some v)) H1)
  exact make_new hp hx hy ny h k
theorem PolyOk.pl {p : Int} {xs : List Int} (h : PolyOk p xs) : Pl p xs := ⟨h.r, h.t⟩
section
variable {P : Program} {w : World} {K : PySem.W.Frag} {mg : Str → Option Value} {base : Heap} {C : Addr}
abbrev s_F_prime : Stmt := inClass (topS 44) 4
abbrev N_F_prime : List Str := ["self"]
theorem sc_F_prime : FnScope N_F_prime ["self"] (defScope s_F_prime) := ⟨rfl, rfl, rfl, by decide +kernel, rfl, by decide +kernel, by decide +kernel⟩
theorem ok_F_prime {f : Addr} {fd : FuncData} (F : Fun K "prime" "Function.prime" s_F_prime f fd) (B : Bis mg) (cf : CFm K mg C)   : FnOk P w K mg base CX0 1 f fd ["self"] (sp_F_prime K C) := by
  refine F.ok sc_F_prime (fun vs H Q E h => ?_) (fun cdv A outer s H vs Q E hr h => ?_)
  · obtain ⟨g, _, ha, _⟩ := h
    exact ha.len
  · obtain ⟨⟨p, F0⟩, hpre, ⟨v_self, _, rfl, h_self, rfl⟩, q⟩ := h
    dsimp only at *
    refine ⟨_, (pss_one (ps_ret (pe_fld (pv 0) rfl))), ?_⟩
    exact sr_ret (evr_fldP cf.c (evr_var rfl h_self)) q
abbrev s_F_top : Stmt := inClass (topS 44) 5
abbrev N_F_top : List Str := ["self"]
theorem sc_F_top : FnScope N_F_top ["self"] (defScope s_F_top) := ⟨rfl, rfl, rfl, by decide +kernel, rfl, by decide +kernel, by decide +kernel⟩
theorem ok_F_top {f : Addr} {fd : FuncData} (F : Fun K "top" "Function.top" s_F_top f fd) (B : Bis mg) (cf : CFm K mg C)   : FnOk P w K mg base CX0 1 f fd ["self"] (sp_F_top K C) := by
  refine F.ok sc_F_top (fun vs H Q E h => ?_) (fun cdv A outer s H vs Q E hr h => ?_)
  · obtain ⟨g, _, ha, _⟩ := h
    exact ha.len
  · obtain ⟨⟨p, F0⟩, hpre, ⟨v_self, _, rfl, h_self, rfl⟩, q⟩ := h
    dsimp only at *
    refine ⟨_, (pss_one (ps_ret (pe_fld (pv 0) rfl))), ?_⟩
    exact sr_ret (evr_fldT cf.c (evr_var rfl h_self)) q
abbrev s_F_bottom : Stmt := inClass (topS 44) 6
abbrev N_F_bottom : List Str := ["self"]
theorem sc_F_bottom : FnScope N_F_bottom ["self"] (defScope s_F_bottom) := ⟨rfl, rfl, rfl, by decide +kernel, rfl, by decide +kernel, by decide +kernel⟩
theorem ok_F_bottom {f : Addr} {fd : FuncData} (F : Fun K "bottom" "Function.bottom" s_F_bottom f fd) (B : Bis mg) (cf : CFm K mg C)   : FnOk P w K mg base CX0 1 f fd ["self"] (sp_F_bottom K C) := by
  refine F.ok sc_F_bottom (fun vs H Q E h => ?_) (fun cdv A outer s H vs Q E hr h => ?_)
  · obtain ⟨g, _, ha, _⟩ := h
    exact ha.len
  · obtain ⟨⟨p, F0⟩, hpre, ⟨v_self, _, rfl, h_self, rfl⟩, q⟩ := h
    dsimp only at *
    refine ⟨_, (pss_one (ps_ret (pe_fld (pv 0) rfl))), ?_⟩
    exact sr_ret (evr_fldB cf.c (evr_var rfl h_self)) q
def sp_F_degree (K : PySem.W.Frag) (C : Addr) : Sp := Con (G := GF) (fun _ => True) (fun g => [vF K C g.p g.F]) (fun g => if g.F.1 = [] then vN else vI ((g.F.1.length : Int) - (g.F.2.length : Int)))
abbrev s_F_degree : Stmt := inClass (topS 44) 7
abbrev N_F_degree : List Str := ["self"]
theorem sc_F_degree : FnScope N_F_degree ["self"] (defScope s_F_degree) := ⟨rfl, rfl, rfl, by decide +kernel, rfl, by decide +kernel, by decide +kernel⟩
theorem ok_F_degree {f : Addr} {fd : FuncData} (F : Fun K "degree" "Function.degree" s_F_degree f fd) (B : Bis mg) (cf : CFm K mg C)   : FnOk P w K mg base CX0 1 f fd ["self"] (sp_F_degree K C) := by
  refine F.ok sc_F_degree (fun vs H Q E h => ?_) (fun cdv A outer s H vs Q E hr h => ?_)
  · obtain ⟨g, _, ha, _⟩ := h
    exact ha.len
  · obtain ⟨⟨p, F0⟩, hpre, ⟨v_self, _, rfl, h_self, rfl⟩, q⟩ := h
    dsimp only at *
    refine ⟨_, (pss_cons (ps_if (pt_not (pt_truth (pe_fld (pv 0) rfl) (by intro _; rfl))) (pss_one (ps_ret pe_non)) pss_nil)
      (pss_one (ps_ret (pe_op op_sub (pe_callB call_len_seq (by rfl) (B "len" (by decide +kernel)) (by decide +kernel) (pa_cons (pe_fld (pv 0) rfl) pa_nil)) (pe_callB call_len_seq (by rfl) (B "len" (by decide +kernel)) (by decide +kernel) (pa_cons (pe_fld (pv 0) rfl) pa_nil)))))), ?_⟩
    refine Evl.q_when (Evl.et_not (et_truP (evr_fldT cf.c (evr_var rfl h_self)))) (fun hb H1 e1 => ?_) (fun hb H1 e1 => ?_)
    · have hb' : F0.1 = [] := by
        cases hF : F0.1 with
        | nil => rfl
        | cons a l => rw [hF] at hb; cases hb
      rw [if_pos hb'] at q
      exact sr_ret evr_c fun v H2 e2 hv => q v H2 (e1.trans e2) hv
    · have hb' : ¬ F0.1 = [] := fun z => by
        rw [z] at hb
        cases hb
      rw [if_neg hb'] at q
      exact sr_ret (evr_op (evr_lenR rfl (EvR.kP (evr_fldT cf.c (evr_var rfl (up h_self e1))))) (evr_lenR rfl (EvR.kP (evr_fldB cf.c (evr_var rfl (up h_self e1))))) op_i0) fun v H2 e2 hv => q v H2 (e1.trans e2) hv
abbrev s_F___eq__ : Stmt := inClass (topS 44) 19
abbrev N_F___eq__ : List Str := ["self", "other"]
theorem sc_F___eq__ : FnScope N_F___eq__ ["self", "other"] (defScope s_F___eq__) := ⟨rfl, rfl, rfl, by decide +kernel, rfl, by decide +kernel, by decide +kernel⟩
theorem ok_F___eq__ {f : Addr} {fd : FuncData} (F : Fun K "__eq__" "Function.__eq__" s_F___eq__ f fd) (B : Bis mg) (cf : CFm K mg C)   : FnOk P w K mg base CX0 1 f fd ["self", "other"] (sp_F___eq__ K C) := by
  refine F.ok sc_F___eq__ (fun vs H Q E h => ?_) (fun cdv A outer s H vs Q E hr h => ?_)
  · obtain ⟨g, _, ha, _⟩ := h
    exact ha.len
  · obtain ⟨⟨p, F0, p2, G0⟩, hpre, ⟨v_self, _, rfl, h_self, ⟨v_other, _, rfl, h_other, rfl⟩⟩, q⟩ := h
    dsimp only at *
    refine ⟨_, (pss_one (ps_ret (pe_and (pe_callB (id := "isinstance") (r := rIsi K) call_isi (by rfl) (B "isinstance" (by decide +kernel)) (by decide +kernel) (pa_cons (pv 1) (pa_cons (pe_glob (v := .ref C) (by rfl) cf.mg rfl) pa_nil))) (pe_and (pe_cmpR op_eq (pe_fld (pv 0) rfl) (pe_fld (pv 1) rfl) (nomark _)) (pe_and (pe_cmpR (r := rEqD K) (op_eqD hr.units) (pe_fld (pv 0) rfl) (pe_fld (pv 1) rfl) (nomark _)) (pe_one (pe_cmpR (r := rEqD K) (op_eqD hr.units) (pe_fld (pv 0) rfl) (pe_fld (pv 1) rfl) (nomark _)))))))), ?_⟩
    exact sr_ret (evr_and (evr_isF cf (evr_var rfl h_other)) fun _ => evr_and (evr_op (evr_fldP cf.c (evr_var rfl h_self)) (evr_fldP cf.c (evr_var rfl h_other)) (op_eqS rfl)) fun _ => evr_and (evr_op (evr_fldT cf.c (evr_var rfl h_self)) (evr_fldT cf.c (evr_var rfl h_other)) op_eqP) fun _ => evr_op (evr_fldB cf.c (evr_var rfl h_self)) (evr_fldB cf.c (evr_var rfl h_other)) op_eqP) fun v H1 e1 hv => q v H1 e1 (by
      have e : decide (V.int p = V.int p2) = decide (p = p2) := decide_eq_decide.mpr ⟨fun h => by injection h, fun h => by rw [h]⟩
      rw [e] at hv
      exact hv)
abbrev s_lowest_terms : Stmt := topS 46
abbrev N_lowest_terms : List Str := ["prime", "top", "bottom", "common", "unit"]
theorem sc_lowest_terms : FnScope N_lowest_terms ["prime", "top", "bottom"] (defScope s_lowest_terms) := ⟨rfl, rfl, rfl, by decide +kernel, rfl, by decide +kernel, by decide +kernel⟩
theorem ok_lowest_terms {f : Addr} {fd : FuncData} (F : Fun K "lowest_terms" "lowest_terms" s_lowest_terms f fd) (B : Bis mg) (cf : CFm K mg C)  (D_common_divisor : De P w K mg base "common_divisor" ["prime", "one", "other"] 5 (sp_common_divisor K)) (D_inverse : De P w K mg base "inverse" ["prime", "number"] 1 (sp_inverse K)) (D_scale : De P w K mg base "scale" ["prime", "poly", "factor"] 2 (sp_scale K)) (D_quotient_of : De P w K mg base "quotient_of" ["prime", "one", "other"] 4 (sp_quotient_of K)) : FnOk P w K mg base CX0 6 f fd ["prime", "top", "bottom"] (sp_lowest_terms K) := by
  refine F.ok sc_lowest_terms (fun vs H Q E h => ?_) (fun cdv A outer s H vs Q E hr h => ?_)
  · obtain ⟨g, _, ha, _⟩ := h
    exact ha.len
  · obtain ⟨⟨prime, top, bottom⟩, ⟨hp, ht, hbm, nb⟩, ⟨_, _, rfl, rfl, ⟨v_top, _, rfl, h_top, ⟨v_bottom, _, rfl, h_bottom, rfl⟩⟩⟩, q⟩ := h
    dsimp only at *
    refine ⟨_, (pss_cons (ps_set (i := 3) sc_lowest_terms.nd rfl (Or.inl rfl) (pe_call D_common_divisor.ok (hr.mono (by decide)) (by rfl) D_common_divisor.g D_common_divisor.kp D_common_divisor.b .nil pass0 (pa_cons (pv 0) (pa_cons (pv 1) (pa_cons (pv 2) pa_nil)))))
      (pss_cons (ps_set (i := 4) sc_lowest_terms.nd rfl (Or.inl rfl) (pe_call D_inverse.ok (hr.mono (by decide)) (by rfl) D_inverse.g D_inverse.kp D_inverse.b .nil pass0 (pa_cons (pv 0) (pa_cons (pe_ix (r := rIxT K) ix_tup (pv 2) (pe_un un_neg pe_int) (fun _ _ => rfl)) pa_nil))))
      (pss_cons (ps_set (i := 1) sc_lowest_terms.nd rfl (Or.inl rfl) (pe_call D_scale.ok (hr.mono (by decide)) (by rfl) D_scale.g D_scale.kp D_scale.b .nil pass0 (pa_cons (pv 0) (pa_cons (pe_call D_quotient_of.ok (hr.mono (by decide)) (by rfl) D_quotient_of.g D_quotient_of.kp D_quotient_of.b .nil pass0 (pa_cons (pv 0) (pa_cons (pv 1) (pa_cons (pv 3) pa_nil)))) (pa_cons (pv 4) pa_nil)))))
      (pss_one (ps_ret (pe_tup (pa_cons (pv 1) (pa_cons (pe_call D_scale.ok (hr.mono (by decide)) (by rfl) D_scale.g D_scale.kp D_scale.b .nil pass0 (pa_cons (pv 0) (pa_cons (pe_call D_quotient_of.ok (hr.mono (by decide)) (by rfl) D_quotient_of.g D_quotient_of.kp D_quotient_of.b .nil pass0 (pa_cons (pv 0) (pa_cons (pv 2) (pa_cons (pv 3) pa_nil)))) (pa_cons (pv 4) pa_nil)))) pa_nil)))))))), ?_⟩
    have h2 := hp.le
    have pt := ht.pl
    have pb := hbm.pl
    have lt := ht.l
    have lb := hbm.l
    have cm := com_ok hp pt pb (by omega) (by omega)
    have ng : common prime top bottom ≠ [] := (cm.mo (.inr nb)).1
    have lg : (common prime top bottom).length ≤ bottom.length := com_len hp pb nb cm.sym
    have l1 := quot_len hp pt ng
    have l2 := quot_len hp pb ng
    refine qr_asg (evr_call (GQ.mk prime top bottom) (cpre hp pt pb (by omega) (by omega)) (evrs_cons (evr_var rfl rfl) (evrs_cons (evr_var rfl h_top) (evrs_cons (evr_var rfl h_bottom) evrs_nil)))) fun x1 H1 e1 h1 => ?_
    refine qr_asg (evr_call (G2.mk prime (bottom.getLastD 0)) ⟨by show 0 < prime; omega, by show prime ≤ 100000; omega⟩ (evrs_cons (evr_var rfl rfl) (evrs_cons (evr_op (evr_var rfl (up h_bottom e1)) (un_negI evr_c) (op_ixP (z := .int (bottom.getLastD 0)) (by
      rw [List.getLastD_eq_getLast?, List.getLast?_eq_some_getLast nb]
      exact atI_lastI nb))) evrs_nil))) fun x2 H2 e2 h2' => ?_
    obtain rfl : x2 = .int (inv prime (bottom.getLastD 0)) := h2'
    refine qr_asg (evr_call (GS.mk prime (quotientOf prime top (common prime top bottom)) (inv prime (bottom.getLastD 0))) (spre hp (pt.quot hp _) _ (by omega)) (evrs_cons (evr_var rfl rfl) (evrs_cons (evr_call (GQ.mk prime top (common prime top bottom)) (dpre hp pt cm.pl (by omega) (by omega) ng) (evrs_cons (evr_var rfl rfl) (evrs_cons (evr_var rfl (up h_top (e1.trans e2))) (evrs_cons (evr_var rfl (up h1 e2)) evrs_nil)))) (evrs_cons (evr_var rfl rfl) evrs_nil)))) fun x3 H3 e3 h3 => ?_
    refine sr_ret (evr_dispT (K := K) (evrs_cons (evr_var rfl h3) (evrs_cons (evr_call (GS.mk prime (quotientOf prime bottom (common prime top bottom)) (inv prime (bottom.getLastD 0))) (spre hp (pb.quot hp _) _ (by omega)) (evrs_cons (evr_var rfl rfl) (evrs_cons (evr_call (GQ.mk prime bottom (common prime top bottom)) (dpre hp pb cm.pl (by omega) (by omega) ng) (evrs_cons (evr_var rfl rfl) (evrs_cons (evr_var rfl (up h_bottom ((e1.trans e2).trans e3))) (evrs_cons (evr_var rfl (up h1 (e2.trans e3))) evrs_nil)))) (evrs_cons (evr_var rfl rfl) evrs_nil)))) evrs_nil)) (Nat.le_of_ble_eq_true rfl)) fun v H4 e4 hv => q v H4 (((e1.trans e2).trans e3).trans e4) ?_
    have hl := lowest_ok hp pt pb nb (by omega) (by omega)
    rw [← hl]
    exact hv
abbrev s_F___init__ : Stmt := inClass (topS 44) 0
abbrev N_F___init__ : List Str := ["self", "prime", "top", "bottom", "lowest"]
theorem sc_F___init__ : FnScope N_F___init__ ["self", "prime", "top", "bottom"] (defScope s_F___init__) := ⟨rfl, rfl, rfl, by decide +kernel, rfl, by decide +kernel, by decide +kernel⟩
theorem ok_F___init__ {f : Addr} {fd : FuncData} (F : Fun K "__init__" "Function.__init__" s_F___init__ f fd) (B : Bis mg) (cf : CFm K mg C)  (D_check_prime : De P w K mg base "check_prime" ["prime"] 2 (sp_check_prime K)) (D_check_poly : De P w K mg base "check_poly" ["prime", "poly"] 4 (sp_check_poly K)) (D_lowest_terms : De P w K mg base "lowest_terms" ["prime", "top", "bottom"] 6 (sp_lowest_terms K)) : FnOk P w K mg base CX0 7 f fd ["self", "prime", "top", "bottom"] (sp_F___init__ K C) := by
  refine F.ok sc_F___init__ (fun vs H Q E h => ?_) (fun cdv A outer s H vs Q E hr h => ?_)
  · obtain ⟨_, _, _, _, _, _, _, _, rfl, _⟩ := h
    rfl
  · obtain ⟨H0, x, dx, p, t, b, xs, ys, rfl, hx0, e0, hx, hp, hxs, hys, ny, ht, hb, q⟩ := h
    refine ⟨_, (pss_cons (ps_expr (pe_call D_check_prime.ok (hr.mono (by decide)) (by rfl) D_check_prime.g D_check_prime.kp D_check_prime.b .nil pass0 (pa_cons (pv 1) pa_nil)))
      (pss_cons (ps_expr (pe_call D_check_poly.ok (hr.mono (by decide)) (by rfl) D_check_poly.g D_check_poly.kp D_check_poly.b .nil pass0 (pa_cons (pv 1) (pa_cons (pv 2) pa_nil))))
      (pss_cons (ps_expr (pe_call D_check_poly.ok (hr.mono (by decide)) (by rfl) D_check_poly.g D_check_poly.kp D_check_poly.b .nil pass0 (pa_cons (pv 1) (pa_cons (pv 3) pa_nil))))
      (pss_cons (ps_if (pt_not (pt_truth (pv 3) (by intro _; rfl))) (pss_one ps_never) pss_nil)
      (pss_cons (ps_set (i := 4) sc_F___init__.nd rfl (Or.inl rfl) (pe_call D_lowest_terms.ok (hr.mono (by decide)) (by rfl) D_lowest_terms.g D_lowest_terms.kp D_lowest_terms.b .nil pass0 (pa_cons (pv 1) (pa_cons (pv 2) (pa_cons (pv 3) pa_nil)))))
      (pss_cons (ps_fld (pv 0) (pv 1) rfl)
      (pss_cons (ps_fld (pv 0) (pe_ix (r := rIxT K) ix_tup (pv 4) pe_int (fun _ _ => rfl)) rfl)
      (pss_one (ps_fld (pv 0) (pe_ix (r := rIxT K) ix_tup (pv 4) pe_int (fun _ _ => rfl)) rfl))))))))), ?_⟩
    refine qr_drop (evr_call p hp (evrs_cons (evr_var rfl rfl) evrs_nil)) fun H1 e1 => ?_
    refine qr_drop (evr_call (GP.mk p xs) ⟨hp, hxs⟩ (evrs_cons (evr_var rfl rfl) (evrs_cons (evr_var rfl (up ht (e0.trans e1))) evrs_nil))) fun H2 e2 => ?_
    refine qr_drop (evr_call (GP.mk p ys) ⟨hp, hys⟩ (evrs_cons (evr_var rfl rfl) (evrs_cons (evr_var rfl (up hb ((e0.trans e1).trans e2))) evrs_nil))) fun H3 e3 => ?_
    have e03 := ((e0.trans e1).trans e2).trans e3
    refine Evl.q_when (Evl.et_not (et_truP (evr_var rfl (up hb e03)))) (fun hc H4 e4 => ?_) (fun hc H4 e4 => ?_)
    · cases ys with
      | nil => exact absurd rfl ny
      | cons a l => cases hc
    refine qr_asg (evr_call (GTB.mk p xs ys) ⟨hp, hxs, hys, ny⟩ (evrs_cons (evr_var rfl rfl) (evrs_cons (evr_var rfl (up ht (e03.trans e4))) (evrs_cons (evr_var rfl (up hb (e03.trans e4))) evrs_nil)))) fun v H5 e5 hv => ?_
    obtain ⟨a, ws, rfl, hT, w1, ws1, rfl, ⟨t1, rfl, s1⟩, w2, ws2, rfl, ⟨b1, rfl, s2⟩, hw⟩ := hv
    obtain rfl : ws2 = [] := hw
    have e05 := (e03.trans e4).trans e5
    have hx5 : H5 x = some (.ins C dx []) := e5 _ _ (e4 _ _ (e3 _ _ (e2 _ _ (e1 _ _ hx))))
    refine ⟨.int p, rfl, .ref x, rfl, x, C, dx, [], rfl, hx5, cf.c.cl, cf.c.nP, (by show 0 < 1000; decide), ?_⟩
    refine ⟨.ref a, rfl, a, _, 0, .ref t1, rfl, rfl, sqT_upd hx5 hT, rfl, .ref x, rfl, x, C, dx, _, rfl, upd_same, cf.c.cl, cf.c.nT, (by show 1 < 1000; decide), ?_⟩
    refine ⟨.ref a, rfl, a, _, 1, .ref b1, rfl, rfl, sqT_upd upd_same (sqT_upd hx5 hT), rfl, .ref x, rfl, x, C, dx, _, rfl, upd_same, cf.c.cl, cf.c.nB, (by
      simp only [putF, if_neg x_pt]
      show 2 < 1000
      decide), ?_⟩
    refine q _ (fun c o ec => ?_) ⟨t1, b1, ?_, sqT_upd upd_same (sqT_upd upd_same (sqT_upd hx5 s1)), sqT_upd upd_same (sqT_upd upd_same (sqT_upd hx5 s2))⟩
    · rw [upd_ne (ne_of_none ec hx0), upd_ne (ne_of_none ec hx0), upd_ne (ne_of_none ec hx0)]
      exact e05 _ _ ec
    · rw [upd_same, put3]
theorem okP0 {p : Int} : PolyOk p [] := ⟨fun n hn => by simp at hn, rfl, by decide⟩
theorem okP1 {p : Int} (hp : Pr p) : PolyOk p [1] := ⟨fun n hn => by
  obtain rfl := List.mem_singleton.mp hn
  have := hp.le
  omega, rfl, by decide⟩
abbrev s_made_function : Stmt := topS 45
abbrev N_made_function : List Str := ["prime", "top", "bottom", "function"]
theorem sc_made_function : FnScope N_made_function ["prime", "top", "bottom"] (defScope s_made_function) := ⟨rfl, rfl, rfl, by decide +kernel, rfl, by decide +kernel, by decide +kernel⟩
theorem ok_made_function {f : Addr} {fd : FuncData} (F : Fun K "made_function" "made_function" s_made_function f fd) (B : Bis mg) (cf : CFm K mg C)   (M___init__ : Dm P w K mg base C "__init__" ["self", "prime", "top", "bottom"] 7 (sp_F___init__ K C)) : FnOk P w K mg base CX0 9 f fd ["prime", "top", "bottom"] (sp_made_function K C) := by
  refine F.ok sc_made_function (fun vs H Q E h => ?_) (fun cdv A outer s H vs Q E hr h => ?_)
  · obtain ⟨g, _, ha, _⟩ := h
    exact ha.len
  · obtain ⟨⟨prime, top, bottom⟩, hp, ⟨_, _, rfl, rfl, ⟨v_top, _, rfl, h_top, ⟨v_bottom, _, rfl, h_bottom, rfl⟩⟩⟩, q⟩ := h
    dsimp only at *
    refine ⟨_, (pss_cons (ps_set (i := 3) sc_made_function.nd rfl (Or.inl rfl) (pe_make (cf.mkr M___init__.own) M___init__.ok (hr.mono (by decide)) (by rfl) cf.mg M___init__.b .nil pass0 (pa_cons (pv 0) (pa_cons (pe_tup pa_nil) (pa_cons (pe_tup (pa_cons pe_int pa_nil)) pa_nil)))))
      (pss_cons (ps_fld (pv 3) (pv 1) rfl)
      (pss_cons (ps_fld (pv 3) (pv 2) rfl)
      (pss_one (ps_ret (pv 3)))))), ?_⟩
    obtain ⟨t1, rfl, s1⟩ := h_top
    obtain ⟨b1, rfl, s2⟩ := h_bottom
    refine q_new hp okP0 (okP1 hp) (by simp) (evrs_cons (evr_var rfl rfl) (evrs_cons (evr_disp (ns := []) evrs_nil (by decide)) (evrs_cons (evr_disp (ns := [1]) (evrs_cons evr_c evrs_nil) (by decide)) evrs_nil))) fun x dx t0 b0 H1 nx e1 h1 => ?_
    refine ⟨.ref t1, rfl, .ref x, rfl, x, C, dx, _, rfl, h1, cf.c.cl, cf.c.nT, (by show 3 < 1000; decide), ?_⟩
    refine ⟨.ref b1, rfl, .ref x, rfl, x, C, dx, _, rfl, upd_same, cf.c.cl, cf.c.nB, (by
      simp only [ffs, putF, if_neg x_pt, if_pos]
      show 3 < 1000
      decide), ?_⟩
    refine ⟨.ref x, rfl, q _ _ (fun c o ec => ?_) ⟨x, dx, t1, b1, rfl, ?_, sqT_upd upd_same (sqT_upd h1 (ex_t e1 s1)), sqT_upd upd_same (sqT_upd h1 (ex_t e1 s2))⟩⟩
    · rw [upd_ne (ne_of_none ec nx), upd_ne (ne_of_none ec nx)]
      exact e1 _ _ ec
    · rw [upd_same, putTB]
abbrev s_shortened : Stmt := topS 47
abbrev N_shortened : List Str := ["prime", "top", "bottom", "common", "extra"]
theorem sc_shortened : FnScope N_shortened ["prime", "top", "bottom", "common"] (defScope s_shortened) := ⟨rfl, rfl, rfl, by decide +kernel, rfl, by decide +kernel, by decide +kernel⟩
theorem ok_shortened {f : Addr} {fd : FuncData} (F : Fun K "shortened" "shortened" s_shortened f fd) (B : Bis mg) (cf : CFm K mg C)  (D_common_divisor : De P w K mg base "common_divisor" ["prime", "one", "other"] 5 (sp_common_divisor K)) (D_made_function : De P w K mg base "made_function" ["prime", "top", "bottom"] 9 (sp_made_function K C)) (D_quotient_of : De P w K mg base "quotient_of" ["prime", "one", "other"] 4 (sp_quotient_of K)) : FnOk P w K mg base CX0 10 f fd ["prime", "top", "bottom", "common"] (sp_shortened K C) := by
  refine F.ok sc_shortened (fun vs H Q E h => ?_) (fun cdv A outer s H vs Q E hr h => ?_)
  · obtain ⟨g, _, ha, _⟩ := h
    exact ha.len
  · obtain ⟨⟨prime, top, bottom, cmn⟩, ⟨hp, pt, pb, pc, mb, mc, lt, lb, lc⟩, ⟨_, _, rfl, rfl, ⟨v_top, _, rfl, h_top, ⟨v_bottom, _, rfl, h_bottom, ⟨v_common, _, rfl, h_common, rfl⟩⟩⟩⟩, q⟩ := h
    dsimp only at *
    refine ⟨_, (pss_cons (ps_set (i := 4) sc_shortened.nd rfl (Or.inl rfl) (pe_call D_common_divisor.ok (hr.mono (by decide)) (by rfl) D_common_divisor.g D_common_divisor.kp D_common_divisor.b .nil pass0 (pa_cons (pv 0) (pa_cons (pv 1) (pa_cons (pv 3) pa_nil)))))
      (pss_one (ps_ret (pe_call D_made_function.ok (hr.mono (by decide)) (by rfl) D_made_function.g D_made_function.kp D_made_function.b .nil pass0 (pa_cons (pv 0) (pa_cons (pe_call D_quotient_of.ok (hr.mono (by decide)) (by rfl) D_quotient_of.g D_quotient_of.kp D_quotient_of.b .nil pass0 (pa_cons (pv 0) (pa_cons (pv 1) (pa_cons (pv 4) pa_nil)))) (pa_cons (pe_call D_quotient_of.ok (hr.mono (by decide)) (by rfl) D_quotient_of.g D_quotient_of.kp D_quotient_of.b .nil pass0 (pa_cons (pv 0) (pa_cons (pv 2) (pa_cons (pv 4) pa_nil)))) pa_nil))))))), ?_⟩
    have cm := com_ok hp pt pc (by omega) (by omega)
    have ng : common prime top cmn ≠ [] := (cm.mo (.inr mc.1)).1
    have lg : (common prime top cmn).length ≤ cmn.length := com_len hp pc mc.1 cm.sym
    refine qr_asg (evr_call (GQ.mk prime top cmn) (cpre hp pt pc (by omega) (by omega)) (evrs_cons (evr_var rfl rfl) (evrs_cons (evr_var rfl h_top) (evrs_cons (evr_var rfl h_common) evrs_nil)))) fun x1 H1 e1 h1 => ?_
    exact sr_ret (evr_call (GTB.mk prime (quotientOf prime top (common prime top cmn)) (quotientOf prime bottom (common prime top cmn))) hp (evrs_cons (evr_var rfl rfl) (evrs_cons (evr_call (GQ.mk prime top (common prime top cmn)) (dpre hp pt cm.pl (by omega) (by omega) ng) (evrs_cons (evr_var rfl rfl) (evrs_cons (evr_var rfl (up h_top e1)) (evrs_cons (evr_var rfl h1) evrs_nil)))) (evrs_cons (evr_call (GQ.mk prime bottom (common prime top cmn)) (dpre hp pb cm.pl (by omega) (by omega) ng) (evrs_cons (evr_var rfl rfl) (evrs_cons (evr_var rfl (up h_bottom e1)) (evrs_cons (evr_var rfl h1) evrs_nil)))) evrs_nil)))) fun v H2 e2 hv => q v H2 (e1.trans e2) hv
end
end K0
namespace K0
open PySem PySem.Spec PyProof.Rows L2 Kt M
open Evl (Ex Ev EvL EvU EvT EvA EvO ex_l ex_t sq_of st_of sz_of sz_lt fresh_back given)
theorem mo_quot {p : Int} (hp : Pr p) {b g : List Int} (hb : Pl p b) (pg : Pl p g) (mb : Mo b) (mg : Mo g) (h : ∃ Y : QP p, Fi Y ∧ e p b = Y * e p g) : Mo (quotientOf p b g) := by
  obtain ⟨Y, fY, h⟩ := h
  rw [quotientOf_eq hp hb.r hb.t]
  exact mo_div hp hb pg mb mg fY h
/-- what the sum takes out -/
theorem out_ok {p : Int} (hp : Pr p) {F G : PF} (hF : NF p F) (hG : NF p G) (lF : Le 60 F) (lG : Le 60 G) : ∃ c : List Int, (if G.2 = F.2 then F.2 else common p F.2 G.2) = c ∧ Pl p c ∧ Mo c ∧ c.length ≤ 60 ∧ Mo (quotientOf p G.2 c) := by
  have h2 := lF.2
  have h4 := lG.2
  refine ⟨_, rfl, ?_⟩
  by_cases he : G.2 = F.2
  · rw [if_pos he]
    exact ⟨hF.b, hF.mo, h2, mo_quot hp hG.b hF.b hG.mo hF.mo ⟨1, .one, by rw [he]; grind⟩⟩
  · rw [if_neg he]
    have C := com_ok hp hF.b hG.b (by omega) (by omega)
    have gm := C.mo (.inl hF.nb)
    have hl := com_len hp hF.b hF.nb C
    refine ⟨C.pl, gm, by omega, mo_quot hp hG.b C.pl hG.mo gm ?_⟩
    obtain ⟨a, b, fa, fb, ha, hb⟩ := C.dv
    exact ⟨b, fb, hb⟩
theorem scal_int {x y : Int} : decide (V.int x = V.int y) = decide (x = y) := decide_eq_decide.mpr ⟨fun h => by injection h, fun h => by rw [h]⟩
section
variable {X : Cx}
/-- bool(a tuple) -/
theorem call_boolT : CallR X (.type "bool") (fun xs H Q => ∃ (a : Addr) (zs : List V), xs = [.ref a] ∧ SqT X.K H a zs ∧ Q (.bl (!zs.isEmpty)) H) := by
  intro pins s σ H xs us Q I r h
  obtain ⟨a, zs, rfl, hq, q⟩ := h
  obtain rfl := Vals.ref1 r
  obtain ⟨its, rv, pl, hz⟩ := I.tuple hq
  have hl := line63
  have hlen := rv.length
  refine callType_newIn PySem.F.called_bool PySem.F.newNe_bool (PySem.F.typeCall_bool_1 _) (PySem.F.newCall_bool_1 _) (fun obj => PySem.F.args_object_init_2 obj _) PySem.F.entry_bool_new bool_in ?_
  exact truthy_tuple pl (by simp only [List.size_toArray]; omega) ⟨rfl, .bl _, H, I.tok _, rfl, by rw [isEmpty_of rv]; exact q⟩
end
section
variable {K : PySem.W.Frag} {mg : Str → Option Value} {C : Addr} {p q : Int} {F G : PF} {σ : L2.St} {H H' : Hp} {te tf : TE} {ta : TA} {ns : List Int} {b : Bool} {E : XK}
theorem evr_boolT {rr : List V → Hp → VK → Prop} (hrr : rr = fun xs H Q => ∃ (a : Addr) (zs : List V), xs = [.ref a] ∧ SqT K H a zs ∧ Q (.bl (!zs.isEmpty)) H) (h : EvR te σ H (vP K ns)) : EvR (tCB rr (tCons te tNil)) σ H (vB (!ns.isEmpty)) := fun H1 e Q k => h H1 e _ fun v H2 e2 ⟨a, ha, hs⟩ => by
  subst ha hrr
  refine ⟨a, _, rfl, hs, ?_⟩
  have ee : (!(ns.map V.int).isEmpty) = !ns.isEmpty := by cases ns <;> rfl
  rw [ee]
  exact k _ H2 e2 rfl
theorem evr_any {bs : List Bool} {r : List V → Hp → VK → Prop} (hr : r = rAny K) (h : EvL te σ H (bs.map V.bl)) : EvR (tCB r (tCons te tNil)) σ H (vB (bs.any id)) := fun H1 e Q q => h H1 e _ fun p H2 _ e2 hp => by
  subst hr
  exact ⟨p, bs, rfl, sq_of hp, q _ H2 e2 rfl⟩
/-- a function's truth -/
theorem et_F (h : EvR te σ H (vF K C p F)) : EvT (fun σ H Q => te σ H fun x H' => ∃ a dx fs, x = .ref a ∧ H' a = some (.ins C dx fs) ∧ sp_F___bool__ K C [.ref a] H' (fun v H' => ∃ b, v = .bl b ∧ Q b H') E) σ H (!F.1.isEmpty) := fun H1 e Q k => h H1 e _ fun v H2 e2 hv => by
  obtain ⟨a, dx, t, b, rfl, h2, _⟩ := id hv
  exact ⟨a, dx, _, rfl, h2, GF.mk p F, trivial, ⟨_, _, rfl, hv, rfl⟩, fun u H3 e3 hu => ⟨_, hu, k H3 (e2.trans e3)⟩⟩
end
section
variable {P : Program} {w : World} {K : PySem.W.Frag} {mg : Str → Option Value} {base : Heap} {C : Addr}
abbrev s_F___bool__ : Stmt := inClass (topS 44) 20
abbrev N_F___bool__ : List Str := ["self"]
theorem sc_F___bool__ : FnScope N_F___bool__ ["self"] (defScope s_F___bool__) := ⟨rfl, rfl, rfl, by decide +kernel, rfl, by decide +kernel, by decide +kernel⟩
theorem ok_F___bool__ {f : Addr} {fd : FuncData} (F : Fun K "__bool__" "Function.__bool__" s_F___bool__ f fd) (B : Bis mg) (cf : CFm K mg C)   : FnOk P w K mg base CX0 1 f fd ["self"] (sp_F___bool__ K C) := by
  refine F.ok sc_F___bool__ (fun vs H Q E h => ?_) (fun cdv A outer s H vs Q E hr h => ?_)
  · obtain ⟨g, _, ha, _⟩ := h
    exact ha.len
  · obtain ⟨⟨p, F0⟩, hpre, ⟨v_self, _, rfl, h_self, rfl⟩, q⟩ := h
    dsimp only at *
    refine ⟨_, (pss_one (ps_ret (pe_callTy call_boolT (by rfl) (B "bool" (by decide +kernel)) (by decide +kernel) (pa_cons (pe_fld (pv 0) rfl) pa_nil)))), ?_⟩
    exact sr_ret (evr_boolT rfl (evr_fldT cf.c (evr_var rfl h_self))) q
abbrev s_check_same_prime : Stmt := topS 54
abbrev N_check_same_prime : List Str := ["values", "value"]
theorem sc_check_same_prime : FnScope N_check_same_prime ["values"] (defScope s_check_same_prime) := ⟨rfl, rfl, rfl, by decide +kernel, rfl, by decide +kernel, by decide +kernel⟩
theorem ok_check_same_prime {f : Addr} {fd : FuncData} (F : Fun K "check_same_prime" "check_same_prime" s_check_same_prime f fd) (B : Bis mg) (cf : CFm K mg C)   (M_prime : Dg P w K mg base C "prime" ["self"] 1 (sp_F_prime K C)) : FnOk P w K mg base CX0 3 f fd ["values"] (sp_check_same_prime K C) := by
  refine F.ok sc_check_same_prime (fun vs H Q E h => ?_) (fun cdv A outer s H vs Q E hr h => ?_)
  · obtain ⟨g, _, ha, _⟩ := h
    exact ha.len
  · obtain ⟨⟨p, F0, G0, f0⟩, hpre, ⟨v_values, _, rfl, h_values, rfl⟩, q⟩ := h
    dsimp only at *
    refine ⟨_, (pss_one (ps_if (pt_val (pe_callB (id := "any") (r := rAny K) (cr_any rfl) (by rfl) (B "any" (by decide +kernel)) (by decide +kernel) (pa_cons (pe_lc (own := [("value", 1)]) (g := (gName 1)) (tt := tYes) rfl sc_check_same_prime.nd (pi_tup (pv 0)) (blkOk_by (own := [("value", 1)]) (N := N_check_same_prime) (sc := defScope s_check_same_prime) (by decide +kernel)) (fun _ _ _ _ _ => (pg_name (i := 1) sc_check_same_prime.nd rfl (Or.inl rfl))) (fun _ _ _ _ _ => pts_nil) (fun _ _ _ _ _ => (pe_cmpR op_ne (pe_prop (pv 1) cf.c.cl M_prime.prop M_prime.ok (hr.mono (by decide)) M_prime.b .nil pass0 rfl) (pe_prop (pe_ix (r := rIxT K) ix_tup (pv 0) pe_int (fun _ _ => rfl)) cf.c.cl M_prime.prop M_prime.ok (hr.mono (by decide)) M_prime.b .nil pass0 rfl) (nomark _)))) pa_nil))) (pss_one ps_never) pss_nil)), ?_⟩
    obtain ⟨a, xs, rfl, hs, v1, w1, rfl, hv1, v2, w2, rfl, hv2, hw⟩ := id h_values
    obtain rfl : w2 = [] := hw
    have hL : EvL (tLc (iTup K (tVar 0)) (gName 1) tYes (tOp rNe (tProp C (sp_F_prime K C) [] E0 (tVar 1)) (tProp C (sp_F_prime K C) [] E0 (tOp (rIxT K) (tVar 0) (tC (.int 0))))) [1]) [some (.ref a), none] H ([false, false].map V.bl) := by
      refine el_comp (vs := [1]) (g := gName 1) (tt := tYes) (wk_tup (evr_var (r := vC (.ref a)) rfl rfl).ev hs) (fun _ => true) (fun _ => .bl false) (by show 2 ≤ 50000; decide) fun i x H1 H2 hi e1 y R k => ?_
      obtain ⟨rfl, hx⟩ := y
      have hF : ∃ F', (vF K C p F').R x H2 := by
        match i, hx with
        | 0, hx => exact ⟨F0, by obtain rfl : v1 = x := Option.some.inj hx; exact up hv1 e1⟩
        | 1, hx => exact ⟨G0, by obtain rfl : v2 = x := Option.some.inj hx; exact up hv2 e1⟩
      obtain ⟨F', hF⟩ := hF
      refine k _ _ rfl (Ex.refl _) et_yes fun _ => (EvR.eqB (evr_op (evr_prop (GF.mk p F') trivial rfl (evr_var rfl hF)) (evr_prop (GF.mk p F0) trivial rfl (evr_ixT (evr_var rfl (up h_values e1)) evr_c rfl)) (op_neS rfl)) (by simp)).ev
    refine Evl.s_when (et_b (evr_any (bs := [false, false]) rfl hL)) (fun hb H1 e1 => by cases hb) (fun hb H1 e1 => q .non H1 e1 rfl)
abbrev s_add_function : Stmt := topS 48
abbrev N_add_function : List Str := ["one", "other", "factor", "prime", "common", "left", "right", "top"]
theorem sc_add_function : FnScope N_add_function ["one", "other", "factor"] (defScope s_add_function) := ⟨rfl, rfl, rfl, by decide +kernel, rfl, by decide +kernel, by decide +kernel⟩
theorem ok_add_function {f : Addr} {fd : FuncData} (F : Fun K "add_function" "add_function" s_add_function f fd) (B : Bis mg) (cf : CFm K mg C)  (D_check_same_prime : De P w K mg base "check_same_prime" ["values"] 3 (sp_check_same_prime K C)) (D_common_divisor : De P w K mg base "common_divisor" ["prime", "one", "other"] 5 (sp_common_divisor K)) (D_quotient_of : De P w K mg base "quotient_of" ["prime", "one", "other"] 4 (sp_quotient_of K)) (D_add_scaled : De P w K mg base "add_scaled" ["prime", "one", "other", "factor"] 2 (sp_add_scaled K)) (D_multiply : De P w K mg base "multiply" ["prime", "one", "other"] 4 (sp_multiply K)) (D_shortened : De P w K mg base "shortened" ["prime", "top", "bottom", "common"] 10 (sp_shortened K C)) (M_bottom : Dg P w K mg base C "bottom" ["self"] 1 (sp_F_bottom K C)) (M_prime : Dg P w K mg base C "prime" ["self"] 1 (sp_F_prime K C)) (M_top : Dg P w K mg base C "top" ["self"] 1 (sp_F_top K C)) : FnOk P w K mg base CX0 11 f fd ["one", "other", "factor"] (sp_add_function K C) := by
  refine F.ok sc_add_function (fun vs H Q E h => ?_) (fun cdv A outer s H vs Q E hr h => ?_)
  · obtain ⟨g, _, ha, _⟩ := h
    exact ha.len
  · obtain ⟨⟨p, F0, G0, f0⟩, ⟨⟨hp, hF, hG, lF, lG⟩, hf⟩, ⟨v_one, _, rfl, h_one, ⟨v_other, _, rfl, h_other, ⟨_, _, rfl, rfl, rfl⟩⟩⟩, q⟩ := h
    dsimp only at *
    refine ⟨_, (pss_cons (ps_expr (pe_call D_check_same_prime.ok (hr.mono (by decide)) (by rfl) D_check_same_prime.g D_check_same_prime.kp D_check_same_prime.b .nil pass0 (pa_cons (pe_tup (pa_cons (pv 0) (pa_cons (pv 1) pa_nil))) pa_nil)))
      (pss_cons (ps_set (i := 3) sc_add_function.nd rfl (Or.inl rfl) (pe_prop (pv 0) cf.c.cl M_prime.prop M_prime.ok (hr.mono (by decide)) M_prime.b .nil pass0 rfl))
      (pss_cons (ps_set (i := 4) sc_add_function.nd rfl (Or.inl rfl) (pe_prop (pv 0) cf.c.cl M_bottom.prop M_bottom.ok (hr.mono (by decide)) M_bottom.b .nil pass0 rfl))
      (pss_cons (ps_if (pt_cmpR (r := rNeD K) (op_neD hr.units) (pe_prop (pv 1) cf.c.cl M_bottom.prop M_bottom.ok (hr.mono (by decide)) M_bottom.b .nil pass0 rfl) (pv 4) (nomark _)) (pss_one (ps_set (i := 4) sc_add_function.nd rfl (Or.inl rfl) (pe_call D_common_divisor.ok (hr.mono (by decide)) (by rfl) D_common_divisor.g D_common_divisor.kp D_common_divisor.b .nil pass0 (pa_cons (pv 3) (pa_cons (pe_prop (pv 0) cf.c.cl M_bottom.prop M_bottom.ok (hr.mono (by decide)) M_bottom.b .nil pass0 rfl) (pa_cons (pe_prop (pv 1) cf.c.cl M_bottom.prop M_bottom.ok (hr.mono (by decide)) M_bottom.b .nil pass0 rfl) pa_nil)))))) pss_nil)
      (pss_cons (ps_set (i := 5) sc_add_function.nd rfl (Or.inl rfl) (pe_call D_quotient_of.ok (hr.mono (by decide)) (by rfl) D_quotient_of.g D_quotient_of.kp D_quotient_of.b .nil pass0 (pa_cons (pv 3) (pa_cons (pe_prop (pv 0) cf.c.cl M_bottom.prop M_bottom.ok (hr.mono (by decide)) M_bottom.b .nil pass0 rfl) (pa_cons (pv 4) pa_nil)))))
      (pss_cons (ps_set (i := 6) sc_add_function.nd rfl (Or.inl rfl) (pe_call D_quotient_of.ok (hr.mono (by decide)) (by rfl) D_quotient_of.g D_quotient_of.kp D_quotient_of.b .nil pass0 (pa_cons (pv 3) (pa_cons (pe_prop (pv 1) cf.c.cl M_bottom.prop M_bottom.ok (hr.mono (by decide)) M_bottom.b .nil pass0 rfl) (pa_cons (pv 4) pa_nil)))))
      (pss_cons (ps_set (i := 7) sc_add_function.nd rfl (Or.inl rfl) (pe_call D_add_scaled.ok (hr.mono (by decide)) (by rfl) D_add_scaled.g D_add_scaled.kp D_add_scaled.b .nil pass0 (pa_cons (pv 3) (pa_cons (pe_call D_multiply.ok (hr.mono (by decide)) (by rfl) D_multiply.g D_multiply.kp D_multiply.b .nil pass0 (pa_cons (pv 3) (pa_cons (pe_prop (pv 0) cf.c.cl M_top.prop M_top.ok (hr.mono (by decide)) M_top.b .nil pass0 rfl) (pa_cons (pv 6) pa_nil)))) (pa_cons (pe_call D_multiply.ok (hr.mono (by decide)) (by rfl) D_multiply.g D_multiply.kp D_multiply.b .nil pass0 (pa_cons (pv 3) (pa_cons (pe_prop (pv 1) cf.c.cl M_top.prop M_top.ok (hr.mono (by decide)) M_top.b .nil pass0 rfl) (pa_cons (pv 5) pa_nil)))) (pa_cons (pv 2) pa_nil))))))
      (pss_one (ps_ret (pe_call D_shortened.ok (hr.mono (by decide)) (by rfl) D_shortened.g D_shortened.kp D_shortened.b .nil pass0 (pa_cons (pv 3) (pa_cons (pv 7) (pa_cons (pe_call D_multiply.ok (hr.mono (by decide)) (by rfl) D_multiply.g D_multiply.kp D_multiply.b .nil pass0 (pa_cons (pv 3) (pa_cons (pe_prop (pv 0) cf.c.cl M_bottom.prop M_bottom.ok (hr.mono (by decide)) M_bottom.b .nil pass0 rfl) (pa_cons (pv 6) pa_nil)))) (pa_cons (pv 4) pa_nil)))))))))))))), ?_⟩
    have h2 := hp.le
    have hp0 : 0 < p := by omega
    have l1 := lF.1
    have l2 := lF.2
    have l3 := lG.1
    have l4 := lG.2
    obtain ⟨c, ec, pc, mc, lc, mr⟩ := out_ok hp hF hG lF lG
    have len1 := quot_len hp hG.b mc.1
    have len2 := quot_len hp hF.b mc.1
    have len3 := prod_len p F0.1 (quotientOf p G0.2 c)
    have len4 := prod_len p G0.1 (quotientOf p F0.2 c)
    have len5 := prod_len p F0.2 (quotientOf p G0.2 c)
    have len6 := addScaled_len p (prod p F0.1 (quotientOf p G0.2 c)) (prod p G0.1 (quotientOf p F0.2 c)) f0
    have pr : Pl p (quotientOf p G0.2 c) := hG.b.quot hp _
    have pl : Pl p (quotientOf p F0.2 c) := hF.b.quot hp _
    have pa : Pl p (prod p F0.1 (quotientOf p G0.2 c)) := .prod hp0 _ _
    have pb : Pl p (prod p G0.1 (quotientOf p F0.2 c)) := .prod hp0 _ _
    refine qr_drop (evr_call (GAF.mk p F0 G0 f0) trivial (evrs_cons (evr_dispT (K := K) (evrs_cons (evr_var rfl h_one) (evrs_cons (evr_var rfl h_other) evrs_nil)) (Nat.le_of_ble_eq_true rfl)) evrs_nil)) fun H1 e1 => ?_
    refine qr_asg (evr_prop (GF.mk p F0) trivial rfl (evr_var rfl (up h_one e1))) fun x3 H2 e2 h3 => ?_
    obtain rfl : x3 = .int p := h3
    refine qr_asg (evr_prop (GF.mk p F0) trivial rfl (evr_var rfl (up h_one (e1.trans e2)))) fun x4 H3 e3 h4 => ?_
    have e13 := (e1.trans e2).trans e3
    refine qr_ifAsg (r := vP K c) (et_r (evr_op (evr_prop (GF.mk p G0) trivial rfl (evr_var rfl (up h_other e13))) (evr_var (r := vP K F0.2) rfl h4) op_neP)) rfl (fun hb => ?_) (fun hb => ?_) fun x5 H4 e4 h5 => ?_
    · have hb' : ¬ G0.2 = F0.2 := fun z => by
        have hb2 : (!decide (G0.2 = F0.2)) = true := hb
        rw [decide_eq_true z] at hb2
        cases hb2
      rw [if_neg hb'] at ec
      rw [← ec]
      exact evr_call (GQ.mk p F0.2 G0.2) (cpre hp hF.b hG.b (by omega) (by omega)) (evrs_cons (evr_var rfl rfl) (evrs_cons (evr_prop (GF.mk p F0) trivial rfl (evr_var rfl (up h_one e13))) (evrs_cons (evr_prop (GF.mk p G0) trivial rfl (evr_var rfl (up h_other e13))) evrs_nil)))
    · have hb' : G0.2 = F0.2 := Decidable.byContradiction fun z => by
        have hb2 : (!decide (G0.2 = F0.2)) = false := hb
        rw [decide_eq_false z] at hb2
        cases hb2
      rw [if_pos hb'] at ec
      rw [← ec]
      exact h4
    have e14 := e13.trans e4
    refine qr_asg (evr_call (GQ.mk p F0.2 c) (dpre hp hF.b pc (by omega) (by omega) mc.1) (evrs_cons (evr_var rfl rfl) (evrs_cons (evr_prop (GF.mk p F0) trivial rfl (evr_var rfl (up h_one e14))) (evrs_cons (evr_var rfl h5) evrs_nil)))) fun x6 H5 e5 h6 => ?_
    have e15 := e14.trans e5
    refine qr_asg (evr_call (GQ.mk p G0.2 c) (dpre hp hG.b pc (by omega) (by omega) mc.1) (evrs_cons (evr_var rfl rfl) (evrs_cons (evr_prop (GF.mk p G0) trivial rfl (evr_var rfl (up h_other e15))) (evrs_cons (evr_var rfl (up h5 e5)) evrs_nil)))) fun x7 H6 e6 h7 => ?_
    have e16 := e15.trans e6
    refine qr_asg (evr_call (GA.mk p (prod p F0.1 (quotientOf p G0.2 c)) (prod p G0.1 (quotientOf p F0.2 c)) f0) ⟨hp0, by show (prod p F0.1 (quotientOf p G0.2 c)).length ≤ 1000; omega, by show (prod p G0.1 (quotientOf p F0.2 c)).length ≤ 1000; omega, pa.sm hp, pb.sm hp⟩
      (evrs_cons (evr_var rfl rfl) (evrs_cons (evr_call (GQ.mk p F0.1 (quotientOf p G0.2 c)) (mpre hp hF.t pr (by omega) (by omega)) (evrs_cons (evr_var rfl rfl) (evrs_cons (evr_prop (GF.mk p F0) trivial rfl (evr_var rfl (up h_one e16))) (evrs_cons (evr_var rfl h7) evrs_nil))))
        (evrs_cons (evr_call (GQ.mk p G0.1 (quotientOf p F0.2 c)) (mpre hp hG.t pl (by omega) (by omega)) (evrs_cons (evr_var rfl rfl) (evrs_cons (evr_prop (GF.mk p G0) trivial rfl (evr_var rfl (up h_other e16))) (evrs_cons (evr_var rfl (up h6 e6)) evrs_nil))))
        (evrs_cons (evr_var rfl rfl) evrs_nil))))) fun x8 H7 e7 h8 => ?_
    have e17 := e16.trans e7
    have hk : kc p f0 * kc p f0 = 1 := by
      rcases hf with h | h
      · have h' : f0 = 1 := h
        rw [h', kc_one]
        grind
      · have h' : f0 = -1 := h
        rw [h', kc_neg]
        grind
    have eg := gAdd_ok hp hF hG lF lG (by omega) hk
    unfold gAdd at eg
    rw [ec] at eg
    rw [← eg] at q
    exact sr_ret (evr_call (GTBC.mk p (addScaled p (prod p F0.1 (quotientOf p G0.2 c)) (prod p G0.1 (quotientOf p F0.2 c)) f0) (prod p F0.2 (quotientOf p G0.2 c)) c) ⟨hp, .add hp0 _ _ _, .prod hp0 _ _, pc, mo_prod hp hF.b pr hF.mo mr, mc, by show (addScaled p _ _ f0).length ≤ 200; omega, by show (prod p F0.2 _).length ≤ 200; omega, by show c.length ≤ 64; omega⟩
      (evrs_cons (evr_var rfl rfl) (evrs_cons (evr_var rfl h8) (evrs_cons (evr_call (GQ.mk p F0.2 (quotientOf p G0.2 c)) (mpre hp hF.b pr (by omega) (by omega)) (evrs_cons (evr_var rfl rfl) (evrs_cons (evr_prop (GF.mk p F0) trivial rfl (evr_var rfl (up h_one e17))) (evrs_cons (evr_var rfl (up h7 e7)) evrs_nil))))
        (evrs_cons (evr_var rfl (up h5 ((e5.trans e6).trans e7))) evrs_nil))))) fun v H8 e8 hv => q v H8 (e17.trans e8) hv
end
end K0
namespace K0
open PySem PySem.Spec PyProof.Rows L2 Kt M
open Evl (Ex Ev EvL EvU EvT EvA EvO ex_l ex_t sq_of st_of sz_of sz_lt fresh_back given)
section
variable {P : Program} {w : World} {K : PySem.W.Frag} {mg : Str → Option Value} {base : Heap} {C : Addr}
abbrev s_multiply_function : Stmt := topS 49
abbrev N_multiply_function : List Str := ["one", "other", "prime", "left", "right", "top", "bottom"]
theorem sc_multiply_function : FnScope N_multiply_function ["one", "other"] (defScope s_multiply_function) := ⟨rfl, rfl, rfl, by decide +kernel, rfl, by decide +kernel, by decide +kernel⟩
theorem ok_multiply_function {f : Addr} {fd : FuncData} (F : Fun K "multiply_function" "multiply_function" s_multiply_function f fd) (B : Bis mg) (cf : CFm K mg C)  (D_check_same_prime : De P w K mg base "check_same_prime" ["values"] 3 (sp_check_same_prime K C)) (D_common_divisor : De P w K mg base "common_divisor" ["prime", "one", "other"] 5 (sp_common_divisor K)) (D_multiply : De P w K mg base "multiply" ["prime", "one", "other"] 4 (sp_multiply K)) (D_quotient_of : De P w K mg base "quotient_of" ["prime", "one", "other"] 4 (sp_quotient_of K)) (D_made_function : De P w K mg base "made_function" ["prime", "top", "bottom"] 9 (sp_made_function K C)) (M_bottom : Dg P w K mg base C "bottom" ["self"] 1 (sp_F_bottom K C)) (M_prime : Dg P w K mg base C "prime" ["self"] 1 (sp_F_prime K C)) (M_top : Dg P w K mg base C "top" ["self"] 1 (sp_F_top K C)) : FnOk P w K mg base CX0 10 f fd ["one", "other"] (sp_multiply_function K C) := by
  refine F.ok sc_multiply_function (fun vs H Q E h => ?_) (fun cdv A outer s H vs Q E hr h => ?_)
  · obtain ⟨g, _, ha, _⟩ := h
    exact ha.len
  · obtain ⟨⟨p, F0, G0, f0⟩, ⟨hp, hF, hG, lF, lG⟩, ⟨v_one, _, rfl, h_one, ⟨v_other, _, rfl, h_other, rfl⟩⟩, q⟩ := h
    dsimp only at *
    refine ⟨_, (pss_cons (ps_expr (pe_call D_check_same_prime.ok (hr.mono (by decide)) (by rfl) D_check_same_prime.g D_check_same_prime.kp D_check_same_prime.b .nil pass0 (pa_cons (pe_tup (pa_cons (pv 0) (pa_cons (pv 1) pa_nil))) pa_nil)))
      (pss_cons (ps_set (i := 2) sc_multiply_function.nd rfl (Or.inl rfl) (pe_prop (pv 0) cf.c.cl M_prime.prop M_prime.ok (hr.mono (by decide)) M_prime.b .nil pass0 rfl))
      (pss_cons (ps_set (i := 3) sc_multiply_function.nd rfl (Or.inl rfl) (pe_call D_common_divisor.ok (hr.mono (by decide)) (by rfl) D_common_divisor.g D_common_divisor.kp D_common_divisor.b .nil pass0 (pa_cons (pv 2) (pa_cons (pe_prop (pv 0) cf.c.cl M_top.prop M_top.ok (hr.mono (by decide)) M_top.b .nil pass0 rfl) (pa_cons (pe_prop (pv 1) cf.c.cl M_bottom.prop M_bottom.ok (hr.mono (by decide)) M_bottom.b .nil pass0 rfl) pa_nil)))))
      (pss_cons (ps_set (i := 4) sc_multiply_function.nd rfl (Or.inl rfl) (pe_call D_common_divisor.ok (hr.mono (by decide)) (by rfl) D_common_divisor.g D_common_divisor.kp D_common_divisor.b .nil pass0 (pa_cons (pv 2) (pa_cons (pe_prop (pv 1) cf.c.cl M_top.prop M_top.ok (hr.mono (by decide)) M_top.b .nil pass0 rfl) (pa_cons (pe_prop (pv 0) cf.c.cl M_bottom.prop M_bottom.ok (hr.mono (by decide)) M_bottom.b .nil pass0 rfl) pa_nil)))))
      (pss_cons (ps_set (i := 5) sc_multiply_function.nd rfl (Or.inl rfl) (pe_call D_multiply.ok (hr.mono (by decide)) (by rfl) D_multiply.g D_multiply.kp D_multiply.b .nil pass0 (pa_cons (pv 2) (pa_cons (pe_call D_quotient_of.ok (hr.mono (by decide)) (by rfl) D_quotient_of.g D_quotient_of.kp D_quotient_of.b .nil pass0 (pa_cons (pv 2) (pa_cons (pe_prop (pv 0) cf.c.cl M_top.prop M_top.ok (hr.mono (by decide)) M_top.b .nil pass0 rfl) (pa_cons (pv 3) pa_nil)))) (pa_cons (pe_call D_quotient_of.ok (hr.mono (by decide)) (by rfl) D_quotient_of.g D_quotient_of.kp D_quotient_of.b .nil pass0 (pa_cons (pv 2) (pa_cons (pe_prop (pv 1) cf.c.cl M_top.prop M_top.ok (hr.mono (by decide)) M_top.b .nil pass0 rfl) (pa_cons (pv 4) pa_nil)))) pa_nil)))))
      (pss_cons (ps_set (i := 6) sc_multiply_function.nd rfl (Or.inl rfl) (pe_call D_multiply.ok (hr.mono (by decide)) (by rfl) D_multiply.g D_multiply.kp D_multiply.b .nil pass0 (pa_cons (pv 2) (pa_cons (pe_call D_quotient_of.ok (hr.mono (by decide)) (by rfl) D_quotient_of.g D_quotient_of.kp D_quotient_of.b .nil pass0 (pa_cons (pv 2) (pa_cons (pe_prop (pv 0) cf.c.cl M_bottom.prop M_bottom.ok (hr.mono (by decide)) M_bottom.b .nil pass0 rfl) (pa_cons (pv 4) pa_nil)))) (pa_cons (pe_call D_quotient_of.ok (hr.mono (by decide)) (by rfl) D_quotient_of.g D_quotient_of.kp D_quotient_of.b .nil pass0 (pa_cons (pv 2) (pa_cons (pe_prop (pv 1) cf.c.cl M_bottom.prop M_bottom.ok (hr.mono (by decide)) M_bottom.b .nil pass0 rfl) (pa_cons (pv 3) pa_nil)))) pa_nil)))))
      (pss_one (ps_ret (pe_call D_made_function.ok (hr.mono (by decide)) (by rfl) D_made_function.g D_made_function.kp D_made_function.b .nil pass0 (pa_cons (pv 2) (pa_cons (pv 5) (pa_cons (pv 6) pa_nil)))))))))))), ?_⟩
    have h2 := hp.le
    have hp0 : 0 < p := by omega
    have l1 := lF.1
    have l2 := lF.2
    have l3 := lG.1
    have l4 := lG.2
    have C1 := com_ok hp hF.t hG.b (by omega) (by omega)
    have C2 := com_ok hp hG.t hF.b (by omega) (by omega)
    have m1 := (C1.mo (.inr hG.nb)).1
    have m2 := (C2.mo (.inr hF.nb)).1
    have c1 := com_len hp hG.b hG.nb C1.sym
    have c2 := com_len hp hF.b hF.nb C2.sym
    have q1 := quot_len hp hF.t m1
    have q2 := quot_len hp hG.t m2
    have q3 := quot_len hp hF.b m2
    have q4 := quot_len hp hG.b m1
    refine qr_drop (evr_call (GAF.mk p F0 G0 f0) trivial (evrs_cons (evr_dispT (K := K) (evrs_cons (evr_var rfl h_one) (evrs_cons (evr_var rfl h_other) evrs_nil)) (Nat.le_of_ble_eq_true rfl)) evrs_nil)) fun H1 e1 => ?_
    refine qr_asg (evr_prop (GF.mk p F0) trivial rfl (evr_var rfl (up h_one e1))) fun x3 H2 e2 h3 => ?_
    obtain rfl : x3 = .int p := h3
    have e12 := e1.trans e2
    refine qr_asg (evr_call (GQ.mk p F0.1 G0.2) (cpre hp hF.t hG.b (by omega) (by omega)) (evrs_cons (evr_var rfl rfl) (evrs_cons (evr_prop (GF.mk p F0) trivial rfl (evr_var rfl (up h_one e12))) (evrs_cons (evr_prop (GF.mk p G0) trivial rfl (evr_var rfl (up h_other e12))) evrs_nil)))) fun x4 H3 e3 h4 => ?_
    have e13 := e12.trans e3
    refine qr_asg (evr_call (GQ.mk p G0.1 F0.2) (cpre hp hG.t hF.b (by omega) (by omega)) (evrs_cons (evr_var rfl rfl) (evrs_cons (evr_prop (GF.mk p G0) trivial rfl (evr_var rfl (up h_other e13))) (evrs_cons (evr_prop (GF.mk p F0) trivial rfl (evr_var rfl (up h_one e13))) evrs_nil)))) fun x5 H4 e4 h5 => ?_
    have e14 := e13.trans e4
    refine qr_asg (evr_call (GQ.mk p (quotientOf p F0.1 (common p F0.1 G0.2)) (quotientOf p G0.1 (common p G0.1 F0.2))) (mpre hp (hF.t.quot hp _) (hG.t.quot hp _) (by omega) (by omega)) (evrs_cons (evr_var rfl rfl)
      (evrs_cons (evr_call (GQ.mk p F0.1 (common p F0.1 G0.2)) (dpre hp hF.t C1.pl (by omega) (by omega) m1) (evrs_cons (evr_var rfl rfl) (evrs_cons (evr_prop (GF.mk p F0) trivial rfl (evr_var rfl (up h_one e14))) (evrs_cons (evr_var rfl (up h4 e4)) evrs_nil))))
      (evrs_cons (evr_call (GQ.mk p G0.1 (common p G0.1 F0.2)) (dpre hp hG.t C2.pl (by omega) (by omega) m2) (evrs_cons (evr_var rfl rfl) (evrs_cons (evr_prop (GF.mk p G0) trivial rfl (evr_var rfl (up h_other e14))) (evrs_cons (evr_var rfl h5) evrs_nil)))) evrs_nil)))) fun x6 H5 e5 h6 => ?_
    have e15 := e14.trans e5
    refine qr_asg (evr_call (GQ.mk p (quotientOf p F0.2 (common p G0.1 F0.2)) (quotientOf p G0.2 (common p F0.1 G0.2))) (mpre hp (hF.b.quot hp _) (hG.b.quot hp _) (by omega) (by omega)) (evrs_cons (evr_var rfl rfl)
      (evrs_cons (evr_call (GQ.mk p F0.2 (common p G0.1 F0.2)) (dpre hp hF.b C2.pl (by omega) (by omega) m2) (evrs_cons (evr_var rfl rfl) (evrs_cons (evr_prop (GF.mk p F0) trivial rfl (evr_var rfl (up h_one e15))) (evrs_cons (evr_var rfl (up h5 e5)) evrs_nil))))
      (evrs_cons (evr_call (GQ.mk p G0.2 (common p F0.1 G0.2)) (dpre hp hG.b C1.pl (by omega) (by omega) m1) (evrs_cons (evr_var rfl rfl) (evrs_cons (evr_prop (GF.mk p G0) trivial rfl (evr_var rfl (up h_other e15))) (evrs_cons (evr_var rfl (up h4 (e4.trans e5))) evrs_nil)))) evrs_nil)))) fun x7 H6 e6 h7 => ?_
    have eg := gMul_ok hp hF hG lF lG (by omega)
    unfold gMul at eg
    rw [← eg] at q
    exact sr_ret (evr_call (GTB.mk p _ _) hp (evrs_cons (evr_var rfl rfl) (evrs_cons (evr_var rfl (up h6 e6)) (evrs_cons (evr_var rfl h7) evrs_nil)))) fun v H8 e8 hv => q v H8 ((e15.trans e6).trans e8) hv
abbrev s_turned_round : Stmt := topS 50
abbrev N_turned_round : List Str := ["function", "prime", "unit"]
theorem sc_turned_round : FnScope N_turned_round ["function"] (defScope s_turned_round) := ⟨rfl, rfl, rfl, by decide +kernel, rfl, by decide +kernel, by decide +kernel⟩
theorem ok_turned_round {f : Addr} {fd : FuncData} (F : Fun K "turned_round" "turned_round" s_turned_round f fd) (B : Bis mg) (cf : CFm K mg C)  (D_inverse : De P w K mg base "inverse" ["prime", "number"] 1 (sp_inverse K)) (D_made_function : De P w K mg base "made_function" ["prime", "top", "bottom"] 9 (sp_made_function K C)) (D_scale : De P w K mg base "scale" ["prime", "poly", "factor"] 2 (sp_scale K)) (M_bottom : Dg P w K mg base C "bottom" ["self"] 1 (sp_F_bottom K C)) (M_prime : Dg P w K mg base C "prime" ["self"] 1 (sp_F_prime K C)) (M_top : Dg P w K mg base C "top" ["self"] 1 (sp_F_top K C)) : FnOk P w K mg base CX0 10 f fd ["function"] (sp_turned_round K C) := by
  refine F.ok sc_turned_round (fun vs H Q E h => ?_) (fun cdv A outer s H vs Q E hr h => ?_)
  · obtain ⟨g, _, ha, _⟩ := h
    exact ha.len
  · obtain ⟨⟨p, F0⟩, ⟨hp, hF, lF, nz⟩, ⟨v_function, _, rfl, h_function, rfl⟩, q⟩ := h
    dsimp only at *
    refine ⟨_, (pss_cons (ps_set (i := 1) sc_turned_round.nd rfl (Or.inl rfl) (pe_prop (pv 0) cf.c.cl M_prime.prop M_prime.ok (hr.mono (by decide)) M_prime.b .nil pass0 rfl))
      (pss_cons (ps_set (i := 2) sc_turned_round.nd rfl (Or.inl rfl) (pe_call D_inverse.ok (hr.mono (by decide)) (by rfl) D_inverse.g D_inverse.kp D_inverse.b .nil pass0 (pa_cons (pv 1) (pa_cons (pe_ix (r := rIxT K) ix_tup (pe_prop (pv 0) cf.c.cl M_top.prop M_top.ok (hr.mono (by decide)) M_top.b .nil pass0 rfl) (pe_un un_neg pe_int) (fun _ _ => rfl)) pa_nil))))
      (pss_one (ps_ret (pe_call D_made_function.ok (hr.mono (by decide)) (by rfl) D_made_function.g D_made_function.kp D_made_function.b .nil pass0 (pa_cons (pv 1) (pa_cons (pe_call D_scale.ok (hr.mono (by decide)) (by rfl) D_scale.g D_scale.kp D_scale.b .nil pass0 (pa_cons (pv 1) (pa_cons (pe_prop (pv 0) cf.c.cl M_bottom.prop M_bottom.ok (hr.mono (by decide)) M_bottom.b .nil pass0 rfl) (pa_cons (pv 2) pa_nil)))) (pa_cons (pe_call D_scale.ok (hr.mono (by decide)) (by rfl) D_scale.g D_scale.kp D_scale.b .nil pass0 (pa_cons (pv 1) (pa_cons (pe_prop (pv 0) cf.c.cl M_top.prop M_top.ok (hr.mono (by decide)) M_top.b .nil pass0 rfl) (pa_cons (pv 2) pa_nil)))) pa_nil)))))))), ?_⟩
    have h2 := hp.le
    have l1 := lF.1
    have l2 := lF.2
    refine qr_asg (evr_prop (GF.mk p F0) trivial rfl (evr_var rfl h_function)) fun x1 H1 e1 h1 => ?_
    obtain rfl : x1 = .int p := h1
    refine qr_asg (evr_call (G2.mk p (F0.1.getLastD 0)) ⟨by show 0 < p; omega, by show p ≤ 100000; omega⟩ (evrs_cons (evr_var rfl rfl) (evrs_cons (evr_op (evr_prop (GF.mk p F0) trivial rfl (evr_var rfl (up h_function e1))) (un_negI evr_c) (op_ixP (z := .int (F0.1.getLastD 0)) (by
      rw [List.getLastD_eq_getLast?, List.getLast?_eq_some_getLast nz]
      exact atI_lastI nz))) evrs_nil))) fun x2 H2 e2 h2' => ?_
    obtain rfl : x2 = .int (inv p (F0.1.getLastD 0)) := h2'
    have e12 := e1.trans e2
    have eg := gBack_ok hp hF nz lF (by omega)
    unfold gBack at eg
    rw [← eg] at q
    exact sr_ret (evr_call (GTB.mk p _ _) hp (evrs_cons (evr_var rfl rfl)
      (evrs_cons (evr_call (GS.mk p F0.2 (inv p (F0.1.getLastD 0))) (spre hp hF.b _ (by omega)) (evrs_cons (evr_var rfl rfl) (evrs_cons (evr_prop (GF.mk p F0) trivial rfl (evr_var rfl (up h_function e12))) (evrs_cons (evr_var rfl rfl) evrs_nil))))
      (evrs_cons (evr_call (GS.mk p F0.1 (inv p (F0.1.getLastD 0))) (spre hp hF.t _ (by omega)) (evrs_cons (evr_var rfl rfl) (evrs_cons (evr_prop (GF.mk p F0) trivial rfl (evr_var rfl (up h_function e12))) (evrs_cons (evr_var rfl rfl) evrs_nil)))) evrs_nil)))) fun v H8 e8 hv => q v H8 (e12.trans e8) hv
abbrev s_F___add__ : Stmt := inClass (topS 44) 13
abbrev N_F___add__ : List Str := ["self", "other"]
theorem sc_F___add__ : FnScope N_F___add__ ["self", "other"] (defScope s_F___add__) := ⟨rfl, rfl, rfl, by decide +kernel, rfl, by decide +kernel, by decide +kernel⟩
theorem ok_F___add__ {f : Addr} {fd : FuncData} (F : Fun K "__add__" "Function.__add__" s_F___add__ f fd) (B : Bis mg) (cf : CFm K mg C)  (D_add_function : De P w K mg base "add_function" ["one", "other", "factor"] 11 (sp_add_function K C)) : FnOk P w K mg base CX0 12 f fd ["self", "other"] (sp_F___add__ K C) := by
  refine F.ok sc_F___add__ (fun vs H Q E h => ?_) (fun cdv A outer s H vs Q E hr h => ?_)
  · obtain ⟨g, _, ha, _⟩ := h
    exact ha.len
  · obtain ⟨⟨p, F0, G0, f0⟩, hF, ⟨v_self, _, rfl, h_self, ⟨v_other, _, rfl, h_other, rfl⟩⟩, q⟩ := h
    dsimp only at *
    refine ⟨_, (pss_cons (ps_if (pt_not (pt_val (pe_callB (id := "isinstance") (r := rIsi K) call_isi (by rfl) (B "isinstance" (by decide +kernel)) (by decide +kernel) (pa_cons (pv 1) (pa_cons (pe_glob (v := .ref C) (by rfl) cf.mg rfl) pa_nil))))) (pss_one ps_never) pss_nil)
      (pss_one (ps_ret (pe_call D_add_function.ok (hr.mono (by decide)) (by rfl) D_add_function.g D_add_function.kp D_add_function.b .nil pass0 (pa_cons (pv 0) (pa_cons (pv 1) (pa_cons pe_int pa_nil))))))), ?_⟩
    refine Evl.q_when (Evl.et_not (et_b (evr_isF cf (evr_var rfl h_other)))) (fun hb H1 e1 => by cases hb) (fun hb H1 e1 => ?_)
    exact sr_ret (evr_call (GAF.mk p F0 G0 1) ⟨hF, .inl rfl⟩ (evrs_cons (evr_var rfl (up h_self e1)) (evrs_cons (evr_var rfl (up h_other e1)) (evrs_cons evr_c evrs_nil)))) fun v H8 e8 hv => q v H8 (e1.trans e8) hv
abbrev s_F___sub__ : Stmt := inClass (topS 44) 14
abbrev N_F___sub__ : List Str := ["self", "other"]
theorem sc_F___sub__ : FnScope N_F___sub__ ["self", "other"] (defScope s_F___sub__) := ⟨rfl, rfl, rfl, by decide +kernel, rfl, by decide +kernel, by decide +kernel⟩
theorem ok_F___sub__ {f : Addr} {fd : FuncData} (F : Fun K "__sub__" "Function.__sub__" s_F___sub__ f fd) (B : Bis mg) (cf : CFm K mg C)  (D_add_function : De P w K mg base "add_function" ["one", "other", "factor"] 11 (sp_add_function K C)) : FnOk P w K mg base CX0 12 f fd ["self", "other"] (sp_F___sub__ K C) := by
  refine F.ok sc_F___sub__ (fun vs H Q E h => ?_) (fun cdv A outer s H vs Q E hr h => ?_)
  · obtain ⟨g, _, ha, _⟩ := h
    exact ha.len
  · obtain ⟨⟨p, F0, G0, f0⟩, hF, ⟨v_self, _, rfl, h_self, ⟨v_other, _, rfl, h_other, rfl⟩⟩, q⟩ := h
    dsimp only at *
    refine ⟨_, (pss_cons (ps_if (pt_not (pt_val (pe_callB (id := "isinstance") (r := rIsi K) call_isi (by rfl) (B "isinstance" (by decide +kernel)) (by decide +kernel) (pa_cons (pv 1) (pa_cons (pe_glob (v := .ref C) (by rfl) cf.mg rfl) pa_nil))))) (pss_one ps_never) pss_nil)
      (pss_one (ps_ret (pe_call D_add_function.ok (hr.mono (by decide)) (by rfl) D_add_function.g D_add_function.kp D_add_function.b .nil pass0 (pa_cons (pv 0) (pa_cons (pv 1) (pa_cons (pe_un un_neg pe_int) pa_nil))))))), ?_⟩
    refine Evl.q_when (Evl.et_not (et_b (evr_isF cf (evr_var rfl h_other)))) (fun hb H1 e1 => by cases hb) (fun hb H1 e1 => ?_)
    exact sr_ret (evr_call (GAF.mk p F0 G0 (-1)) ⟨hF, .inr rfl⟩ (evrs_cons (evr_var rfl (up h_self e1)) (evrs_cons (evr_var rfl (up h_other e1)) (evrs_cons (un_negI evr_c) evrs_nil)))) fun v H8 e8 hv => q v H8 (e1.trans e8) hv
abbrev s_F___mul__ : Stmt := inClass (topS 44) 15
abbrev N_F___mul__ : List Str := ["self", "other"]
theorem sc_F___mul__ : FnScope N_F___mul__ ["self", "other"] (defScope s_F___mul__) := ⟨rfl, rfl, rfl, by decide +kernel, rfl, by decide +kernel, by decide +kernel⟩
theorem ok_F___mul__ {f : Addr} {fd : FuncData} (F : Fun K "__mul__" "Function.__mul__" s_F___mul__ f fd) (B : Bis mg) (cf : CFm K mg C)  (D_multiply_function : De P w K mg base "multiply_function" ["one", "other"] 10 (sp_multiply_function K C)) : FnOk P w K mg base CX0 11 f fd ["self", "other"] (sp_F___mul__ K C) := by
  refine F.ok sc_F___mul__ (fun vs H Q E h => ?_) (fun cdv A outer s H vs Q E hr h => ?_)
  · obtain ⟨g, _, ha, _⟩ := h
    exact ha.len
  · obtain ⟨⟨p, F0, G0, f0⟩, hF, ⟨v_self, _, rfl, h_self, ⟨v_other, _, rfl, h_other, rfl⟩⟩, q⟩ := h
    dsimp only at *
    refine ⟨_, (pss_cons (ps_if (pt_not (pt_val (pe_callB (id := "isinstance") (r := rIsi K) call_isi (by rfl) (B "isinstance" (by decide +kernel)) (by decide +kernel) (pa_cons (pv 1) (pa_cons (pe_glob (v := .ref C) (by rfl) cf.mg rfl) pa_nil))))) (pss_one ps_never) pss_nil)
      (pss_one (ps_ret (pe_call D_multiply_function.ok (hr.mono (by decide)) (by rfl) D_multiply_function.g D_multiply_function.kp D_multiply_function.b .nil pass0 (pa_cons (pv 0) (pa_cons (pv 1) pa_nil)))))), ?_⟩
    refine Evl.q_when (Evl.et_not (et_b (evr_isF cf (evr_var rfl h_other)))) (fun hb H1 e1 => by cases hb) (fun hb H1 e1 => ?_)
    exact sr_ret (evr_call (GAF.mk p F0 G0 f0) hF (evrs_cons (evr_var rfl (up h_self e1)) (evrs_cons (evr_var rfl (up h_other e1)) evrs_nil))) fun v H8 e8 hv => q v H8 (e1.trans e8) hv
abbrev s_F___floordiv__ : Stmt := inClass (topS 44) 16
abbrev N_F___floordiv__ : List Str := ["self", "other"]
theorem sc_F___floordiv__ : FnScope N_F___floordiv__ ["self", "other"] (defScope s_F___floordiv__) := ⟨rfl, rfl, rfl, by decide +kernel, rfl, by decide +kernel, by decide +kernel⟩
theorem ok_F___floordiv__ {f : Addr} {fd : FuncData} (F : Fun K "__floordiv__" "Function.__floordiv__" s_F___floordiv__ f fd) (B : Bis mg) (cf : CFm K mg C)  (D_check_same_prime : De P w K mg base "check_same_prime" ["values"] 3 (sp_check_same_prime K C)) (D_multiply_function : De P w K mg base "multiply_function" ["one", "other"] 10 (sp_multiply_function K C)) (D_turned_round : De P w K mg base "turned_round" ["function"] 10 (sp_turned_round K C)) (M___bool__ : Dm P w K mg base C "__bool__" ["self"] 1 (sp_F___bool__ K C)) : FnOk P w K mg base CX0 11 f fd ["self", "other"] (sp_F___floordiv__ K C) := by
  refine F.ok sc_F___floordiv__ (fun vs H Q E h => ?_) (fun cdv A outer s H vs Q E hr h => ?_)
  · obtain ⟨g, _, ha, _⟩ := h
    exact ha.len
  · obtain ⟨⟨p, F0, G0, f0⟩, ⟨hF, nz⟩, ⟨v_self, _, rfl, h_self, ⟨v_other, _, rfl, h_other, rfl⟩⟩, q⟩ := h
    dsimp only at *
    refine ⟨_, (pss_cons (ps_if (pt_not (pt_val (pe_callB (id := "isinstance") (r := rIsi K) call_isi (by rfl) (B "isinstance" (by decide +kernel)) (by decide +kernel) (pa_cons (pv 1) (pa_cons (pe_glob (v := .ref C) (by rfl) cf.mg rfl) pa_nil))))) (pss_one ps_never) pss_nil)
      (pss_cons (ps_expr (pe_call D_check_same_prime.ok (hr.mono (by decide)) (by rfl) D_check_same_prime.g D_check_same_prime.kp D_check_same_prime.b .nil pass0 (pa_cons (pe_tup (pa_cons (pv 0) (pa_cons (pv 1) pa_nil))) pa_nil)))
      (pss_cons (ps_if (pt_not (pt_truthR (pv 1) (tru_own M___bool__.own M___bool__.ok (hr.mono (by decide)) M___bool__.b pass0) (by intro _; rfl))) (pss_one ps_never) pss_nil)
      (pss_one (ps_ret (pe_call D_multiply_function.ok (hr.mono (by decide)) (by rfl) D_multiply_function.g D_multiply_function.kp D_multiply_function.b .nil pass0 (pa_cons (pv 0) (pa_cons (pe_call D_turned_round.ok (hr.mono (by decide)) (by rfl) D_turned_round.g D_turned_round.kp D_turned_round.b .nil pass0 (pa_cons (pv 1) pa_nil)) pa_nil)))))))), ?_⟩
    have hp := hF.1
    have hG := hF.2.2.1
    have lG := hF.2.2.2.2
    have hB := fBack_ok hp hG nz lG (by omega)
    refine Evl.q_when (Evl.et_not (et_b (evr_isF cf (evr_var rfl h_other)))) (fun hb H1 e1 => by cases hb) (fun hb H1 e1 => ?_)
    refine qr_drop (evr_call (GAF.mk p F0 G0 f0) trivial (evrs_cons (evr_dispT (K := K) (evrs_cons (evr_var rfl (up h_self e1)) (evrs_cons (evr_var rfl (up h_other e1)) evrs_nil)) (Nat.le_of_ble_eq_true rfl)) evrs_nil)) fun H2 e2 => ?_
    have e12 := e1.trans e2
    refine Evl.q_when (Evl.et_not (et_F (evr_var rfl (up h_other e12)))) (fun hb H3 e3 => ?_) (fun hb H3 e3 => ?_)
    · cases hg : G0.1 with
      | nil => exact absurd hg nz
      | cons a l => rw [hg] at hb; cases hb
    have e13 := e12.trans e3
    exact sr_ret (evr_call (GAF.mk p F0 (fBack p G0) f0) ⟨hp, hF.2.1, hB.1, hF.2.2.2.1, hB.2.2⟩ (evrs_cons (evr_var rfl (up h_self e13)) (evrs_cons (evr_call (GF.mk p G0) ⟨hp, hG, lG, nz⟩ (evrs_cons (evr_var rfl (up h_other e13)) evrs_nil)) evrs_nil))) fun v H8 e8 hv => q v H8 (e13.trans e8) hv
abbrev s_F___neg__ : Stmt := inClass (topS 44) 17
abbrev N_F___neg__ : List Str := ["self"]
theorem sc_F___neg__ : FnScope N_F___neg__ ["self"] (defScope s_F___neg__) := ⟨rfl, rfl, rfl, by decide +kernel, rfl, by decide +kernel, by decide +kernel⟩
theorem ok_F___neg__ {f : Addr} {fd : FuncData} (F : Fun K "__neg__" "Function.__neg__" s_F___neg__ f fd) (B : Bis mg) (cf : CFm K mg C)  (D_made_function : De P w K mg base "made_function" ["prime", "top", "bottom"] 9 (sp_made_function K C)) (D_scale : De P w K mg base "scale" ["prime", "poly", "factor"] 2 (sp_scale K)) : FnOk P w K mg base CX0 10 f fd ["self"] (sp_F___neg__ K C) := by
  refine F.ok sc_F___neg__ (fun vs H Q E h => ?_) (fun cdv A outer s H vs Q E hr h => ?_)
  · obtain ⟨g, _, ha, _⟩ := h
    exact ha.len
  · obtain ⟨⟨p, F0⟩, ⟨hp, hF, lF⟩, ⟨v_self, _, rfl, h_self, rfl⟩, q⟩ := h
    dsimp only at *
    refine ⟨_, (pss_one (ps_ret (pe_call D_made_function.ok (hr.mono (by decide)) (by rfl) D_made_function.g D_made_function.kp D_made_function.b .nil pass0 (pa_cons (pe_fld (pv 0) rfl) (pa_cons (pe_call D_scale.ok (hr.mono (by decide)) (by rfl) D_scale.g D_scale.kp D_scale.b .nil pass0 (pa_cons (pe_fld (pv 0) rfl) (pa_cons (pe_fld (pv 0) rfl) (pa_cons (pe_op op_sub (pe_fld (pv 0) rfl) pe_int) pa_nil)))) (pa_cons (pe_fld (pv 0) rfl) pa_nil)))))), ?_⟩
    have l1 := lF.1
    have eg := gNeg_ok hp hF lF (by omega)
    rw [← eg] at q
    exact sr_ret (evr_call (GTB.mk p _ _) hp (evrs_cons (evr_fldP cf.c (evr_var rfl h_self))
      (evrs_cons (evr_call (GS.mk p F0.1 (p - 1)) (spre hp hF.t _ (by omega)) (evrs_cons (evr_fldP cf.c (evr_var rfl h_self)) (evrs_cons (evr_fldT cf.c (evr_var rfl h_self)) (evrs_cons (evr_op (evr_fldP cf.c (evr_var rfl h_self)) evr_c op_i0) evrs_nil))))
      (evrs_cons (evr_fldB cf.c (evr_var rfl h_self)) evrs_nil)))) fun v H8 e8 hv => q v H8 e8 hv
abbrev s_F___pow__ : Stmt := inClass (topS 44) 18
abbrev N_F___pow__ : List Str := ["self", "other", "prime"]
theorem sc_F___pow__ : FnScope N_F___pow__ ["self", "other"] (defScope s_F___pow__) := ⟨rfl, rfl, rfl, by decide +kernel, rfl, by decide +kernel, by decide +kernel⟩
theorem ok_F___pow__ {f : Addr} {fd : FuncData} (F : Fun K "__pow__" "Function.__pow__" s_F___pow__ f fd) (B : Bis mg) (cf : CFm K mg C) (C_MAX_RAISED : GI mg "MAX_RAISED" 20) (D_is_within : De P w K mg base "is_within" ["value", "low", "high"] 2 (sp_is_within K)) (D_made_function : De P w K mg base "made_function" ["prime", "top", "bottom"] 9 (sp_made_function K C)) (D_power_of : De P w K mg base "power_of" ["prime", "poly", "many"] 5 (sp_power_of K)) : FnOk P w K mg base CX0 10 f fd ["self", "other"] (sp_F___pow__ K C) := by
  refine F.ok sc_F___pow__ (fun vs H Q E h => ?_) (fun cdv A outer s H vs Q E hr h => ?_)
  · obtain ⟨g, _, ha, _⟩ := h
    exact ha.len
  · obtain ⟨⟨p, F0, n⟩, ⟨hp, hF, hn, m, lF, hm⟩, ⟨v_self, _, rfl, h_self, ⟨_, _, rfl, rfl, rfl⟩⟩, q⟩ := h
    dsimp only at *
    refine ⟨_, (pss_cons (ps_if (pt_not (pt_val (pe_call D_is_within.ok (hr.mono (by decide)) (by rfl) D_is_within.g D_is_within.kp D_is_within.b .nil pass0 (pa_cons (pv 1) (pa_cons pe_int (pa_cons (pe_gi C_MAX_RAISED (by rfl)) pa_nil)))))) (pss_one ps_never) pss_nil)
      (pss_cons (ps_set (i := 2) sc_F___pow__.nd rfl (Or.inl rfl) (pe_fld (pv 0) rfl))
      (pss_one (ps_ret (pe_call D_made_function.ok (hr.mono (by decide)) (by rfl) D_made_function.g D_made_function.kp D_made_function.b .nil pass0 (pa_cons (pv 2) (pa_cons (pe_call D_power_of.ok (hr.mono (by decide)) (by rfl) D_power_of.g D_power_of.kp D_power_of.b .nil pass0 (pa_cons (pv 2) (pa_cons (pe_fld (pv 0) rfl) (pa_cons (pv 1) pa_nil)))) (pa_cons (pe_call D_power_of.ok (hr.mono (by decide)) (by rfl) D_power_of.g D_power_of.kp D_power_of.b .nil pass0 (pa_cons (pv 2) (pa_cons (pe_fld (pv 0) rfl) (pa_cons (pv 1) pa_nil)))) pa_nil)))))))), ?_⟩
    have h2 := hp.le
    have l1 := lF.1
    have l2 := lF.2
    have k1 : n * (1 + F0.1.length) ≤ 60 := Nat.le_trans (Nat.mul_le_mul_left n (Nat.add_le_add_left l1 1)) hm
    have k2 : n * (1 + F0.2.length) ≤ 60 := Nat.le_trans (Nat.mul_le_mul_left n (Nat.add_le_add_left l2 1)) hm
    have hnm : 1 + n * m ≤ 400 := by
      have : n * m ≤ n * (1 + m) := Nat.mul_le_mul_left n (by omega)
      omega
    refine Evl.q_when (Evl.et_not (et_b (evr_call (GWi.mk (.int (n : Int)) 0 20) trivial (evrs_cons (evr_var (r := vD K (.int (n : Int))) rfl (.int _)) (evrs_cons evr_c (evrs_cons evr_c evrs_nil)))))) (fun hb H1 e1 => ?_) (fun hb H1 e1 => ?_)
    · have hw : isWithin (.int (n : Int)) 0 20 = true := by
        simp [isWithin, isInt]
        omega
      have hb' : (!isWithin (.int (n : Int)) 0 20) = true := hb
      rw [hw] at hb'
      cases hb'
    refine qr_asg (evr_fldP cf.c (evr_var rfl (up h_self e1))) fun x2 H2 e2 h3 => ?_
    obtain rfl : x2 = .int p := h3
    have e12 := e1.trans e2
    rw [← gPow_ok hp hF lF n hnm] at q
    exact sr_ret (evr_call (GTB.mk p _ _) hp (evrs_cons (evr_var rfl rfl)
      (evrs_cons (evr_call (GW.mk p F0.1 n) ⟨h2.1, hp.le7, hF.t.r, hF.t.t, k1⟩ (evrs_cons (evr_var rfl rfl) (evrs_cons (evr_fldT cf.c (evr_var rfl (up h_self e12))) (evrs_cons (evr_var rfl rfl) evrs_nil))))
      (evrs_cons (evr_call (GW.mk p F0.2 n) ⟨h2.1, hp.le7, hF.b.r, hF.b.t, k2⟩ (evrs_cons (evr_var rfl rfl) (evrs_cons (evr_fldB cf.c (evr_var rfl (up h_self e12))) (evrs_cons (evr_var rfl rfl) evrs_nil)))) evrs_nil)))) fun v H8 e8 hv => q v H8 (e12.trans e8) hv
end
end K0
namespace K0
open PySem PySem.Spec PyProof.Rows L2 Kt M
open Evl (Ex Ev EvL EvU EvT EvA EvO ex_l ex_t sq_of st_of sz_of sz_lt fresh_back given)
/-! ### texts of polynomials and functions -/
def tI (i : Int) : Str := toString i
def termT (n : Int) (k : Nat) : Str := if k = 0 then tI n else if n = 1 then (if k = 1 then ("x" : Str) else ("x^" : Str) ++ tI k) else (tI n ++ (" " : Str)) ++ (if k = 1 then ("x" : Str) else ("x^" : Str) ++ tI k)
theorem term_small : ((List.range 10).all fun n => (List.range 100).all fun k => decide (n = 0) || (decide (0 < (termT n k).length) && (decide ((termT n k).length ≤ 12) && PyData.strOk (termT n k)))) = true := by decide +kernel
theorem tI_small : ((List.range 100).all fun k => decide ((tI k).length ≤ 3)) = true := by decide +kernel
theorem term_len {n : Int} {k : Nat} (h0 : 0 ≤ n) (h1 : n < 10) (hn : n ≠ 0) (hk : k < 100) : 0 < (termT n k).length ∧ (termT n k).length ≤ 12 ∧ PyData.strOk (termT n k) = true := by
  obtain ⟨m, rfl⟩ := Int.eq_ofNat_of_zero_le h0
  have z := List.all_eq_true.mp (List.all_eq_true.mp term_small m (List.mem_range.mpr (by omega))) k (List.mem_range.mpr hk)
  simp only [Bool.or_eq_true, Bool.and_eq_true, decide_eq_true_eq] at z
  rcases z with z | z
  · omega
  · exact z
theorem tI_len {i : Int} (h0 : 0 ≤ i) (h1 : i < 100) : (tI i).length ≤ 3 := by
  obtain ⟨m, rfl⟩ := Int.eq_ofNat_of_zero_le h0
  have z := List.all_eq_true.mp tI_small m (List.mem_range.mpr (by omega))
  exact of_decide_eq_true z
theorem slen (a b : Str) : (a ++ b).length = a.length + b.length := by
  show (a ++ b).cps.size = a.cps.size + b.cps.size
  rw [PySem.Str.cps_append, Array.size_append]
def termsN (xs : List Int) (n : Nat) : List Str := ((List.range n).filter fun i => xs.getD i 0 != 0).map fun i => termT (xs.getD i 0) i
def terms (xs : List Int) : List Str := termsN xs xs.length
theorem termsN_succ (xs : List Int) (n : Nat) : termsN xs (n + 1) = termsN xs n ++ (if xs.getD n 0 = 0 then [] else [termT (xs.getD n 0) n]) := by
  unfold termsN
  rw [List.range_succ, List.filter_append, List.map_append]
  by_cases h : xs.getD n 0 = 0
  · rw [if_pos h]
    have hb : (xs.getD n 0 != 0) = false := by rw [h]; rfl
    simp only [List.filter_cons, List.filter_nil, hb, Bool.false_eq_true, if_false, List.map_nil]
  · rw [if_neg h]
    have hb : (xs.getD n 0 != 0) = true := bne_iff_ne.mpr h
    simp only [List.filter_cons, List.filter_nil, hb, if_true, List.map_cons, List.map_nil]
/-- digits below 10, not too many -/
def TxOk (xs : List Int) : Prop := (∀ n ∈ xs, 0 ≤ n ∧ n < 10) ∧ xs.length ≤ 90
theorem TxOk.at_ {xs : List Int} (h : TxOk xs) (i : Nat) : 0 ≤ xs.getD i 0 ∧ xs.getD i 0 < 10 := by
  by_cases hi : i < xs.length
  · have e : xs.getD i 0 = xs[i] := by simp [List.getD, hi]
    rw [e]
    exact h.1 _ (List.getElem_mem hi)
  · have e : xs.getD i 0 = 0 := by simp [List.getD, List.getElem?_eq_none (Nat.le_of_not_lt hi)]
    rw [e]
    omega
theorem terms_len {xs : List Int} (h : TxOk xs) {n : Nat} (hn : n ≤ 90) : ∀ t ∈ termsN xs n, 0 < t.length ∧ t.length ≤ 12 ∧ PyData.strOk t = true := fun t ht => by
  unfold termsN at ht
  obtain ⟨i, hi, rfl⟩ := List.mem_map.mp ht
  obtain ⟨h1, h2⟩ := List.mem_filter.mp hi
  have h3 := List.mem_range.mp h1
  have h4 := h.at_ i
  exact term_len h4.1 h4.2 (by simpa using h2) (by omega)
theorem termsN_length (xs : List Int) (n : Nat) : (termsN xs n).length ≤ n := by
  unfold termsN
  rw [List.length_map]
  have := List.length_filter_le (fun i => xs.getD i 0 != 0) (List.range n)
  rw [List.length_range] at this
  exact this
theorem sum_le {ts : List Str} {m : Nat} (h : ∀ t ∈ ts, t.length ≤ m) : (ts.map (·.length)).sum ≤ ts.length * m := by
  induction ts with
  | nil => simp
  | cons a l ih =>
    have h1 := ih fun t ht => h t (List.mem_cons_of_mem _ ht)
    have h2 := h a List.mem_cons_self
    rw [List.map_cons, List.sum_cons, List.length_cons, Nat.succ_mul]
    omega
theorem join_len (a : Str) : ∀ ts : List Str, (Str.join a ts).length ≤ (ts.map (·.length)).sum + ts.length * a.length
  | [] => by simp [Str.join, Str.empty, Str.length]
  | [x] => by simp [Str.join]
  | x :: y :: r => by
    have ih := join_len a (y :: r)
    have e : Str.join a (x :: y :: r) = x ++ a ++ Str.join a (y :: r) := rfl
    rw [e, slen, slen]
    rw [List.map_cons, List.sum_cons, List.length_cons, Nat.succ_mul]
    omega
theorem join_pos (a : Str) {x : Str} (r : List Str) (h : 0 < x.length) : 0 < (Str.join a (x :: r)).length := by
  cases r with
  | nil => exact h
  | cons y r =>
    have e : Str.join a (x :: y :: r) = x ++ a ++ Str.join a (y :: r) := rfl
    rw [e, slen, slen]
    omega
def polyT (xs : List Int) : Str := if terms xs = [] then "0" else Txt.join " + " (terms xs)
def fnT (F : PF) : Str := if F.2 = [1] then polyT F.1 else ((("(" ++ polyT F.1) ++ ")/(") ++ polyT F.2) ++ ")"
theorem joinT_len {xs : List Int} (h : TxOk xs) : (Txt.join " + " (terms xs)).length ≤ 2000 ∧ ((terms xs).map (·.length)).sum + (terms xs).length * (" + " : Str).length ≤ 2000 := by
  have h1 := sum_le (m := 12) fun t ht => (terms_len h h.2 t ht).2.1
  have h2 := termsN_length xs xs.length
  have h3 := join_len " + " (terms xs)
  have h4 : (" + " : Str).length = 3 := by decide +kernel
  have h5 := h.2
  rw [TL.join_eq]
  unfold terms at h3 ⊢
  rw [h4] at h3 ⊢
  omega
theorem joinT_zero {xs : List Int} (h : TxOk xs) : (Txt.join " + " (terms xs)).length = 0 ↔ terms xs = [] := by
  rw [TL.join_eq]
  cases e : terms xs with
  | nil => simp [Str.join, Str.empty, Str.length]
  | cons x r =>
    have hx := (terms_len h h.2 x (by show x ∈ terms xs; rw [e]; exact List.mem_cons_self)).1
    have := join_pos " + " r hx
    simp
    omega
theorem polyT_len {xs : List Int} (h : TxOk xs) : (polyT xs).length ≤ 2000 := by
  unfold polyT
  split
  · exact Nat.le_of_ble_eq_true (by decide +kernel)
  · exact (joinT_len h).1
/-! ### rules of texts -/
section
variable {K : PySem.W.Frag} {σ : L2.St} {H H' : Hp} {te tf : TE} {ts : List TE} {acc out y z : Str} {i : Int}
theorem log_ok (h : i.natAbs ≤ 1000) : i.natAbs.log2 < 1920 := by
  have := Nat.log2_le_self i.natAbs
  omega
theorem evr_strI {rr : List V → Hp → VK → Prop} (hrr : rr = fun xs H Q => ∃ i, xs = [.int i] ∧ i.natAbs.log2 < 1920 ∧ Q (.str (toString i)) H) (h : EvR te σ H (vI i)) (hz : i.natAbs ≤ 1000) : EvR (tCB rr (tCons te tNil)) σ H (vS (tI i)) := fun H1 e Q k => h H1 e _ fun v H2 e2 hv => by
  have hv' : v = .int i := hv
  subst hrr hv'
  exact ⟨i, rfl, log_ok hz, k _ H2 e2 rfl⟩
theorem op_addS (hz : y.length + z.length ≤ 100000) : OpV (fun x y H Q => ∃ i j, x = .str i ∧ y = .str j ∧ i.length + j.length ≤ sizeLine ∧ Q (.str (i ++ j)) H) (vS y) (vS z) (vS (y ++ z)) H := fun a b H1 _ ha hb Q q => ⟨y, z, ha, hb, sz_of hz, q _ H1 (Ex.refl H1) rfl⟩
theorem evr_fmtS (h : EvR te σ H (vS y)) (hz : y.length ≤ 100000) : EvR (tFmt te) σ H (vS y) := fun H1 e Q k => h H1 e _ fun v H2 e2 hv => .inl ⟨y, hv, sz_of hz, k _ H2 e2 rfl⟩
theorem evr_fmtI (h : EvR te σ H (vI i)) (hz : i.natAbs ≤ 1000) : EvR (tFmt te) σ H (vS (tI i)) := fun H1 e Q k => h H1 e _ fun v H2 e2 hv => .inr ⟨i, hv, log_ok hz, k _ H2 e2 rfl⟩
/-- the parts of an f-string -/
def Js (ts : List TE) (σ : L2.St) (H : Hp) (acc out : Str) : Prop := ∀ H1, Ex H H1 → ∀ Q : Str → Hp → Prop, (∀ H2, Ex H1 H2 → Q out H2) → tJs ts acc σ H1 Q
theorem js_nil : Js [] σ H acc acc := fun H1 _ Q q => q H1 (Ex.refl H1)
theorem js_cons (h : EvR te σ H (vS y)) (hz : (acc ++ y).length ≤ 100000) (h2 : Js ts σ H (acc ++ y) out) : Js (te :: ts) σ H acc out := fun H1 e Q q => h H1 e _ fun v H2 e2 hv => ⟨y, hv, sz_of hz, h2 H2 (e.trans e2) Q fun H3 e3 => q H3 (e2.trans e3)⟩
theorem evr_js (h : Js ts σ H Str.empty out) : EvR (fun σ H Q => tJs ts Str.empty σ H fun out H1 => Q (.str out) H1) σ H (vS out) := fun H1 e Q q => h H1 e _ fun H2 e2 => q _ H2 e2 rfl
theorem evr_orS (h : EvR te σ H (vS z)) (hz : z.length ≤ 100000) (h2 : EvR tf σ H (vS y)) : EvR (tOrT K te tf) σ H (vS (if z.length = 0 then y else z)) := fun H1 e Q q => h H1 e _ fun v H2 e2 hv => by
  have hv' : v = .str z := hv
  subst hv'
  refine ⟨_, ⟨sz_of hz, rfl⟩, ?_⟩
  by_cases h0 : z.length = 0
  · rw [if_pos h0] at q
    have hb : ((z.length : Int) != 0) = false := by simp [h0]
    rw [hb]
    exact iteF (h2 H2 (e.trans e2) Q fun v H3 e3 hv => q v H3 (e2.trans e3) hv)
  · rw [if_neg h0] at q
    have hb : ((z.length : Int) != 0) = true := by simp; omega
    rw [hb]
    exact iteT (q _ H2 e2 rfl)
theorem evr_joinV {i : Nat} {l : Addr} {a : Str} {ys : List Str} {r : V → List V → Hp → VK → Prop} (hr : r = fun x xs H Q => ∃ a p, ∃ ys : List Str, x = .str a ∧ xs = [.ref p] ∧ (SqL K H p (ys.map V.str) ∨ SqT K H p (ys.map V.str)) ∧ (ys.map (·.length)).sum + ys.length * a.length ≤ 16777216 ∧ Q (.str (Txt.join a ys)) H)
    (hs : σ[i]? = some (some (.ref l))) (hl : H l = some (.lst (ys.map V.str))) (hz : (ys.map (·.length)).sum + ys.length * a.length ≤ 16777216) : EvR (tBM K "str" r (tC (.str a)) (tCons (tVar i) tNil)) σ H (vS (Txt.join a ys)) := fun H1 e Q q => by
  subst hr
  exact ⟨rfl, _, hs, a, l, ys, rfl, rfl, .inl (sq_of (e _ _ hl)), hz, q _ H1 (Ex.refl _) rfl⟩
def dSs (ts : List Str) : PyData := .list (ts.map PyData.str)
theorem dpa_strs (K : PySem.W.Frag) (H : Hp) : ∀ ts : List Str, DpAll K H (ts.map V.str) (ts.map PyData.str)
  | [] => .nil
  | n :: ns => .cons (.str n) (dpa_strs K H ns)
theorem eqv_Ss (ts : List Str) : PyData.eqv (dSs ts) (dL []) = decide (ts = []) := by
  unfold dSs dL
  rw [PyData.eqv]
  cases ts <;> simp [PyData.eqvAll]
theorem lay_strs : ∀ ts : List Str, (∀ t ∈ ts, PyData.strOk t = true) → PyData.canLayAll0 (ts.map PyData.str) = true
  | [], _ => rfl
  | x :: xs, h => by rw [List.map_cons, PyData.canLayAll0, lay_strs xs fun t ht => h t (List.mem_cons_of_mem _ ht), PyData.canLay0, h x List.mem_cons_self] <;> rfl
theorem depth_strs : ∀ xs : List Str, PyData.depthAll (xs.map PyData.str) = 0
  | [] => rfl
  | x :: xs => by rw [List.map_cons, PyData.depthAll, depth_strs xs, PyData.depth] <;> rfl
theorem shaped_Ss (ts : List Str) (h : ∀ t ∈ ts, PyData.strOk t = true) : SeqAt.shaped (dSs ts) = true := by
  unfold SeqAt.shaped dSs
  rw [PyData.canLay0, lay_strs ts h, PyData.depth, depth_strs]
  rfl
end
end K0
namespace K0
open PySem PySem.Spec PyProof.Rows L2 Kt M
open Evl (Ex Ev EvL EvU EvT EvA EvO ex_l ex_t sq_of st_of sz_of sz_lt fresh_back given)
structure GTm where
  n : Int
  k : Nat
theorem eqv_i {x y : Int} : decide (V.int x = V.int y) = true ↔ x = y := by
  rw [scal_int, decide_eq_true_eq]
theorem nev_i {x y : Int} : decide (V.int x = V.int y) = false ↔ ¬ x = y := by
  rw [scal_int, decide_eq_false_iff_not]
theorem xk_len (k : Nat) (hk : k < 100) : ((if k = 1 then ("x" : Str) else ("x^" : Str) ++ tI k)).length ≤ 10 := by
  have h1 : ("x" : Str).length = 1 := by decide +kernel
  have h2 : ("x^" : Str).length = 2 := by decide +kernel
  have h3 := tI_len (i := (k : Int)) (by omega) (by omega)
  split
  · omega
  · rw [slen]
    omega
section
variable {P : Program} {w : World} {K : PySem.W.Frag} {mg : Str → Option Value} {base : Heap} {C : Addr}
def sp_term_text (_ : PySem.W.Frag) : Sp := Con (G := GTm) (fun g => 0 ≤ g.n ∧ g.n < 10 ∧ g.k < 100) (fun g => [vI g.n, vI (g.k : Int)]) (fun g => vS (termT g.n g.k))
def sp_poly_text (K : PySem.W.Frag) : Sp := Con (G := List Int) TxOk (fun xs => [vP K xs]) (fun xs => vS (polyT xs))
def sp__law_po_text (K : PySem.W.Frag) : Sp := Con (G := List Int) TxOk (fun xs => [vP K xs]) (fun xs => vS (polyT xs))
def sp_F___str__ (K : PySem.W.Frag) (C : Addr) : Sp := Con (G := GF) (fun g => TxOk g.F.1 ∧ TxOk g.F.2) (fun g => [vF K C g.p g.F]) (fun g => vS (fnT g.F))
def sp__law_fn_text (K : PySem.W.Frag) : Sp := Con (G := PF) (fun F => TxOk F.1 ∧ TxOk F.2) (fun F => [vT K [vP K F.1, vP K F.2]]) (fun F => vS (fnT F))
def sp__law_fn_degree (K : PySem.W.Frag) : Sp := Con (G := PF) (fun _ => True) (fun F => [vT K [vP K F.1, vP K F.2]]) (fun F => vI ((F.1.length : Int) - (F.2.length : Int)))
abbrev s_term_text : Stmt := topS 53
abbrev N_term_text : List Str := ["number", "power", "letter"]
theorem sc_term_text : FnScope N_term_text ["number", "power"] (defScope s_term_text) := ⟨rfl, rfl, rfl, by decide +kernel, rfl, by decide +kernel, by decide +kernel⟩
theorem ok_term_text {f : Addr} {fd : FuncData} (F : Fun K "term_text" "term_text" s_term_text f fd) (B : Bis mg) (cf : CFm K mg C)   : FnOk P w K mg base CX0 2 f fd ["number", "power"] (sp_term_text K) := by
  refine F.ok sc_term_text (fun vs H Q E h => ?_) (fun cdv A outer s H vs Q E hr h => ?_)
  · obtain ⟨g, _, ha, _⟩ := h
    exact ha.len
  · obtain ⟨⟨n, k⟩, ⟨h0, h1, hk⟩, ⟨_, _, rfl, rfl, ⟨_, _, rfl, rfl, rfl⟩⟩, q⟩ := h
    dsimp only at *
    refine ⟨_, (pss_cons (ps_if (pt_cmpR op_eq (pv 1) pe_int (nomark _)) (pss_one (ps_ret (pe_callTy call_str_int (by rfl) (B "str" (by decide +kernel)) (by decide +kernel) (pa_cons (pv 0) pa_nil)))) pss_nil)
      (pss_cons (ps_set (i := 2) sc_term_text.nd rfl (Or.inl rfl) (pe_ifExp (pt_cmpR op_eq (pv 1) pe_int (nomark _)) pe_str (pe_joined (.cons pe_str (.cons (pe_fmt (pv 1)) .nil)))))
      (pss_one (ps_ret (pe_ifExp (pt_cmpR op_eq (pv 0) pe_int (nomark _)) (pv 2) (pe_joined (.cons (pe_fmt (pv 0)) (.cons pe_str (.cons (pe_fmt (pv 2)) .nil))))))))), ?_⟩
    have hl := xk_len k hk
    have ht := tI_len h0 (by omega)
    have s2 : ("x^" : Str).length = 2 := by decide +kernel
    have s1 : (" " : Str).length = 1 := by decide +kernel
    have hk3 := tI_len (i := (k : Int)) (by omega) (by omega)
    refine Evl.q_when (et_r (evr_op (evr_var rfl rfl) evr_c (op_eqS (x := .int (k : Int)) (y := .int 0) rfl))) (fun hb H1 e1 => ?_) (fun hb H1 e1 => ?_)
    · have hb' : k = 0 := by have := eqv_i.mp hb; omega
      subst hb'
      exact sr_ret (evr_strI rfl (evr_var rfl rfl) (by omega)) fun v H2 e2 hv => q v H2 (e1.trans e2) (by unfold termT; rw [if_pos rfl]; exact hv)
    have hb' : ¬ k = 0 := fun z => by
      have := nev_i.mp hb
      omega
    refine qr_asg (r := vS (if k = 1 then ("x" : Str) else ("x^" : Str) ++ tI k)) (evr_if (et_r (evr_op (evr_var rfl rfl) evr_c (op_eqS (x := .int (k : Int)) (y := .int 1) rfl))) (fun hc => ?_) (fun hc => ?_)) fun x2 H2 e2 h2 => ?_
    · have hc' : k = 1 := by have := eqv_i.mp hc; omega
      rw [if_pos hc']
      exact evr_c
    · have hc' : ¬ k = 1 := fun z => by
        have := nev_i.mp hc
        omega
      rw [if_neg hc']
      have z := evr_js (js_cons (acc := Str.empty) (evr_c (σ := [some (.int n), some (.int (k : Int)), none]) (H := H1) (v := .str "x^")) (by rw [PySem.Str.empty_append]; omega) (js_cons (evr_fmtI (i := (k : Int)) (evr_var (i := 1) rfl rfl) (by omega)) (by rw [PySem.Str.empty_append, slen]; omega) js_nil))
      rw [PySem.Str.empty_append] at z
      exact z
    obtain rfl : x2 = .str (if k = 1 then ("x" : Str) else ("x^" : Str) ++ tI k) := h2
    refine sr_ret (r := vS (termT n k)) (evr_if (et_r (evr_op (evr_var rfl rfl) evr_c (op_eqS (x := .int n) (y := .int 1) rfl))) (fun hc => ?_) (fun hc => ?_)) fun v H3 e3 hv => q v H3 ((e1.trans e2).trans e3) hv
    · have hc' : n = 1 := eqv_i.mp hc
      unfold termT
      rw [if_neg hb', if_pos hc']
      exact evr_var rfl rfl
    · have hc' : ¬ n = 1 := nev_i.mp hc
      unfold termT
      rw [if_neg hb', if_neg hc']
      have z := evr_js (js_cons (acc := Str.empty) (evr_fmtI (σ := [some (.int n), some (.int (k : Int)), some (.str (if k = 1 then ("x" : Str) else ("x^" : Str) ++ tI k))]) (H := H2) (i := n) (evr_var (i := 0) rfl rfl) (by omega)) (by rw [PySem.Str.empty_append]; omega) (js_cons (evr_c (v := .str " ")) (by rw [PySem.Str.empty_append, slen]; omega) (js_cons (evr_fmtS (y := if k = 1 then ("x" : Str) else ("x^" : Str) ++ tI k) (evr_var (i := 2) rfl rfl) (by omega)) (by rw [PySem.Str.empty_append, slen, slen]; omega) js_nil)))
      rw [PySem.Str.empty_append] at z
      exact z
abbrev s_poly_text : Stmt := topS 52
abbrev N_poly_text : List Str := ["poly", "power", "number"]
theorem sc_poly_text : FnScope N_poly_text ["poly"] (defScope s_poly_text) := ⟨rfl, rfl, rfl, by decide +kernel, rfl, by decide +kernel, by decide +kernel⟩
theorem ok_poly_text {f : Addr} {fd : FuncData} (F : Fun K "poly_text" "poly_text" s_poly_text f fd) (B : Bis mg) (cf : CFm K mg C)  (D_term_text : De P w K mg base "term_text" ["number", "power"] 2 (sp_term_text K)) : FnOk P w K mg base CX0 3 f fd ["poly"] (sp_poly_text K) := by
  refine F.ok sc_poly_text (fun vs H Q E h => ?_) (fun cdv A outer s H vs Q E hr h => ?_)
  · obtain ⟨g, _, ha, _⟩ := h
    exact ha.len
  · obtain ⟨xs, hx, ⟨v_poly, _, rfl, h_poly, rfl⟩, q⟩ := h
    dsimp only at *
    refine ⟨_, (pss_one (ps_ret (pe_orT (pe_bm PySem.F.plainAttrs_str PySem.F.slot_str_join PySem.F.type_str_join mt_join pe_str (pa_cons (pe_lc (own := [("power", 1), ("number", 2)]) (g := (gTup K 2 (gCons (gName 1) (gCons (gName 2) gNil)))) (tt := tTr K (tVar 2)) rfl sc_poly_text.nd (pi_enumK true (by rfl) (B "enumerate" (by decide +kernel)) (pa_cons (pv 0) pa_nil)) (blkOk_by (own := [("power", 1), ("number", 2)]) (N := N_poly_text) (sc := defScope s_poly_text) (by decide +kernel)) (fun _ _ _ _ _ => (pg_tup rfl (pgs_cons (pg_name (i := 1) sc_poly_text.nd rfl (Or.inl rfl)) (pgs_cons (pg_name (i := 2) sc_poly_text.nd rfl (Or.inl rfl)) pgs_nil)))) (fun _ _ _ _ _ => pts_one (pt_truth (pv 2) (by intro _; rfl))) (fun _ _ _ _ _ => (pe_call D_term_text.ok (hr.mono (by decide)) (by rfl) D_term_text.g D_term_text.kp D_term_text.b .nil pass0 (pa_cons (pv 2) (pa_cons (pv 1) pa_nil))))) pa_nil)) (pe_one pe_str)))), ?_⟩
    have hw := wk_enumK (p := true) (K := K) (σ := [some v_poly, none, none]) (H := H) (ta := tCons (tVar 0) tNil) (as := xs) (evrs_cons (EvR.kP (evr_var rfl h_poly)) evrs_nil)
    have hxl := hx.2
    have el := fun (tt : TT) (te : TE) (ht : ∀ (x n : Int), ∀ H2, Ex H H2 → EvT tt [some v_poly, some (.int n), some (.int x)] H2 (x != 0)) (hv : ∀ i : Nat, i < xs.length → (xs.getD i 0 != 0) = true → ∀ H2, Ex H H2 → EvR te [some v_poly, some (.int ((0 : Int) + (i : Int))), some (.int (xs.getD i 0))] H2 (vS (termT (xs.getD i 0) i))) => el_comp (vs := [1, 2]) (g := gTup K 2 (gCons (gName 1) (gCons (gName 2) gNil))) (tt := tt) (te := te) hw (fun i => xs.getD i 0 != 0) (fun i => .str (termT (xs.getD i 0) i)) (by rw [List.length_map]; omega) (fun i v H1 H2 hi e y R k => by
      obtain ⟨T, x, y, rfl, hT, rfl, hx1, hx2⟩ := y
      rw [List.length_map] at hi
      have hxi : xs[i]? = some xs[i] := List.getElem?_eq_getElem hi
      have eg : xs.getD i 0 = xs[i] := by simp [List.getD, hxi]
      have hx2' : (xs.map V.int)[i]? = some y := hx2
      rw [List.getElem?_map, hxi] at hx2'
      have ex : V.int xs[i] = y := Option.some.inj hx2'
      have ex1 : V.int ((0 : Int) + (i : Nat)) = x := Option.some.inj hx1
      subst ex ex1
      rw [← eg]
      exact ⟨T, _, rfl, st_of upd_same, rfl, _, _, rfl, _, _, rfl, rfl, k _ _ rfl (Ex.new hT) (ht _ _ _ (e.trans (Ex.new hT))) fun hb => (hv i hi hb _ (e.trans (Ex.new hT))).ev⟩)
    have eg : given (xs.map V.int).length (fun i => xs.getD i 0 != 0) (fun i => V.str (termT (xs.getD i 0) i)) = (terms xs).map V.str := by
      unfold given terms termsN
      rw [List.length_map, List.map_map]
      rfl
    rw [eg] at el
    have hj := joinT_len hx
    have hz := joinT_zero hx
    refine sr_ret (evr_orS (z := Txt.join " + " (terms xs)) (y := "0") (evr_join rfl (el _ _ (fun x n H2 e2 => et_truI (evr_var rfl rfl)) fun i hi hb H2 e2 => ?_) (by omega)) (by omega) evr_c) fun v H1 e1 hv => q v H1 e1 ?_
    · have h4 := hx.at_ i
      exact evr_call (GTm.mk (xs.getD i 0) i) ⟨h4.1, h4.2, by show i < 100; omega⟩ (evrs_cons (evr_var rfl rfl) (evrs_cons (evr_var rfl (by show V.int _ = V.int _; rw [Int.zero_add])) evrs_nil))
    · unfold polyT
      by_cases h : terms xs = []
      · rw [if_pos h]
        rw [if_pos (hz.mpr h)] at hv
        exact hv
      · rw [if_neg h]
        rw [if_neg (fun z => h (hz.mp z))] at hv
        exact hv
end
end K0
namespace K0
open PySem PySem.Spec PyProof.Rows L2 Kt M
open Evl (Ex Ev EvL EvU EvT EvA EvO ex_l ex_t sq_of st_of sz_of sz_lt fresh_back given)
section
variable {P : Program} {w : World} {K : PySem.W.Frag} {mg : Str → Option Value} {base : Heap} {C : Addr}
abbrev s_F___str__ : Stmt := inClass (topS 44) 21
abbrev N_F___str__ : List Str := ["self"]
theorem sc_F___str__ : FnScope N_F___str__ ["self"] (defScope s_F___str__) := ⟨rfl, rfl, rfl, by decide +kernel, rfl, by decide +kernel, by decide +kernel⟩
theorem ok_F___str__ {f : Addr} {fd : FuncData} (F : Fun K "__str__" "Function.__str__" s_F___str__ f fd) (B : Bis mg) (cf : CFm K mg C)  (D_poly_text : De P w K mg base "poly_text" ["poly"] 3 (sp_poly_text K)) : FnOk P w K mg base CX0 4 f fd ["self"] (sp_F___str__ K C) := by
  refine F.ok sc_F___str__ (fun vs H Q E h => ?_) (fun cdv A outer s H vs Q E hr h => ?_)
  · obtain ⟨g, _, ha, _⟩ := h
    exact ha.len
  · obtain ⟨⟨p, F0⟩, ⟨t1, t2⟩, ⟨v_self, _, rfl, h_self, rfl⟩, q⟩ := h
    dsimp only at *
    refine ⟨_, (pss_cons (ps_if (pt_cmpR (r := rEqD K) (op_eqD hr.units) (pe_fld (pv 0) rfl) (pe_tup (pa_cons pe_int pa_nil)) (nomark _)) (pss_one (ps_ret (pe_joined1 (pe_fmt (pe_call D_poly_text.ok (hr.mono (by decide)) (by rfl) D_poly_text.g D_poly_text.kp D_poly_text.b .nil pass0 (pa_cons (pe_fld (pv 0) rfl) pa_nil)))))) pss_nil)
      (pss_one (ps_ret (pe_joined (.cons pe_str (.cons (pe_fmt (pe_call D_poly_text.ok (hr.mono (by decide)) (by rfl) D_poly_text.g D_poly_text.kp D_poly_text.b .nil pass0 (pa_cons (pe_fld (pv 0) rfl) pa_nil))) (.cons pe_str (.cons (pe_fmt (pe_call D_poly_text.ok (hr.mono (by decide)) (by rfl) D_poly_text.g D_poly_text.kp D_poly_text.b .nil pass0 (pa_cons (pe_fld (pv 0) rfl) pa_nil))) (.cons pe_str .nil))))))))), ?_⟩
    have l1 := polyT_len t1
    have l2 := polyT_len t2
    have s1 : ("(" : Str).length = 1 := by decide +kernel
    have s2 : (")/(" : Str).length = 3 := by decide +kernel
    have s3 : (")" : Str).length = 1 := by decide +kernel
    refine Evl.q_when (et_r (evr_op (evr_fldB cf.c (evr_var rfl h_self)) (evr_disp (K := K) (ns := [1]) (evrs_cons evr_c evrs_nil) (by decide)) op_eqP)) (fun hb H1 e1 => ?_) (fun hb H1 e1 => ?_)
    · have hb' : F0.2 = [1] := of_decide_eq_true hb
      refine sr_ret (evr_fmtS (evr_call F0.1 t1 (evrs_cons (evr_fldT cf.c (evr_var rfl (up h_self e1))) evrs_nil)) (by show (polyT F0.1).length ≤ 100000; omega)) fun v H2 e2 hv => q v H2 (e1.trans e2) ?_
      unfold fnT
      rw [if_pos hb']
      exact hv
    · have hb' : ¬ F0.2 = [1] := of_decide_eq_false hb
      have z := evr_js (js_cons (acc := Str.empty) (evr_c (σ := [some v_self]) (H := H1) (v := .str "(")) (by rw [PySem.Str.empty_append]; omega)
        (js_cons (y := polyT F0.1) (evr_fmtS (evr_call (E := E0) (pre := TxOk) (args := fun xs => [vP K xs]) (res := fun xs => vS (polyT xs)) F0.1 t1 (evrs_cons (evr_fldT cf.c (evr_var (i := 0) rfl (up h_self e1))) evrs_nil)) (by show (polyT F0.1).length ≤ 100000; omega)) (by rw [PySem.Str.empty_append, slen]; omega)
        (js_cons (evr_c (v := .str ")/(")) (by rw [PySem.Str.empty_append, slen, slen]; omega)
        (js_cons (y := polyT F0.2) (evr_fmtS (evr_call (E := E0) (pre := TxOk) (args := fun xs => [vP K xs]) (res := fun xs => vS (polyT xs)) F0.2 t2 (evrs_cons (evr_fldB cf.c (evr_var (i := 0) rfl (up h_self e1))) evrs_nil)) (by show (polyT F0.2).length ≤ 100000; omega)) (by rw [PySem.Str.empty_append, slen, slen, slen]; omega)
        (js_cons (evr_c (v := .str ")")) (by rw [PySem.Str.empty_append, slen, slen, slen, slen]; omega) js_nil)))))
      rw [PySem.Str.empty_append] at z
      refine sr_ret z fun v H2 e2 hv => q v H2 (e1.trans e2) ?_
      unfold fnT
      rw [if_neg hb']
      exact hv
end
end K0
namespace K0
open PySem PySem.Spec PyProof.Rows L2 Kt M
open Evl (Ex Ev EvL EvU EvT EvA EvO ex_l ex_t sq_of st_of sz_of sz_lt fresh_back given)
section
variable {X : Cx} {CX : CXT} {k i : Nat} {C f : Addr} {fd : FuncData} {ps : List Str} {sp : Sp} {dvs : List V} {ds : List Value} {E : XK} {x : Str} {p pos : Pos} {e : Expr} {es : List Expr} {t : TA}
/-- cls(..), the class in a slot -/
def tMakeL (i : Nat) (C : Addr) (sp : Sp) (dvs : List V) (E : XK) (t : TA) : TE := fun σ H Q => σ[i]? = some (some (.ref C)) ∧ tMake C sp dvs E t σ H Q
theorem pe_makeL (M : Mk X.K C f) (F : FnOk X.prog X.w X.K X.mg X.base CX k f fd ps sp) (hr : Room (k + 1) X.A) (hN : X.N[i]? = some x) (hv : Vis X.env.scope x) (hb : Binds X.K fd ps ds) (hd : Vals dvs ds) (hx : Passes CX X E) (ha : PA X (e :: es) t)
    (hdb : (x == ("__debug__" : Str)) = false := by decide) (hcd : (x == ("__classdict__" : Str)) = false := by decide)
    (he : starEach (e :: es) X.env = (false, eval e X.env) :: starEach es X.env := by rfl) (hpl : (backTo pos (starEach es X.env)).any (·.1) = false := by rfl) : PE X (.Call (.Name x p) (e :: es) [] pos) (tMakeL i C sp dvs E t) := by
  refine ⟨fun pins s σ H Q I h => ?_⟩
  obtain ⟨hs, ht⟩ := h
  refine wpAny_Call_Name_kw (thn ((pe_var (pos := p) hN hv hdb hcd).run pins s σ H (fun v H1 => v = .ref C ∧ H1 = H) I ⟨.ref C, hs, rfl, rfl⟩) fun u s1 ⟨v, H1, I1, r1, q1⟩ => ?_)
  obtain ⟨rfl, rfl⟩ := q1
  cases r1
  refine PySem.W.callWith_K (h₀ := X.base) I.ok.mod.kin M.kp (thn (ha.run pos pins s1 σ _ _ I1 ht) fun us s2 ⟨vs, H2, I2, r, q⟩ => ⟨I2.kIn, ?_⟩) he hpl
  exact run_make M F hr hb hd hx I2 r q
end
section
variable {K : PySem.W.Frag} {C : Addr} {σ : L2.St} {H : Hp} {te : TE} {ta : TA} {ns xs ys : List Int} {p : Int} {i : Nat} {E : XK}
theorem evr_tupleT {rr : List V → Hp → VK → Prop} (hrr : rr = fun xs H Q => ∃ p ys, xs = [.ref p] ∧ ((SqL K H p ys ∧ ∀ l, H l = none → Q (.ref l) (upd H l (.tup ys))) ∨ (SqT K H p ys ∧ Q (.ref p) H))) (h : EvR te σ H (vP K ns)) : EvR (tCB rr (tCons te tNil)) σ H (vP K ns) := fun H1 e Q q =>
  h H1 e _ fun v H2 e2 hv => by
    subst hrr
    obtain ⟨a, rfl, hx⟩ := id hv
    exact ⟨a, _, rfl, .inr ⟨hx, q _ H2 e2 hv⟩⟩
theorem evr_makeL (hs : σ[i]? = some (some (.ref C))) (hp : Pr p) (hx : PolyOk p xs) (hy : PolyOk p ys) (ny : ys ≠ []) (h : EvRs ta σ H [vI p, vP K xs, vP K ys]) : EvR (tMakeL i C (sp_F___init__ K C) [] E ta) σ H (vF K C p (nf p xs ys)) := fun H1 e Q k => ⟨hs, evr_make hp hx hy ny h H1 e Q k⟩
end
/-- a function of the law: a pair -/
abbrev vG (K : PySem.W.Frag) (F : PF) : VR := vT K [vP K F.1, vP K F.2]
theorem trim_one {p n : Int} (hp : Pr p) : PolyOk p (trim [n % p]) := by
  have h := hp.le
  have h1 : 0 ≤ n % p := Int.emod_nonneg _ (by omega)
  have h2 : n % p < p := Int.emod_lt_of_pos _ (by omega)
  refine ⟨fun m hm => ?_, trim_trim _, Nat.le_trans (trim_len _) (Nat.le_of_ble_eq_true rfl)⟩
  have z := trim_sub hm
  obtain rfl := List.mem_singleton.mp z
  exact ⟨h1, h2⟩
section
variable {P : Program} {w : World} {K : PySem.W.Frag} {mg : Str → Option Value} {base : Heap} {C : Addr}
def sp_trimmedT (K : PySem.W.Frag) : Sp := Con (G := List Int) (fun ns => ns.length ≤ 100000) (fun ns => [vP K ns]) (fun ns => vP K (trim ns))
structure GFk where
  p : Int
  F : PF
  f : Int
/-- the function of an integer; the letter -/
def fNum (p n : Int) : PF := (trim [n % p], [1])
def fLet : PF := ([0, 1], [1])
def sp_F_number (K : PySem.W.Frag) (C : Addr) : Sp := Con (G := G2) (fun g => Pr g.p ∧ isInt (.int g.n) = true) (fun g => [vC (.ref C), vI g.p, vI g.n]) (fun g => vF K C g.p (fNum g.p g.n))
def sp_F_letter (K : PySem.W.Frag) (C : Addr) : Sp := Con (G := Int) Pr (fun p => [vC (.ref C), vI p]) (fun p => vF K C p fLet)
def FnPre (p : Int) (t b : List Int) : Prop := Pr p ∧ Pl p t ∧ Pl p b ∧ b ≠ [] ∧ t.length ≤ 200 ∧ b.length ≤ 200
def sp__law_fn_made (K : PySem.W.Frag) : Sp := Con (G := GTB) (fun g => FnPre g.p g.t g.b) (fun g => [vI g.p, vP K g.t, vP K g.b]) (fun g => vG K (nf g.p g.t g.b))
def sp__law_fn_sum (K : PySem.W.Frag) : Sp := Con (G := GAF) FF (fun g => [vI g.p, vG K g.F, vG K g.G, vI g.f]) (fun g => vG K (fAdd g.p g.F g.G g.f))
def sp__law_fn_times (K : PySem.W.Frag) : Sp := Con (G := GAF) FF (fun g => [vI g.p, vG K g.F, vG K g.G]) (fun g => vG K (fMul g.p g.F g.G))
def sp__law_fn_back (K : PySem.W.Frag) : Sp := Con (G := GF) (fun g => Pr g.p ∧ NF g.p g.F ∧ Le 40 g.F ∧ g.F.1 ≠ []) (fun g => [vI g.p, vG K g.F]) (fun g => vG K (fBack g.p g.F))
def sp__law_fn_over (K : PySem.W.Frag) : Sp := Con (G := GAF) (fun g => FF g ∧ g.G.1 ≠ []) (fun g => [vI g.p, vG K g.F, vG K g.G]) (fun g => vG K (fMul g.p g.F (fBack g.p g.G)))
def sp__law_fn_power (K : PySem.W.Frag) : Sp := Con (G := GFn) (fun g => Pr g.p ∧ NF g.p g.F ∧ ∃ m, Le m g.F ∧ 1 + g.n * m ≤ 40 ∧ m ≤ 40) (fun g => [vI g.p, vG K g.F, vI (g.n : Int)]) (fun g => vG K (fPow g.p g.F g.n))
def sp__law_fn_number (K : PySem.W.Frag) : Sp := Con (G := G2) (fun g => Pr g.p) (fun g => [vI g.p, vI g.n]) (fun g => vG K (fNum g.p g.n))
def sp__law_fn_letter (K : PySem.W.Frag) : Sp := Con (G := Unit) (fun _ => True) (fun _ => []) (fun _ => vG K fLet)
def sp__law_as_function (K : PySem.W.Frag) (C : Addr) : Sp := Con (G := GTB) (fun g => Pr g.p ∧ PolyOk g.p g.t ∧ PolyOk g.p g.b ∧ g.b ≠ []) (fun g => [vI g.p, vG K (g.t, g.b)]) (fun g => vF K C g.p (nf g.p g.t g.b))
def sp__law_is_told (K : PySem.W.Frag) (C : Addr) : Sp := Con (G := GF) (fun g => TxOk g.F.1 ∧ TxOk g.F.2) (fun g => [vF K C g.p g.F, vI g.p, vG K g.F]) (fun _ => vB true)
theorem ok_trimmedT {f : Addr} {fd : FuncData} (F : Fun K "trimmed" "trimmed" s_trimmed f fd) (B : Bis mg)  : FnOk P w K mg base CX0 1 f fd ["numbers"] (sp_trimmedT K) := by
  refine F.ok sc_trimmed (fun vs H Q E h => ?_) (fun cdv A outer s H vs Q E hr h => ?_)
  · obtain ⟨g, _, ha, _⟩ := h
    exact ha.len
  · obtain ⟨ns, hlen, ⟨_, _, rfl, ⟨a, rfl, hS⟩, rfl⟩, q⟩ := h
    dsimp only at *
    refine ⟨_, (pss_cons (ps_set (i := 1) sc_trimmed.nd rfl (Or.inl rfl) (pe_callB call_len_seq (by rfl) (B "len" (by decide +kernel)) (by decide +kernel) (pa_cons (pv 0) pa_nil)))
      (pss_cons (ps_while PassesOwn.never (PW.pt (pw_and (pt_truth (pv 1) (by intro _; rfl)) (pw_and1 (pt_cmpR op_eq (pe_ix (r := rIxT K) ix_tup (pv 0) (pe_op op_sub (pv 1) pe_int) (fun _ _ => rfl)) pe_int (nomark _))))) (pss_one (ps_aug (i := 1) sc_trimmed.nd rfl (Or.inl rfl) pe_int ip_sub)))
      (pss_one (ps_ret (pe_callTy call_tuple_of (by rfl) (B "tuple" (by decide +kernel)) (by decide +kernel) (pa_cons (pe_slice sl_tupA (pv 0) po_none (po_some (pv 1))) pa_nil)))))), ?_⟩
    refine ⟨.ref a, rfl, a, _, rfl, .inr hS, ?_⟩
    show tWhile _ _ _ _ _
    refine ⟨fun m σ H1 => m ≤ ns.length ∧ σ = [some (.ref a), some (.int (m : Int))] ∧ Ex H H1 ∧ ∀ x ∈ ns.drop m, x = 0, ⟨ns.length, Nat.le_refl _, by rw [List.length_map]; rfl, Ex.refl H, by simp⟩, fun m σ H1 hW => ?_⟩
    obtain ⟨hm, rfl, e1, hz⟩ := hW
    have fin : (m = 0 ∨ ns[m - 1]? ≠ some 0) → ∀ (H1 : Hp), Ex H H1 → tRet (tCB (fun xs H_1 Q => ∃ p ys, xs = [V.ref p] ∧ ((SqL K H_1 p ys ∧ ∀ (l : Addr), H_1 l = none → Q (V.ref l) (upd H_1 l (HO.tup ys))) ∨ SqT K H_1 p ys ∧ Q (V.ref p) H_1)) (tCons (tSl (rSlA K) (tVar 0) tNoPart (tPart (tVar 1))) tNil)) { nx := fun x H' => Q V.non H', rt := Q } [some (.ref a), some (.int (m : Int))] H1 := by
      intro hc H1 e1
      refine sr_ret (evr_tupleT rfl (evr_slT (lo := none) (hi := some (m : Int)) (evr_var (r := vP K ns) rfl ⟨a, rfl, ex_t e1 hS⟩) eo_none (eo_some (evr_var rfl rfl)))) fun v H2 e2 hv => q v H2 (e1.trans e2) ?_
      rw [trim_take hm hz hc, ← cutI_to hm]
      exact hv
    refine ⟨_, rfl, _, (by show _ = _; rfl), ?_⟩
    by_cases h0 : m = 0
    · subst h0
      refine iteF (iteF ?_)
      exact fin (.inl rfl) H1 e1
    · have hb : ((m : Int) != 0) = true := by simp [h0]
      rw [hb]
      refine iteT ⟨_, rfl, _, rfl, _, _, rfl, rfl, a, _, _, .int (ns[m - 1]'(by omega)), rfl, rfl, ex_t e1 hS, ?_, rfl, _, rfl, ?_⟩
      · have e : ((m : Int) - 1) = ((m - 1 : Nat) : Int) := by omega
        rw [e]
        exact atI_nat (by rw [List.getElem?_map, List.getElem?_eq_getElem]; rfl)
      · by_cases hz0 : ns[m - 1]'(by omega) = 0
        · rw [hz0]
          refine iteT ⟨fun σ' H' => σ' = [some (.ref a), some (.int ((m - 1 : Nat) : Int))] ∧ Ex H H', fun σ' H' hN => ⟨m - 1, by omega, by omega, hN.1, hN.2, ?_⟩, ?_⟩
          · intro x hx
            have : ns.drop (m - 1) = ns[m - 1]'(by omega) :: ns.drop m := by
              have e := List.drop_eq_getElem_cons (l := ns) (i := m - 1) (by omega)
              rwa [show m - 1 + 1 = m by omega] at e
            rw [this, List.mem_cons] at hx
            rcases hx with hx | hx
            · rw [hx, hz0]
            · exact hz x hx
          · refine ⟨_, rfl, _, _, rfl, rfl, ?_, e1⟩
            have e : ((m : Int) - 1) = ((m - 1 : Nat) : Int) := by omega
            show [some (V.ref a), some (V.int ((m : Int) - 1))] = _
            rw [e]
        · have hne : decide (V.int (ns[m - 1]'(by omega)) = V.int 0) = false := decide_eq_false fun z => hz0 (by injection z)
          rw [hne]
          exact iteF (fin (.inr (by rw [List.getElem?_eq_getElem (by omega)]; exact fun z => hz0 (Option.some.inj z))) H1 e1)
end
end K0
namespace K0
open PySem PySem.Spec PyProof.Rows L2 Kt M
open Evl (Ex Ev EvL EvU EvT EvA EvO ex_l ex_t sq_of st_of sz_of sz_lt fresh_back given)
theorem nf_one {p : Int} (hp : Pr p) {t : List Int} (ht : Pl p t) (lt : t.length ≤ 400) : nf p t [1] = (t, [1]) :=
  (nf_is hp ht (.one hp) (by simp) lt (by decide) ⟨ht, .one hp, .one, by rw [e_one]; exact .one⟩ (Re.self _)).symm
theorem okLet {p : Int} (hp : Pr p) : PolyOk p [0, 1] := ⟨fun n hn => by
  have := hp.le
  rcases List.mem_cons.mp hn with h | h
  · omega
  · obtain rfl := List.mem_singleton.mp h
    omega, by rcases hp with rfl | rfl | rfl | rfl <;> rfl, by decide⟩
section
variable {K : PySem.W.Frag} {σ : L2.St} {H : Hp} {te : TE} {F : PF}
theorem evr_g0 (h : EvR te σ H (vG K F)) : EvR (tOp (rIxT K) te (tC (.int 0))) σ H (vP K F.1) := evr_ixT h (evr_c (v := .int ((0 : Nat) : Int))) rfl
theorem evr_g1 (h : EvR te σ H (vG K F)) : EvR (tOp (rIxT K) te (tC (.int 1))) σ H (vP K F.2) := evr_ixT h (evr_c (v := .int ((1 : Nat) : Int))) rfl
theorem evr_pair {t1 t2 : TE} (h1 : EvR t1 σ H (vP K F.1)) (h2 : EvR t2 σ H (vP K F.2)) : EvR (tTup (tCons t1 (tCons t2 tNil))) σ H (vG K F) := evr_dispT (K := K) (evrs_cons h1 (evrs_cons h2 evrs_nil)) (Nat.le_of_ble_eq_true rfl)
theorem evr_k1 : EvR (tTup (tCons (tC (.int 1)) tNil)) σ H (vP K [1]) := evr_disp (ns := [1]) (evrs_cons evr_c evrs_nil) (by decide)
theorem evr_k0 : EvR (tTup tNil) σ H (vP K []) := evr_disp (ns := []) evrs_nil (by decide)
theorem evr_k01 : EvR (tTup (tCons (tC (.int 0)) (tCons (tC (.int 1)) tNil))) σ H (vP K [0, 1]) := evr_disp (ns := [0, 1]) (evrs_cons evr_c (evrs_cons evr_c evrs_nil)) (by decide)
end
theorem div_ne {p : Int} (hp : Pr p) {t b : List Int} (ht : Pl p t) (hb : Pl p b) (nb : b ≠ []) (lt : t.length ≤ 400) (lb : b.length ≤ 400) : (divide p b (common p t b)).1 ≠ [] ∧ common p t b ≠ [] := by
  obtain ⟨_, _, _, _, _, _, _, _, _, h1, h2⟩ := short_ok hp ht hb nb (com_ok hp ht hb lt lb)
  exact ⟨h2, h1⟩
theorem NF.pl {p : Int} {F : PF} (h : NF p F) (l : Le 60 F) : PolyOk p F.1 ∧ PolyOk p F.2 := ⟨⟨h.t.r, h.t.t, by have := l.1; omega⟩, ⟨h.b.r, h.b.t, by have := l.2; omega⟩⟩
section
variable {P : Program} {w : World} {K : PySem.W.Frag} {mg : Str → Option Value} {base : Heap} {C : Addr}
abbrev s__law_fn_made : Stmt := topS 72
abbrev N__law_fn_made : List Str := ["prime", "top", "bottom", "shared", "high", "low", "back"]
theorem sc__law_fn_made : FnScope N__law_fn_made ["prime", "top", "bottom"] (defScope s__law_fn_made) := ⟨rfl, rfl, rfl, by decide +kernel, rfl, by decide +kernel, by decide +kernel⟩
theorem ok__law_fn_made {f : Addr} {fd : FuncData} (F : Fun K "_law_fn_made" "_law_fn_made" s__law_fn_made f fd) (B : Bis mg) (cf : CFm K mg C)  (D__law_po_common : De P w K mg base "_law_po_common" ["prime", "one", "other"] 4 (sp__law_po_common K)) (D__law_po_division : De P w K mg base "_law_po_division" ["prime", "one", "other"] 2 (sp__law_po_division K)) (D__law_po_inverse : De P w K mg base "_law_po_inverse" ["prime", "number"] 1 (sp__law_po_inverse K)) (D__law_po_times : De P w K mg base "_law_po_times" ["prime", "poly", "number"] 2 (sp__law_po_times K)) : FnOk P w K mg base CX0 6 f fd ["prime", "top", "bottom"] (sp__law_fn_made K) := by
  refine F.ok sc__law_fn_made (fun vs H Q E h => ?_) (fun cdv A outer s H vs Q E hr h => ?_)
  · obtain ⟨g, _, ha, _⟩ := h
    exact ha.len
  · obtain ⟨⟨p, t, b⟩, ⟨hp, pt, pb, nb, lt, lb⟩, ⟨_, _, rfl, rfl, ⟨v_top, _, rfl, h_top, ⟨v_bottom, _, rfl, h_bottom, rfl⟩⟩⟩, q⟩ := h
    dsimp only at *
    refine ⟨_, (pss_cons (ps_if (pt_cmpR (r := rEqD K) (op_eqD hr.units) (pv 1) (pe_tup pa_nil) (nomark _)) (pss_one (ps_ret (pe_tup (pa_cons (pe_tup pa_nil) (pa_cons (pe_tup (pa_cons pe_int pa_nil)) pa_nil))))) pss_nil)
      (pss_cons (ps_set (i := 3) sc__law_fn_made.nd rfl (Or.inl rfl) (pe_call D__law_po_common.ok (hr.mono (by decide)) (by rfl) D__law_po_common.g D__law_po_common.kp D__law_po_common.b .nil pass0 (pa_cons (pv 0) (pa_cons (pv 1) (pa_cons (pv 2) pa_nil)))))
      (pss_cons (ps_par (i := 4) (j := 5) (by rfl) sc__law_fn_made.nd rfl rfl (by decide) rfl rfl (pa_cons (pe_ix (r := rIxT K) ix_tup (pe_call D__law_po_division.ok (hr.mono (by decide)) (by rfl) D__law_po_division.g D__law_po_division.kp D__law_po_division.b .nil pass0 (pa_cons (pv 0) (pa_cons (pv 1) (pa_cons (pv 3) pa_nil)))) pe_int (fun _ _ => rfl)) (pa_cons (pe_ix (r := rIxT K) ix_tup (pe_call D__law_po_division.ok (hr.mono (by decide)) (by rfl) D__law_po_division.g D__law_po_division.kp D__law_po_division.b .nil pass0 (pa_cons (pv 0) (pa_cons (pv 2) (pa_cons (pv 3) pa_nil)))) pe_int (fun _ _ => rfl)) pa_nil)) (by rfl))
      (pss_cons (ps_set (i := 6) sc__law_fn_made.nd rfl (Or.inl rfl) (pe_call D__law_po_inverse.ok (hr.mono (by decide)) (by rfl) D__law_po_inverse.g D__law_po_inverse.kp D__law_po_inverse.b .nil pass0 (pa_cons (pv 0) (pa_cons (pe_ix (r := rIxT K) ix_tup (pv 5) (pe_op op_sub (pe_callB call_len_seq (by rfl) (B "len" (by decide +kernel)) (by decide +kernel) (pa_cons (pv 5) pa_nil)) pe_int) (fun _ _ => rfl)) pa_nil))))
      (pss_one (ps_ret (pe_tup (pa_cons (pe_call D__law_po_times.ok (hr.mono (by decide)) (by rfl) D__law_po_times.g D__law_po_times.kp D__law_po_times.b .nil pass0 (pa_cons (pv 0) (pa_cons (pv 4) (pa_cons (pv 6) pa_nil)))) (pa_cons (pe_call D__law_po_times.ok (hr.mono (by decide)) (by rfl) D__law_po_times.g D__law_po_times.kp D__law_po_times.b .nil pass0 (pa_cons (pv 0) (pa_cons (pv 5) (pa_cons (pv 6) pa_nil)))) pa_nil))))))))), ?_⟩
    have h2 := hp.le
    have C := com_ok hp pt pb (by omega) (by omega)
    obtain ⟨nlow, ng⟩ := div_ne hp pt pb nb (by omega) (by omega)
    have pl := pb.div1 (by omega : 0 < p) (common p t b)
    have ph := pt.div1 (by omega : 0 < p) (common p t b)
    have lr := last_range pl nlow
    have k1 := divide_len1' p (xs := t) ng
    have k2 := divide_len1' p (xs := b) ng
    have lg := com_len hp pb nb C.sym
    refine Evl.q_when (et_r (evr_op (evr_var rfl h_top) (evr_k0 (K := K)) op_eqP)) (fun hb H1 e1 => ?_) (fun hb H1 e1 => ?_)
    · have hb' : t = [] := of_decide_eq_true hb
      refine sr_ret (evr_pair (K := K) (F := ([], [1])) evr_k0 evr_k1) fun v H2 e2 hv => q v H2 (e1.trans e2) ?_
      unfold nf
      rw [if_pos hb']
      exact hv
    have hb' : ¬ t = [] := of_decide_eq_false hb
    refine qr_asg (evr_call (GQ.mk p t b) ⟨hp, pt.r, pb.r, pt.t, pb.t, by show t.length ≤ 1000; omega, by show b.length ≤ 1000; omega⟩ (evrs_cons (evr_var rfl rfl) (evrs_cons (evr_var rfl (up h_top e1)) (evrs_cons (evr_var rfl (up h_bottom e1)) evrs_nil)))) fun x3 H2 e2 h3 => ?_
    have e12 := e1.trans e2
    refine qr_par (r1 := vP K (divide p t (common p t b)).1) (r2 := vP K (divide p b (common p t b)).1) (evrs_cons (evr_ixT (evr_call (GQ.mk p t (common p t b)) ⟨hp, pt.r, C.pl.r, C.pl.t, ng, by show t.length ≤ 1000; omega, by show (common p t b).length ≤ 1000; omega⟩ (evrs_cons (evr_var rfl rfl) (evrs_cons (evr_var rfl (up h_top e12)) (evrs_cons (evr_var rfl h3) evrs_nil)))) (evr_c (v := .int ((0 : Nat) : Int))) rfl)
      (evrs_cons (evr_ixT (evr_call (GQ.mk p b (common p t b)) ⟨hp, pb.r, C.pl.r, C.pl.t, ng, by show b.length ≤ 1000; omega, by show (common p t b).length ≤ 1000; omega⟩ (evrs_cons (evr_var rfl rfl) (evrs_cons (evr_var rfl (up h_bottom e12)) (evrs_cons (evr_var rfl h3) evrs_nil)))) (evr_c (v := .int ((0 : Nat) : Int))) rfl) evrs_nil)) fun x4 x5 H3 e3 h4 h5 => ?_
    have hpos := List.length_pos_iff.mpr nlow
    refine qr_asg (evr_call (G2.mk p ((divide p b (common p t b)).1.getLastD 0)) ⟨hp, lr.1, lr.2⟩ (evrs_cons (evr_var rfl rfl) (evrs_cons (evr_op (evr_var rfl h5) ((evr_op (evr_lenR rfl (EvR.kP (evr_var rfl h5))) evr_c op_i0).eqI (y := (((divide p b (common p t b)).1.length - 1 : Nat) : Int)) (by omega)) (op_ixPn (x := (divide p b (common p t b)).1.getLastD 0) (by
      rw [← List.getLast?_eq_getElem?, List.getLastD_eq_getLast?, List.getLast?_eq_some_getLast nlow]
      rfl))) evrs_nil))) fun x6 H4 e4 h6 => ?_
    obtain rfl : x6 = .int (inv p ((divide p b (common p t b)).1.getLastD 0)) := h6
    refine sr_ret (evr_pair (K := K) (F := (trim ((divide p t (common p t b)).1.map fun n => inv p ((divide p b (common p t b)).1.getLastD 0) * n % p), trim ((divide p b (common p t b)).1.map fun n => inv p ((divide p b (common p t b)).1.getLastD 0) * n % p))) (evr_call (GS.mk p (divide p t (common p t b)).1 (inv p ((divide p b (common p t b)).1.getLastD 0))) ⟨by show 0 < p; omega, by show (divide p t (common p t b)).1.length ≤ 40000; omega, ph.sm hp⟩ (evrs_cons (evr_var rfl rfl) (evrs_cons (evr_var rfl (up h4 e4)) (evrs_cons (evr_var rfl rfl) evrs_nil))))
      (evr_call (GS.mk p (divide p b (common p t b)).1 (inv p ((divide p b (common p t b)).1.getLastD 0))) ⟨by show 0 < p; omega, by show (divide p b (common p t b)).1.length ≤ 40000; omega, pl.sm hp⟩ (evrs_cons (evr_var rfl rfl) (evrs_cons (evr_var rfl (up h5 e4)) (evrs_cons (evr_var rfl rfl) evrs_nil))))) fun v H5 e5 hv => q v H5 (((e12.trans e3).trans e4).trans e5) ?_
    unfold nf
    rw [if_neg hb', scale_map ph.r ph.t, scale_map pl.r pl.t]
    exact hv
abbrev s_F_number : Stmt := inClass (topS 44) 1
abbrev N_F_number : List Str := ["cls", "prime", "number"]
theorem sc_F_number : FnScope N_F_number ["cls", "prime", "number"] (defScope s_F_number) := ⟨rfl, rfl, rfl, by decide +kernel, rfl, by decide +kernel, by decide +kernel⟩
theorem ok_F_number {f : Addr} {fd : FuncData} (F : Fun K "number" "Function.number" s_F_number f fd) (B : Bis mg) (cf : CFm K mg C)  (D_check_prime : De P w K mg base "check_prime" ["prime"] 2 (sp_check_prime K)) (D_is_integer : De P w K mg base "is_integer" ["value"] 1 (sp_is_integer K)) (D_trimmed : De P w K mg base "trimmed" ["numbers"] 1 (sp_trimmedT K)) (M___init__ : Dm P w K mg base C "__init__" ["self", "prime", "top", "bottom"] 7 (sp_F___init__ K C)) : FnOk P w K mg base CX0 9 f fd ["cls", "prime", "number"] (sp_F_number K C) := by
  refine F.ok sc_F_number (fun vs H Q E h => ?_) (fun cdv A outer s H vs Q E hr h => ?_)
  · obtain ⟨g, _, ha, _⟩ := h
    exact ha.len
  · obtain ⟨⟨p, n⟩, ⟨hp, hn⟩, ⟨_, _, rfl, rfl, ⟨_, _, rfl, rfl, ⟨_, _, rfl, rfl, rfl⟩⟩⟩, q⟩ := h
    dsimp only at *
    refine ⟨_, (pss_cons (ps_expr (pe_call D_check_prime.ok (hr.mono (by decide)) (by rfl) D_check_prime.g D_check_prime.kp D_check_prime.b .nil pass0 (pa_cons (pv 1) pa_nil)))
      (pss_cons (ps_if (pt_not (pt_val (pe_call D_is_integer.ok (hr.mono (by decide)) (by rfl) D_is_integer.g D_is_integer.kp D_is_integer.b .nil pass0 (pa_cons (pv 2) pa_nil)))) (pss_one ps_never) pss_nil)
      (pss_one (ps_ret (pe_makeL (i := 0) (C := C) (cf.mkr M___init__.own) M___init__.ok (hr.mono (by decide)) (by rfl) (Or.inl rfl) M___init__.b .nil pass0 (pa_cons (pv 1) (pa_cons (pe_call D_trimmed.ok (hr.mono (by decide)) (by rfl) D_trimmed.g D_trimmed.kp D_trimmed.b .nil pass0 (pa_cons (pe_tup (pa_cons (pe_op op_mod (pv 2) (pv 1)) pa_nil)) pa_nil)) (pa_cons (pe_tup (pa_cons pe_int pa_nil)) pa_nil)))))))), ?_⟩
    have h2 := hp.le
    refine qr_drop (evr_call p hp (evrs_cons (evr_var rfl rfl) evrs_nil)) fun H1 e1 => ?_
    refine Evl.q_when (Evl.et_not (et_b (evr_call (.int n) trivial (evrs_cons (evr_var (r := vD K (.int n)) rfl (.int _)) evrs_nil)))) (fun hb H2 e2 => by
      have hb' : (!isInt (PyData.int n)) = true := hb
      rw [hn] at hb'
      cases hb') (fun hb H2 e2 => ?_)
    have hok := trim_one (n := n) hp
    refine sr_ret (evr_makeL rfl hp hok (okP1 hp) (by simp) (evrs_cons (evr_var rfl rfl) (evrs_cons (evr_call [n % p] (Nat.le_of_ble_eq_true rfl) (evrs_cons (evr_disp (ns := [n % p]) (evrs_cons (evr_op (evr_var rfl rfl) (evr_var rfl rfl) (op_i (by omega))) evrs_nil) (Nat.le_of_ble_eq_true rfl)) evrs_nil)) (evrs_cons evr_k1 evrs_nil)))) fun v H3 e3 hv => q v H3 ((e1.trans e2).trans e3) ?_
    have en := nf_one hp hok.pl (by have := hok.l; omega)
    rw [en] at hv
    exact hv
abbrev s_F_letter : Stmt := inClass (topS 44) 2
abbrev N_F_letter : List Str := ["cls", "prime"]
theorem sc_F_letter : FnScope N_F_letter ["cls", "prime"] (defScope s_F_letter) := ⟨rfl, rfl, rfl, by decide +kernel, rfl, by decide +kernel, by decide +kernel⟩
theorem ok_F_letter {f : Addr} {fd : FuncData} (F : Fun K "letter" "Function.letter" s_F_letter f fd) (B : Bis mg) (cf : CFm K mg C)   (M___init__ : Dm P w K mg base C "__init__" ["self", "prime", "top", "bottom"] 7 (sp_F___init__ K C)) : FnOk P w K mg base CX0 9 f fd ["cls", "prime"] (sp_F_letter K C) := by
  refine F.ok sc_F_letter (fun vs H Q E h => ?_) (fun cdv A outer s H vs Q E hr h => ?_)
  · obtain ⟨g, _, ha, _⟩ := h
    exact ha.len
  · obtain ⟨p, hp, ⟨_, _, rfl, rfl, ⟨_, _, rfl, rfl, rfl⟩⟩, q⟩ := h
    dsimp only at *
    refine ⟨_, (pss_one (ps_ret (pe_makeL (i := 0) (C := C) (cf.mkr M___init__.own) M___init__.ok (hr.mono (by decide)) (by rfl) (Or.inl rfl) M___init__.b .nil pass0 (pa_cons (pv 1) (pa_cons (pe_tup (pa_cons pe_int (pa_cons pe_int pa_nil))) (pa_cons (pe_tup (pa_cons pe_int pa_nil)) pa_nil)))))), ?_⟩
    have hok := okLet hp
    refine sr_ret (evr_makeL rfl hp hok (okP1 hp) (by simp) (evrs_cons (evr_var rfl rfl) (evrs_cons evr_k01 (evrs_cons evr_k1 evrs_nil)))) fun v H3 e3 hv => q v H3 e3 ?_
    have en := nf_one hp hok.pl (by decide)
    rw [en] at hv
    exact hv
abbrev s__law_as_function : Stmt := topS 74
abbrev N__law_as_function : List Str := ["prime", "pair"]
theorem sc__law_as_function : FnScope N__law_as_function ["prime", "pair"] (defScope s__law_as_function) := ⟨rfl, rfl, rfl, by decide +kernel, rfl, by decide +kernel, by decide +kernel⟩
theorem ok__law_as_function {f : Addr} {fd : FuncData} (F : Fun K "_law_as_function" "_law_as_function" s__law_as_function f fd) (B : Bis mg) (cf : CFm K mg C)   (M___init__ : Dm P w K mg base C "__init__" ["self", "prime", "top", "bottom"] 7 (sp_F___init__ K C)) : FnOk P w K mg base CX0 9 f fd ["prime", "pair"] (sp__law_as_function K C) := by
  refine F.ok sc__law_as_function (fun vs H Q E h => ?_) (fun cdv A outer s H vs Q E hr h => ?_)
  · obtain ⟨g, _, ha, _⟩ := h
    exact ha.len
  · obtain ⟨⟨p, t, b⟩, ⟨hp, ht, hb, nb⟩, ⟨_, _, rfl, rfl, ⟨v_pair, _, rfl, h_pair, rfl⟩⟩, q⟩ := h
    dsimp only at *
    refine ⟨_, (pss_one (ps_ret (pe_make (cf.mkr M___init__.own) M___init__.ok (hr.mono (by decide)) (by rfl) cf.mg M___init__.b .nil pass0 (pa_cons (pv 0) (pa_cons (pe_ix (r := rIxT K) ix_tup (pv 1) pe_int (fun _ _ => rfl)) (pa_cons (pe_ix (r := rIxT K) ix_tup (pv 1) pe_int (fun _ _ => rfl)) pa_nil)))))), ?_⟩
    exact sr_ret (evr_make hp ht hb nb (evrs_cons (evr_var rfl rfl) (evrs_cons (evr_g0 (F := (t, b)) (evr_var rfl h_pair)) (evrs_cons (evr_g1 (F := (t, b)) (evr_var rfl h_pair)) evrs_nil)))) fun v H3 e3 hv => q v H3 e3 hv
end
end K0
namespace K0
open PySem PySem.Spec PyProof.Rows L2 Kt M
open Evl (Ex Ev EvL EvU EvT EvA EvO ex_l ex_t sq_of st_of sz_of sz_lt fresh_back given)
section
variable {X : Cx} {a : Expr} {ta : TE} {pos : Pos}
/-- not a, by a's own truth -/
theorem pe_notF {r : V → Hp → (Bool → Hp → Prop) → Prop} (ha : PE X a ta) (hr : TruR X r) : PE X (.UnaryOp .Not a pos) (fun σ H Q => ta σ H fun x H1 => r x H1 (fun c H2 => Q (.bl (!c)) H2)) := by
  refine ⟨fun pins s σ H Q I h => ?_⟩
  refine UnaryOp_ (thn (ha.run pins s σ H _ I h) fun v s1 ⟨x, H1, I1, r1, q1⟩ => ?_)
  exact not_of (thn (hr pins s1 σ H1 x v (fun c H2 => Q (.bl (!c)) H2) I1 r1 q1) fun c s2 ⟨H2, I2, q2⟩ => ⟨.bl (!c), H2, I2, rfl, q2⟩)
end
/-- stable as a list changes -/
def StB (r : VR) : Prop := ∀ (v : V) (H H' : Hp) (l : Addr) (ys : List V), H l = some (.lst ys) → ExB l H H' → r.R v H → r.R v H'
section
variable {K : PySem.W.Frag} {mg : Str → Option Value} {C : Addr} {p q : Int} {F G : PF} {σ : L2.St} {H H' : Hp} {te tf ta tb : TE} {ns : List Int} {b : Bool} {E : XK} {rs : List VR} {r : VR} {i j l : Nat} {D : Ends} {tz : TS}
theorem sqT_exb {a l : Addr} {xs ys : List V} (hl : H l = some (.lst ys)) (e : ExB l H H') (h : SqT K H a xs) : SqT K H' a xs := by
  rcases h with (h | ⟨o, h⟩) | h
  · exact .inl (.inl (e _ _ (ne_of h hl (by intro z; cases z)) h))
  · exact .inl (.inr ⟨o, e _ _ (ne_of h hl (by intro z; cases z)) h⟩)
  · exact .inr h
theorem stb_C {c : V} : StB (vC c) := fun _ _ _ _ _ _ _ h => h
theorem stb_P : StB (vP K ns) := fun v H H' l ys hl e ⟨a, ha, h⟩ => ⟨a, ha, sqT_exb hl e h⟩
theorem stb_F : StB (vF K C p F) := fun v H H' l ys hl e ⟨a, dx, t, b, hv, ha, ht, hb⟩ => ⟨a, dx, t, b, hv, e _ _ (ne_of ha hl (by intro z; cases z)) ha, sqT_exb hl e ht, sqT_exb hl e hb⟩
theorem alls_stb : ∀ {rs : List VR} {vs : List V} {H H' : Hp} {l : Addr} {ys : List V}, (∀ r ∈ rs, StB r) → H l = some (.lst ys) → ExB l H H' → Alls rs vs H → Alls rs vs H'
  | [], _, _, _, _, _, _, _, _, h => h
  | r :: rs, _, _, _, _, _, hs, hl, e, ⟨v, ws, h1, h2, h3⟩ => ⟨v, ws, h1, hs r List.mem_cons_self _ _ _ _ _ hl e h2, alls_stb (fun x hx => hs x (List.mem_cons_of_mem _ hx)) hl e h3⟩
theorem stb_T (hs : ∀ r ∈ rs, StB r) : StB (vT K rs) := fun v H H' l ys hl e ⟨a, xs, ha, h, hal⟩ => ⟨a, xs, ha, sqT_exb hl e h, alls_stb hs hl e hal⟩
theorem stb_G : StB (vG K F) := stb_T fun r hr => by
  simp only [List.mem_cons, List.not_mem_nil, or_false] at hr
  rcases hr with rfl | rfl <;> exact stb_P
theorem StB.stab (h : StB r) : Stab r := fun v H l xs ys hr hl => h v H _ l xs hl (fun a o ha e => by rw [upd_ne ha]; exact e) hr
theorem StB.bag {l : Addr} (h : StB r) {v : V} (hr : r.R v H) (hb : Bag l H) (e : ExB l H H') : r.R v H' := by
  obtain ⟨b0, b1, b2, hl⟩ := hb
  exact h v H H' l _ hl e hr
/-- a function and its pair -/
abbrev vD2 (K : PySem.W.Frag) (C : Addr) (p : Int) (F : PF) : VR := vT K [vF K C p F, vG K F]
theorem stb_D2 : StB (vD2 K C p F) := stb_T fun r hr => by
  simp only [List.mem_cons, List.not_mem_nil, or_false] at hr
  rcases hr with rfl | rfl
  · exact stb_F
  · exact stb_G
theorem evr_boolF {rr : List V → Hp → VK → Prop} (hrr : rr = fun xs H Q => ∃ a dx fs, xs = [.ref a] ∧ H a = some (.ins C dx fs) ∧ sp_F___bool__ K C [.ref a] H (fun v H' => ∃ b, v = .bl b ∧ Q (.bl b) H') E) (h : EvR te σ H (vF K C p F)) : EvR (tCB rr (tCons te tNil)) σ H (vB (!F.1.isEmpty)) := fun H1 e Q k => h H1 e _ fun v H2 e2 hv => by
  subst hrr
  obtain ⟨a, dx, t, b, rfl, h2, _⟩ := id hv
  exact ⟨a, dx, _, rfl, h2, GF.mk p F, trivial, ⟨_, _, rfl, hv, rfl⟩, fun u H3 e3 hu => ⟨_, hu, k _ H3 (e2.trans e3) rfl⟩⟩
theorem evr_strF {rr : List V → Hp → VK → Prop} (hrr : rr = fun xs H Q => ∃ a dx fs, xs = [.ref a] ∧ H a = some (.ins C dx fs) ∧ sp_F___str__ K C [.ref a] H (fun v H' => ∃ z, v = .str z ∧ Q (.str z) H') E) (ht : TxOk F.1 ∧ TxOk F.2) (h : EvR te σ H (vF K C p F)) : EvR (tCB rr (tCons te tNil)) σ H (vS (fnT F)) := fun H1 e Q k => h H1 e _ fun v H2 e2 hv => by
  subst hrr
  obtain ⟨a, dx, t, b, rfl, h2, _⟩ := id hv
  exact ⟨a, dx, _, rfl, h2, GF.mk p F, ht, ⟨_, _, rfl, hv, rfl⟩, fun u H3 e3 hu => ⟨_, hu, k _ H3 (e2.trans e3) rfl⟩⟩
theorem evr_notF (h : EvR te σ H (vF K C p F)) : EvR (fun σ H Q => te σ H fun x H1 => ∃ a dx fs, x = .ref a ∧ H1 a = some (.ins C dx fs) ∧ sp_F___bool__ K C [.ref a] H1 (fun v H' => ∃ b, v = .bl b ∧ Q (.bl (!b)) H') E) σ H (vB (!!F.1.isEmpty)) := fun H1 e Q k => h H1 e _ fun v H2 e2 hv => by
  obtain ⟨a, dx, t, b, rfl, h2, _⟩ := id hv
  exact ⟨a, dx, _, rfl, h2, GF.mk p F, trivial, ⟨_, _, rfl, hv, rfl⟩, fun u H3 e3 hu => ⟨_, hu, k _ H3 (e2.trans e3) rfl⟩⟩
theorem eqF_t (F : PF) : (decide (p = p) && (decide (F.1 = F.1) && decide (F.2 = F.2))) = true := by simp
theorem et_neF {A B : PF} (ha : EvR ta σ H (vF K C p A)) (hb : EvR tb σ H (vF K C p B)) (e : A = B) : EvT (tTest (tOp (rOwnNe C (sp_F___eq__ K C) E) ta tb)) σ H false := by
  subst e
  have z0 : OpV (rOwnNe C (sp_F___eq__ K C) E) (vF K C p A) (vF K C p A) (vB (!(decide (p = p) && (decide (A.1 = A.1) && decide (A.2 = A.2))))) H := op_ownNe (GFF.mk p A p A) trivial rfl rfl
  have z := et_r (evr_op ha hb z0)
  rw [eqF_t A] at z
  exact z
theorem evr_eqF {A B : PF} (ha : EvR ta σ H (vF K C p A)) (hb : EvR tb σ H (vF K C p B)) (e : A = B) : EvR (tOp (rOwn2 C (sp_F___eq__ K C) E) ta tb) σ H (vB true) := by
  subst e
  have z0 : OpV (rOwn2 C (sp_F___eq__ K C) E) (vF K C p A) (vF K C p A) (vB (decide (p = p) && (decide (A.1 = A.1) && decide (A.2 = A.2)))) H := op_ownV (GFF.mk p A p A) trivial rfl
  have z := evr_op ha hb z0
  rw [eqF_t A] at z
  exact z
/-- a list of functions with their pairs, of which the test keeps none -/
theorem er_noneT {t : TT} {vs : List Nat} {wi : TI} {xs : List V} {Fs : List PF} (hw : Wk wi σ H xs.length (YAt xs)) (hal : Alls (Fs.map (vD2 K C p)) xs H) (hz : Fs.length ≤ 50000) (hv : ∀ x y, wipe (((wipe σ vs).set i (some x)).set j (some y)) vs = wipe σ vs)
    (ht : ∀ (F : PF) (x y : V) (H1 : Hp), F ∈ Fs → Ex H H1 → (vF K C p F).R x H1 → (vG K F).R y H1 → EvT t (((wipe σ vs).set i (some x)).set j (some y)) H1 false) : EvR (tLc wi (gTup K 2 (gCons (gName i) (gCons (gName j) gNil))) t te vs) σ H (vL K []) := by
  have z := el_comp (vs := vs) (g := gTup K 2 (gCons (gName i) (gCons (gName j) gNil))) (tt := t) (te := te) hw (fun _ => false) (fun _ => .non) (by rw [hal.len, List.length_map]; omega) (fun n x H1 H2 hi e y R q => by
    obtain ⟨rfl, hx⟩ := y
    obtain ⟨r, hr, hrx⟩ := Alls.one hal hx
    rw [List.getElem?_map] at hr
    cases hF : Fs[n]? with
    | none => rw [hF] at hr; cases hr
    | some F0 =>
      rw [hF] at hr
      obtain rfl := Option.some.inj hr
      obtain ⟨a, ws, rfl, hs, v1, w1, rfl, h1, v2, w2, rfl, h2, hw2⟩ := (vD2 K C p F0).st e hrx
      obtain rfl : w2 = [] := hw2
      exact ⟨a, _, rfl, hs, rfl, _, _, rfl, _, _, rfl, rfl, q _ _ (hv _ _) (Ex.refl _) (ht F0 _ _ _ (List.mem_of_getElem? hF) e h1 h2) fun h => by cases h⟩)
  have e : given xs.length (fun _ => false) (fun _ => V.non) = ([] : List Int).map V.int := by
    unfold given
    rw [List.filter_eq_nil_iff.mpr fun _ _ => Bool.false_ne_true]
    rfl
  rw [e] at z
  exact evr_ofL z
theorem sr_appR {l : Addr} {xs : List V} (hl : H l = some (.lst xs)) (hs : σ[i]? = some (some (.ref l))) (h : EvR te σ H r) (hz : xs.length < 100000) (k : ∀ v H1, Ex H H1 → r.R v H1 → D.nx σ (upd H1 l (.lst (xs ++ [v])))) : tDrop (tBM K "list" rAppend (tVar i) (tCons te tNil)) D σ H :=
  ⟨.ref l, hs, Or.inl ⟨rfl, xs, sq_of hl⟩, h H (Ex.refl H) _ fun v H2 e2 hv => ⟨l, xs, v, rfl, rfl, e2 l _ hl, sz_lt hz, k v H2 e2 hv⟩⟩
end
theorem txOk {p : Int} (hp : Pr p) {F : PF} (hF : NF p F) (l : Le 90 F) : TxOk F.1 ∧ TxOk F.2 := by
  have h2 := hp.le
  refine ⟨⟨fun n hn => ?_, l.1⟩, ⟨fun n hn => ?_, l.2⟩⟩
  · have := hF.t.r n hn
    omega
  · have := hF.b.r n hn
    omega
structure G3F where
  p : Int
  F : PF
  G : PF
  H : PF
section
variable {P : Program} {w : World} {K : PySem.W.Frag} {mg : Str → Option Value} {base : Heap} {C : Addr}
def sp__law_sums_right (K : PySem.W.Frag) (C : Addr) : Sp := Con (G := GAF) FF (fun g => [vI g.p, vF K C g.p g.F, vF K C g.p g.G, vG K g.F, vG K g.G]) (fun _ => vB true)
def sp__law_laws_right (K : PySem.W.Frag) (C : Addr) : Sp := Con (G := G3F) (fun g => Pr g.p ∧ NF g.p g.F ∧ NF g.p g.G ∧ NF g.p g.H ∧ Le 9 g.F ∧ Le 9 g.G ∧ Le 9 g.H) (fun g => [vF K C g.p g.F, vF K C g.p g.G, vF K C g.p g.H]) (fun _ => vB true)
end
end K0
namespace K0
open PySem PySem.Spec PyProof.Rows L2 Kt M
open Evl (Ex Ev EvL EvU EvT EvA EvO ex_l ex_t sq_of st_of sz_of sz_lt fresh_back given)
section
variable {P : Program} {w : World} {K : PySem.W.Frag} {mg : Str → Option Value} {base : Heap} {C : Addr}
def sp__law_one_ofP (K : PySem.W.Frag) : Sp := fun vs H Q _ => ∃ (l a : Addr) (rows : List (List Int)) (xs : List V), vs = [.ref l, .ref a] ∧ a ≠ l ∧ Bag l H ∧ H a = some (.lst xs) ∧ Alls (rows.map (vP K)) xs H ∧ rows ≠ [] ∧ rows.length ≤ 1000 ∧ ∀ ns v H', ns ∈ rows → ExB l H H' → Bag l H' → (vP K ns).R v H' → Q v H'
theorem ok__law_one_ofP {f : Addr} {fd : FuncData} (F : Fun K "_law_one_of" "_law_one_of" s__law_one_of f fd) (B : Bis mg)  (D__law_grab : De P w K mg base "_law_grab" ["bag", "total"] 1 (sp__law_grab K)) : FnOk P w K mg base CX0 2 f fd ["bag", "items"] (sp__law_one_ofP K) := by
  refine F.ok sc__law_one_of (fun vs H Q E h => ?_) (fun cdv A outer s H vs Q E hr h => ?_)
  · obtain ⟨_, _, _, _, rfl, _⟩ := h
    rfl
  · obtain ⟨l, a, rows, xs, rfl, hne, hb, hs, hal, hn, hz, q⟩ := h
    refine ⟨_, (pss_one (ps_ret (pe_ix (r := rIxL K) ix_list (pv 1) (pe_call D__law_grab.ok (hr.mono (by decide)) (by rfl) D__law_grab.g D__law_grab.kp D__law_grab.b .nil pass0 (pa_cons (pv 0) (pa_cons (pe_callB call_len_seq (by rfl) (B "len" (by decide +kernel)) (by decide +kernel) (pa_cons (pv 1) pa_nil)) pa_nil))) (fun _ _ => rfl)))), ?_⟩
    have hpos := List.length_pos_iff.mpr hn
    have hlen := hal.len
    rw [List.length_map] at hlen
    refine ⟨.ref a, rfl, .ref l, rfl, .ref a, rfl, a, _, rfl, .inl (sq_of hs), ?_⟩
    refine ⟨l, (xs.length : Int), rfl, hb, by omega, ?_, fun r H' h0 h1 eB hb' => ?_⟩
    · have : (xs.length : Int).natAbs ≤ 1000 := by omega
      exact Nat.lt_of_le_of_lt this (by decide)
    · obtain ⟨k, rfl⟩ := Int.eq_ofNat_of_zero_le h0
      have hr : k < xs.length := by omega
      obtain ⟨r, hr2, hrx⟩ := Alls.one hal (List.getElem?_eq_getElem hr)
      rw [List.getElem?_map, List.getElem?_eq_getElem (by omega : k < rows.length)] at hr2
      obtain rfl := Option.some.inj hr2
      exact ⟨a, _, (k : Int), xs[k], rfl, rfl, sq_of (eB a _ hne hs), atI_nat (List.getElem?_eq_getElem hr), q _ _ H' (List.getElem_mem _) eB hb' (stb_P.bag hrx hb eB)⟩
def sp__law_prime (_ : PySem.W.Frag) : Sp := fun vs H Q _ => ∃ (l : Addr), vs = [.ref l, .int 7] ∧ Bag l H ∧ ∀ p H', Pr p → ExB l H H' → Bag l H' → Q (.int p) H'
def sp__law_monic_drawn (K : PySem.W.Frag) : Sp := fun vs H Q _ => ∃ (l : Addr) (p : Int) (d : Nat), vs = [.ref l, .int p, .int (d : Int)] ∧ Bag l H ∧ Pr p ∧ d ≤ 10 ∧ ∀ ns v H', Pl p ns → Mo ns → ns.length = d + 1 → ExB l H H' → Bag l H' → (vP K ns).R v H' → Q v H'
def sp__law_pair_drawn (K : PySem.W.Frag) : Sp := fun vs H Q _ => ∃ (l : Addr) (p : Int) (m : Nat), vs = [.ref l, .int p, .int (m : Int)] ∧ Bag l H ∧ Pr p ∧ 1 ≤ m ∧ m ≤ 6 ∧ ∀ t b v H', Pl p t → t.length ≤ m + 1 → Pl p b → b ≠ [] → b.length ≤ m + 1 → ExB l H H' → Bag l H' → (vG K (t, b)).R v H' → Q v H'
theorem trim_snoc1 : ∀ acc : List Int, trim (acc ++ [1]) = acc ++ [1]
  | [] => rfl
  | x :: r => by
    have ih := trim_snoc1 r
    show (match trim (r ++ [1]) with
      | [] => if x = 0 then [] else [x]
      | t :: ts => x :: t :: ts) = x :: (r ++ [1])
    rw [ih]
    cases r <;> rfl
theorem bag_new {l D : Addr} {H : Hp} {o : HO} (hb : Bag l H) (hD : H D = none) : ExB l H (upd H D o) ∧ Bag l (upd H D o) ∧ D ≠ l := by
  obtain ⟨b0, b1, b2, h⟩ := hb
  have hDl : D ≠ l := fun z => by
    rw [z, h] at hD
    cases hD
  exact ⟨ExB.of (Ex.new hD), ⟨b0, b1, b2, by rw [upd_ne (Ne.symm hDl)]; exact h⟩, hDl⟩
theorem ex_none {H H1 : Hp} {D : Addr} (e : Ex H H1) (h : H1 D = none) : H D = none := by
  cases hh : H D with
  | none => rfl
  | some o =>
    rw [e D o hh] at h
    cases h
theorem exb_none {l : Addr} {H H1 : Hp} {D : Addr} (hn : D ≠ l) (e : ExB l H H1) (h : H1 D = none) : H D = none := by
  cases hh : H D with
  | none => rfl
  | some o =>
    rw [e D o hn hh] at h
    cases h
abbrev s__law_prime : Stmt := topS 59
abbrev N__law_prime : List Str := ["bag", "most", "prime"]
theorem sc__law_prime : FnScope N__law_prime ["bag", "most"] (defScope s__law_prime) := ⟨rfl, rfl, rfl, by decide +kernel, rfl, by decide +kernel, by decide +kernel⟩
theorem ok__law_prime {f : Addr} {fd : FuncData} (F : Fun K "_law_prime" "_law_prime" s__law_prime f fd) (B : Bis mg) (cf : CFm K mg C)  (D__law_one_of : De P w K mg base "_law_one_of" ["bag", "items"] 2 (sp__law_one_of K)) : FnOk P w K mg base CX0 3 f fd ["bag", "most"] (sp__law_prime K) := by
  refine F.ok sc__law_prime (fun vs H Q E h => ?_) (fun cdv A outer s H vs Q E hr h => ?_)
  · obtain ⟨_, rfl, _⟩ := h
    rfl
  · obtain ⟨l, rfl, hb, q⟩ := h
    refine ⟨_, (pss_one (ps_ret (pe_call D__law_one_of.ok (hr.mono (by decide)) (by rfl) D__law_one_of.g D__law_one_of.kp D__law_one_of.b .nil pass0 (pa_cons (pv 0) (pa_cons (pe_lc (own := [("prime", 2)]) (g := (gName 2)) (tt := tTest (tOp (rI0 fun i j => .bl (decide (i ≤ j))) (tVar 2) (tVar 1))) rfl sc__law_prime.nd (pi_tup (pe_tup (pa_cons pe_int (pa_cons pe_int (pa_cons pe_int (pa_cons pe_int (pa_cons pe_int (pa_cons pe_int (pa_cons pe_int pa_nil))))))))) (blkOk_by (own := [("prime", 2)]) (N := N__law_prime) (sc := defScope s__law_prime) (by decide +kernel)) (fun _ _ _ _ _ => (pg_name (i := 2) sc__law_prime.nd rfl (Or.inl rfl))) (fun _ _ _ _ _ => pts_one (pt_cmpR op_le (pv 2) (pv 1) (nomark _))) (fun _ _ _ _ _ => (pv 2))) pa_nil))))), ?_⟩
    have hw := wk_tupR (K := K) (σ := [some (.ref l), some (.int 7), none]) (H := H) (evr_disp (ns := [2, 3, 2, 3, 3, 5, 7]) (evrs_cons evr_c (evrs_cons evr_c (evrs_cons evr_c (evrs_cons evr_c (evrs_cons evr_c (evrs_cons evr_c (evrs_cons evr_c evrs_nil))))))) (by decide))
    have el := el_comp (vs := [2]) (g := gName 2) (tt := tTest (tOp (rI0 fun i j => .bl (decide (i ≤ j))) (tVar 2) (tVar 1))) (te := tVar 2) hw (fun _ => true) (fun i => .int (([2, 3, 2, 3, 3, 5, 7] : List Int).getD i 0)) (by decide) (fun i x H1 H2 hi e y R k => by
      obtain ⟨rfl, hx⟩ := y
      have hi' : i < 7 := hi
      have hx' : x = V.int (([2, 3, 2, 3, 3, 5, 7] : List Int).getD i 0) ∧ (([2, 3, 2, 3, 3, 5, 7] : List Int).getD i 0) ≤ 7 := by
        match i, hx with
        | 0, hx => exact ⟨(Option.some.inj hx).symm, by decide⟩
        | 1, hx => exact ⟨(Option.some.inj hx).symm, by decide⟩
        | 2, hx => exact ⟨(Option.some.inj hx).symm, by decide⟩
        | 3, hx => exact ⟨(Option.some.inj hx).symm, by decide⟩
        | 4, hx => exact ⟨(Option.some.inj hx).symm, by decide⟩
        | 5, hx => exact ⟨(Option.some.inj hx).symm, by decide⟩
        | 6, hx => exact ⟨(Option.some.inj hx).symm, by decide⟩
      obtain ⟨rfl, hle⟩ := hx'
      exact k _ _ rfl (Ex.refl _) (Evl.et_is (et_r (evr_op (evr_var (r := vI _) rfl rfl) (evr_var (r := vI 7) rfl rfl) op_i0)) (decide_eq_true hle)) fun _ => Evl.ev_var rfl)
    refine ⟨.ref l, rfl, el H (Ex.refl H) _ fun D H1 nD e1 hD => ?_⟩
    have hb1 := hb.ex e1
    have hDl : D ≠ l := fun z => by
      obtain ⟨b0, b1, b2, h⟩ := hb
      rw [z, h] at nD
      cases nD
    refine ⟨l, D, [2, 3, 2, 3, 3, 5, 7], rfl, hDl, hb1, hD, by simp, by decide, fun n H2 hn e2 b2 => q n H2 ?_ ((ExB.of e1).trans e2) b2⟩
    simp only [List.mem_cons, List.not_mem_nil, or_false] at hn
    unfold Pr
    omega
abbrev s__law_monic_drawn : Stmt := topS 61
abbrev N__law_monic_drawn : List Str := ["bag", "prime", "degree", "turn"]
theorem sc__law_monic_drawn : FnScope N__law_monic_drawn ["bag", "prime", "degree"] (defScope s__law_monic_drawn) := ⟨rfl, rfl, rfl, by decide +kernel, rfl, by decide +kernel, by decide +kernel⟩
theorem ok__law_monic_drawn {f : Addr} {fd : FuncData} (F : Fun K "_law_monic_drawn" "_law_monic_drawn" s__law_monic_drawn f fd) (B : Bis mg) (cf : CFm K mg C)  (D__law_grab : De P w K mg base "_law_grab" ["bag", "total"] 1 (sp__law_grab K)) : FnOk P w K mg base CX0 2 f fd ["bag", "prime", "degree"] (sp__law_monic_drawn K) := by
  refine F.ok sc__law_monic_drawn (fun vs H Q E h => ?_) (fun cdv A outer s H vs Q E hr h => ?_)
  · obtain ⟨_, _, _, rfl, _⟩ := h
    rfl
  · obtain ⟨l, p, d, rfl, hb, hp, hd, q⟩ := h
    refine ⟨_, (pss_one (ps_ret (pe_op op_catA (pe_callTy call_tuple_of (by rfl) (B "tuple" (by decide +kernel)) (by decide +kernel) (pa_cons (pe_lc (own := [("turn", 3)]) (g := (gName 3)) (tt := tYes) rfl sc__law_monic_drawn.nd (pi_range1 (by rfl) (B "range" (by decide +kernel)) (pa_cons (pv 2) pa_nil)) (blkOk_by (own := [("turn", 3)]) (N := N__law_monic_drawn) (sc := defScope s__law_monic_drawn) (by decide +kernel)) (fun _ _ _ _ _ => (pg_name (i := 3) sc__law_monic_drawn.nd rfl (Or.inl rfl))) (fun _ _ _ _ _ => pts_nil) (fun _ _ _ _ _ => (pe_call D__law_grab.ok (hr.mono (by decide)) (by rfl) D__law_grab.g D__law_grab.kp D__law_grab.b .nil pass0 (pa_cons (pv 0) (pa_cons (pv 1) pa_nil))))) pa_nil)) (pe_tup (pa_cons pe_int pa_nil))))), ?_⟩
    have h2 := hp.le
    refine ⟨.int (d : Int), rfl, (d : Int), rfl, by omega, by omega, fun D hD => ?_⟩
    obtain ⟨eD, bD, hDl⟩ := bag_new (o := .lst []) hb hD
    refine lc_it (walk_range (lo := 0) (n := d)) (fun i H' => ∃ acc : List Int, acc.length = i ∧ Red p acc ∧ H' D = some (.lst (acc.map V.int)) ∧ ExB l H H' ∧ Bag l H') ⟨[], rfl, fun m hm => by simp at hm, upd_same, eD, bD⟩ (fun _ _ _ _ => trivial) (fun i x H2 H3 hi p2 y => ?_) fun H2 p2 => ?_
    · obtain ⟨acc, la, ra, hA, e2, b2⟩ := p2
      obtain ⟨rfl, rfl⟩ := y
      refine ⟨rfl, ?_⟩
      unfold tYes
      dsimp only
      rw [if_pos rfl]
      refine ⟨.ref l, rfl, .int p, rfl, l, p, rfl, b2, by omega, ?_, fun r H4 g0 g1 e4 b4 => ?_⟩
      · have : p.natAbs ≤ 10 := by omega
        exact Nat.lt_of_le_of_lt this (by decide)
      · have hD4 := e4 _ _ hDl hA
        refine ⟨acc.map V.int, hD4, sz_lt (by rw [List.length_map]; omega), acc ++ [r], by rw [List.length_append, la]; rfl, fun m hm => ?_, ?_, ?_, ?_⟩
        · rcases List.mem_append.mp hm with h | h
          · exact ra m h
          · obtain rfl := List.mem_singleton.mp h
            exact ⟨g0, g1⟩
        · rw [List.map_append]
          exact upd_same
        · intro a o ha e'
          rw [upd_ne]
          · exact e4 a o ha (e2 a o ha e')
          · intro z
            rw [z, hD] at e'
            cases e'
        · obtain ⟨b0, b1, bb, h⟩ := b4
          exact ⟨b0, b1, bb, by rw [upd_ne (Ne.symm hDl)]; exact h⟩
    · obtain ⟨acc, la, ra, hA, e2, b2⟩ := p2
      have pl : Pl p (acc ++ [1]) := ⟨fun n hn => by
        rcases List.mem_append.mp hn with h | h
        · exact ra n h
        · obtain rfl := List.mem_singleton.mp h
          omega, trim_snoc1 acc⟩
      refine ⟨D, _, rfl, .inl ⟨sq_of hA, fun T hT => ?_⟩⟩
      have eT : Ex H2 (upd H2 T (.tup (acc.map V.int))) := Ex.new hT
      refine evr_k1 (K := K) _ (Ex.refl _) _ fun u H4 e4 hu => ?_
      have hTP : (vP K acc).R (.ref T) H4 := (vP K acc).st e4 ⟨T, rfl, st_of upd_same⟩
      refine op_catP (by show acc.length + 1 ≤ 100000; omega) (.ref T) u H4 (Ex.refl _) hTP hu _ fun v H5 e5 hv => ?_
      exact q (acc ++ [1]) v H5 pl ⟨by simp, by simp⟩ (by rw [List.length_append, la]; rfl) (e2.trans (ExB.of ((eT.trans e4).trans e5))) (((b2.ex eT).ex e4).ex e5) hv
theorem cons_r {te : TE} {ta : TA} {σ : L2.St} {H : Hp} {r : VR} {Q : List V → Hp → Prop} (h : EvR te σ H r) (k : ∀ v H1, Ex H H1 → r.R v H1 → ta σ H1 (fun vs H2 => Q (v :: vs) H2)) : tCons te ta σ H Q := h H (Ex.refl H) _ k
theorem asg_oneof {sp : Sp} {E : XK} {ta : TA} {l : Addr} {σ : L2.St} {H : Hp} {i : Nat} {D : Ends} (h0 : σ[0]? = some (some (.ref l))) (h : ta σ H (fun xs H1 => xs.length ≤ sizeLine ∧ ∀ p, H1 p = none → sp [.ref l, .ref p] (upd H1 p (.lst xs)) (fun v H2 => D.nx (σ.set i (some v)) H2) E)) : tAsg (tCall sp [] E (tCons (tVar 0) (tCons (tLst ta) tNil))) (gName i) D σ H := ⟨.ref l, h0, h⟩
/-- a test that may change the bag, whichever way it goes -/
def EvTA (l : Addr) (t : TT) (σ : L2.St) : Prop := ∀ H, Bag l H → ∀ Q : Bool → Hp → Prop, (∀ c H1, ExB l H H1 → Bag l H1 → Q c H1) → t σ H Q
theorem ta_and {l : Addr} {t u : TT} {σ : L2.St} (h : EvTA l t σ) (h2 : EvTA l u σ) : EvTA l (tAnd t u) σ := fun H hb Q q => h H hb _ fun c H1 e b => by
  cases c with
  | true => exact iteT (h2 H1 b Q fun c H2 e2 b2 => q c H2 (e.trans e2) b2)
  | false => exact iteF (q false H1 e b)
theorem ta_of {l : Addr} {t : TT} {σ : L2.St} {c : Bool} (h : ∀ H, EvT t σ H c) : EvTA l t σ := fun H hb Q q => h H H (Ex.refl H) Q fun H1 e => q c H1 (ExB.of e) (hb.ex e)
theorem ta_eq {l : Addr} {te : TE} {σ : L2.St} {P : Int → Prop} {x : Int} (h : EvB l te σ P) : EvTA l (tTest (tOp rEq te (tC (.int x)))) σ := fun H hb Q q => h H hb _ fun n H2 hn e2 b2 => ⟨rfl, _, rfl, q _ H2 e2 b2⟩
theorem qa_when {l : Addr} {t : TT} {tu tz : TS} {σ : L2.St} {H : Hp} {D : Ends} (h : EvTA l t σ) (hb : Bag l H) (h1 : ∀ H1, ExB l H H1 → Bag l H1 → tu { D with nx := tz D } σ H1) (h2 : ∀ H1, ExB l H H1 → Bag l H1 → tz D σ H1) : tSeq (tIfS t tu tNext) tz D σ H := h H hb _ fun c H1 e b => by
  cases c with
  | true => exact iteT (h1 H1 e b)
  | false => exact iteF (h2 H1 e b)
abbrev s__law_pair_drawn : Stmt := topS 62
abbrev N__law_pair_drawn : List Str := ["bag", "prime", "most", "bottom"]
theorem sc__law_pair_drawn : FnScope N__law_pair_drawn ["bag", "prime", "most"] (defScope s__law_pair_drawn) := ⟨rfl, rfl, rfl, by decide +kernel, rfl, by decide +kernel, by decide +kernel⟩
theorem ok__law_pair_drawn {f : Addr} {fd : FuncData} (F : Fun K "_law_pair_drawn" "_law_pair_drawn" s__law_pair_drawn f fd) (B : Bis mg) (cf : CFm K mg C)  (D__law_grab : De P w K mg base "_law_grab" ["bag", "total"] 1 (sp__law_grab K)) (D__law_one_of : De P w K mg base "_law_one_of" ["bag", "items"] 2 (sp__law_one_ofP K)) (D__law_monic_drawn : De P w K mg base "_law_monic_drawn" ["bag", "prime", "degree"] 2 (sp__law_monic_drawn K)) (D__law_poly_drawn : De P w K mg base "_law_poly_drawn" ["bag", "prime", "most"] 2 (sp__law_poly_drawn K)) : FnOk P w K mg base CX0 3 f fd ["bag", "prime", "most"] (sp__law_pair_drawn K) := by
  refine F.ok sc__law_pair_drawn (fun vs H Q E h => ?_) (fun cdv A outer s H vs Q E hr h => ?_)
  · obtain ⟨_, _, _, rfl, _⟩ := h
    rfl
  · obtain ⟨l, p, m, rfl, hb, hp, m1, m6, q⟩ := h
    refine ⟨_, (pss_cons (ps_set (i := 3) sc__law_pair_drawn.nd rfl (Or.inl rfl) (pe_tup (pa_cons pe_int pa_nil)))
      (pss_cons (ps_if (PW.pt (pw_and (pt_cmpR op_eq (pe_call D__law_grab.ok (hr.mono (by decide)) (by rfl) D__law_grab.g D__law_grab.kp D__law_grab.b .nil pass0 (pa_cons (pv 0) (pa_cons pe_int pa_nil))) pe_int (nomark _)) (pw_and1 (pt_cmpR op_gt (pv 2) pe_int (nomark _))))) (pss_one (ps_set (i := 3) sc__law_pair_drawn.nd rfl (Or.inl rfl) (pe_call D__law_one_of.ok (hr.mono (by decide)) (by rfl) D__law_one_of.g D__law_one_of.kp D__law_one_of.b .nil pass0 (pa_cons (pv 0) (pa_cons (pe_lst (pa_cons (pe_tup (pa_cons pe_int (pa_cons pe_int pa_nil))) (pa_cons (pe_tup (pa_cons pe_int (pa_cons pe_int pa_nil))) (pa_cons (pe_slice sl_tupA (pe_tup (pa_cons pe_int (pa_cons pe_int (pa_cons pe_int pa_nil)))) (po_some (pe_op op_sub pe_int (pe_callB (call_min2 rfl) (by rfl) (B "min" (by decide +kernel)) (by decide +kernel) (pa_cons pe_int (pa_cons (pv 2) pa_nil))))) po_none) (pa_cons (pe_call D__law_monic_drawn.ok (hr.mono (by decide)) (by rfl) D__law_monic_drawn.g D__law_monic_drawn.kp D__law_monic_drawn.b .nil pass0 (pa_cons (pv 0) (pa_cons (pv 1) (pa_cons (pe_op op_add pe_int (pe_call D__law_grab.ok (hr.mono (by decide)) (by rfl) D__law_grab.g D__law_grab.kp D__law_grab.b .nil pass0 (pa_cons (pv 0) (pa_cons (pv 2) pa_nil)))) pa_nil)))) pa_nil))))) pa_nil))))) pss_nil)
      (pss_one (ps_ret (pe_tup (pa_cons (pe_call D__law_poly_drawn.ok (hr.mono (by decide)) (by rfl) D__law_poly_drawn.g D__law_poly_drawn.kp D__law_poly_drawn.b .nil pass0 (pa_cons (pv 0) (pa_cons (pv 1) (pa_cons (pv 2) pa_nil)))) (pa_cons (pv 3) pa_nil))))))), ?_⟩
    have h2 := hp.le
    have k2 : ∀ ns : List Int, (ns.all fun n => decide (n = 0) || decide (n = 1)) = true → trim ns = ns → Pl p ns := fun ns h ht => ⟨fun n hn => by
      have z := List.all_eq_true.mp h n hn
      simp only [Bool.or_eq_true, decide_eq_true_eq] at z
      omega, ht⟩
    have fin : ∀ (b : List Int) (vb : V) (H1 : Hp), Pl p b → b ≠ [] → b.length ≤ m + 1 → (vP K b).R vb H1 → ExB l H H1 → Bag l H1 → tRet (tTup (tCons (tCall (sp__law_poly_drawn K) [] E0 (tCons (tVar 0) (tCons (tVar 1) (tCons (tVar 2) tNil)))) (tCons (tVar 3) tNil))) { nx := fun _ H' => Q .non H', rt := Q } [some (.ref l), some (.int p), some (.int (m : Int)), some vb] H1 := fun b vb H1 pb nb lb hvb e1 b1 =>
      ⟨.ref l, rfl, .int p, rfl, .int (m : Int), rfl, l, p, m, rfl, b1, by omega, by omega, by omega, fun ns v H2 rn tn ln e2 b2 hv => ⟨vb, rfl, sz_of (by show 2 ≤ 100000; decide), fun T hT => by
        obtain ⟨eT, bT, hTl⟩ := bag_new (o := .tup [v, vb]) b2 hT
        have exT : Ex H2 (upd H2 T (.tup [v, vb])) := Ex.new hT
        refine q ns b (.ref T) _ ⟨rn, tn⟩ (by omega) pb nb lb ((e1.trans e2).trans eT) bT ⟨T, [v, vb], rfl, st_of upd_same, v, [vb], rfl, (vP K ns).st exT hv, vb, [], rfl, (vP K b).st exT (stb_P.bag hvb b1 e2), rfl⟩⟩⟩
    refine qr_asg (r := vP K [1]) evr_k1 fun v3 H1 e1 h3 => ?_
    have b1 := hb.ex e1
    refine qa_when (l := l) (ta_and (ta_eq (evb_grab (t := 3) rfl (fun H1 => evr_c) (by decide) (by decide))) (ta_of fun H => et_r (evr_op (evr_var (r := vI (m : Int)) rfl rfl) evr_c op_i0))) b1 (fun H2 e2 b2 => ?_) (fun H2 e2 b2 => ?_)
    · refine asg_oneof (l := l) rfl ?_
      refine cons_r (evr_k01 (K := K)) fun w1 H3 e3 hw1 => ?_
      refine cons_r (evr_disp (K := K) (ns := [1, 1]) (evrs_cons evr_c (evrs_cons evr_c evrs_nil)) (by decide)) fun w2 H4 e4 hw2 => ?_
      have esl : EvR (tSl (rSlA K) (tTup (tCons (tC (.int 0)) (tCons (tC (.int 0)) (tCons (tC (.int 1)) tNil)))) (tPart (tOp (rI0 fun i j => .int (i - j)) (tC (.int 2)) (tCB (fun xs H Q => ∃ i j, xs = [.int i, .int j] ∧ Q (.int (if j < i then j else i)) H) (tCons (tC (.int 2)) (tCons (tVar 2) tNil))))) tNoPart) [some (.ref l), some (.int p), some (.int (m : Int)), some v3] H4 (vP K (if m = 1 then [0, 1] else [0, 0, 1])) := by
        have ed : EvR (tTup (tCons (tC (.int 0)) (tCons (tC (.int 0)) (tCons (tC (.int 1)) tNil)))) [some (.ref l), some (.int p), some (.int (m : Int)), some v3] H4 (vP K [0, 0, 1]) := evr_disp (ns := [0, 0, 1]) (evrs_cons evr_c (evrs_cons evr_c (evrs_cons evr_c evrs_nil))) (by decide)
        have em : EvR (tOp (rI0 fun i j => .int (i - j)) (tC (.int 2)) (tCB (fun xs H Q => ∃ i j, xs = [.int i, .int j] ∧ Q (.int (if j < i then j else i)) H) (tCons (tC (.int 2)) (tCons (tVar 2) tNil)))) [some (.ref l), some (.int p), some (.int (m : Int)), some v3] H4 (vI ((if m = 1 then 1 else 0 : Nat) : Int)) := by
          refine EvR.eqI (evr_op evr_c (evr_cb (evrs_cons evr_c (evrs_cons (evr_var (r := vI (m : Int)) rfl rfl) evrs_nil)) (cb_min rfl)) op_i0) ?_
          split <;> split <;> omega
        have z := evr_slT ed (eo_some em) eo_none
        by_cases h : m = 1
        · rw [if_pos h] at z ⊢
          exact z
        · rw [if_neg h] at z ⊢
          exact z
      refine cons_r esl fun w3 H5 e5 hw3 => ?_
      have e25 := (e3.trans e4).trans e5
      have b5 := b2.ex e25
      refine ⟨.ref l, rfl, .int p, rfl, ?_⟩
      refine ⟨.ref l, rfl, .int (m : Int), rfl, l, (m : Int), rfl, b5, by omega, ?_, fun r H6 g0 g1 e6 b6 => ?_⟩
      · have : (m : Int).natAbs ≤ 10 := by omega
        exact Nat.lt_of_le_of_lt this (by decide)
      obtain ⟨rn, rfl⟩ := Int.eq_ofNat_of_zero_le g0
      refine ⟨1, (rn : Int), rfl, rfl, l, p, 1 + rn, by rw [Int.natCast_add]; rfl, b6, hp, by omega, fun ns v4 H7 pn mn ln e7 b7 hv4 => ⟨sz_of (by show 4 ≤ 100000; decide), fun D hD => ?_⟩⟩
      have e57 := e6.trans e7
      obtain ⟨eD, bD, hDl⟩ := bag_new (o := .lst [w1, w2, w3, v4]) b7 hD
      have exD : Ex H7 (upd H7 D (.lst [w1, w2, w3, v4])) := Ex.new hD
      have kp : ∀ {ns : List Int} {v : V}, (vP K ns).R v H5 → (vP K ns).R v (upd H7 D (.lst [w1, w2, w3, v4])) := fun h => (vP K _).st exD (stb_P.bag h b5 e57)
      refine ⟨l, D, [[0, 1], [1, 1], (if m = 1 then [0, 1] else [0, 0, 1]), ns], _, rfl, hDl, bD, upd_same, ⟨w1, _, rfl, kp ((vP K _).st (e4.trans e5) hw1), w2, _, rfl, kp ((vP K _).st e5 hw2), w3, _, rfl, kp hw3, v4, _, rfl, (vP K ns).st exD hv4, rfl⟩, by simp, Nat.le_of_ble_eq_true rfl, fun b vb H8 hbm e8 b8 hvb => ?_⟩
      have hbo : Pl p b ∧ b ≠ [] ∧ b.length ≤ m + 1 := by
        simp only [List.mem_cons, List.not_mem_nil, or_false] at hbm
        rcases hbm with rfl | rfl | rfl | rfl
        · exact ⟨k2 _ (by decide) (by decide), by simp, by show 2 ≤ m + 1; omega⟩
        · exact ⟨k2 _ (by decide) (by decide), by simp, by show 2 ≤ m + 1; omega⟩
        · split
          · exact ⟨k2 _ (by decide) (by decide), by simp, by show 2 ≤ m + 1; omega⟩
          · exact ⟨k2 _ (by decide) (by decide), by simp, by show 3 ≤ m + 1; omega⟩
        · exact ⟨pn, mn.1, by omega⟩
      exact fin b vb H8 hbo.1 hbo.2.1 hbo.2.2 hvb ((ExB.of e1).trans (e2.trans ((ExB.of e25).trans (e57.trans (eD.trans e8))))) b8
    · exact fin [1] v3 H2 (.one hp) (by simp) (by show 1 ≤ m + 1; omega) (stb_P.bag h3 b1 e2) ((ExB.of e1).trans e2) b2
end
end K0
namespace K0
open PySem PySem.Spec PyProof.Rows L2 Kt M
open Evl (Ex Ev EvL EvU EvT EvA EvO ex_l ex_t sq_of st_of sz_of sz_lt fresh_back given)
theorem Dk.fnr {P : Program} {w : World} {K : PySem.W.Frag} {mg : Str → Option Value} {base : Heap} {C : Addr} {m : Str} {ps : List Str} {k : Nat} {sp : Sp} (M : Dk P w K mg base C m ps k sp) : FnR P w K mg base CX0 k M.f sp := (M.ok.raw M.b .nil).imp fun vs H Q E h => by
  rw [List.append_nil]
  exact h
def rOwnT (K : PySem.W.Frag) (C : Addr) (sp : Sp) (E : XK) : R2 := fun x y H Q => ∃ a dx fs b xs, x = .ref a ∧ y = .ref b ∧ H a = some (.ins C dx fs) ∧ SqT K H b xs ∧ sp [.ref a, .ref b] H Q E
section
variable {X : Cx} {CX : CXT} {k : Nat} {C f : Addr} {fd : FuncData} {ps : List Str} {sp : Sp} {E : XK}
/-- a == b, b a tuple -/
theorem eq_ownT (c : OwnM X.K C "__eq__" f) (hn : PySem.W.notFirst X.K C (.type "tuple") = true) (hu : X.A.units < cLine) (F : FnOk X.prog X.w X.K X.mg X.base CX k f fd ps sp) (hr : Room k X.A) (hb : Binds X.K fd ps []) (hx : Passes CX X E) :
    OpR X (compareOp .Eq) (rOwnT X.K C sp E) := by
  intro pins s σ H x y v u Q I rx ry h
  obtain ⟨a, dx, fs, b, xs, rfl, rfl, ha, hs, hsp⟩ := h
  obtain rfl : v = .ref a := rx
  obtain rfl : u = .ref b := ry
  obtain ⟨mA, O, _, _, _, _⟩ := ins_get I.hok ha
  obtain ⟨od, J, _⟩ := O.look
  obtain ⟨its, rv, ⟨ob, ho, hc, n, hd⟩, hz⟩ := I.tuple hs
  obtain ⟨m, Fr⟩ := I.fr
  refine PySem.W.cmp_ofEq ?_
  refine PySem.W.cmp_K (op := .Eq) hu Fr I.ok.mod.kin J (hc ▸ (PySem.W.Looks.ld ho).andThen .now) hn c.at_ c.fn ?_
  exact wpAny_mono (run_fn (vs := [V.ref a, V.ref b]) (us := [Value.ref a, Value.ref b]) F hr hb .nil hx I (.cons rfl (.cons rfl .nil)) hsp) (fun v s' hv => back_of hv) fun _ _ e => e
end
section
variable {K : PySem.W.Frag} {mg : Str → Option Value} {C : Addr} {p q : Int} {F G : PF} {σ : L2.St} {H H' : Hp} {te tf ta tb : TE} {tas : TA} {ns : List Int} {b : Bool} {E : XK} {rs os : List VR} {r : VR} {i j l : Nat} {D : Ends} {tz tu : TS} {P1 P2 : Int → Prop} {t1 t2 : TE} {vs : List Nat}
def sp_F_eqT (K : PySem.W.Frag) (C : Addr) : Sp := Con (G := GFF) (fun _ => True) (fun g => [vF K C g.p g.F, vG K g.G]) (fun _ => vB false)
theorem op_eqT : OpV (rOwnT K C (sp_F_eqT K C) E) (vF K C p F) (vG K G) (vB false) H := fun x y H1 e hx hy Q k => by
  obtain ⟨a, dx, t, b, rfl, h2, _⟩ := id hx
  obtain ⟨a', xs, rfl, hs, _⟩ := id hy
  exact ⟨a, dx, _, a', xs, rfl, rfl, h2, hs, GFF.mk p F p G, trivial, ⟨_, _, rfl, hx, _, _, rfl, hy, rfl⟩, k⟩
theorem qb_par {l : Addr} (h1 : EvB l t1 σ P1) (h2 : EvB l t2 σ P2) (hb : Bag l H) (k : ∀ a b H1, P1 a → P2 b → ExB l H H1 → Bag l H1 → tz D ((σ.set i (some (.int a))).set j (some (.int b))) H1) : tSeq (tAsg (tTup (tCons t1 (tCons t2 tNil))) (gTup K 2 (gCons (gName i) (gCons (gName j) gNil)))) tz D σ H :=
  h1 H hb _ fun a H1 pa e1 b1 => h2 H1 b1 _ fun b H2 pb e2 b2 => ⟨sz_of (by show 2 ≤ 100000; decide), fun T hT => by
    obtain ⟨eT, bT, _⟩ := bag_new (o := .tup [.int a, .int b]) b2 hT
    exact ⟨T, _, rfl, st_of upd_same, rfl, _, _, rfl, _, _, rfl, rfl, k a b _ pa pb ((e1.trans e2).trans eT) bT⟩⟩
theorem evb_prime {l : Addr} (h0 : σ[0]? = some (some (.ref l))) : EvB l (tCall (sp__law_prime K) [] E (tCons (tVar 0) (tCons (tC (.int 7)) tNil))) σ Pr := fun H1 hb Q q => ⟨.ref l, h0, l, rfl, hb, fun p H2 hp e b => q p H2 hp e b⟩
theorem evr_letter (hp : Pr p) (h : EvR te σ H (vI p)) : EvR (ClX.tCMeth C (sp_F_letter K C) E (tC (.ref C)) (tCons te tNil)) σ H (vF K C p fLet) := fun H1 e Q k => ⟨rfl, h H1 e _ fun v H2 e2 hv => ⟨p, hp, ⟨_, _, rfl, rfl, v, [], rfl, hv, rfl⟩, fun u H3 e3 hu => k u H3 (e2.trans e3) hu⟩⟩
theorem evr_number {n : Int} (hp : Pr p) (hn : isInt (.int n) = true) (h : EvR te σ H (vI p)) (h2 : EvR tf σ H (vI n)) : EvR (ClX.tCMeth C (sp_F_number K C) E (tC (.ref C)) (tCons te (tCons tf tNil))) σ H (vF K C p (fNum p n)) := fun H1 e Q k => ⟨rfl, h H1 e _ fun v H2 e2 hv => h2 H2 (e.trans e2) _ fun u H3 e3 hu => ⟨G2.mk p n, ⟨hp, hn⟩, ⟨_, _, rfl, rfl, v, _, rfl, (vI p).st e3 hv, u, [], rfl, hu, rfl⟩, fun u H4 e4 hu => k u H4 ((e2.trans e3).trans e4) hu⟩⟩
/-- two new lists of things -/
theorem qm_par {r1 r2 : List VR} (h1 : EvM t1 σ H r1) (h2 : EvM t2 σ H r2) (k : ∀ p1 x1 p2 x2 H1, H p1 = none → H p2 = none → Ex H H1 → H1 p1 = some (.lst x1) → H1 p2 = some (.lst x2) → Alls r1 x1 H1 → Alls r2 x2 H1 → tz D ((σ.set i (some (.ref p1))).set j (some (.ref p2))) H1) : tSeq (tAsg (tTup (tCons t1 (tCons t2 tNil))) (gTup K 2 (gCons (gName i) (gCons (gName j) gNil)))) tz D σ H :=
  h1 H (Ex.refl H) _ fun p1 x1 H1 n1 e1 g1 a1 => h2 H1 e1 _ fun p2 x2 H2 n2 e2 g2 a2 => ⟨sz_of (by show 2 ≤ 100000; decide), fun T hT => by
    have eT : Ex H2 (upd H2 T (.tup [.ref p1, .ref p2])) := Ex.new hT
    exact ⟨T, _, rfl, st_of upd_same, rfl, _, _, rfl, _, _, rfl, rfl, k p1 x1 p2 x2 _ n1 (fresh_back e1 n2) ((e1.trans e2).trans eT) (eT _ _ (e2 _ _ g1)) (eT _ _ g2) ((a1.mono e2).mono eT) (a2.mono eT)⟩⟩
/-- [e for x, y in ..] over a list of pairs -/
theorem em_compG {wi : TI} {xs : List V} {qs : List PF} (hw : Wk wi σ H xs.length (YAt xs)) (hal : Alls (qs.map (vG K)) xs H) (hlen : os.length = qs.length) (hz : qs.length ≤ 50000) (hv : ∀ x y, wipe (((wipe σ vs).set i (some x)).set j (some y)) vs = wipe σ vs)
    (hst : ∀ o ∈ os, Stab o) (he : ∀ (n : Nat) (q : PF) (o : VR) (x y : V) (H1 : Hp), qs[n]? = some q → os[n]? = some o → Ex H H1 → (vP K q.1).R x H1 → (vP K q.2).R y H1 → EvR te (((wipe σ vs).set i (some x)).set j (some y)) H1 o) : EvM (tLc wi (gTup K 2 (gCons (gName i) (gCons (gName j) gNil))) tYes te vs) σ H os := fun H0 e Q k =>
  hw H0 e _ fun J H1 G e1 w hG Dd hD => by
    have hxl := hal.len
    rw [List.length_map] at hxl
    refine lc_it w (fun i H' => H1 Dd = none ∧ Ex H1 H' ∧ ∃ acc, H' Dd = some (.lst acc) ∧ Alls (os.take i) acc H') ⟨hD, Ex.new hD, [], upd_same, rfl⟩ (fun i H' _ p => hG H' p.2.1) (fun n x Ha Hb hi p y => ?_) (fun H' p => ?_)
    · obtain ⟨p1, p2, acc, p3, p4⟩ := p
      obtain ⟨rfl, hx⟩ := y
      obtain ⟨r, hr, hrx⟩ := Alls.one hal hx
      rw [List.getElem?_map] at hr
      cases hq : qs[n]? with
      | none => rw [hq] at hr; cases hr
      | some q0 =>
        rw [hq] at hr
        obtain rfl := Option.some.inj hr
        have eH : Ex H Hb := (e.trans e1).trans p2
        obtain ⟨a, ws, rfl, hs, v1, w1, rfl, h1, v2, w2, rfl, h2, hw2⟩ := (vG K q0).st eH hrx
        obtain rfl : w2 = [] := hw2
        refine ⟨a, _, rfl, hs, rfl, _, _, rfl, _, _, rfl, rfl, hv _ _, ?_⟩
        unfold tYes
        dsimp only
        rw [if_pos rfl]
        have hio : n < os.length := by omega
        have ho : os[n]? = some os[n] := List.getElem?_eq_getElem hio
        refine he n q0 _ v1 v2 Hb hq ho eH h1 h2 Hb (Ex.refl Hb) _ fun v H4 e4 hv4 => ?_
        refine ⟨acc, e4 _ _ p3, sz_lt (by have := p4.len; rw [List.length_take] at this; omega), p1, Ex.mut (p2.trans e4) p1, acc ++ [v], upd_same, ?_⟩
        rw [List.take_add_one, ho]
        refine Alls.stab (fun o ho' => hst o ?_) ((p4.mono e4).snoc hv4) (e4 _ _ p3)
        rcases List.mem_append.mp ho' with h | h
        · exact List.mem_of_mem_take h
        · obtain rfl := List.mem_singleton.mp h
          exact List.getElem_mem hio
    · obtain ⟨p1, p2, acc, p3, p4⟩ := p
      rw [hxl, ← hlen, List.take_length] at p4
      exact k Dd acc H' (fresh_back e1 p1) (e1.trans p2) p3 p4
/-- for over a tuple of things -/
theorem qr_forT {rs : List VR} {g : TG} (h : EvR te σ H (vT K rs)) (Pv : Hp → Nat → L2.St → Hp → Prop) (h0 : ∀ H1, Ex H H1 → Pv H1 0 σ H1) (hx : ∀ H1 n σ' H', Pv H1 n σ' H' → Ex H1 H')
    (hs : ∀ H1 n r y σ' H', rs[n]? = some r → Pv H1 n σ' H' → r.R y H' → g y σ' H' fun σ2 H2 => tu { D with nx := Pv H1 (n + 1), ct := Pv H1 (n + 1), bk := tz D } σ2 H2)
    (hd : ∀ H1 σ' H', Pv H1 rs.length σ' H' → tz D σ' H') : tSeq (tFor (iTup K te) g tu) tz D σ H :=
  h H (Ex.refl H) _ fun v H1 e hv => by
    obtain ⟨a, xs, rfl, hsq, hal⟩ := hv
    have hlen := hal.len
    refine ⟨a, rfl, ⟨xs, hsq⟩, for_it (walk_tup (K := K) (a := a) (xs := xs)) (Pv H1) (h0 H1 e) (fun n σ' H' _ p => ex_t (hx _ _ _ _ p) hsq) (fun n y σ' H' H2 hn p yy => ?_) (fun σ' H' p => hd H1 σ' H' (by rw [← hlen]; exact p))⟩
    obtain ⟨rfl, hy⟩ := yy
    obtain ⟨r, hr, hry⟩ := Alls.one hal hy
    exact hs H1 n r y σ' _ hr p (r.st (hx _ _ _ _ p) hry)
end
theorem eqv_pair (a b c d : List Int) : PyData.eqv (.tuple [dP a, dP b]) (.tuple [dP c, dP d]) = (decide (a = c) && decide (b = d)) := by
  rw [PyData.eqv, PyData.eqvAll, PyData.eqvAll, PyData.eqvAll, eqv_P, eqv_P, Bool.and_true]
theorem shaped_pair (a b : List Int) : SeqAt.shaped (.tuple [dP a, dP b]) = true := shaped_tuple fun d hd => by
  simp only [List.mem_cons, List.not_mem_nil, or_false] at hd
  rcases hd with rfl | rfl
  · exact ⟨SeqAt.canLay_of_shaped (shaped_P _), by unfold dP; rw [PyData.depth, depth_ints]; decide⟩
  · exact ⟨SeqAt.canLay_of_shaped (shaped_P _), by unfold dP; rw [PyData.depth, depth_ints]; decide⟩
/-- a drawn pair -/
structure PD (p : Int) (q : PF) : Prop where
  t : Pl p q.1
  lt : q.1.length ≤ 5
  b : Pl p q.2
  nb : q.2 ≠ []
  lb : q.2.length ≤ 5
theorem PD.nf {p : Int} (hp : Pr p) {q : PF} (h : PD p q) : NF p (nf p q.1 q.2) ∧ Le 5 (nf p q.1 q.2) := by
  have l1 := h.lt
  have l2 := h.lb
  exact ⟨(nf_ok hp h.t h.b h.nb (by omega) (by omega)).1, nf_le hp h.t h.b h.nb ⟨l1, l2⟩ (by omega)⟩
theorem PD.okP {p : Int} {q : PF} (h : PD p q) : PolyOk p q.1 ∧ PolyOk p q.2 := ⟨⟨h.t.r, h.t.t, by have := h.lt; omega⟩, ⟨h.b.r, h.b.t, by have := h.lb; omega⟩⟩
theorem scale_ne {p : Int} (hp : Pr p) {xs : List Int} (hx : Pl p xs) (nx : xs ≠ []) {f : Int} (h0 : 0 < f) (h1 : f < p) : scale p xs f ≠ [] := fun z => by
  have hp0 : 0 < p := by omega
  have e1 : e p (scale p xs f) = kc p f * e p xs := e_scale xs f
  rw [z, e_nil] at e1
  have ki := kc_inv hp h0 h1
  refine nx (e_zero hp0 hx ?_)
  grind
theorem wide_ok {p : Int} (hp : Pr p) {t b k : List Int} (ht : Pl p t) (hb : Pl p b) (nb : b ≠ []) (hk : Pl p k) (nk : k ≠ []) (lt : t.length ≤ 100) (lb : b.length ≤ 100) (lk : k.length ≤ 100) : nf p (prod p t k) (prod p b k) = nf p t b := by
  have hp0 : 0 < p := by have := hp.le; omega
  have n1 := nf_ok hp ht hb nb (by omega) (by omega)
  have p1 := prod_len p t k
  have p2 := prod_len p b k
  have nbk := prod_ne hp hb hk nb nk
  have n2 := nf_ok hp (t := prod p t k) (b := prod p b k) (.prod hp0 _ _) (.prod hp0 _ _) nbk (by omega) (by omega)
  refine re_uniq hp n2.1 n1.1 n2.2 n1.2 (.of (.prod hp0 _ _) nbk) (.of hb nb) ?_
  rw [e_prod, e_prod]
  grind
theorem PolyOk.tx {p : Int} (hp : Pr p) {xs : List Int} (h : PolyOk p xs) : TxOk xs := ⟨fun n hn => by
  have := h.r n hn
  have := hp.le
  omega, by have := h.l; omega⟩
end K0
namespace M
/-! ### the derivative of a row -/
def dc (f : Nat → Int) : Nat → Int := fun k => ((k : Int) + 1) * f (k + 1)
def th (f : Nat → Int) : Nat → Int := fun k => (k : Int) * f k
theorem th_mul : ∀ (k : Nat) (f g : Nat → Int), mulc k (th f) g + mulc k f (th g) = (k : Int) * mulc k f g
  | 0, f, g => by simp [mulc, th]
  | k + 1, f, g => by
    have ih := th_mul k (fun i => f (i + 1)) g
    have e1 : (fun i => th f (i + 1)) = fun i => th (fun i => f (i + 1)) i + f (i + 1) := by
      funext i
      show ((i + 1 : Nat) : Int) * f (i + 1) = (i : Int) * f (i + 1) + f (i + 1)
      rw [Int.natCast_add, Int.add_mul]
      omega
    have e2 := PS.mulc_addL k (th fun i => f (i + 1)) (fun i => f (i + 1)) g
    have e3 : mulc (k + 1) (th f) g = mulc k (fun i => th f (i + 1)) g := by
      show th f 0 * g (k + 1) + _ = _
      unfold th
      simp
    have e4 : mulc (k + 1) f (th g) = f 0 * (((k + 1 : Nat) : Int) * g (k + 1)) + mulc k (fun i => f (i + 1)) (th g) := rfl
    have e5 : mulc (k + 1) f g = f 0 * g (k + 1) + mulc k (fun i => f (i + 1)) g := rfl
    rw [e3, e1, e2, e4, e5]
    generalize mulc k (th fun i => f (i + 1)) g = a at *
    generalize mulc k (fun i => f (i + 1)) g = b at *
    generalize mulc k (fun i => f (i + 1)) (th g) = c at *
    rw [Int.natCast_add] at *
    generalize ((k : Nat) : Int) = z at *
    grind
theorem dc_mul (k : Nat) (f g : Nat → Int) : ((k : Int) + 1) * mulc (k + 1) f g = mulc k (dc f) g + mulc k f (dc g) := by
  have h := th_mul (k + 1) f g
  have e1 : mulc (k + 1) (th f) g = mulc k (dc f) g := by
    show th f 0 * g (k + 1) + mulc k (fun i => th f (i + 1)) g = _
    have z : th f 0 = 0 := by simp [th]
    rw [z, Int.zero_mul, Int.zero_add]
    rfl
  have e2 : mulc (k + 1) f (th g) = mulc k f (dc g) := by
    rw [PS.mulc_right]
    have z : th g 0 = 0 := by simp [th]
    rw [z, Int.mul_zero, Int.zero_add]
    rfl
  rw [e1, e2] at h
  rw [h]
  rfl
def dS (f : PS) : PS := ⟨dc f.c⟩
theorem dS_add (f g : PS) : dS (f + g) = dS f + dS g := by
  apply PS.ext
  funext k
  show ((k : Int) + 1) * (f.c (k + 1) + g.c (k + 1)) = _
  rw [Int.mul_add]
  rfl
theorem dS_mul (f g : PS) : dS (f * g) = dS f * g + f * dS g := by
  apply PS.ext
  funext k
  exact dc_mul k f.c g.c
theorem dS_cst (n : Int) : dS ⟨cst n⟩ = 0 := by
  apply PS.ext
  funext k
  show ((k : Int) + 1) * 0 = cst 0 k
  rw [Int.mul_zero]
  cases k <;> rfl
end M
namespace K0
open M QP
variable {p : Int}
/-- the derivative modulo p -/
def dq : QP p → QP p := Quotient.lift (fun f => E (dS f)) fun f g ⟨h, e⟩ => sound ⟨dS h, by rw [e, dS_add, dS_mul, dS_cst]; grind⟩
theorem dq_E (f : PS) : dq (E f : QP p) = E (dS f) := rfl
theorem dq_add (x y : QP p) : dq (x + y) = dq x + dq y := by
  obtain ⟨f, rfl⟩ := rep x
  obtain ⟨g, rfl⟩ := rep y
  rw [add_E, dq_E, dS_add, dq_E, dq_E, add_E]
theorem dq_mul (x y : QP p) : dq (x * y) = dq x * y + x * dq y := by
  obtain ⟨f, rfl⟩ := rep x
  obtain ⟨g, rfl⟩ := rep y
  rw [mul_E, dq_E, dS_mul, dq_E, dq_E, mul_E, mul_E, add_E]
theorem dq_kc (n : Int) : dq (kc p n) = 0 := by
  unfold kc
  rw [dq_E, dS_cst]
  rfl
end K0
namespace K0
open M QP
variable {p : Int}
theorem e_slope (hp : 0 < p) (xs : List Int) : e p (slopeOf p xs) = dq (e p xs) := by
  unfold slopeOf e
  rw [co_trim, dq_E]
  refine sound (.ofc fun k => ?_)
  show (((xs.mapIdx fun i n => (i : Int) * n % p).drop 1).getD k 0) % p = (((k : Int) + 1) * xs.getD (k + 1) 0) % p
  rw [List.getD_eq_getElem?_getD, List.getD_eq_getElem?_getD, List.getElem?_drop, List.getElem?_mapIdx, Nat.add_comm 1 k]
  cases h : xs[k + 1]? with
  | none => simp
  | some x =>
    simp only [Option.map_some, Option.getD_some]
    rw [Int.emod_emod, Int.natCast_add]
    rfl
theorem slope_pl (hp : 0 < p) (xs : List Int) : Pl p (slopeOf p xs) := ⟨fun n hn => by
  have h := trim_sub hn
  have h2 := List.mem_of_mem_drop h
  obtain ⟨i, hi, rfl⟩ := List.mem_mapIdx.mp h2
  exact ⟨Int.emod_nonneg _ (by omega), Int.emod_lt_of_pos _ hp⟩, trim_trim _⟩
theorem slope_len (p : Int) (xs : List Int) : (slopeOf p xs).length ≤ xs.length - 1 := by
  unfold slopeOf
  refine Nat.le_trans (trim_len _) ?_
  rw [List.length_drop, List.length_mapIdx]
  omega
/-- the slope of a function, the law's way -/
def fSlope (p : Int) (F : List Int × List Int) : List Int × List Int := nf p (addScaled p (prod p (slopeOf p F.1) F.2) (prod p F.1 (slopeOf p F.2)) (-1)) (prod p F.2 F.2)
theorem fSlope_ok (hp : Pr p) {F : List Int × List Int} {m : Nat} (hF : NF p F) (lF : Le m F) (hm : m + m ≤ 400) : NF p (fSlope p F) ∧ Re (fSlope p F) (dq (e p F.1) * e p F.2 - e p F.1 * dq (e p F.2)) (e p F.2 * e p F.2) ∧ Le (m + m) (fSlope p F) := by
  have hp0 : 0 < p := by have := hp.le; omega
  have h1 := lF.1
  have h2 := lF.2
  have l1 := slope_len p F.1
  have l2 := slope_len p F.2
  have a1 := prod_len p (slopeOf p F.1) F.2
  have a2 := prod_len p F.1 (slopeOf p F.2)
  have a3 := prod_len p F.2 F.2
  have a4 := addScaled_len p (prod p (slopeOf p F.1) F.2) (prod p F.1 (slopeOf p F.2)) (-1)
  have nb := prod_ne hp hF.b hF.b hF.nb hF.nb
  have N := nf_ok hp (t := addScaled p (prod p (slopeOf p F.1) F.2) (prod p F.1 (slopeOf p F.2)) (-1)) (b := prod p F.2 F.2) (.add hp0 _ _ _) (.prod hp0 _ _) nb (by omega) (by omega)
  have L := nf_le hp (t := addScaled p (prod p (slopeOf p F.1) F.2) (prod p F.1 (slopeOf p F.2)) (-1)) (b := prod p F.2 F.2) (m := m + m) (.add hp0 _ _ _) (.prod hp0 _ _) nb ⟨by show (addScaled p _ _ (-1)).length ≤ m + m; omega, by show (prod p F.2 F.2).length ≤ m + m; omega⟩ hm
  refine ⟨N.1, ?_, L⟩
  have z := N.2
  unfold Re at z ⊢
  rw [e_add, e_prod, e_prod, e_prod, e_slope hp0, e_slope hp0, kc_neg] at z
  unfold fSlope
  rw [z]
  grind
/-- .. the package's way -/
def gSlope (p : Int) (F : List Int × List Int) : List Int × List Int :=
  shorten p (addScaled p (prod p (slopeOf p F.1) (quotientOf p F.2 (common p F.2 (slopeOf p F.2)))) (prod p F.1 (quotientOf p (slopeOf p F.2) (common p F.2 (slopeOf p F.2)))) (-1))
    (prod p F.2 (quotientOf p F.2 (common p F.2 (slopeOf p F.2)))) (common p F.2 (slopeOf p F.2))
theorem gSlope_ok (hp : Pr p) {F : List Int × List Int} {m : Nat} (hF : NF p F) (lF : Le m F) (hm : m + m ≤ 400) : gSlope p F = fSlope p F := by
  have hp0 : 0 < p := by have := hp.le; omega
  have A := fSlope_ok hp hF lF hm
  have h1 := lF.1
  have h2 := lF.2
  have l1 := slope_len p F.1
  have l2 := slope_len p F.2
  have ps := slope_pl hp0 F.2
  have C := com_ok hp hF.b ps (by omega) (by omega)
  obtain ⟨L, R, fL, fR, hL, hR⟩ := C.dv
  have mc := C.mo (.inl hF.nb)
  have lc := com_len hp hF.b hF.nb C
  unfold gSlope
  generalize common p F.2 (slopeOf p F.2) = c at *
  have dl := div_out hp hF.b C.pl mc.1 fL hL
  have dr := div_out hp ps C.pl mc.1 fR hR
  have ql : e p (quotientOf p F.2 c) = L := by rw [quotientOf_eq hp hF.b.r hF.b.t]; exact dl.1
  have qr : e p (quotientOf p (slopeOf p F.2) c) = R := by rw [quotientOf_eq hp ps.r ps.t]; exact dr.1
  have ml : Mo (quotientOf p F.2 c) := by rw [quotientOf_eq hp hF.b.r hF.b.t]; exact mo_div hp hF.b C.pl hF.mo mc fL hL
  have pl : Pl p (quotientOf p F.2 c) := by rw [quotientOf_eq hp hF.b.r hF.b.t]; exact hF.b.div1 hp0 c
  have len1 := quot_len hp hF.b mc.1
  have len2 := quot_len hp ps mc.1
  have len3 := prod_len p (slopeOf p F.1) (quotientOf p F.2 c)
  have len4 := prod_len p F.1 (quotientOf p (slopeOf p F.2) c)
  have len5 := prod_len p F.2 (quotientOf p F.2 c)
  have len6 := addScaled_len p (prod p (slopeOf p F.1) (quotientOf p F.2 c)) (prod p F.1 (quotientOf p (slopeOf p F.2) c)) (-1)
  have copLR : Cop L R := by
    obtain ⟨u, v, fu, fv, hu⟩ := C.bz
    refine ⟨u, v, fu, fv, cancel hp ((fu.mul fL).add (fv.mul fR)) .one C.pl mc.1 ?_⟩
    rw [hL, hR] at hu
    grind
  have et : e p (addScaled p (prod p (slopeOf p F.1) (quotientOf p F.2 c)) (prod p F.1 (quotientOf p (slopeOf p F.2) c)) (-1)) = dq (e p F.1) * L - e p F.1 * R := by
    rw [e_add, e_prod, e_prod, ql, qr, e_slope hp0, kc_neg]
    grind
  have eb : e p (prod p F.2 (quotientOf p F.2 c)) = (L * L) * e p c := by rw [e_prod, ql, hL]; grind
  have cF : Cop (e p F.1) L := by
    have := hF.cop
    rw [hL] at this
    exact (this.symm.part (.of c)).symm
  have fd : Fi (dq (e p F.1)) := by
    rw [← e_slope hp0]
    exact .of _
  have cT1 : Cop (dq (e p F.1) * L - e p F.1 * R) L := by
    have h : Cop (e p F.1 * R) L := (Cop.mul fL (.of _) fR cF.symm copLR).symm
    have h2 : Cop (-(e p F.1 * R)) L := by
      obtain ⟨u, v, fu, fv, hu⟩ := h
      refine ⟨kc p (-1) * u, v, (Fi.kc (-1)).mul fu, fv, ?_⟩
      rw [kc_neg]
      grind
    have z := h2.plus (t := dq (e p F.1)) fd
    have ez : -(e p F.1 * R) + L * dq (e p F.1) = dq (e p F.1) * L - e p F.1 * R := by grind
    rw [ez] at z
    exact z
  have fT : Fi (dq (e p F.1) * L - e p F.1 * R) := by
    rw [← et]
    exact .of _
  have cT : Cop (dq (e p F.1) * L - e p F.1 * R) (L * L) := Cop.mul fT fL fL cT1 cT1
  have pb : Pl p (prod p F.2 (quotientOf p F.2 c)) := .prod hp0 _ _
  have mb := mo_prod hp hF.b pl hF.mo ml
  rw [shorten_ok hp (.add hp0 _ _ _) pb C.pl mb mc (by omega) (by omega) (by omega) (fL.mul fL) eb (by rw [et]; exact cT)]
  have N := nf_ok hp (t := addScaled p (prod p (slopeOf p F.1) (quotientOf p F.2 c)) (prod p F.1 (quotientOf p (slopeOf p F.2) c)) (-1)) (b := prod p F.2 (quotientOf p F.2 c)) (.add hp0 _ _ _) pb mb.1 (by omega) (by omega)
  refine re_uniq hp N.1 A.1 N.2 A.2.1 (.of pb mb.1) ((Nz.of hF.b hF.nb).mul hp (.of hF.b hF.nb)) ?_
  have hb' : dq (e p F.2) = R * e p c := by rw [← e_slope hp0]; exact hR
  rw [et, eb, hb', hL]
  grind
end K0
namespace K0
open M QP
variable {p : Int}
theorem Fi.dq (hp : Pr p) {x : QP p} (h : Fi x) : Fi (dq x) := by
  have hp0 : 0 < p := by have := hp.le; omega
  obtain ⟨l, rfl⟩ := h
  rw [← e_slope hp0]
  exact .of _
theorem Fn.slope (hp : Pr p) {F : List Int × List Int} {m : Nat} {x y : QP p} (hF : Fn p m F x y) (hm : m + m ≤ 400) : Fn p (m + m) (fSlope p F) (dq x * y - x * dq y) (y * y) := by
  have A := fSlope_ok hp hF.nf hF.le hm
  have fN : Fi (dq x * y - x * dq y) := ((hF.fx.dq hp).mul hF.nz.fi).sub (hF.fx.mul (hF.nz.fi.dq hp))
  refine ⟨A.1, A.2.2, ?_, hF.nz.mul hp hF.nz, fN⟩
  have h1 := A.2.1
  have h0 := hF.re
  unfold Re at h0 h1 ⊢
  have hd : dq (e p F.1) * y + e p F.1 * dq y = dq x * e p F.2 + x * dq (e p F.2) := by
    rw [← dq_mul, ← dq_mul, h0]
  have nz : Nz (e p F.2 * e p F.2) := (Nz.of hF.nf.b hF.nf.nb).mul hp (.of hF.nf.b hF.nf.nb)
  refine Nz.cancel hp nz ((Fi.of _).mul (hF.nz.fi.mul hF.nz.fi)) (fN.mul (.of _)) ?_
  have k1 := congrArg (fun z => z * (e p F.2 * y)) hd
  have k2 := congrArg (fun z => z * (y * dq (e p F.2))) h0
  have k3 := congrArg (fun z => z * (dq y * e p F.2)) h0
  have k4 := congrArg (fun z => z * (y * y)) h1
  have key : (dq (e p F.1) * e p F.2 - e p F.1 * dq (e p F.2)) * (y * y) = (dq x * y - x * dq y) * (e p F.2 * e p F.2) := by grind
  have k5 := congrArg (fun z => z * e p (fSlope p F).2) key

  grind
section
variable {F G : List Int × List Int} {m n : Nat}
theorem s_add (hp : Pr p) (hF : NF p F) (hG : NF p G) (lF : Le m F) (lG : Le m G) (hm : m + m + (m + m) ≤ 400) : fSlope p (fAdd p F G 1) = fAdd p (fSlope p F) (fSlope p G) 1 :=
  ((Fn.add hp (.self hF lF) (.self hG lG) (by omega) 1).slope hp hm).eq hp (Fn.add hp (Fn.slope hp (.self hF lF) (by omega)) (Fn.slope hp (.self hG lG) (by omega)) hm 1) (by
    rw [kc_one, dq_add, dq_mul, dq_mul, dq_mul, dq_mul]
    have h1 : dq (1 : QP p) = 0 := dq_kc 1
    rw [h1]
    grind)
theorem s_mul (hp : Pr p) (hF : NF p F) (hG : NF p G) (lF : Le m F) (lG : Le m G) (hm : m + m + m + (m + m + m) ≤ 400) : fSlope p (fMul p F G) = fAdd p (fMul p (fSlope p F) G) (fMul p F (fSlope p G)) 1 :=
  ((Fn.mul hp (.self hF lF) (.self hG lG) (by omega)).slope hp (by omega)).eq hp (Fn.add hp (Fn.mul hp (Fn.slope hp (.self hF lF) (by omega)) (.self hG lG) (by omega)) (Fn.mul hp (.self hF lF) (Fn.slope hp (.self hG lG) (by omega)) (by omega)) (by omega) 1) (by
    rw [kc_one, dq_mul, dq_mul]
    grind)
end
end K0
namespace M
/-- the product of n numbers behind k -/
def run : Nat → Nat → Int
  | 0, _ => 1
  | n + 1, k => ((k : Int) + 1) * run n (k + 1)
theorem run_has : ∀ (n k i : Nat), i < n → ∃ m, run n k = ((k + i + 1 : Nat) : Int) * m
  | n + 1, k, 0, _ => ⟨run n (k + 1), by
    show ((k : Int) + 1) * _ = _
    rw [Nat.add_zero, Int.natCast_add]
    rfl⟩
  | n + 1, k, i + 1, h => by
    obtain ⟨m, hm⟩ := run_has n (k + 1) i (by omega)
    refine ⟨((k : Int) + 1) * m, ?_⟩
    show ((k : Int) + 1) * run n (k + 1) = _
    rw [hm, show k + 1 + i + 1 = k + (i + 1) + 1 by omega]
    rw [← Int.mul_assoc, ← Int.mul_assoc, Int.mul_comm ((k : Int) + 1)]
theorem run_zero {q n : Nat} (hq : 0 < q) (hn : q ≤ n) (k : Nat) : ∃ m, run n k = (q : Int) * m := by
  have hr := Nat.mod_lt k hq
  obtain ⟨m, hm⟩ := run_has n k (q - 1 - k % q) (by omega)
  have e : k + (q - 1 - k % q) + 1 = q * (k / q + 1) := by
    have := Nat.div_add_mod k q
    rw [Nat.mul_add, Nat.mul_one]
    omega
  rw [e] at hm
  refine ⟨((k / q + 1 : Nat) : Int) * m, ?_⟩
  rw [hm, Int.natCast_mul, Int.mul_assoc]
def dSn : Nat → PS → PS
  | 0, f => f
  | n + 1, f => dS (dSn n f)
theorem dSn_c : ∀ (n : Nat) (f : PS) (k : Nat), (dSn n f).c k = run n k * f.c (k + n)
  | 0, f, k => by
    show f.c k = 1 * f.c (k + 0)
    rw [Int.one_mul, Nat.add_zero]
  | n + 1, f, k => by
    show ((k : Int) + 1) * (dSn n f).c (k + 1) = ((k : Int) + 1) * run n (k + 1) * f.c (k + (n + 1))
    rw [dSn_c n f (k + 1), Int.mul_assoc, show k + 1 + n = k + (n + 1) by omega]
end M
namespace K0
open M QP
variable {p : Int}
/-- the derivative so many times -/
def dqn : Nat → QP p → QP p
  | 0, x => x
  | n + 1, x => dq (dqn n x)
theorem dqn_E : ∀ (n : Nat) (f : PS), dqn n (E f : QP p) = E (dSn n f)
  | 0, _ => rfl
  | n + 1, f => by
    show dq (dqn n (E f)) = _
    rw [dqn_E n f]
    rfl
/-- the derivative p times and more is 0 -/
theorem dqn_p {q n : Nat} (hq : 0 < q) (hp : p = (q : Int)) (hn : q ≤ n) (x : QP p) : dqn n x = 0 := by
  obtain ⟨f, rfl⟩ := rep x
  rw [dqn_E, zero_E]
  refine sound (.ofc fun k => ?_)
  obtain ⟨m, hm⟩ := run_zero hq hn k
  rw [dSn_c, hm, hp]
  show ((q : Int) * m * f.c (k + n)) % (q : Int) = (cst 0 k) % (q : Int)
  rw [Int.mul_assoc, Int.mul_emod_right]
  cases k <;> simp [cst]
end K0
namespace K0
open M QP
variable {p : Int}
theorem kc_add (a b : Int) : kc p (a + b) = kc p a + kc p b := by
  unfold kc
  rw [add_E]
  refine congrArg E (PS.ext (funext fun k => ?_))
  cases k with
  | zero => rfl
  | succ k => show (0 : Int) = 0 + 0; rfl
/-- the n-th slope, not in lowest terms -/
def tb (p : Int) (F : List Int × List Int) : Nat → List Int × List Int
  | 0 => F
  | n + 1 => (addScaled p (prod p (slopeOf p (tb p F n).1) F.2) (prod p (tb p F n).1 (slopeOf p F.2)) (-((n : Int) + 1)), prod p (tb p F n).2 F.2)
/-- slope number n -/
def sl (p : Int) (F : List Int × List Int) : Nat → List Int × List Int
  | 0 => F
  | n + 1 => fSlope p (sl p F n)
structure Tb (p : Int) (F : List Int × List Int) (m n : Nat) : Prop where
  t : Pl p (tb p F n).1
  b : Pl p (tb p F n).2
  nb : (tb p F n).2 ≠ []
  l : Le ((n + 1) * m) (tb p F n)
  c : ∃ c : QP p, Fi c ∧ e p (tb p F n).2 = c * e p F.2 ∧ dq (e p (tb p F n).2) = kc p ((n : Int) + 1) * (c * dq (e p F.2))
theorem tb_ok (hp : Pr p) {F : List Int × List Int} {m : Nat} (hF : NF p F) (lF : Le m F) : ∀ n, Tb p F m n
  | 0 => by
    refine ⟨hF.t, hF.b, hF.nb, by rw [Nat.zero_add, Nat.one_mul]; exact lF, 1, .one, ?_, ?_⟩
    · show e p F.2 = _
      grind
    · show dq (e p F.2) = kc p (((0 : Nat) : Int) + 1) * _
      rw [show ((0 : Nat) : Int) + 1 = 1 from rfl, kc_one]
      grind
  | n + 1 => by
    have hp0 : 0 < p := by have := hp.le; omega
    have ih := tb_ok hp hF lF n
    obtain ⟨c, fc, h1, h2⟩ := ih.c
    have l1 := ih.l.1
    have l2 := ih.l.2
    have f1 := lF.1
    have f2 := lF.2
    have s1 := slope_len p (tb p F n).1
    have s2 := slope_len p F.2
    have q1 := prod_len p (slopeOf p (tb p F n).1) F.2
    have q2 := prod_len p (tb p F n).1 (slopeOf p F.2)
    have q3 := prod_len p (tb p F n).2 F.2
    have q4 := addScaled_len p (prod p (slopeOf p (tb p F n).1) F.2) (prod p (tb p F n).1 (slopeOf p F.2)) (-((n : Int) + 1))
    have em : (n + 1 + 1) * m = (n + 1) * m + m := Nat.succ_mul _ _
    refine ⟨.add hp0 _ _ _, .prod hp0 _ _, prod_ne hp ih.b hF.b ih.nb hF.nb, ⟨?_, ?_⟩, e p (tb p F n).2, .of _, e_prod _ _, ?_⟩
    · rw [em]
      show (addScaled p _ _ _).length ≤ _
      omega
    · rw [em]
      show (prod p _ _).length ≤ _
      omega
    · show dq (e p (prod p _ _)) = kc p (((n + 1 : Nat) : Int) + 1) * _
      have e3 : kc p (((n + 1 : Nat) : Int) + 1) = kc p ((n : Int) + 1) + 1 := by
        rw [show ((n + 1 : Nat) : Int) + 1 = ((n : Int) + 1) + 1 by rw [Int.natCast_add]; rfl, kc_add ((n : Int) + 1) 1, kc_one]
      rw [e_prod, dq_mul, h2, e3, h1]
      generalize kc p ((n : Int) + 1) = z
      grind
theorem sl_ok (hp : Pr p) {F : List Int × List Int} {m : Nat} (hF : NF p F) (lF : Le m F) : ∀ n, (n + 1) * m ≤ 200 → sl p F n = nf p (tb p F n).1 (tb p F n).2
  | 0, h => (nf_self hp hF (by have := lF.1; omega) (by have := lF.2; omega)).symm
  | n + 1, h => by
    have em : (n + 1 + 1) * m = (n + 1) * m + m := Nat.succ_mul _ _
    have hp0 : 0 < p := by have := hp.le; omega
    have ih := sl_ok hp hF lF n (by omega)
    have T := tb_ok hp hF lF n
    have T2 := tb_ok hp hF lF (n + 1)
    have a1 := T.l.1
    have a2 := T.l.2
    have b1 := T2.l.1
    have b2 := T2.l.2
    have N := nf_ok hp T.t T.b T.nb (by omega) (by omega)
    have L := nf_le hp (m := (n + 1) * m) T.t T.b T.nb T.l (by omega)
    have N2 := nf_ok hp T2.t T2.b T2.nb (by omega) (by omega)
    have S := Fn.slope hp (F := nf p (tb p F n).1 (tb p F n).2) (m := (n + 1) * m) ⟨N.1, L, N.2, .of T.b T.nb, .of _⟩ (by omega)
    show fSlope p (sl p F n) = _
    rw [ih]
    refine re_uniq hp S.nf N2.1 S.re N2.2 S.nz (.of T2.b T2.nb) ?_
    obtain ⟨c, fc, h1, h2⟩ := T.c
    have e1 : e p (tb p F (n + 1)).1 = dq (e p (tb p F n).1) * e p F.2 - kc p ((n : Int) + 1) * (e p (tb p F n).1 * dq (e p F.2)) := by
      show e p (addScaled p _ _ _) = _
      rw [e_add, e_prod, e_prod, e_slope hp0, e_slope hp0, show -((n : Int) + 1) = -1 * ((n : Int) + 1) by omega, ← kc_mul, kc_neg]
      grind
    have e2 : e p (tb p F (n + 1)).2 = e p (tb p F n).2 * e p F.2 := e_prod _ _
    rw [e1, e2, h2, h1]
    grind
theorem sl_le (hp : Pr p) {F : List Int × List Int} {m : Nat} (hF : NF p F) (lF : Le m F) (n : Nat) (h : (n + 1) * m ≤ 200) : NF p (sl p F n) ∧ Le ((n + 1) * m) (sl p F n) := by
  have T := tb_ok hp hF lF n
  have a1 := T.l.1
  have a2 := T.l.2
  rw [sl_ok hp hF lF n h]
  exact ⟨(nf_ok hp T.t T.b T.nb (by omega) (by omega)).1, nf_le hp T.t T.b T.nb T.l (by omega)⟩
end K0
namespace K0
open M QP
variable {p : Int}
theorem kc_p (hp : 0 < p) : kc p p = 0 := by
  rw [← kc_mod hp, Int.emod_self]
  rfl
theorem Nz.fin {y : QP p} (h : Nz y) : Fi y := h.fi
/-- slopes over a bottom whose derivative is 0 -/
theorem sl_flat (hp : Pr p) {F : List Int × List Int} {m : Nat} (hF : NF p F) (lF : Le m F) {x y : QP p} (hx : Fi x) (ny : Nz y) (dy : dq y = 0) (h : Re F x y) : ∀ n, (n + 1) * m ≤ 200 → Re (sl p F n) (dqn n x) y ∧ Fi (dqn n x)
  | 0, _ => ⟨h, hx⟩
  | n + 1, hn => by
    have em : (n + 1 + 1) * m = (n + 1) * m + m := Nat.succ_mul _ _
    obtain ⟨r, fx⟩ := sl_flat hp hF lF hx ny dy h n (by omega)
    have L := sl_le hp hF lF n (by omega)
    have S := Fn.slope hp (F := sl p F n) (m := (n + 1) * m) ⟨L.1, L.2, r, ny, fx⟩ (by omega)
    refine ⟨?_, fx.dq hp⟩
    have z := S.re
    show e p (fSlope p (sl p F n)).1 * y = dq (dqn n x) * e p (fSlope p (sl p F n)).2
    unfold Re at z
    refine Nz.cancel hp ny ((Fi.of _).mul ny.fi) ((fx.dq hp).mul (.of _)) ?_
    rw [dy] at z
    grind
theorem re_zero (hp : Pr p) {F : List Int × List Int} (hF : NF p F) {y : QP p} (ny : Nz y) (h : Re F 0 y) : F = ([], [1]) := by
  refine nf_uniq hp hF (.zero hp) ?_
  have z : e p F.1 = 0 := by
    unfold Re at h
    refine Nz.cancel hp ny (.of _) (by rw [← e_nil]; exact .of _) ?_
    rw [h]
    grind
  show e p F.1 * e p [1] = e p [] * e p F.2
  rw [z, e_nil]
  grind
theorem sl_zero (hp : Pr p) : fSlope p (([], [1]) : List Int × List Int) = ([], [1]) := by
  have S := Fn.slope hp (F := ([], [1])) (m := 1) (.self (.zero hp) ⟨by decide, by decide⟩) (by decide)
  refine re_zero hp S.nf S.nz ?_
  have z := S.re
  have e0 : e p ([] : List Int) = 0 := e_nil
  have d1 : dq (1 : QP p) = 0 := dq_kc 1
  have e1 : dq (e p ([] : List Int)) * e p [1] - e p ([] : List Int) * dq (e p [1]) = 0 := by
    rw [e0, e_one, d1]
    have : dq (0 : QP p) = 0 := dq_kc 0
    rw [this]
    grind
  rw [e1] at z
  exact z
/-- slope number p and those behind it are 0 -/
theorem sl_p (hp : Pr p) {F : List Int × List Int} {m q : Nat} (hF : NF p F) (lF : Le m F) (hq : p = (q : Int)) (hm : (q + 1) * m ≤ 200) : ∀ n, q ≤ n → sl p F n = ([], [1]) := by
  have hp2 := hp.le
  have base : sl p F q = ([], [1]) := by
    obtain ⟨r, rfl⟩ : ∃ r, q = r + 1 := ⟨q - 1, by omega⟩
    have T := tb_ok hp hF lF r
    obtain ⟨c, hc, h1, h2⟩ := T.c
    have ny : Nz (e p (tb p F r).2) := .of T.b T.nb
    have dy : dq (e p (tb p F r).2) = 0 := by
      rw [h2, show ((r : Nat) : Int) + 1 = p by omega, kc_p (by omega)]
      grind
    have R : Re F (e p F.1 * c) (e p (tb p F r).2) := by
      unfold Re
      rw [h1]
      grind
    have Z := sl_flat hp hF lF ((Fi.of _).mul hc) ny dy R (r + 1) (by omega)
    have L := sl_le hp hF lF (r + 1) (by omega)
    refine re_zero hp L.1 ny ?_
    rw [← dqn_p (q := r + 1) (n := r + 1) (by omega) hq (Nat.le_refl _) (e p F.1 * c)]
    exact Z.1
  intro n hn
  induction n with
  | zero =>
    obtain rfl : q = 0 := by omega
    exact base
  | succ n ih =>
    by_cases h : q = n + 1
    · rw [← h]
      exact base
    · show fSlope p (sl p F n) = _
      rw [ih (by omega)]
      exact sl_zero hp
end K0
namespace K0
open M QP
variable {p : Int} {F G : List Int × List Int} {m : Nat}
/-- slopes of slopes -/
theorem sl_sl : ∀ (b a : Nat), sl p (sl p F a) b = sl p F (a + b)
  | 0, a => rfl
  | b + 1, a => by
    show fSlope p (sl p (sl p F a) b) = fSlope p (sl p F (a + b))
    rw [sl_sl b a]
theorem nz_ne (hp : Pr p) {x : QP p} (h : Nz x) : x ≠ 0 := fun z => by
  obtain ⟨l, hl, nl, e⟩ := h
  exact nl (e_zero (by have := hp.le; omega) hl (by rw [← e, z]))
/-- a top is not [] exactly if what it stands for is not 0 -/
theorem Fn.ne (hp : Pr p) {x y : QP p} (hF : Fn p m F x y) (hx : Nz x) : F.1 ≠ [] := fun z => by
  have h := hF.re
  unfold Re at h
  rw [z, e_nil] at h
  have n2 : Nz (x * e p F.2) := hx.mul hp (.of hF.nf.b hF.nf.nb)
  refine nz_ne hp n2 ?_
  rw [← h]
  grind
theorem s_over (hp : Pr p) (hF : NF p F) (hG : NF p G) (nz : G.1 ≠ []) (lF : Le m F) (lG : Le m G) (hm : m * 8 ≤ 400) : fSlope p (fMul p F (fBack p G)) = fMul p (fAdd p (fMul p (fSlope p F) G) (fMul p F (fSlope p G)) (-1)) (fBack p (fMul p G G)) := by
  have sF := Fn.self hF lF
  have sG := Fn.self hG lG
  have bG := sG.back hp nz (by omega)
  have GG := Fn.mul hp sG sG (by omega)
  have xG : Nz (e p G.1) := .of hG.t nz
  have nGG := GG.ne hp (xG.mul hp xG)
  have L := (Fn.mul hp sF bG (by omega)).slope hp (by omega)
  have R := Fn.mul hp (Fn.add hp (Fn.mul hp (Fn.slope hp sF (by omega)) sG (by omega)) (Fn.mul hp sF (Fn.slope hp sG (by omega)) (by omega)) (by omega) (-1)) (GG.back hp nGG (by omega)) (by omega)
  refine L.eq hp R ?_
  rw [dq_mul, dq_mul, kc_neg]
  grind
theorem s_one (hp : Pr p) : fSlope p (([1], [1]) : List Int × List Int) = ([], [1]) := by
  have n1 : NF p (([1], [1]) : List Int × List Int) := ⟨.one hp, .one hp, .one, by rw [e_one]; exact .one⟩
  have S := Fn.slope hp (F := ([1], [1])) (m := 1) (.self n1 ⟨by decide, by decide⟩) (by decide)
  refine re_zero hp S.nf S.nz ?_
  have z := S.re
  have e1 : dq (e p [1]) * e p [1] - e p [1] * dq (e p [1]) = 0 := by grind
  rw [e1] at z
  exact z
end K0
namespace K0
open M QP
variable {p : Int} {F G : List Int × List Int} {m : Nat}
/-! ### rows of no more than so many numbers -/
def Fl (L : Nat) (x : QP p) : Prop := ∃ l : List Int, Pl p l ∧ l.length ≤ L ∧ x = e p l
theorem Fl.of {l : List Int} (h : Pl p l) (n : l.length ≤ m) : Fl m (e p l) := ⟨l, h, n, rfl⟩
theorem Fl.fi {x : QP p} : Fl m x → Fi x := fun ⟨l, _, _, h⟩ => ⟨l, h⟩
theorem Fl.mono {x : QP p} {n : Nat} (h : Fl m x) (hn : m ≤ n) : Fl n x := let ⟨l, a, b, c⟩ := h; ⟨l, a, Nat.le_trans b hn, c⟩
theorem Fl.mul (hp : Pr p) {x y : QP p} {n k : Nat} (hk : m + n - 1 ≤ k) : Fl m x → Fl n y → Fl k (x * y) := fun ⟨a, ha, la, ea⟩ ⟨b, hb, lb, eb⟩ => by
  have hp0 : 0 < p := by have := hp.le; omega
  have := prod_len1 hp0 a b
  exact ⟨prod p a b, .prod hp0 _ _, by omega, by rw [e_prod, ea, eb]⟩
theorem Fl.adds (hp : Pr p) {x y : QP p} (f : Int) : Fl m x → Fl m y → Fl m (x + kc p f * y) := fun ⟨a, ha, la, ea⟩ ⟨b, hb, lb, eb⟩ => by
  have hp0 : 0 < p := by have := hp.le; omega
  have := addScaled_len p a b f
  exact ⟨addScaled p a b f, .add hp0 _ _ _, by omega, by rw [e_add, ea, eb]⟩
theorem Fl.dq (hp : Pr p) {x : QP p} : Fl m x → Fl m (dq x) := fun ⟨a, ha, la, ea⟩ => by
  have hp0 : 0 < p := by have := hp.le; omega
  have := slope_len p a
  exact ⟨slopeOf p a, slope_pl hp0 a, by omega, by rw [e_slope hp0, ea]⟩
theorem Fl.dqn (hp : Pr p) {x : QP p} (h : Fl m x) : ∀ n, Fl m (dqn n x)
  | 0 => h
  | n + 1 => (Fl.dqn hp h n).dq hp
theorem Fl.pow (hp : Pr p) {x : QP p} (h : Fl (m + 1) x) : ∀ n, Fl (n * m + 1) (x ^ n)
  | 0 => ⟨[1], .one hp, by simp, by rw [e_one]; rfl⟩
  | n + 1 => by
    have e1 : (n + 1) * m = n * m + m := Nat.succ_mul _ _
    exact (Fl.pow hp h n).mul hp (by omega) h
/-- a function told by rows of no more than so many numbers has no more -/
theorem le_of_fl (hp : Pr p) {L : Nat} {x y : QP p} (hF : NF p F) (h : Re F x y) (hx : Fl L x) (hy : Fl L y) (ny : Nz y) (hL : L ≤ 400) : Le L F := by
  obtain ⟨a, ha, la, rfl⟩ := hx
  obtain ⟨b, hb, lb, rfl⟩ := hy
  have hp0 : 0 < p := by have := hp.le; omega
  have nb : b ≠ [] := fun z => by
    rw [z, e_nil] at ny
    exact nz_ne hp ny rfl
  rw [nf_is hp ha hb nb (by omega) (by omega) hF h]
  exact nf_le hp ha hb nb ⟨la, lb⟩ hL
/-! ### powers -/
theorem dq_pow (x : QP p) : ∀ n : Nat, dq (x ^ (n + 1)) = kc p ((n : Int) + 1) * (x ^ n * dq x)
  | 0 => by
    show dq (1 * x) = kc p (((0 : Nat) : Int) + 1) * (1 * dq x)
    rw [show (((0 : Nat) : Int) + 1) = 1 from rfl, kc_one, show (1 : QP p) * x = x by grind]
    grind
  | n + 1 => by
    have ih := dq_pow x n
    have e3 : kc p (((n + 1 : Nat) : Int) + 1) = kc p ((n : Int) + 1) + 1 := by
      rw [show ((n + 1 : Nat) : Int) + 1 = ((n : Int) + 1) + 1 by rw [Int.natCast_add]; rfl, kc_add ((n : Int) + 1) 1, kc_one]
    show dq (x ^ (n + 1) * x) = _
    rw [dq_mul, ih, e3]
    have ex : x ^ (n + 1) = x ^ n * x := rfl
    rw [ex]
    generalize kc p ((n : Int) + 1) = z
    grind
theorem Nz.pow (hp : Pr p) {y : QP p} (h : Nz y) : ∀ n : Nat, Nz (y ^ n)
  | 0 => .one hp
  | n + 1 => (Nz.pow hp h n).mul hp h
theorem Fi.pow {x : QP p} (h : Fi x) : ∀ n : Nat, Fi (x ^ n)
  | 0 => .one
  | n + 1 => (Fi.pow h n).mul h
theorem NF.one (hp : Pr p) : NF p (([1], [1]) : List Int × List Int) := ⟨.one hp, .one hp, .one, by rw [e_one]; exact .one⟩
theorem Fn.pow (hp : Pr p) {x y : QP p} (hF : Fn p m F x y) : ∀ n, 1 + n * m ≤ 400 → Fn p (1 + n * m) (fPow p F n) (x ^ n) (y ^ n)
  | 0, _ => ⟨.one hp, ⟨by simp [fPow], by simp [fPow]⟩, by
      show e p [1] * 1 = 1 * e p [1]
      grind, .one hp, .one⟩
  | n + 1, h => by
    have e1 : (n + 1) * m = n * m + m := Nat.succ_mul _ _
    have ih := Fn.pow hp hF n (by omega)
    have z := Fn.mul hp ih hF (by omega)
    exact ⟨z.nf, z.le.mono (by omega), z.re, z.nz, z.fx⟩
/-- the function of a number -/
theorem fnum_fn (hp : Pr p) (n : Int) : Fn p 1 ((trim [n % p], [1]) : List Int × List Int) (kc p n) 1 := by
  have h2 := hp.le
  have e1 : e p (trim [n % p]) = kc p n := by
    have h0 : e p (trim [n % p]) = e p [n % p] := by
      unfold e
      rw [co_trim]
    rw [h0, ← kc_mod (by omega)]
    refine congrArg E (PS.ext (funext fun k => ?_))
    cases k with
    | zero => rfl
    | succ k => show ([n % p] : List Int).getD (k + 1) 0 = 0; simp
  have pl : Pl p (trim [n % p]) := ⟨fun x hx => by
    have := trim_sub hx
    rw [List.mem_singleton] at this
    subst this
    exact ⟨Int.emod_nonneg _ (by omega), Int.emod_lt_of_pos _ (by omega)⟩, trim_trim _⟩
  have le := trim_len [n % p]
  refine ⟨⟨pl, .one hp, .one, ?_⟩, ⟨le, Nat.le_refl 1⟩, ?_, .one hp, .kc n⟩
  · rw [e_one]
    exact .one
  · show e p (trim [n % p]) * 1 = kc p n * e p [1]
    rw [e1, e_one]
/-- the slope of a power -/
theorem s_pow (hp : Pr p) (hF : NF p F) (lF : Le m F) (n : Nat) (hn : (n + 1) * m + 1 ≤ 100) : fSlope p (fPow p F (n + 1)) = fMul p (fMul p (trim [(((n : Int) + 1)) % p], [1]) (fPow p F n)) (fSlope p F) := by
  have e1 : (n + 1) * m = n * m + m := Nat.succ_mul _ _
  have sF := Fn.self hF lF
  have L := (Fn.pow hp sF (n + 1) (by omega)).slope hp (by omega)
  have R := Fn.mul hp (Fn.mul hp (fnum_fn hp ((n : Int) + 1)) (Fn.pow hp sF n (by omega)) (by omega)) (Fn.slope hp sF (by omega)) (by omega)
  refine L.eq hp R ?_
  rw [dq_pow, dq_pow]
  have ex : ∀ x : QP p, x ^ (n + 1) = x ^ n * x := fun _ => rfl
  rw [ex, ex]
  generalize kc p ((n : Int) + 1) = z
  generalize e p F.1 ^ n = a
  generalize e p F.2 ^ n = b
  grind
/-- the slope of power p -/
theorem s_powp (hp : Pr p) (hF : NF p F) (lF : Le m F) {q : Nat} (hq : p = (q : Int)) (hn : q * m + 1 ≤ 100) : fSlope p (fPow p F q) = ([], [1]) := by
  have h2 := hp.le
  obtain ⟨r, rfl⟩ : ∃ r, q = r + 1 := ⟨q - 1, by omega⟩
  have sF := Fn.self hF lF
  have L := (Fn.pow hp sF (r + 1) (by omega)).slope hp (by omega)
  refine re_zero hp L.nf L.nz ?_
  have z := L.re
  have e0 : kc p ((r : Int) + 1) = 0 := by rw [show (r : Int) + 1 = p by omega, kc_p (by omega)]
  rw [dq_pow, dq_pow, e0] at z
  have e1 : (0 : QP p) * (e p F.1 ^ r * dq (e p F.1)) * e p F.2 ^ (r + 1) - e p F.1 ^ (r + 1) * (0 * (e p F.2 ^ r * dq (e p F.2))) = 0 := by grind
  rw [e1] at z
  exact z
/-- the second slope of a product -/
theorem s_two (hp : Pr p) (hF : NF p F) (hG : NF p G) (lF : Le m F) (lG : Le m G) (hm : m * 20 ≤ 400) :
    sl p (fMul p F G) 2 = fAdd p (fAdd p (fMul p (sl p F 2) G) (fMul p (fMul p (trim [2 % p], [1]) (sl p F 1)) (sl p G 1)) 1) (fMul p F (sl p G 2)) 1 := by
  have sF := Fn.self hF lF
  have sG := Fn.self hG lG
  have f1 := Fn.slope hp sF (by omega)
  have g1 := Fn.slope hp sG (by omega)
  have f2 := Fn.slope hp f1 (by omega)
  have g2 := Fn.slope hp g1 (by omega)
  have L := ((Fn.mul hp sF sG (by omega)).slope hp (by omega)).slope hp (by omega)
  have tw := fnum_fn hp 2
  by_cases m0 : m = 0
  · exfalso
    have := hF.nb
    have l2 := lF.2
    rw [m0] at l2
    exact this (List.eq_nil_of_length_eq_zero (by omega))
  have R := Fn.add hp (Fn.add hp (Fn.mul hp f2 sG (by omega)) (Fn.mul hp (Fn.mul hp tw f1 (by omega)) g1 (by omega)) (by omega) 1) (Fn.mul hp sF g2 (by omega)) (by omega) 1
  refine L.eq hp R ?_
  have dsub : ∀ x y : QP p, dq (x - y) = dq x - dq y := fun x y => by
    have h := dq_add (x - y) y
    rw [show x - y + y = x by grind] at h
    rw [h]
    grind
  have k2 : kc p 2 = 2 := rfl
  rw [kc_one, k2]
  simp only [dq_mul, dsub, dq_add]
  generalize dq (dq (e p F.1)) = a2
  generalize dq (dq (e p F.2)) = b2
  generalize dq (dq (e p G.1)) = c2
  generalize dq (dq (e p G.2)) = d2
  generalize dq (e p F.1) = a1
  generalize dq (e p F.2) = b1
  generalize dq (e p G.1) = c1
  generalize dq (e p G.2) = d1
  generalize e p F.1 = a
  generalize e p F.2 = b
  generalize e p G.1 = c
  generalize e p G.2 = d
  grind
end K0
namespace K0
open M QP
variable {p : Int} {F G : List Int × List Int} {m : Nat}
theorem Re.cancel (hp : Pr p) {H : List Int × List Int} {x y z : QP p} (nz : Nz z) (fx : Fi x) (fy : Fi y) (h : Re H (x * z) (y * z)) : Re H x y := by
  unfold Re at h ⊢
  refine Nz.cancel hp nz ((Fi.of _).mul fy) (fx.mul (.of _)) ?_
  rw [show e p H.1 * y * z = e p H.1 * (y * z) by grind, h]
  grind
/-- the top over a flat bottom, and this bottom -/
def xp (p : Int) (q : Nat) (F : List Int × List Int) : QP p := e p F.1 * e p F.2 ^ (q - 1)
def yp (p : Int) (q : Nat) (F : List Int × List Int) : QP p := e p F.2 ^ q
theorem yp_flat (hp : Pr p) {q : Nat} (hq : p = (q : Int)) : dq (yp p q F) = 0 := by
  have h2 := hp.le
  obtain ⟨r, rfl⟩ : ∃ r, q = r + 1 := ⟨q - 1, by omega⟩
  unfold yp
  rw [dq_pow, show (r : Int) + 1 = p by omega, kc_p (by omega)]
  grind
theorem yp_nz (hp : Pr p) (hF : NF p F) (q : Nat) : Nz (yp p q F) := (Nz.of hF.b hF.nb).pow hp q
theorem xp_fi (q : Nat) : Fi (xp p q F) := (Fi.of _).mul (Fi.pow (.of _) _)
theorem xp_re {q : Nat} (hq : 0 < q) : Re F (xp p q F) (yp p q F) := by
  obtain ⟨r, rfl⟩ : ∃ r, q = r + 1 := ⟨q - 1, by omega⟩
  show e p F.1 * (e p F.2 ^ r * e p F.2) = e p F.1 * e p F.2 ^ r * e p F.2
  grind
theorem xp_fl (hp : Pr p) (hF : NF p F) {q k : Nat} (lF : Le (m + 1) F) (hk : m + (q - 1) * m + 1 ≤ k) : Fl k (xp p q F) := (Fl.of hF.t lF.1).mul hp (by omega) ((Fl.of hF.b lF.2).pow hp (q - 1))
theorem yp_fl (hp : Pr p) (hF : NF p F) {q k : Nat} (lF : Le (m + 1) F) (hk : q * m + 1 ≤ k) : Fl k (yp p q F) := ((Fl.of hF.b lF.2).pow hp q).mono hk
/-- the sign of a number -/
def sg (n : Nat) : Int := if n % 2 = 0 then 1 else -1
/-- a member of the sum, and the sum so far -/
def tms (p : Int) (q : Nat) (F G : List Int × List Int) (n : Nat) : List Int × List Int := fMul p (fMul p (trim [sg n % p], [1]) (sl p F n)) (sl p G (q - 1 - n))
def tots (p : Int) (q : Nat) (F G : List Int × List Int) : Nat → List Int × List Int
  | 0 => ([], [1])
  | n + 1 => fAdd p (tots p q F G n) (tms p q F G n) 1
def txs (q : Nat) (x z : QP p) : Nat → QP p
  | 0 => 0
  | n + 1 => txs q x z n + kc p 1 * (kc p (sg n) * dqn n x * dqn (q - 1 - n) z)
theorem kc_fl (hp : Pr p) (n : Int) : Fl 1 (kc p n : QP p) := by
  have z := fnum_fn hp n
  have h := z.re
  have e1 : e p (trim [n % p]) = kc p n := by
    have h' : e p (trim [n % p]) * 1 = kc p n * e p [1] := h
    rw [e_one] at h'
    grind
  rw [← e1]
  exact .of z.nf.t z.le.1
theorem txs_fl (hp : Pr p) {q : Nat} {x z : QP p} {a b k : Nat} (hx : Fl a x) (hz : Fl b z) (ha : 0 < a) (hk : a + b - 1 ≤ k) : ∀ n, Fl k (txs q x z n)
  | 0 => ⟨[], .nil, Nat.zero_le _, e_nil.symm⟩
  | n + 1 => (txs_fl hp hx hz ha hk n).adds hp 1 (((kc_fl hp _).mul hp (k := a) (by omega) (hx.dqn hp n)).mul hp hk (hz.dqn hp _))
/-- a slope over the flat bottom -/
theorem sl_fn (hp : Pr p) (hF : NF p F) (lF : Le m F) {q : Nat} (hq : p = (q : Int)) (n : Nat) (hn : (n + 1) * m ≤ 200) : Fn p ((n + 1) * m) (sl p F n) (dqn n (xp p q F)) (yp p q F) := by
  have h2 := hp.le
  have L := sl_le hp hF lF n hn
  have R := sl_flat hp hF lF (xp_fi q) (yp_nz hp hF q) (yp_flat hp hq) (xp_re (by omega)) n hn
  exact ⟨L.1, L.2, R.1, yp_nz hp hF q, R.2⟩
theorem tms_fn (hp : Pr p) (hF : NF p F) (hG : NF p G) (lF : Le (m + 1) F) (lG : Le (m + 1) G) {q : Nat} (hq : p = (q : Int)) (hm : q * (m + 1) ≤ 60) (hM : q * m + q * m + 1 ≤ 60) (n : Nat) (hn : n < q) :
    Fn p 60 (tms p q F G n) (kc p (sg n) * dqn n (xp p q F) * dqn (q - 1 - n) (xp p q G)) (yp p q F * yp p q G) := by
  have h2 := hp.le
  have k1 : (n + 1) * (m + 1) ≤ q * (m + 1) := Nat.mul_le_mul_right _ (by omega)
  have k2 : (q - 1 - n + 1) * (m + 1) ≤ q * (m + 1) := Nat.mul_le_mul_right _ (by omega)
  have S1 := sl_fn hp hF lF hq n (by omega)
  have S2 := sl_fn hp hG lG hq (q - 1 - n) (by omega)
  have Z := Fn.mul hp (Fn.mul hp (fnum_fn hp (sg n)) S1 (by omega)) S2 (by omega)
  have re : Re (tms p q F G n) (kc p (sg n) * dqn n (xp p q F) * dqn (q - 1 - n) (xp p q G)) (yp p q F * yp p q G) := by
    have h := Z.re
    rw [show (1 : QP p) * yp p q F * yp p q G = yp p q F * yp p q G by grind] at h
    exact h
  have em : m + (q - 1) * m = q * m := by
    obtain ⟨r, rfl⟩ : ∃ r, q = r + 1 := ⟨q - 1, by omega⟩
    rw [Nat.add_sub_cancel, Nat.succ_mul]
    omega
  have fx := xp_fl hp hF (q := q) (k := q * m + 1) lF (by omega)
  have fz := xp_fl hp hG (q := q) (k := q * m + 1) lG (by omega)
  have fy := yp_fl hp hF (q := q) (k := q * m + 1) lF (by omega)
  have fw := yp_fl hp hG (q := q) (k := q * m + 1) lG (by omega)
  have fX : Fl 60 (kc p (sg n) * dqn n (xp p q F) * dqn (q - 1 - n) (xp p q G)) := ((kc_fl hp _).mul hp (k := q * m + 1) (by omega) (fx.dqn hp n)).mul hp (by omega) (fz.dqn hp _)
  have ny := (yp_nz hp hF q).mul hp (yp_nz hp hG q)
  exact ⟨Z.nf, le_of_fl hp Z.nf re fX (fy.mul hp (by omega) fw) ny (by omega), re, ny, fX.fi⟩
theorem tots_fn (hp : Pr p) (hF : NF p F) (hG : NF p G) (lF : Le (m + 1) F) (lG : Le (m + 1) G) {q : Nat} (hq : p = (q : Int)) (hm : q * (m + 1) ≤ 60) (hM : q * m + q * m + 1 ≤ 60) : ∀ n, n ≤ q → Fn p 60 (tots p q F G n) (txs q (xp p q F) (xp p q G) n) (yp p q F * yp p q G)
  | 0, _ => by
    have ny := (yp_nz hp hF q).mul hp (yp_nz hp hG q)
    refine ⟨.zero hp, ⟨by simp [tots], by simp [tots]⟩, ?_, ny, .zero⟩
    show e p [] * _ = (0 : QP p) * e p [1]
    rw [e_nil]
    grind
  | n + 1, h => by
    have h2 := hp.le
    have ih := tots_fn hp hF hG lF lG hq hm hM n (by omega)
    have T := tms_fn hp hF hG lF lG hq hm hM n (by omega)
    have Z := Fn.add hp ih T (by omega) 1
    have ny := ih.nz
    have em : m + (q - 1) * m = q * m := by
      obtain ⟨r, rfl⟩ : ∃ r, q = r + 1 := ⟨q - 1, by omega⟩
      rw [Nat.add_sub_cancel, Nat.succ_mul]
      omega
    have fx := xp_fl hp hF (q := q) (k := q * m + 1) lF (by omega)
    have fz := xp_fl hp hG (q := q) (k := q * m + 1) lG (by omega)
    have fy := yp_fl hp hF (q := q) (k := q * m + 1) lF (by omega)
    have fw := yp_fl hp hG (q := q) (k := q * m + 1) lG (by omega)
    have fX := txs_fl hp (q := q) (k := 60) fx fz (by omega) (by omega) (n + 1)
    have re : Re (tots p q F G (n + 1)) (txs q (xp p q F) (xp p q G) (n + 1)) (yp p q F * yp p q G) := by
      refine Re.cancel hp ny fX.fi ny.fi ?_
      have h := Z.re
      have e1 : txs q (xp p q F) (xp p q G) (n + 1) * (yp p q F * yp p q G) = txs q (xp p q F) (xp p q G) n * (yp p q F * yp p q G) + kc p 1 * (kc p (sg n) * dqn n (xp p q F) * dqn (q - 1 - n) (xp p q G) * (yp p q F * yp p q G)) := by
        show (txs q (xp p q F) (xp p q G) n + kc p 1 * (kc p (sg n) * dqn n (xp p q F) * dqn (q - 1 - n) (xp p q G))) * _ = _
        grind
      rw [e1]
      exact h
    exact ⟨Z.nf, le_of_fl hp Z.nf re fX (fy.mul hp (by omega) fw) ny (by omega), re, ny, fX.fi⟩
/-! ### slope number p - 1 of a product -/
section
variable {a b : Nat → QP p}
theorem leib (ha : ∀ k, dq (a k) = a (k + 1)) (hb : ∀ k, dq (b k) = b (k + 1)) :
    dqn 1 (a 0 * b 0) = a 1 * b 0 + a 0 * b 1 ∧
    dqn 2 (a 0 * b 0) = a 2 * b 0 + 2 * (a 1 * b 1) + a 0 * b 2 ∧
    dqn 4 (a 0 * b 0) = a 4 * b 0 + 4 * (a 3 * b 1) + 6 * (a 2 * b 2) + 4 * (a 1 * b 3) + a 0 * b 4 ∧
    dqn 6 (a 0 * b 0) = a 6 * b 0 + 6 * (a 5 * b 1) + 15 * (a 4 * b 2) + 20 * (a 3 * b 3) + 15 * (a 2 * b 4) + 6 * (a 1 * b 5) + a 0 * b 6 := by
  have d2 : dq (2 : QP p) = 0 := dq_kc 2
  have d3 : dq (3 : QP p) = 0 := dq_kc 3
  have d4 : dq (4 : QP p) = 0 := dq_kc 4
  have d5 : dq (5 : QP p) = 0 := dq_kc 5
  have d6 : dq (6 : QP p) = 0 := dq_kc 6
  have d10 : dq (10 : QP p) = 0 := dq_kc 10
  have h1 : dqn 1 (a 0 * b 0) = a 1 * b 0 + a 0 * b 1 := by
    show dq (a 0 * b 0) = _
    rw [dq_mul, ha, hb]
  have h2 : dqn 2 (a 0 * b 0) = a 2 * b 0 + 2 * (a 1 * b 1) + a 0 * b 2 := by
    show dq (dqn 1 (a 0 * b 0)) = _
    rw [h1]
    simp only [dq_add, dq_mul, ha, hb, Nat.reduceAdd]
    grind
  have h3 : dqn 3 (a 0 * b 0) = a 3 * b 0 + 3 * (a 2 * b 1) + 3 * (a 1 * b 2) + a 0 * b 3 := by
    show dq (dqn 2 (a 0 * b 0)) = _
    rw [h2]
    simp only [dq_add, dq_mul, ha, hb, d2, Nat.reduceAdd]
    grind
  have h4 : dqn 4 (a 0 * b 0) = a 4 * b 0 + 4 * (a 3 * b 1) + 6 * (a 2 * b 2) + 4 * (a 1 * b 3) + a 0 * b 4 := by
    show dq (dqn 3 (a 0 * b 0)) = _
    rw [h3]
    simp only [dq_add, dq_mul, ha, hb, d3, Nat.reduceAdd]
    grind
  have h5 : dqn 5 (a 0 * b 0) = a 5 * b 0 + 5 * (a 4 * b 1) + 10 * (a 3 * b 2) + 10 * (a 2 * b 3) + 5 * (a 1 * b 4) + a 0 * b 5 := by
    show dq (dqn 4 (a 0 * b 0)) = _
    rw [h4]
    simp only [dq_add, dq_mul, ha, hb, d4, d6, Nat.reduceAdd]
    grind
  have h6 : dqn 6 (a 0 * b 0) = a 6 * b 0 + 6 * (a 5 * b 1) + 15 * (a 4 * b 2) + 20 * (a 3 * b 3) + 15 * (a 2 * b 4) + 6 * (a 1 * b 5) + a 0 * b 6 := by
    show dq (dqn 5 (a 0 * b 0)) = _
    rw [h5]
    simp only [dq_add, dq_mul, ha, hb, d5, d10, Nat.reduceAdd]
    grind
  exact ⟨h1, h2, h4, h6⟩
end
theorem txs_end (hp : Pr p) {q : Nat} (hq : p = (q : Int)) (x z : QP p) : dqn (q - 1) (x * z) = txs q x z q := by
  have L := leib (a := fun k => dqn k x) (b := fun k => dqn k z) (fun _ => rfl) fun _ => rfl
  have k0 := kc_p (p := p) (by have := hp.le; omega)
  have km : kc p (-1) = (-1 : QP p) := kc_neg
  have ko : kc p 1 = (1 : QP p) := kc_one
  have s0 : sg 0 = 1 := rfl
  have s1 : sg 1 = -1 := rfl
  have s2 : sg 2 = 1 := rfl
  have s3 : sg 3 = -1 := rfl
  have s4 : sg 4 = 1 := rfl
  have s5 : sg 5 = -1 := rfl
  have s6 : sg 6 = 1 := rfl
  rcases hp with rfl | rfl | rfl | rfl
  · obtain rfl : q = 2 := by omega
    have z2 : (2 : QP 2) = 0 := k0
    have h := L.1
    simp only [txs, s0, s1, km, ko, Nat.reduceSub]
    generalize dqn 1 x = a1 at *
    generalize dqn 1 z = b1 at *
    have y := congrArg (fun w => w * (dqn 0 x * b1)) z2
    show dqn 1 (dqn 0 x * dqn 0 z) = _
    rw [h]
    grind
  · obtain rfl : q = 3 := by omega
    have z3 : (3 : QP 3) = 0 := k0
    have h := L.2.1
    simp only [txs, s0, s1, s2, km, ko, Nat.reduceSub]
    have y := congrArg (fun w => w * (dqn 1 x * dqn 1 z)) z3
    show dqn 2 (dqn 0 x * dqn 0 z) = _
    rw [h]
    grind
  · obtain rfl : q = 5 := by omega
    have z5 : (5 : QP 5) = 0 := k0
    have h := L.2.2.1
    simp only [txs, s0, s1, s2, s3, s4, km, ko, Nat.reduceSub]
    have y := congrArg (fun w => w * (dqn 3 x * dqn 1 z + dqn 2 x * dqn 2 z + dqn 1 x * dqn 3 z)) z5
    show dqn 4 (dqn 0 x * dqn 0 z) = _
    rw [h]
    grind
  · obtain rfl : q = 7 := by omega
    have z7 : (7 : QP 7) = 0 := k0
    have h := L.2.2.2
    simp only [txs, s0, s1, s2, s3, s4, s5, s6, km, ko, Nat.reduceSub]
    have y := congrArg (fun w => w * (dqn 5 x * dqn 1 z + 2 * (dqn 4 x * dqn 2 z) + 3 * (dqn 3 x * dqn 3 z) + 2 * (dqn 2 x * dqn 4 z) + dqn 1 x * dqn 5 z)) z7
    show dqn 6 (dqn 0 x * dqn 0 z) = _
    rw [h]
    grind
/-- the sum with signs is slope number p - 1 of the product -/
theorem tots_ok (hp : Pr p) (hF : NF p F) (hG : NF p G) (lF : Le (m + 1) F) (lG : Le (m + 1) G) {q : Nat} (hq : p = (q : Int)) (hm : q * (m + 1) ≤ 60) (hM : q * m + q * m + 1 ≤ 60) : sl p (fMul p F G) (q - 1) = tots p q F G q := by
  have h2 := hp.le
  have T := tots_fn hp hF hG lF lG hq hm hM q (Nat.le_refl _)
  have a0 : m + 1 ≤ q * (m + 1) := Nat.le_mul_of_pos_left _ (by omega)
  have A := fMul_ok hp hF hG lF lG (by omega)
  have X0 : Fn p (m + 1) F (xp p q F) (yp p q F) := ⟨hF, lF, xp_re (by omega), yp_nz hp hF q, xp_fi q⟩
  have Z0 : Fn p (m + 1) G (xp p q G) (yp p q G) := ⟨hG, lG, xp_re (by omega), yp_nz hp hG q, xp_fi q⟩
  have P0 := Fn.mul hp X0 Z0 (by omega)
  have e2 : (q - 1 + 1) * (m + 1 + (m + 1)) ≤ 200 := by
    rw [show q - 1 + 1 = q by omega, Nat.mul_add]
    omega
  have fl : dq (yp p q F * yp p q G) = 0 := by
    rw [dq_mul, yp_flat hp hq, yp_flat hp hq]
    grind
  have R := sl_flat hp A.1 A.2.2 P0.fx P0.nz fl P0.re (q - 1) e2
  have L := sl_le hp A.1 A.2.2 (q - 1) e2
  have r1 := R.1
  rw [txs_end hp hq] at r1
  exact re_uniq hp L.1 T.nf r1 T.re P0.nz T.nz rfl
end K0
namespace K0
open PySem PySem.Spec PyProof.Rows L2 Kt M
open Evl (Ex Ev EvL EvU EvT EvA EvO ex_l ex_t sq_of st_of sz_of sz_lt fresh_back given)
/-! ### a method called with keywords alone -/
def tMethK (C : Addr) (m : Str) (n : Nat) (sp : Sp) (gV : List V → List V → List V) (E : XK) (ta : TE) (tk : TA) : TE := fun σ H Q => ta σ H fun x H1 => ∃ a dx fs, x = .ref a ∧ H1 a = some (.ins C dx fs) ∧ fs.lookup m = none ∧
  tk σ H1 fun zs H2 => zs.length = n ∧ sp (gV [x] zs) H2 Q E
section
variable {X : Cx} {CX : CXT} {k : Nat} {f C : Addr} {fd : FuncData} {ps ks : List Str} {sp : Sp} {E : XK} {m : Str} {pos apos : Pos} {o : Expr} {kws : List Keyword} {ta : TE} {tk : TA} {g : List Value → List Value → List Value} {gV : List V → List V → List V}
theorem pe_methK0 {pl : Sem Bool} (he : PE X o ta) (c : Cls X.K C) (hm : Meth X.K C m f) (F : FnOk X.prog X.w X.K X.mg X.base CX k f fd ps sp) (hr : Room k X.A) (hb : KBn X.K fd ps 1 ks g gV) (hx : Passes CX X E) (hkw : PK X kws tk)
    (hall : (backToKw pos (keywordEach kws X.env)).all (·.1.isSome) = true := by rfl) (hks : (backToKw pos (keywordEach kws X.env)).filterMap (·.1) = ks := by rfl)
    (hpl : ((backTo pos (starEach [] X.env)).any (·.1) || (backToKw pos (keywordEach kws X.env)).any (·.1.isNone)) = false := by rfl)
    (ht : eval (.Call (.Attribute o m apos) [] kws pos) X.env = (do
      let ov ← eval o X.env
      standAt apos.atName
      let (f, first) ← holding [ov] (getMethod ov m pl)
      callWith pos f first (backTo pos (starEach [] X.env)) (backToKw pos (keywordEach kws X.env))) := by rfl) :
    PE X (.Call (.Attribute o m apos) [] kws pos) (tMethK C m ks.length sp gV E ta tk) := by
  refine ⟨fun pins s σ H Q I h => ?_⟩
  refine PySem.W.methodCall_KW (pl := pl) (thn (he.run pins s σ H _ I h) fun u s1 ⟨x, H1, I1, rx, a, dx, fs, ex, ea, l, q⟩ => ?_) ht
  subst ex
  obtain rfl : u = Value.ref a := rx
  refine getmeth_ok I1 ea c hm l ?_
  refine PySem.W.callWith_KW0 (first := [.ref a]) (h₀ := X.base) I.ok.mod.kin hm.kp hall ?_ hpl
  refine thn (hkw.run pos pins s1 σ H1 _ I1 q) fun ws s2 ⟨zs, H2, I2, rz, l2, q2⟩ => ⟨I2.kIn, ?_⟩
  rw [hks]
  exact run_fnN (us := [.ref a]) (vs := [.ref a]) F hr hb hx I2 (.cons rfl .nil) rz rfl l2 q2
end
/-! ### slopes -/
section
variable (K : PySem.W.Frag) (C : Addr)
def sp_slope_once : Sp := Con (G := GF) (fun g => Pr g.p ∧ NF g.p g.F ∧ Le 60 g.F) (fun g => [vF K C g.p g.F]) (fun g => vF K C g.p (fSlope g.p g.F))
/-- the slopes that are asked for are told by rows that are not too long -/
def SlPre (g : GFn) : Prop := Pr g.p ∧ NF g.p g.F ∧ g.n ≤ 20 ∧ ∀ k, k < g.n → Le 60 (sl g.p g.F k)
def sp_F_slope : Sp := Con (G := GFn) SlPre (fun g => [vF K C g.p g.F, vI (g.n : Int)]) (fun g => vF K C g.p (sl g.p g.F g.n))
def sp__law_fn_slope : Sp := Con (G := GF) (fun g => Pr g.p ∧ NF g.p g.F ∧ Le 60 g.F) (fun g => [vI g.p, vG K g.F]) (fun g => vG K (fSlope g.p g.F))
end
/-- slope, called with and without its keyword -/
structure DmS (P : Program) (w : World) (K : PySem.W.Frag) (mg : Str → Option Value) (base : Heap) (C : Addr) (k : Nat) (sp : Sp) where
  f : Addr
  fd : FuncData
  ok : FnOk P w K mg base CX0 k f fd ["self", "times"] sp
  ds : List Value
  dv : Vals [.int 1] ds
  b : Binds K fd ["self", "times"] ds
  kb : KBn K fd ["self", "times"] 1 ["times"] (fun us ws => us ++ ws) (fun vs zs => vs ++ zs)
  m : Meth K C "slope" f
theorem nf_sl {p : Int} (hp : Pr p) {F : PF} (hF : NF p F) : ∀ n, (∀ k, k < n → Le 60 (sl p F k)) → NF p (sl p F n)
  | 0, _ => hF
  | n + 1, h => (fSlope_ok hp (nf_sl hp hF n fun k hk => h k (by omega)) (h n (by omega)) (by decide)).1
section
variable {K : PySem.W.Frag} {C : Addr} {p : Int} {F : PF} {σ : L2.St} {H : Hp} {te tf : TE} {n : Nat} {r1 r2 r3 : VR} {i j l : Nat} {D : Ends} {tz : TS}
theorem evr_slope0 (hs : Pr p ∧ NF p F ∧ Le 60 F) (h : EvR te σ H (vF K C p F)) : EvR (tMeth C "slope" (sp_F_slope K C) [.int 1] E0 te tNil) σ H (vF K C p (fSlope p F)) := fun H1 e Q k => h H1 e _ fun v H2 e2 hv => by
  obtain ⟨a, dx, t, b, rfl, h2, _⟩ := id hv
  refine ⟨a, dx, _, rfl, h2, by rfl, GFn.mk p F 1, ⟨hs.1, hs.2.1, by show 1 ≤ 20; decide, fun k hk => ?_⟩, ⟨_, _, rfl, hv, _, _, rfl, rfl, rfl⟩, fun u H3 e3 hu => k u H3 (e2.trans e3) hu⟩
  obtain rfl : k = 0 := by
    have : k < 1 := hk
    omega
  exact hs.2.2
theorem evr_slopeK (hs : SlPre ⟨p, F, n⟩) (h : EvR te σ H (vF K C p F)) (h2 : EvR tf σ H (vI (n : Int))) : EvR (tMethK C "slope" 1 (sp_F_slope K C) (fun vs zs => vs ++ zs) E0 te (tCons tf tNil)) σ H (vF K C p (sl p F n)) := fun H1 e Q k => h H1 e _ fun v H2 e2 hv => by
  obtain ⟨a, dx, t, b, rfl, h3, _⟩ := id hv
  refine ⟨a, dx, _, rfl, h3, by rfl, h2 H2 (e.trans e2) _ fun u H3 e3 hu => ⟨rfl, GFn.mk p F n, hs, ⟨_, _, rfl, up hv e3, _, _, rfl, hu, rfl⟩, fun u2 H4 e4 hu2 => k u2 H4 ((e2.trans e3).trans e4) hu2⟩⟩
theorem qr_asgT2 (h : EvR te σ H (vT K [r1, r2])) (k : ∀ v1 v2 H1, Ex H H1 → r1.R v1 H1 → r2.R v2 H1 → tz D ((σ.set i (some v1)).set j (some v2)) H1) : tSeq (tAsg te (gTup K 2 (gCons (gName i) (gCons (gName j) gNil)))) tz D σ H := h H (Ex.refl H) _ fun v H1 e hv => by
  obtain ⟨a, xs, rfl, hs, v1, w1, rfl, h1, v2, w2, rfl, h2, hw⟩ := id hv
  obtain rfl : w2 = [] := hw
  exact ⟨a, _, rfl, hs, rfl, _, _, rfl, _, _, rfl, rfl, k v1 v2 H1 e h1 h2⟩
theorem qr_par3 {ta : TA} (h : EvRs ta σ H [r1, r2, r3]) (k : ∀ v1 v2 v3 H1, Ex H H1 → r1.R v1 H1 → r2.R v2 H1 → r3.R v3 H1 → tz D (((σ.set i (some v1)).set j (some v2)).set l (some v3)) H1) : tSeq (tPar3 i j l ta) tz D σ H :=
  h H (Ex.refl H) _ fun vs H1 e ⟨u, _, h1, hu, ⟨v, _, h2, hv, ⟨w, _, h3, hw, h4⟩⟩⟩ => by
    have h4' : _ = [] := h4
    subst h4' h3 h2
    exact ⟨u, v, w, h1, k u v w H1 e hu hv hw⟩
theorem qr_asgT3 (h : EvR te σ H (vT K [r1, r2, r3])) (k : ∀ v1 v2 v3 H1, Ex H H1 → r1.R v1 H1 → r2.R v2 H1 → r3.R v3 H1 → tz D (((σ.set i (some v1)).set j (some v2)).set l (some v3)) H1) : tSeq (tAsg te (gTup K 3 (gCons (gName i) (gCons (gName j) (gCons (gName l) gNil))))) tz D σ H := h H (Ex.refl H) _ fun v H1 e hv => by
  obtain ⟨a, xs, rfl, hs, v1, w1, rfl, h1, v2, w2, rfl, h2, v3, w3, rfl, h3, hw⟩ := id hv
  obtain rfl : w3 = [] := hw
  exact ⟨a, _, rfl, hs, rfl, _, _, rfl, _, _, rfl, _, _, rfl, rfl, k v1 v2 v3 H1 e h1 h2 h3⟩
end
section
variable {P : Program} {w : World} {K : PySem.W.Frag} {mg : Str → Option Value} {base : Heap} {C : Addr}
abbrev s_slope_once : Stmt := topS 51
abbrev N_slope_once : List Str := ["function", "prime", "top", "bottom", "falling", "common", "left", "right", "rising", "upper"]
theorem sc_slope_once : FnScope N_slope_once ["function"] (defScope s_slope_once) := ⟨rfl, rfl, rfl, by decide +kernel, rfl, by decide +kernel, by decide +kernel⟩
theorem ok_slope_once {f : Addr} {fd : FuncData} (F : Fun K "slope_once" "slope_once" s_slope_once f fd) (B : Bis mg) (cf : CFm K mg C)  (D_slope_of : De P w K mg base "slope_of" ["prime", "poly"] 2 (sp_slope_of K)) (D_common_divisor : De P w K mg base "common_divisor" ["prime", "one", "other"] 5 (sp_common_divisor K)) (D_quotient_of : De P w K mg base "quotient_of" ["prime", "one", "other"] 4 (sp_quotient_of K)) (D_multiply : De P w K mg base "multiply" ["prime", "one", "other"] 4 (sp_multiply K)) (D_add_scaled : De P w K mg base "add_scaled" ["prime", "one", "other", "factor"] 2 (sp_add_scaled K)) (D_shortened : De P w K mg base "shortened" ["prime", "top", "bottom", "common"] 10 (sp_shortened K C)) (M_bottom : Dg P w K mg base C "bottom" ["self"] 1 (sp_F_bottom K C)) (M_prime : Dg P w K mg base C "prime" ["self"] 1 (sp_F_prime K C)) (M_top : Dg P w K mg base C "top" ["self"] 1 (sp_F_top K C)) : FnOk P w K mg base CX0 11 f fd ["function"] (sp_slope_once K C) := by
  refine F.ok sc_slope_once (fun vs H Q E h => ?_) (fun cdv A outer s H vs Q E hr h => ?_)
  · obtain ⟨g, _, ha, _⟩ := h
    exact ha.len
  · obtain ⟨⟨p, F0⟩, ⟨hp, hF, lF⟩, ⟨v_function, _, rfl, h_function, rfl⟩, q⟩ := h
    dsimp only at *
    refine ⟨_, (pss_cons (ps_par3 (i := 1) (j := 2) (l := 3) (by rfl) sc_slope_once.nd rfl rfl rfl (by decide) (by decide) (by decide) rfl rfl rfl (pa_cons (pe_prop (pv 0) cf.c.cl M_prime.prop M_prime.ok (hr.mono (by decide)) M_prime.b .nil pass0 rfl) (pa_cons (pe_prop (pv 0) cf.c.cl M_top.prop M_top.ok (hr.mono (by decide)) M_top.b .nil pass0 rfl) (pa_cons (pe_prop (pv 0) cf.c.cl M_bottom.prop M_bottom.ok (hr.mono (by decide)) M_bottom.b .nil pass0 rfl) pa_nil))) (by rfl))
      (pss_cons (ps_set (i := 4) sc_slope_once.nd rfl (Or.inl rfl) (pe_call D_slope_of.ok (hr.mono (by decide)) (by rfl) D_slope_of.g D_slope_of.kp D_slope_of.b .nil pass0 (pa_cons (pv 1) (pa_cons (pv 3) pa_nil))))
      (pss_cons (ps_set (i := 5) sc_slope_once.nd rfl (Or.inl rfl) (pe_call D_common_divisor.ok (hr.mono (by decide)) (by rfl) D_common_divisor.g D_common_divisor.kp D_common_divisor.b .nil pass0 (pa_cons (pv 1) (pa_cons (pv 3) (pa_cons (pv 4) pa_nil)))))
      (pss_cons (ps_set (i := 6) sc_slope_once.nd rfl (Or.inl rfl) (pe_call D_quotient_of.ok (hr.mono (by decide)) (by rfl) D_quotient_of.g D_quotient_of.kp D_quotient_of.b .nil pass0 (pa_cons (pv 1) (pa_cons (pv 3) (pa_cons (pv 5) pa_nil)))))
      (pss_cons (ps_set (i := 7) sc_slope_once.nd rfl (Or.inl rfl) (pe_call D_quotient_of.ok (hr.mono (by decide)) (by rfl) D_quotient_of.g D_quotient_of.kp D_quotient_of.b .nil pass0 (pa_cons (pv 1) (pa_cons (pv 4) (pa_cons (pv 5) pa_nil)))))
      (pss_cons (ps_set (i := 8) sc_slope_once.nd rfl (Or.inl rfl) (pe_call D_multiply.ok (hr.mono (by decide)) (by rfl) D_multiply.g D_multiply.kp D_multiply.b .nil pass0 (pa_cons (pv 1) (pa_cons (pe_call D_slope_of.ok (hr.mono (by decide)) (by rfl) D_slope_of.g D_slope_of.kp D_slope_of.b .nil pass0 (pa_cons (pv 1) (pa_cons (pv 2) pa_nil))) (pa_cons (pv 6) pa_nil)))))
      (pss_cons (ps_set (i := 9) sc_slope_once.nd rfl (Or.inl rfl) (pe_call D_add_scaled.ok (hr.mono (by decide)) (by rfl) D_add_scaled.g D_add_scaled.kp D_add_scaled.b .nil pass0 (pa_cons (pv 1) (pa_cons (pv 8) (pa_cons (pe_call D_multiply.ok (hr.mono (by decide)) (by rfl) D_multiply.g D_multiply.kp D_multiply.b .nil pass0 (pa_cons (pv 1) (pa_cons (pv 2) (pa_cons (pv 7) pa_nil)))) (pa_cons (pe_un un_neg pe_int) pa_nil))))))
      (pss_one (ps_ret (pe_call D_shortened.ok (hr.mono (by decide)) (by rfl) D_shortened.g D_shortened.kp D_shortened.b .nil pass0 (pa_cons (pv 1) (pa_cons (pv 9) (pa_cons (pe_call D_multiply.ok (hr.mono (by decide)) (by rfl) D_multiply.g D_multiply.kp D_multiply.b .nil pass0 (pa_cons (pv 1) (pa_cons (pv 3) (pa_cons (pv 6) pa_nil)))) (pa_cons (pv 5) pa_nil)))))))))))))), ?_⟩
    have h2 := hp.le
    have hp0 : 0 < p := by omega
    have l1 := lF.1
    have l2 := lF.2
    have s1 := slope_len p F0.1
    have s2 := slope_len p F0.2
    have ps1 := slope_pl hp0 F0.1
    have ps2 := slope_pl hp0 F0.2
    have Cm := com_ok hp hF.b ps2 (by omega) (by omega)
    have mc := Cm.mo (.inl hF.nb)
    have lc := com_len hp hF.b hF.nb Cm
    have eg := gSlope_ok hp hF lF (by decide)
    unfold gSlope at eg
    rw [← eg] at q
    obtain ⟨L0, R0, fL0, fR0, hL0, hR0⟩ := Cm.dv
    have ml : Mo (quotientOf p F0.2 (common p F0.2 (slopeOf p F0.2))) := mo_quot hp hF.b Cm.pl hF.mo mc ⟨L0, fL0, hL0⟩
    generalize hc : common p F0.2 (slopeOf p F0.2) = c at *
    have q1 := quot_len hp hF.b mc.1
    have q2 := quot_len hp ps2 mc.1
    have pl : Pl p (quotientOf p F0.2 c) := hF.b.quot hp _
    have pr : Pl p (quotientOf p (slopeOf p F0.2) c) := ps2.quot hp _
    have n1 := prod_len p (slopeOf p F0.1) (quotientOf p F0.2 c)
    have n2 := prod_len p F0.1 (quotientOf p (slopeOf p F0.2) c)
    have n3 := prod_len p F0.2 (quotientOf p F0.2 c)
    have n4 := addScaled_len p (prod p (slopeOf p F0.1) (quotientOf p F0.2 c)) (prod p F0.1 (quotientOf p (slopeOf p F0.2) c)) (-1)
    have pa : Pl p (prod p (slopeOf p F0.1) (quotientOf p F0.2 c)) := .prod hp0 _ _
    have pb : Pl p (prod p F0.1 (quotientOf p (slopeOf p F0.2) c)) := .prod hp0 _ _
    refine qr_par3 (r1 := vI p) (r2 := vP K F0.1) (r3 := vP K F0.2) (evrs_cons (evr_prop (GF.mk p F0) trivial rfl (evr_var rfl h_function)) (evrs_cons (evr_prop (GF.mk p F0) trivial rfl (evr_var rfl h_function)) (evrs_cons (evr_prop (GF.mk p F0) trivial rfl (evr_var rfl h_function)) evrs_nil))) fun x1 x2 x3 H1 e1 h1 h2' h3 => ?_
    obtain rfl : x1 = .int p := h1
    refine qr_asg (evr_call (GP.mk p F0.2) ⟨hp0, by show F0.2.length ≤ 1000; omega, hF.b.sm hp⟩ (evrs_cons (evr_var rfl rfl) (evrs_cons (evr_var rfl h3) evrs_nil))) fun x4 H2 e2 h4 => ?_
    have k3 := up h3 e2
    refine qr_asg (r := vP K c) (by
      rw [← hc]
      exact evr_call (GQ.mk p F0.2 (slopeOf p F0.2)) (cpre hp hF.b ps2 (by omega) (by omega)) (evrs_cons (evr_var rfl rfl) (evrs_cons (evr_var rfl k3) (evrs_cons (evr_var rfl h4) evrs_nil)))) fun x5 H3 e3 h5 => ?_
    have k3 := up k3 e3
    have k4 := up h4 e3
    refine qr_asg (evr_call (GQ.mk p F0.2 c) (dpre hp hF.b Cm.pl (by omega) (by omega) mc.1) (evrs_cons (evr_var rfl rfl) (evrs_cons (evr_var rfl k3) (evrs_cons (evr_var rfl h5) evrs_nil)))) fun x6 H4 e4 h6 => ?_
    have k4 := up k4 e4
    have k5 := up h5 e4
    refine qr_asg (evr_call (GQ.mk p (slopeOf p F0.2) c) (dpre hp ps2 Cm.pl (by omega) (by omega) mc.1) (evrs_cons (evr_var rfl rfl) (evrs_cons (evr_var rfl k4) (evrs_cons (evr_var rfl k5) evrs_nil)))) fun x7 H5 e5 h7 => ?_
    have k2 := up h2' (((e2.trans e3).trans e4).trans e5)
    have k6 := up h6 e5
    refine qr_asg (evr_call (GQ.mk p (slopeOf p F0.1) (quotientOf p F0.2 c)) (mpre hp ps1 pl (by omega) (by omega)) (evrs_cons (evr_var rfl rfl) (evrs_cons (evr_call (GP.mk p F0.1) ⟨hp0, by show F0.1.length ≤ 1000; omega, hF.t.sm hp⟩ (evrs_cons (evr_var rfl rfl) (evrs_cons (evr_var rfl k2) evrs_nil))) (evrs_cons (evr_var rfl k6) evrs_nil)))) fun x8 H6 e6 h8 => ?_
    have k2 := up k2 e6
    have k7 := up h7 e6
    refine qr_asg (evr_call (GA.mk p (prod p (slopeOf p F0.1) (quotientOf p F0.2 c)) (prod p F0.1 (quotientOf p (slopeOf p F0.2) c)) (-1)) ⟨hp0, by show (prod p (slopeOf p F0.1) _).length ≤ 1000; omega, by show (prod p F0.1 _).length ≤ 1000; omega, pa.sm hp, pb.sm hp⟩
      (evrs_cons (evr_var rfl rfl) (evrs_cons (evr_var rfl h8) (evrs_cons (evr_call (GQ.mk p F0.1 (quotientOf p (slopeOf p F0.2) c)) (mpre hp hF.t pr (by omega) (by omega)) (evrs_cons (evr_var rfl rfl) (evrs_cons (evr_var rfl k2) (evrs_cons (evr_var rfl k7) evrs_nil)))) (evrs_cons (un_negI evr_c) evrs_nil))))) fun x9 H7 e7 h9 => ?_
    have e37 := (((e3.trans e4).trans e5).trans e6).trans e7
    have e47 := ((e4.trans e5).trans e6).trans e7
    exact sr_ret (evr_call (GTBC.mk p (addScaled p (prod p (slopeOf p F0.1) (quotientOf p F0.2 c)) (prod p F0.1 (quotientOf p (slopeOf p F0.2) c)) (-1)) (prod p F0.2 (quotientOf p F0.2 c)) c) ⟨hp, .add hp0 _ _ _, .prod hp0 _ _, Cm.pl, mo_prod hp hF.b pl hF.mo ml, mc, by show (addScaled p _ _ (-1)).length ≤ 200; omega, by show (prod p F0.2 _).length ≤ 200; omega, by show c.length ≤ 64; omega⟩
      (evrs_cons (evr_var rfl rfl) (evrs_cons (evr_var rfl h9) (evrs_cons (evr_call (GQ.mk p F0.2 (quotientOf p F0.2 c)) (mpre hp hF.b pl (by omega) (by omega)) (evrs_cons (evr_var rfl rfl) (evrs_cons (evr_var rfl (up h3 (e2.trans e37))) (evrs_cons (evr_var rfl (up h6 ((e5.trans e6).trans e7))) evrs_nil))))
        (evrs_cons (evr_var rfl (up h5 e47)) evrs_nil))))) fun v H8 e8 hv => q v H8 ((e1.trans (e2.trans e37)).trans e8) hv
abbrev s_F_slope : Stmt := inClass (topS 44) 8
abbrev N_F_slope : List Str := ["self", "times", "function", "_"]
theorem sc_F_slope : FnScope N_F_slope ["self", "times"] (defScope s_F_slope) := ⟨rfl, rfl, rfl, by decide +kernel, rfl, by decide +kernel, by decide +kernel⟩
theorem ok_F_slope {f : Addr} {fd : FuncData} (F : FunD K "slope" "Function.slope" (defArgs s_F_slope) (defBody s_F_slope) (defScope s_F_slope) [] [("times", .int 1)] f fd) (B : Bis mg) (cf : CFm K mg C) (C_MAX_SLOPES : GI mg "MAX_SLOPES" 20) (D_is_within : De P w K mg base "is_within" ["value", "low", "high"] 2 (sp_is_within K)) (D_slope_once : De P w K mg base "slope_once" ["function"] 11 (sp_slope_once K C)) : FnOk P w K mg base CX0 12 f fd ["self", "times"] (sp_F_slope K C) := by
  refine FunD.ok0 F sc_F_slope (fun vs H Q E h => ?_) (fun cdv A outer s H vs Q E hr h => ?_)
  · obtain ⟨g, _, ha, _⟩ := h
    exact ha.len
  · obtain ⟨⟨p, F0, n⟩, ⟨hp, hF, hn, hl⟩, ⟨v_self, _, rfl, h_self, ⟨_, _, rfl, rfl, rfl⟩⟩, q⟩ := h
    dsimp only at *
    refine ⟨_, (pss_cons (ps_if (pt_not (pt_val (pe_call D_is_within.ok (hr.mono (by decide)) (by rfl) D_is_within.g D_is_within.kp D_is_within.b .nil pass0 (pa_cons (pv 1) (pa_cons pe_int (pa_cons (pe_gi C_MAX_SLOPES (by rfl)) pa_nil)))))) (pss_one ps_never) pss_nil)
      (pss_cons (ps_set (i := 2) sc_F_slope.nd rfl (Or.inl rfl) (pv 0))
      (pss_cons (ps_for PassesOwn.never rfl (pi_range1 (by rfl) (B "range" (by decide +kernel)) (pa_cons (pv 1) pa_nil)) (pg_name (i := 3) sc_F_slope.nd rfl (Or.inl rfl)) (pss_one (ps_set (i := 2) sc_F_slope.nd rfl (Or.inl rfl) (pe_call D_slope_once.ok (hr.mono (by decide)) (by rfl) D_slope_once.g D_slope_once.kp D_slope_once.b .nil pass0 (pa_cons (pv 2) pa_nil)))))
      (pss_one (ps_ret (pv 2)))))), ?_⟩
    refine Evl.q_when (Evl.et_not (et_b (evr_call (GWi.mk (.int (n : Int)) 0 20) trivial (evrs_cons (evr_var (r := vD K (.int (n : Int))) rfl (.int _)) (evrs_cons evr_c (evrs_cons evr_c evrs_nil)))))) (fun hb H1 e1 => ?_) (fun hb H1 e1 => ?_)
    · have hw : isWithin (.int (n : Int)) 0 20 = true := by
        have hn' : n ≤ 20 := hn
        simp [isWithin, isInt]
        omega
      have hb' : (!isWithin (.int (n : Int)) 0 20) = true := hb
      rw [hw] at hb'
      cases hb'
    have hn' : n ≤ 20 := hn
    refine qr_asg (evr_var rfl (up h_self e1)) fun x2 H2 e2 h2 => ?_
    refine Evl.q_forR1 (n := (n : Int)) (ea_of (evrs_cons (evr_var (r := vI (n : Int)) rfl rfl) evrs_nil)) ⟨by omega, by omega⟩ (fun i σ' H' => ∃ v w, σ' = [some v_self, some (.int (n : Int)), some v, w] ∧ Ex H H' ∧ (vF K C p (sl p F0 i)).R v H') (fun H3 e3 => ⟨x2, none, rfl, (e1.trans e2).trans e3, up h2 e3⟩) (fun i σ' H' hi hP => ?_) (fun σ' H' hP => ?_)
    · obtain ⟨v, w0, rfl, eH, hv⟩ := hP
      have li := hl i (by
        show i < n
        omega)
      have ni := nf_sl hp hF i fun k hk => hl k (by
        show k < n
        omega)
      refine sr_asg (evr_call (GF.mk p (sl p F0 i)) ⟨hp, ni, li⟩ (evrs_cons (evr_var rfl hv) evrs_nil)) fun x3 H3 e3 h3 => ?_
      exact ⟨x3, some (.int (i : Int)), rfl, eH.trans e3, h3⟩
    · obtain ⟨v, w0, rfl, eH, hv⟩ := hP
      exact sr_ret (evr_var (r := vF K C p (sl p F0 n)) rfl hv) fun v2 H5 e5 hv2 => q v2 H5 (eH.trans e5) hv2
theorem binds_slope {f : Addr} {fd : FuncData} (F : FunD K "slope" "Function.slope" (defArgs s_F_slope) (defBody s_F_slope) (defScope s_F_slope) [] [("times", .int 1)] f fd) : ∃ ds, Vals [.int 1] ds ∧ Binds K fd ["self", "times"] ds :=
  F.binds0 1 (by simp) rfl fun D doc pm an cdv ct us ks h1 h2 => match us, h1, ks, h2 with
    | [_], _, [_], _ => ⟨_, _, _, _, _, _, rfl, rfl, rfl⟩
theorem kbn_slope {f : Addr} {fd : FuncData} (F : FunD K "slope" "Function.slope" (defArgs s_F_slope) (defBody s_F_slope) (defScope s_F_slope) [] [("times", .int 1)] f fd) : KBn K fd ["self", "times"] 1 ["times"] (fun us ws => us ++ ws) (fun vs zs => vs ++ zs) := by
  obtain ⟨oc, od, dV, kV, doc, pm, an, cdv, ct, osl, rfl, lk, hcd, hD, hK⟩ := F.ex
  rcases hD with ⟨_, rfl⟩ | ⟨e, _⟩
  · refine ⟨fun s us ws _ h1 h2 => ?_, fun r1 r2 => r1.append r2⟩
    match us, h1, ws, h2 with
    | [_], _, [_], _ => exact .of_eq rfl
  · exact absurd rfl e
abbrev s__law_fn_slope : Stmt := topS 73
abbrev N__law_fn_slope : List Str := ["prime", "one", "top", "bottom", "left", "right"]
theorem sc__law_fn_slope : FnScope N__law_fn_slope ["prime", "one"] (defScope s__law_fn_slope) := ⟨rfl, rfl, rfl, by decide +kernel, rfl, by decide +kernel, by decide +kernel⟩
theorem ok__law_fn_slope {f : Addr} {fd : FuncData} (F : Fun K "_law_fn_slope" "_law_fn_slope" s__law_fn_slope f fd) (B : Bis mg) (cf : CFm K mg C)  (D__law_po_product : De P w K mg base "_law_po_product" ["prime", "one", "other"] 2 (sp__law_po_product K)) (D__law_po_slope : De P w K mg base "_law_po_slope" ["prime", "poly"] 2 (sp__law_po_slope K)) (D__law_fn_made : De P w K mg base "_law_fn_made" ["prime", "top", "bottom"] 6 (sp__law_fn_made K)) (D__law_po_sum : De P w K mg base "_law_po_sum" ["prime", "one", "other", "often"] 2 (sp__law_po_sum K)) : FnOk P w K mg base CX0 7 f fd ["prime", "one"] (sp__law_fn_slope K) := by
  refine F.ok sc__law_fn_slope (fun vs H Q E h => ?_) (fun cdv A outer s H vs Q E hr h => ?_)
  · obtain ⟨g, _, ha, _⟩ := h
    exact ha.len
  · obtain ⟨⟨p, F0⟩, ⟨hp, hF, lF⟩, ⟨_, _, rfl, rfl, ⟨v_one, _, rfl, h_one, rfl⟩⟩, q⟩ := h
    dsimp only at *
    refine ⟨_, (pss_cons (ps_asg (pv 1) (pg_tup rfl (pgs_cons (pg_name (i := 2) sc__law_fn_slope.nd rfl (Or.inl rfl)) (pgs_cons (pg_name (i := 3) sc__law_fn_slope.nd rfl (Or.inl rfl)) pgs_nil))))
      (pss_cons (ps_set (i := 4) sc__law_fn_slope.nd rfl (Or.inl rfl) (pe_call D__law_po_product.ok (hr.mono (by decide)) (by rfl) D__law_po_product.g D__law_po_product.kp D__law_po_product.b .nil pass0 (pa_cons (pv 0) (pa_cons (pe_call D__law_po_slope.ok (hr.mono (by decide)) (by rfl) D__law_po_slope.g D__law_po_slope.kp D__law_po_slope.b .nil pass0 (pa_cons (pv 0) (pa_cons (pv 2) pa_nil))) (pa_cons (pv 3) pa_nil)))))
      (pss_cons (ps_set (i := 5) sc__law_fn_slope.nd rfl (Or.inl rfl) (pe_call D__law_po_product.ok (hr.mono (by decide)) (by rfl) D__law_po_product.g D__law_po_product.kp D__law_po_product.b .nil pass0 (pa_cons (pv 0) (pa_cons (pv 2) (pa_cons (pe_call D__law_po_slope.ok (hr.mono (by decide)) (by rfl) D__law_po_slope.g D__law_po_slope.kp D__law_po_slope.b .nil pass0 (pa_cons (pv 0) (pa_cons (pv 3) pa_nil))) pa_nil)))))
      (pss_one (ps_ret (pe_call D__law_fn_made.ok (hr.mono (by decide)) (by rfl) D__law_fn_made.g D__law_fn_made.kp D__law_fn_made.b .nil pass0 (pa_cons (pv 0) (pa_cons (pe_call D__law_po_sum.ok (hr.mono (by decide)) (by rfl) D__law_po_sum.g D__law_po_sum.kp D__law_po_sum.b .nil pass0 (pa_cons (pv 0) (pa_cons (pv 4) (pa_cons (pv 5) (pa_cons (pe_un un_neg pe_int) pa_nil))))) (pa_cons (pe_call D__law_po_product.ok (hr.mono (by decide)) (by rfl) D__law_po_product.g D__law_po_product.kp D__law_po_product.b .nil pass0 (pa_cons (pv 0) (pa_cons (pv 3) (pa_cons (pv 3) pa_nil)))) pa_nil))))))))), ?_⟩
    have h2 := hp.le
    have hp0 : 0 < p := by omega
    have l1 := lF.1
    have l2 := lF.2
    have s1 := slope_len p F0.1
    have s2 := slope_len p F0.2
    have ps1 := slope_pl hp0 F0.1
    have ps2 := slope_pl hp0 F0.2
    have n1 := prod_len p (slopeOf p F0.1) F0.2
    have n2 := prod_len p F0.1 (slopeOf p F0.2)
    have n3 := prod_len p F0.2 F0.2
    have n4 := addScaled_len p (prod p (slopeOf p F0.1) F0.2) (prod p F0.1 (slopeOf p F0.2)) (-1)
    have pa : Pl p (prod p (slopeOf p F0.1) F0.2) := .prod hp0 _ _
    have pb : Pl p (prod p F0.1 (slopeOf p F0.2)) := .prod hp0 _ _
    refine qr_asgT2 (r1 := vP K F0.1) (r2 := vP K F0.2) (evr_var (r := vG K F0) rfl h_one) fun x2 x3 H1 e1 h2' h3 => ?_
    refine qr_asg (evr_call (GQ.mk p (slopeOf p F0.1) F0.2) ⟨hp0, ps1.sm hp, by show (slopeOf p F0.1).length ≤ 10000; omega, by show F0.2.length ≤ 10000; omega⟩ (evrs_cons (evr_var rfl rfl) (evrs_cons (evr_call (GP.mk p F0.1) ⟨hp0, by show F0.1.length ≤ 1000; omega, hF.t.sm hp⟩ (evrs_cons (evr_var rfl rfl) (evrs_cons (evr_var rfl h2') evrs_nil))) (evrs_cons (evr_var rfl h3) evrs_nil)))) fun x4 H2 e2 h4 => ?_
    have k2 := up h2' e2
    have k3 := up h3 e2
    refine qr_asg (evr_call (GQ.mk p F0.1 (slopeOf p F0.2)) ⟨hp0, hF.t.sm hp, by show F0.1.length ≤ 10000; omega, by show (slopeOf p F0.2).length ≤ 10000; omega⟩ (evrs_cons (evr_var rfl rfl) (evrs_cons (evr_var rfl k2) (evrs_cons (evr_call (GP.mk p F0.2) ⟨hp0, by show F0.2.length ≤ 1000; omega, hF.b.sm hp⟩ (evrs_cons (evr_var rfl rfl) (evrs_cons (evr_var rfl k3) evrs_nil))) evrs_nil)))) fun x5 H3 e3 h5 => ?_
    have k3 := up k3 e3
    have k4 := up h4 e3
    exact sr_ret (evr_call (GTB.mk p (addScaled p (prod p (slopeOf p F0.1) F0.2) (prod p F0.1 (slopeOf p F0.2)) (-1)) (prod p F0.2 F0.2)) ⟨hp, .add hp0 _ _ _, .prod hp0 _ _, prod_ne hp hF.b hF.b hF.nb hF.nb, by show (addScaled p (prod p (slopeOf p F0.1) F0.2) (prod p F0.1 (slopeOf p F0.2)) (-1)).length ≤ 200; omega, by show (prod p F0.2 F0.2).length ≤ 200; omega⟩
      (evrs_cons (evr_var rfl rfl) (evrs_cons (evr_call (GA.mk p (prod p (slopeOf p F0.1) F0.2) (prod p F0.1 (slopeOf p F0.2)) (-1)) ⟨hp0, by show (prod p (slopeOf p F0.1) F0.2).length ≤ 1000; omega, by show (prod p F0.1 (slopeOf p F0.2)).length ≤ 1000; omega, pa.sm hp, pb.sm hp⟩ (evrs_cons (evr_var rfl rfl) (evrs_cons (evr_var rfl k4) (evrs_cons (evr_var rfl h5) (evrs_cons (un_negI evr_c) evrs_nil)))))
        (evrs_cons (evr_call (GQ.mk p F0.2 F0.2) ⟨hp0, hF.b.sm hp, by show F0.2.length ≤ 10000; omega, by show F0.2.length ≤ 10000; omega⟩ (evrs_cons (evr_var rfl rfl) (evrs_cons (evr_var rfl k3) (evrs_cons (evr_var rfl k3) evrs_nil)))) evrs_nil)))) fun v H4 e4 hv => q v H4 (((e1.trans e2).trans e3).trans e4) hv
end
end K0
namespace K0
open PySem PySem.Spec PyProof.Rows L2 Kt M
open Evl (Ex Ev EvL EvU EvT EvA EvO ex_l ex_t sq_of st_of sz_of sz_lt fresh_back given)
theorem EvR.gD {K : PySem.W.Frag} {F : PF} {te : TE} {σ : L2.St} {H : Hp} (h : EvR te σ H (vG K F)) : EvR te σ H (vD K (.tuple [dP F.1, dP F.2])) := h.to fun v H1 e hv => by
  obtain ⟨a, xs, rfl, hs, v1, w1, rfl, h1, v2, w2, rfl, h2, hw⟩ := id hv
  obtain rfl : w2 = [] := hw
  exact Dp.tup hs (.cons (vP_D h1) (.cons (vP_D h2) .nil))
theorem pr_nat {p : Int} (hp : Pr p) : ∃ q : Nat, p = (q : Int) ∧ q ≤ 7 ∧ 2 ≤ q := ⟨p.toNat, by have := hp.le; omega, by have := hp.le7; omega, by have := hp.le; omega⟩
/-- all slopes of what was drawn are short -/
theorem sl_small {p : Int} (hp : Pr p) {F : PF} (hF : NF p F) (lF : Le 5 F) (n : Nat) : NF p (sl p F n) ∧ Le 40 (sl p F n) := by
  obtain ⟨q, hq, hq7, hq2⟩ := pr_nat hp
  by_cases h : n < q
  · have z := sl_le hp hF lF n (by omega)
    exact ⟨z.1, z.2.mono (by omega)⟩
  · rw [sl_p hp hF lF hq (by omega) n (by omega)]
    exact ⟨.zero hp, ⟨by show (0 : Nat) ≤ 40; omega, by show (1 : Nat) ≤ 40; omega⟩⟩
theorem pre5 {p : Int} (hp : Pr p) {F : PF} (hF : NF p F) (lF : Le 5 F) {n : Nat} (hn : n ≤ 20) : SlPre ⟨p, F, n⟩ := ⟨hp, hF, hn, fun k _ => (sl_small hp hF lF k).2.mono (by omega)⟩
theorem pre10 {p : Int} (hp : Pr p) {F : PF} (hF : NF p F) (lF : Le 10 F) {n : Nat} (hn : n ≤ 6) : SlPre ⟨p, F, n⟩ := ⟨hp, hF, by show n ≤ 20; omega, fun k hk => by
  have hk' : k < n := hk
  exact (sl_le hp hF lF k (by omega)).2.mono (by omega)⟩
theorem ne_sq {p : Int} (hp : Pr p) {G : PF} (hG : NF p G) {m : Nat} (lG : Le m G) (hm : m + m ≤ 400) (nz : G.1 ≠ []) : (fMul p G G).1 ≠ [] := by
  have sG := Fn.self hG lG
  have xG : Nz (e p G.1) := .of hG.t nz
  exact (Fn.mul hp sG sG hm).ne hp (xG.mul hp xG)
section
variable (K : PySem.W.Frag) (C : Addr)
def sp__law_steps_right : Sp := Con (G := GF) (fun g => Pr g.p ∧ NF g.p g.F ∧ Le 5 g.F) (fun g => [vI g.p, vF K C g.p g.F, vG K g.F]) (fun _ => vB true)
def sp__law_rules_right : Sp := Con (G := GAF) (fun g => Pr g.p ∧ NF g.p g.F ∧ NF g.p g.G ∧ Le 5 g.F ∧ Le 5 g.G) (fun g => [vI g.p, vF K C g.p g.F, vF K C g.p g.G]) (fun _ => vB true)
def sp__law_twofold_right : Sp := Con (G := GAF) (fun g => Pr g.p ∧ NF g.p g.F ∧ NF g.p g.G ∧ Le 5 g.F ∧ Le 5 g.G) (fun g => [vI g.p, vF K C g.p g.F, vF K C g.p g.G]) (fun _ => vB true)
end
section
variable {K : PySem.W.Frag} {C : Addr} {p : Int} {A B : PF} {σ : L2.St} {H : Hp} {ta tb : TE}
theorem evr_addF (hp : Pr p) (nA : NF p A) (nB : NF p B) (lA : Le 60 A) (lB : Le 60 B) (ha : EvR ta σ H (vF K C p A)) (hb : EvR tb σ H (vF K C p B)) : EvR (tOp (rOwn2 C (sp_F___add__ K C) E0) ta tb) σ H (vF K C p (fAdd p A B 1)) := evr_op ha hb (op_ownV (GAF.mk p A B 1) ⟨hp, nA, nB, lA, lB⟩ rfl)
theorem evr_subF (hp : Pr p) (nA : NF p A) (nB : NF p B) (lA : Le 60 A) (lB : Le 60 B) (ha : EvR ta σ H (vF K C p A)) (hb : EvR tb σ H (vF K C p B)) : EvR (tOp (rOwn2 C (sp_F___sub__ K C) E0) ta tb) σ H (vF K C p (fAdd p A B (-1))) := evr_op ha hb (op_ownV (GAF.mk p A B 1) ⟨hp, nA, nB, lA, lB⟩ rfl)
theorem evr_mulF (hp : Pr p) (nA : NF p A) (nB : NF p B) (lA : Le 60 A) (lB : Le 60 B) (ha : EvR ta σ H (vF K C p A)) (hb : EvR tb σ H (vF K C p B)) : EvR (tOp (rOwn2 C (sp_F___mul__ K C) E0) ta tb) σ H (vF K C p (fMul p A B)) := evr_op ha hb (op_ownV (GAF.mk p A B 1) ⟨hp, nA, nB, lA, lB⟩ rfl)
theorem evr_overF (hp : Pr p) (nA : NF p A) (nB : NF p B) (lA : Le 60 A) (lB : Le 60 B) (nz : B.1 ≠ []) (ha : EvR ta σ H (vF K C p A)) (hb : EvR tb σ H (vF K C p B)) : EvR (tOp (rOwn2 C (sp_F___floordiv__ K C) E0) ta tb) σ H (vF K C p (fMul p A (fBack p B))) := evr_op ha hb (op_ownV (GAF.mk p A B 1) ⟨⟨hp, nA, nB, lA, lB⟩, nz⟩ rfl)
theorem evr_powF {n : Nat} (hp : Pr p) (nA : NF p A) (lA : Le 5 A) (hn : n ≤ 10) (ha : EvR ta σ H (vF K C p A)) (hb : EvR tb σ H (vI (n : Int))) : EvR (tOp (rOwnI C (sp_F___pow__ K C) E0) ta tb) σ H (vF K C p (fPow p A n)) := evr_op ha hb (op_ownIV (GFn.mk p A n) ⟨hp, nA, by show n ≤ 20; omega, 5, lA, by show n * (1 + 5) ≤ 60; omega⟩ rfl)
end
section
variable {P : Program} {w : World} {K : PySem.W.Frag} {mg : Str → Option Value} {base : Heap} {C : Addr}
abbrev s__law_steps_right : Stmt := topS 75
abbrev N__law_steps_right : List Str := ["prime", "one", "pair", "here", "number", "told"]
theorem sc__law_steps_right : FnScope N__law_steps_right ["prime", "one", "pair"] (defScope s__law_steps_right) := ⟨rfl, rfl, rfl, by decide +kernel, rfl, by decide +kernel, by decide +kernel⟩
theorem ok__law_steps_right {f : Addr} {fd : FuncData} (F : Fun K "_law_steps_right" "_law_steps_right" s__law_steps_right f fd) (B : Bis mg) (cf : CFm K mg C)  (D__law_fn_slope : De P w K mg base "_law_fn_slope" ["prime", "one"] 7 (sp__law_fn_slope K)) (M_slope : DmS P w K mg base C 12 (sp_F_slope K C)) (M___eq__ : Dm P w K mg base C "__eq__" ["self", "other"] 1 (sp_F___eq__ K C)) (M___sub__ : Dm P w K mg base C "__sub__" ["self", "other"] 12 (sp_F___sub__ K C)) (M_bottom : Dg P w K mg base C "bottom" ["self"] 1 (sp_F_bottom K C)) (M_top : Dg P w K mg base C "top" ["self"] 1 (sp_F_top K C)) : FnOk P w K mg base CX0 13 f fd ["prime", "one", "pair"] (sp__law_steps_right K C) := by
  refine F.ok sc__law_steps_right (fun vs H Q E h => ?_) (fun cdv A outer s H vs Q E hr h => ?_)
  · obtain ⟨g, _, ha, _⟩ := h
    exact ha.len
  · obtain ⟨⟨p, F0⟩, ⟨hp, hF, lF⟩, ⟨_, _, rfl, rfl, ⟨v_one, _, rfl, h_one, ⟨v_pair, _, rfl, h_pair, rfl⟩⟩⟩, q⟩ := h
    dsimp only at *
    refine ⟨_, (pss_cons (ps_set (i := 3) sc__law_steps_right.nd rfl (Or.inl rfl) (pv 2))
      (pss_cons (ps_for PassesOwn.never rfl (pi_range1 (by rfl) (B "range" (by decide +kernel)) (pa_cons (pe_op op_add (pv 0) pe_int) pa_nil)) (pg_name (i := 4) sc__law_steps_right.nd rfl (Or.inl rfl)) (pss_cons (ps_set (i := 5) sc__law_steps_right.nd rfl (Or.inl rfl) (pe_methK0 (pv 1) cf.c.cl M_slope.m M_slope.ok (hr.mono (by decide)) M_slope.kb pass0 (pk_cons (pv 4) pk_nil)))
      (pss_cons (ps_if (pt_cmpR (r := rNeD K) (op_neD hr.units) (pe_tup (pa_cons (pe_prop (pv 5) cf.c.cl M_top.prop M_top.ok (hr.mono (by decide)) M_top.b .nil pass0 rfl) (pa_cons (pe_prop (pv 5) cf.c.cl M_bottom.prop M_bottom.ok (hr.mono (by decide)) M_bottom.b .nil pass0 rfl) pa_nil))) (pv 3) (nomark _)) (pss_one (ps_ret pe_bl)) pss_nil)
      (pss_one (ps_set (i := 3) sc__law_steps_right.nd rfl (Or.inl rfl) (pe_call D__law_fn_slope.ok (hr.mono (by decide)) (by rfl) D__law_fn_slope.g D__law_fn_slope.kp D__law_fn_slope.b .nil pass0 (pa_cons (pv 0) (pa_cons (pv 3) pa_nil))))))))
      (pss_one (ps_ret (pe_and (pe_cmpR (eq_own M___eq__.own cf.notF (Nat.lt_of_succ_lt (hu_of hr)) M___eq__.ok (hr.mono (by decide)) M___eq__.b pass0) (pe_methK0 (pv 1) cf.c.cl M_slope.m M_slope.ok (hr.mono (by decide)) M_slope.kb pass0 (pk_cons (pv 0) pk_nil)) (pe_op (op_own (op := .Sub) (own_sub M___sub__.own) cf.first M___sub__.ok (hr.mono (by decide)) M___sub__.b pass0) (pv 1) (pv 1)) (nomark _)) (pe_one (pe_cmpR (eq_own M___eq__.own cf.notF (Nat.lt_of_succ_lt (hu_of hr)) M___eq__.ok (hr.mono (by decide)) M___eq__.b pass0) (pe_methK0 (pv 1) cf.c.cl M_slope.m M_slope.ok (hr.mono (by decide)) M_slope.kb pass0 (pk_cons pe_int pk_nil)) (pe_op (op_own (op := .Sub) (own_sub M___sub__.own) cf.first M___sub__.ok (hr.mono (by decide)) M___sub__.b pass0) (pv 1) (pv 1)) (nomark _)))))))), ?_⟩
    obtain ⟨q0, hq, hq7, hq2⟩ := pr_nat hp
    refine qr_asg (evr_var (r := vG K F0) rfl h_pair) fun x3 H1 e1 h3 => ?_
    refine Evl.q_forR1 (n := p + 2) (ea_of (evrs_cons (evr_op (evr_var (r := vI p) rfl rfl) evr_c op_i0) evrs_nil)) ⟨by omega, by omega⟩ (fun i σ' H' => ∃ v w4 w5, σ' = [some (.int p), some v_one, some v_pair, some v, w4, w5] ∧ Ex H H' ∧ (vG K (sl p F0 i)).R v H') (fun H2 e2 => ⟨x3, none, none, rfl, e1.trans e2, up h3 e2⟩) (fun i σ' H' hi hP => ?_) (fun σ' H' hP => ?_)
    · obtain ⟨v, w4, w5, rfl, eH, hv⟩ := hP
      have S := sl_small hp hF lF i
      refine qr_asg (evr_slopeK (n := i) (pre5 hp hF lF (by omega)) (evr_var rfl (up h_one eH)) (evr_var rfl rfl)) fun x5 H3 e3 h5 => ?_
      have k3 := up hv e3
      have tm : Tame [dP (sl p F0 i).1, dP (sl p F0 i).2] := fun d hd => by
        simp only [List.mem_cons, List.not_mem_nil, or_false] at hd
        rcases hd with rfl | rfl
        · exact ⟨SeqAt.canLay_of_shaped (shaped_P _), by unfold dP; rw [PyData.depth, depth_ints]; decide⟩
        · exact ⟨SeqAt.canLay_of_shaped (shaped_P _), by unfold dP; rw [PyData.depth, depth_ints]; decide⟩
      have sh := shaped_tuple tm
      refine Evl.q_when (b := false) (Evl.et_is (et_r (evr_op (evr_dispD (ds := [dP (sl p F0 i).1, dP (sl p F0 i).2]) (evrs_cons (EvR.pD (evr_prop (GF.mk p (sl p F0 i)) trivial rfl (evr_var rfl h5))) (evrs_cons (EvR.pD (evr_prop (GF.mk p (sl p F0 i)) trivial rfl (evr_var rfl h5))) evrs_nil)) (Nat.le_of_ble_eq_true rfl)) (EvR.gD (F := sl p F0 i) (evr_var rfl k3)) (op_neDD sh sh))) ?_) (fun hb H4 e4 => by cases hb) (fun hb H4 e4 => ?_)
      · rw [SeqAt.eqv_refl _ (SeqAt.canLay_of_shaped sh)]
        rfl
      refine sr_asg (evr_call (GF.mk p (sl p F0 i)) ⟨hp, S.1, S.2.mono (by omega)⟩ (evrs_cons (evr_var rfl rfl) (evrs_cons (evr_var rfl (up k3 e4)) evrs_nil))) fun x6 H5 e5 h6 => ?_
      exact ⟨x6, _, _, rfl, ((eH.trans e3).trans e4).trans e5, h6⟩
    · obtain ⟨v, w4, w5, rfl, eH, hv⟩ := hP
      have o1 := up h_one eH
      have l60 := lF.mono (by omega : 5 ≤ 60)
      have fl := f_less hp hF lF (by omega)
      have zq := sl_p hp hF lF hq (by omega) q0 (Nat.le_refl _)
      have z20 := sl_p hp hF lF hq (by omega) 20 (by omega)
      refine sr_ret (EvR.eqB (c := true) (evr_and (evr_eqF (evr_slopeK (n := q0) (pre5 hp hF lF (by omega)) (evr_var rfl o1) (by
          rw [← hq]
          exact evr_var rfl rfl)) (evr_subF hp hF hF l60 l60 (evr_var rfl o1) (evr_var rfl o1)) (zq.trans fl.symm))
        fun _ => evr_eqF (evr_slopeK (n := 20) (pre5 hp hF lF (by omega)) (evr_var rfl o1) evr_c) (evr_subF hp hF hF l60 l60 (evr_var rfl o1) (evr_var rfl o1)) (z20.trans fl.symm)) rfl) fun v3 H3 e3 hv3 => q v3 H3 (eH.trans e3) hv3
abbrev s__law_rules_right : Stmt := topS 76
abbrev N__law_rules_right : List Str := ["prime", "one", "other", "power"]
theorem sc__law_rules_right : FnScope N__law_rules_right ["prime", "one", "other"] (defScope s__law_rules_right) := ⟨rfl, rfl, rfl, by decide +kernel, rfl, by decide +kernel, by decide +kernel⟩
theorem ok__law_rules_right {f : Addr} {fd : FuncData} (F : Fun K "_law_rules_right" "_law_rules_right" s__law_rules_right f fd) (B : Bis mg) (cf : CFm K mg C)   (M_slope : DmS P w K mg base C 12 (sp_F_slope K C)) (M___add__ : Dm P w K mg base C "__add__" ["self", "other"] 12 (sp_F___add__ K C)) (M___bool__ : Dm P w K mg base C "__bool__" ["self"] 1 (sp_F___bool__ K C)) (M___eq__ : Dm P w K mg base C "__eq__" ["self", "other"] 1 (sp_F___eq__ K C)) (M___floordiv__ : Dm P w K mg base C "__floordiv__" ["self", "other"] 11 (sp_F___floordiv__ K C)) (M___mul__ : Dm P w K mg base C "__mul__" ["self", "other"] 11 (sp_F___mul__ K C)) (M___pow__ : Dm P w K mg base C "__pow__" ["self", "other"] 10 (sp_F___pow__ K C)) (M___sub__ : Dm P w K mg base C "__sub__" ["self", "other"] 12 (sp_F___sub__ K C)) (M_number : Dk P w K mg base C "number" ["cls", "prime", "number"] 9 (sp_F_number K C)) : FnOk P w K mg base CX0 13 f fd ["prime", "one", "other"] (sp__law_rules_right K C) := by
  refine F.ok sc__law_rules_right (fun vs H Q E h => ?_) (fun cdv A outer s H vs Q E hr h => ?_)
  · obtain ⟨g, _, ha, _⟩ := h
    exact ha.len
  · obtain ⟨⟨p, F0, G0, f0⟩, ⟨hp, nF, nG, lF, lG⟩, ⟨_, _, rfl, rfl, ⟨v_one, _, rfl, h_one, ⟨v_other, _, rfl, h_other, rfl⟩⟩⟩, q⟩ := h
    dsimp only at *
    refine ⟨_, (pss_cons (ps_if (PW.pt (pw_or (pt_cmpR (ne_own M___eq__.own cf.nn M___eq__.ok (hr.mono (by decide)) M___eq__.b pass0) (pe_meth0 (pe_op (op_own (op := .Add) (own_add M___add__.own) cf.first M___add__.ok (hr.mono (by decide)) M___add__.b pass0) (pv 1) (pv 2)) cf.c.cl M_slope.m M_slope.ok (hr.mono (by decide)) M_slope.b M_slope.dv pass0) (pe_op (op_own (op := .Add) (own_add M___add__.own) cf.first M___add__.ok (hr.mono (by decide)) M___add__.b pass0) (pe_meth0 (pv 1) cf.c.cl M_slope.m M_slope.ok (hr.mono (by decide)) M_slope.b M_slope.dv pass0) (pe_meth0 (pv 2) cf.c.cl M_slope.m M_slope.ok (hr.mono (by decide)) M_slope.b M_slope.dv pass0)) (nomark _)) (pw_or1 (pt_cmpR (ne_own M___eq__.own cf.nn M___eq__.ok (hr.mono (by decide)) M___eq__.b pass0) (pe_meth0 (pe_op (op_own (op := .Mult) (own_mul M___mul__.own) cf.first M___mul__.ok (hr.mono (by decide)) M___mul__.b pass0) (pv 1) (pv 2)) cf.c.cl M_slope.m M_slope.ok (hr.mono (by decide)) M_slope.b M_slope.dv pass0) (pe_op (op_own (op := .Add) (own_add M___add__.own) cf.first M___add__.ok (hr.mono (by decide)) M___add__.b pass0) (pe_op (op_own (op := .Mult) (own_mul M___mul__.own) cf.first M___mul__.ok (hr.mono (by decide)) M___mul__.b pass0) (pe_meth0 (pv 1) cf.c.cl M_slope.m M_slope.ok (hr.mono (by decide)) M_slope.b M_slope.dv pass0) (pv 2)) (pe_op (op_own (op := .Mult) (own_mul M___mul__.own) cf.first M___mul__.ok (hr.mono (by decide)) M___mul__.b pass0) (pv 1) (pe_meth0 (pv 2) cf.c.cl M_slope.m M_slope.ok (hr.mono (by decide)) M_slope.b M_slope.dv pass0))) (nomark _))))) (pss_one (ps_ret pe_bl)) pss_nil)
      (pss_cons (ps_if (PW.pt (pw_and (pt_truthR (pv 2) (tru_own M___bool__.own M___bool__.ok (hr.mono (by decide)) M___bool__.b pass0) (by intro _; rfl)) (pw_and1 (pt_cmpR (ne_own M___eq__.own cf.nn M___eq__.ok (hr.mono (by decide)) M___eq__.b pass0) (pe_meth0 (pe_op (op_own (op := .FloorDiv) (own_floordiv M___floordiv__.own) cf.first M___floordiv__.ok (hr.mono (by decide)) M___floordiv__.b pass0) (pv 1) (pv 2)) cf.c.cl M_slope.m M_slope.ok (hr.mono (by decide)) M_slope.b M_slope.dv pass0) (pe_op (op_own (op := .FloorDiv) (own_floordiv M___floordiv__.own) cf.first M___floordiv__.ok (hr.mono (by decide)) M___floordiv__.b pass0) (pe_op (op_own (op := .Sub) (own_sub M___sub__.own) cf.first M___sub__.ok (hr.mono (by decide)) M___sub__.b pass0) (pe_op (op_own (op := .Mult) (own_mul M___mul__.own) cf.first M___mul__.ok (hr.mono (by decide)) M___mul__.b pass0) (pe_meth0 (pv 1) cf.c.cl M_slope.m M_slope.ok (hr.mono (by decide)) M_slope.b M_slope.dv pass0) (pv 2)) (pe_op (op_own (op := .Mult) (own_mul M___mul__.own) cf.first M___mul__.ok (hr.mono (by decide)) M___mul__.b pass0) (pv 1) (pe_meth0 (pv 2) cf.c.cl M_slope.m M_slope.ok (hr.mono (by decide)) M_slope.b M_slope.dv pass0))) (pe_op (op_own (op := .Mult) (own_mul M___mul__.own) cf.first M___mul__.ok (hr.mono (by decide)) M___mul__.b pass0) (pv 2) (pv 2))) (nomark _))))) (pss_one (ps_ret pe_bl)) pss_nil)
      (pss_cons (ps_if (PW.pt (pw_or (pt_cmpR (ne_own M___eq__.own cf.nn M___eq__.ok (hr.mono (by decide)) M___eq__.b pass0) (pe_meth0 (pe_op (op_ownI (op := .Pow) (own_pow M___pow__.own) cf.oi M___pow__.ok (hr.mono (by decide)) M___pow__.b pass0) (pv 1) pe_int) cf.c.cl M_slope.m M_slope.ok (hr.mono (by decide)) M_slope.b M_slope.dv pass0) (pe_op (op_own (op := .Mult) (own_mul M___mul__.own) cf.first M___mul__.ok (hr.mono (by decide)) M___mul__.b pass0) (pe_op (op_own (op := .Mult) (own_mul M___mul__.own) cf.first M___mul__.ok (hr.mono (by decide)) M___mul__.b pass0) (ClX.pe_cmeth (pe_glob (v := .ref C) (by rfl) cf.mg rfl) M_number.rd M_number.cm M_number.fnr (hr.mono (by decide)) pass0 (pa_cons (pv 0) (pa_cons pe_int pa_nil))) (pe_op (op_ownI (op := .Pow) (own_pow M___pow__.own) cf.oi M___pow__.ok (hr.mono (by decide)) M___pow__.b pass0) (pv 1) pe_int)) (pe_meth0 (pv 1) cf.c.cl M_slope.m M_slope.ok (hr.mono (by decide)) M_slope.b M_slope.dv pass0)) (nomark _)) (pw_or1 (pt_cmpR (ne_own M___eq__.own cf.nn M___eq__.ok (hr.mono (by decide)) M___eq__.b pass0) (pe_meth0 (pe_op (op_ownI (op := .Pow) (own_pow M___pow__.own) cf.oi M___pow__.ok (hr.mono (by decide)) M___pow__.b pass0) (pv 1) pe_int) cf.c.cl M_slope.m M_slope.ok (hr.mono (by decide)) M_slope.b M_slope.dv pass0) (pe_op (op_own (op := .Sub) (own_sub M___sub__.own) cf.first M___sub__.ok (hr.mono (by decide)) M___sub__.b pass0) (pv 1) (pv 1)) (nomark _))))) (pss_one (ps_ret pe_bl)) pss_nil)
      (pss_cons (ps_set (i := 3) sc__law_rules_right.nd rfl (Or.inl rfl) (pe_ifExp (pt_cmpR op_eq (pv 0) pe_int (nomark _)) (pe_op (op_ownI (op := .Pow) (own_pow M___pow__.own) cf.oi M___pow__.ok (hr.mono (by decide)) M___pow__.b pass0) (pv 1) pe_int) (pe_ifExp (pt_cmpR op_eq (pv 0) pe_int (nomark _)) (pe_op (op_ownI (op := .Pow) (own_pow M___pow__.own) cf.oi M___pow__.ok (hr.mono (by decide)) M___pow__.b pass0) (pv 1) pe_int) (pe_ifExp (pt_cmpR op_eq (pv 0) pe_int (nomark _)) (pe_op (op_ownI (op := .Pow) (own_pow M___pow__.own) cf.oi M___pow__.ok (hr.mono (by decide)) M___pow__.b pass0) (pv 1) pe_int) (pe_op (op_ownI (op := .Pow) (own_pow M___pow__.own) cf.oi M___pow__.ok (hr.mono (by decide)) M___pow__.b pass0) (pv 1) pe_int)))))
      (pss_one (ps_ret (pe_cmpR (eq_own M___eq__.own cf.notF (Nat.lt_of_succ_lt (hu_of hr)) M___eq__.ok (hr.mono (by decide)) M___eq__.b pass0) (pe_meth0 (pv 3) cf.c.cl M_slope.m M_slope.ok (hr.mono (by decide)) M_slope.b M_slope.dv pass0) (pe_op (op_own (op := .Sub) (own_sub M___sub__.own) cf.first M___sub__.ok (hr.mono (by decide)) M___sub__.b pass0) (pv 1) (pv 1)) (nomark _)))))))), ?_⟩
    obtain ⟨q0, hq, hq7, hq2⟩ := pr_nat hp
    have lF' := lF.mono (by omega : 5 ≤ 60)
    have lG' := lG.mono (by omega : 5 ≤ 60)
    have aFG := fAdd_ok hp nF nG lF lG (by omega) 1
    have mFG := fMul_ok hp nF nG lF lG (by omega)
    have sF := fSlope_ok hp nF lF (by omega)
    have sG := fSlope_ok hp nG lG (by omega)
    have mSG := fMul_ok hp sF.1 nG sF.2.2 lG (by omega)
    have mFS := fMul_ok hp nF sG.1 lF sG.2.2 (by omega)
    have sFl := sF.2.2.mono (by omega : 5 + 5 ≤ 60)
    have sGl := sG.2.2.mono (by omega : 5 + 5 ≤ 60)
    have s0 : ∀ {A : PF} {σ : L2.St} {H : Hp} {ta : TE}, NF p A → Le 60 A → EvR ta σ H (vF K C p A) → EvR (tMeth C "slope" (sp_F_slope K C) [.int 1] E0 ta tNil) σ H (vF K C p (fSlope p A)) := fun nA lA h => evr_slope0 ⟨hp, nA, lA⟩ h
    refine Evl.q_when (b := false) (Evl.et_is (Evl.et_or (et_neF (s0 aFG.1 (aFG.2.2.mono (by omega)) (evr_addF hp nF nG lF' lG' (evr_var rfl h_one) (evr_var rfl h_other))) (evr_addF hp sF.1 sG.1 sFl sGl (s0 nF lF' (evr_var rfl h_one)) (s0 nG lG' (evr_var rfl h_other))) (s_add hp nF nG lF lG (by omega)))
      fun _ => et_neF (s0 mFG.1 (mFG.2.2.mono (by omega)) (evr_mulF hp nF nG lF' lG' (evr_var rfl h_one) (evr_var rfl h_other))) (evr_addF hp mSG.1 mFS.1 (mSG.2.2.mono (by omega)) (mFS.2.2.mono (by omega)) (evr_mulF hp sF.1 nG sFl lG' (s0 nF lF' (evr_var rfl h_one)) (evr_var rfl h_other)) (evr_mulF hp nF sG.1 lF' sGl (evr_var rfl h_one) (s0 nG lG' (evr_var rfl h_other)))) (s_mul hp nF nG lF lG (by omega))) rfl) (fun hb H1 e1 => by cases hb) (fun hb H1 e1 => ?_)
    have o1 := up h_one e1
    have o2 := up h_other e1
    refine Evl.q_when (b := false) (Evl.et_is (Evl.et_and (et_F (evr_var rfl o2)) (fun hb => ?_)) (Bool.and_false _)) (fun hb H2 e2 => by cases hb) (fun hb H2 e2 => ?_)
    · have nz : G0.1 ≠ [] := fun z => by
        rw [z] at hb
        cases hb
      have bG := fBack_ok hp nG nz lG (by omega)
      have mFB := fMul_ok hp nF bG.1 lF bG.2.2 (by omega)
      have su := fAdd_ok hp mSG.1 mFS.1 mSG.2.2 mFS.2.2 (by omega) (-1)
      have GG := fMul_ok hp nG nG lG lG (by omega)
      have nGG := ne_sq hp nG lG (by omega) nz
      exact et_neF (s0 mFB.1 (mFB.2.2.mono (by omega)) (evr_overF hp nF nG lF' lG' nz (evr_var rfl o1) (evr_var rfl o2))) (evr_overF hp su.1 GG.1 (su.2.2.mono (by omega)) (GG.2.2.mono (by omega)) nGG
        (evr_subF hp mSG.1 mFS.1 (mSG.2.2.mono (by omega)) (mFS.2.2.mono (by omega)) (evr_mulF hp sF.1 nG sFl lG' (s0 nF lF' (evr_var rfl o1)) (evr_var rfl o2)) (evr_mulF hp nF sG.1 lF' sGl (evr_var rfl o1) (s0 nG lG' (evr_var rfl o2))))
        (evr_mulF hp nG nG lG' lG' (evr_var rfl o2) (evr_var rfl o2))) (s_over hp nF nG nz lF lG (by omega))
    have o1 := up o1 e2
    have p4 := fPow_le hp nF lF 4 (by omega)
    have p3 := fPow_le hp nF lF 3 (by omega)
    have p0 := fPow_le hp nF lF 0 (by omega)
    have n4 := fnum_fn hp 4
    have m43 := fMul_ok hp n4.nf p3.1 n4.le p3.2 (by omega)
    have h4 : fSlope p (fPow p F0 4) = fMul p (fMul p (fNum p 4) (fPow p F0 3)) (fSlope p F0) := s_pow hp nF lF 3 (by omega)
    have fl := f_less hp nF lF (by omega)
    have k4 : EvR (tMeth C "slope" (sp_F_slope K C) [.int 1] E0 (tOp (rOwnI C (sp_F___pow__ K C) E0) (tVar 1) (tC (.int 4))) tNil) [some (.int p), some v_one, some v_other, none] H2 (vF K C p (fSlope p (fPow p F0 4))) := s0 p4.1 (p4.2.mono (by omega)) (evr_powF (n := 4) hp nF lF (by omega) (evr_var rfl o1) evr_c)
    refine Evl.q_when (b := false) (Evl.et_is (Evl.et_or (et_neF k4 (evr_mulF hp m43.1 sF.1 (m43.2.2.mono (by omega)) sFl (evr_mulF hp n4.nf p3.1 (n4.le.mono (by omega)) (p3.2.mono (by omega)) (evr_number (n := 4) hp (by decide +kernel) (evr_var rfl rfl) evr_c) (evr_powF (n := 3) hp nF lF (by omega) (evr_var rfl o1) evr_c)) (s0 nF lF' (evr_var rfl o1))) h4)
      fun _ => et_neF (s0 p0.1 (p0.2.mono (by omega)) (evr_powF (n := 0) hp nF lF (by omega) (evr_var rfl o1) evr_c)) (evr_subF hp nF nF lF' lF' (evr_var rfl o1) (evr_var rfl o1)) ((s_one hp).trans fl.symm)) rfl) (fun hb H3 e3 => by cases hb) (fun hb H3 e3 => ?_)
    have o1 := up o1 e3
    have eqt : ∀ {x : Int}, decide (V.int p = V.int x) = true → p = x := fun h => eqv_i.mp h
    refine qr_asg (r := vF K C p (fPow p F0 q0)) (evr_if (et_r (evr_op (evr_var rfl rfl) evr_c (op_eqS rfl))) (fun hb => ?_) (fun hb => evr_if (et_r (evr_op (evr_var rfl rfl) evr_c (op_eqS rfl))) (fun hb2 => ?_) (fun hb2 => evr_if (et_r (evr_op (evr_var rfl rfl) evr_c (op_eqS rfl))) (fun hb3 => ?_) (fun hb3 => ?_)))) fun x3 H4 e4 h3 => ?_
    · have h := eqt hb
      obtain rfl : q0 = 2 := by omega
      exact evr_powF (n := 2) hp nF lF (by omega) (evr_var rfl o1) evr_c
    · have h := eqt hb2
      obtain rfl : q0 = 3 := by omega
      exact evr_powF (n := 3) hp nF lF (by omega) (evr_var rfl o1) evr_c
    · have h := eqt hb3
      obtain rfl : q0 = 5 := by omega
      exact evr_powF (n := 5) hp nF lF (by omega) (evr_var rfl o1) evr_c
    · have h1 : ¬ p = 2 := nev_i.mp hb
      have h2 : ¬ p = 3 := nev_i.mp hb2
      have h3 : ¬ p = 5 := nev_i.mp hb3
      have h7 : p = 7 := by
        rcases hp with h | h | h | h
        · exact absurd h h1
        · exact absurd h h2
        · exact absurd h h3
        · exact h
      obtain rfl : q0 = 7 := by omega
      exact evr_powF (n := 7) hp nF lF (by omega) (evr_var rfl o1) evr_c
    have pq := fPow_le hp nF lF q0 (by omega)
    have o1 := up o1 e4
    exact sr_ret (evr_eqF (s0 pq.1 (pq.2.mono (by omega)) (evr_var rfl h3)) (evr_subF hp nF nF lF' lF' (evr_var rfl o1) (evr_var rfl o1)) ((s_powp hp nF lF hq (by omega)).trans fl.symm)) fun v H5 e5 hv => q v H5 ((((e1.trans e2).trans e3).trans e4).trans e5) hv
abbrev s__law_twofold_right : Stmt := topS 77
abbrev N__law_twofold_right : List Str := ["prime", "one", "other", "two", "due", "total", "number", "sign"]
theorem sc__law_twofold_right : FnScope N__law_twofold_right ["prime", "one", "other"] (defScope s__law_twofold_right) := ⟨rfl, rfl, rfl, by decide +kernel, rfl, by decide +kernel, by decide +kernel⟩
theorem ok__law_twofold_right {f : Addr} {fd : FuncData} (F : Fun K "_law_twofold_right" "_law_twofold_right" s__law_twofold_right f fd) (B : Bis mg) (cf : CFm K mg C)   (M_slope : DmS P w K mg base C 12 (sp_F_slope K C)) (M___add__ : Dm P w K mg base C "__add__" ["self", "other"] 12 (sp_F___add__ K C)) (M___eq__ : Dm P w K mg base C "__eq__" ["self", "other"] 1 (sp_F___eq__ K C)) (M___mul__ : Dm P w K mg base C "__mul__" ["self", "other"] 11 (sp_F___mul__ K C)) (M___sub__ : Dm P w K mg base C "__sub__" ["self", "other"] 12 (sp_F___sub__ K C)) (M_number : Dk P w K mg base C "number" ["cls", "prime", "number"] 9 (sp_F_number K C)) : FnOk P w K mg base CX0 13 f fd ["prime", "one", "other"] (sp__law_twofold_right K C) := by
  refine F.ok sc__law_twofold_right (fun vs H Q E h => ?_) (fun cdv A outer s H vs Q E hr h => ?_)
  · obtain ⟨g, _, ha, _⟩ := h
    exact ha.len
  · obtain ⟨⟨p, F0, G0, f0⟩, ⟨hp, nF, nG, lF, lG⟩, ⟨_, _, rfl, rfl, ⟨v_one, _, rfl, h_one, ⟨v_other, _, rfl, h_other, rfl⟩⟩⟩, q⟩ := h
    dsimp only at *
    refine ⟨_, (pss_cons (ps_set (i := 3) sc__law_twofold_right.nd rfl (Or.inl rfl) (ClX.pe_cmeth (pe_glob (v := .ref C) (by rfl) cf.mg rfl) M_number.rd M_number.cm M_number.fnr (hr.mono (by decide)) pass0 (pa_cons (pv 0) (pa_cons pe_int pa_nil))))
      (pss_cons (ps_set (i := 4) sc__law_twofold_right.nd rfl (Or.inl rfl) (pe_op (op_own (op := .Add) (own_add M___add__.own) cf.first M___add__.ok (hr.mono (by decide)) M___add__.b pass0) (pe_op (op_own (op := .Add) (own_add M___add__.own) cf.first M___add__.ok (hr.mono (by decide)) M___add__.b pass0) (pe_op (op_own (op := .Mult) (own_mul M___mul__.own) cf.first M___mul__.ok (hr.mono (by decide)) M___mul__.b pass0) (pe_methK0 (pv 1) cf.c.cl M_slope.m M_slope.ok (hr.mono (by decide)) M_slope.kb pass0 (pk_cons pe_int pk_nil)) (pv 2)) (pe_op (op_own (op := .Mult) (own_mul M___mul__.own) cf.first M___mul__.ok (hr.mono (by decide)) M___mul__.b pass0) (pe_op (op_own (op := .Mult) (own_mul M___mul__.own) cf.first M___mul__.ok (hr.mono (by decide)) M___mul__.b pass0) (pv 3) (pe_meth0 (pv 1) cf.c.cl M_slope.m M_slope.ok (hr.mono (by decide)) M_slope.b M_slope.dv pass0)) (pe_meth0 (pv 2) cf.c.cl M_slope.m M_slope.ok (hr.mono (by decide)) M_slope.b M_slope.dv pass0))) (pe_op (op_own (op := .Mult) (own_mul M___mul__.own) cf.first M___mul__.ok (hr.mono (by decide)) M___mul__.b pass0) (pv 1) (pe_methK0 (pv 2) cf.c.cl M_slope.m M_slope.ok (hr.mono (by decide)) M_slope.kb pass0 (pk_cons pe_int pk_nil)))))
      (pss_cons (ps_if (pt_cmpR (ne_own M___eq__.own cf.nn M___eq__.ok (hr.mono (by decide)) M___eq__.b pass0) (pe_methK0 (pe_op (op_own (op := .Mult) (own_mul M___mul__.own) cf.first M___mul__.ok (hr.mono (by decide)) M___mul__.b pass0) (pv 1) (pv 2)) cf.c.cl M_slope.m M_slope.ok (hr.mono (by decide)) M_slope.kb pass0 (pk_cons pe_int pk_nil)) (pv 4) (nomark _)) (pss_one (ps_ret pe_bl)) pss_nil)
      (pss_cons (ps_set (i := 5) sc__law_twofold_right.nd rfl (Or.inl rfl) (pe_op (op_own (op := .Sub) (own_sub M___sub__.own) cf.first M___sub__.ok (hr.mono (by decide)) M___sub__.b pass0) (pv 1) (pv 1)))
      (pss_cons (ps_for PassesOwn.never rfl (pi_range1 (by rfl) (B "range" (by decide +kernel)) (pa_cons (pv 0) pa_nil)) (pg_name (i := 6) sc__law_twofold_right.nd rfl (Or.inl rfl)) (pss_cons (ps_set (i := 7) sc__law_twofold_right.nd rfl (Or.inl rfl) (ClX.pe_cmeth (pe_glob (v := .ref C) (by rfl) cf.mg rfl) M_number.rd M_number.cm M_number.fnr (hr.mono (by decide)) pass0 (pa_cons (pv 0) (pa_cons (pe_ifExp (pt_cmpR op_eq (pe_op op_mod (pv 6) pe_int) pe_int (nomark _)) pe_int (pe_un un_neg pe_int)) pa_nil))))
      (pss_one (ps_set (i := 5) sc__law_twofold_right.nd rfl (Or.inl rfl) (pe_op (op_own (op := .Add) (own_add M___add__.own) cf.first M___add__.ok (hr.mono (by decide)) M___add__.b pass0) (pv 5) (pe_op (op_own (op := .Mult) (own_mul M___mul__.own) cf.first M___mul__.ok (hr.mono (by decide)) M___mul__.b pass0) (pe_op (op_own (op := .Mult) (own_mul M___mul__.own) cf.first M___mul__.ok (hr.mono (by decide)) M___mul__.b pass0) (pv 7) (pe_methK0 (pv 1) cf.c.cl M_slope.m M_slope.ok (hr.mono (by decide)) M_slope.kb pass0 (pk_cons (pv 6) pk_nil))) (pe_methK0 (pv 2) cf.c.cl M_slope.m M_slope.ok (hr.mono (by decide)) M_slope.kb pass0 (pk_cons (pe_op op_sub (pe_op op_sub (pv 0) pe_int) (pv 6)) pk_nil))))))))
      (pss_one (ps_ret (pe_cmpR (eq_own M___eq__.own cf.notF (Nat.lt_of_succ_lt (hu_of hr)) M___eq__.ok (hr.mono (by decide)) M___eq__.b pass0) (pe_methK0 (pe_op (op_own (op := .Mult) (own_mul M___mul__.own) cf.first M___mul__.ok (hr.mono (by decide)) M___mul__.b pass0) (pv 1) (pv 2)) cf.c.cl M_slope.m M_slope.ok (hr.mono (by decide)) M_slope.kb pass0 (pk_cons (pe_op op_sub (pv 0) pe_int) pk_nil)) (pv 5) (nomark _))))))))), ?_⟩
    obtain ⟨q0, hq, hq7, hq2⟩ := pr_nat hp
    have lF' := lF.mono (by omega : 5 ≤ 60)
    have lG' := lG.mono (by omega : 5 ≤ 60)
    have mFG := fMul_ok hp nF nG lF lG (by omega)
    have F1 := sl_le hp nF lF 1 (by omega)
    have F2 := sl_le hp nF lF 2 (by omega)
    have G1 := sl_le hp nG lG 1 (by omega)
    have G2 := sl_le hp nG lG 2 (by omega)
    have n2 := fnum_fn hp 2
    have a1 := fMul_ok hp F2.1 nG F2.2 lG (by omega)
    have a2 := fMul_ok hp n2.nf F1.1 n2.le F1.2 (by omega)
    have a3 := fMul_ok hp a2.1 G1.1 a2.2.2 G1.2 (by omega)
    have a4 := fMul_ok hp nF G2.1 lF G2.2 (by omega)
    have a5 := fAdd_ok hp a1.1 a3.1 a1.2.2 a3.2.2 (by omega) 1
    have s0 : ∀ {A : PF} {σ : L2.St} {H : Hp} {ta : TE}, NF p A → Le 60 A → EvR ta σ H (vF K C p A) → EvR (tMeth C "slope" (sp_F_slope K C) [.int 1] E0 ta tNil) σ H (vF K C p (sl p A 1)) := fun nA lA h => evr_slope0 ⟨hp, nA, lA⟩ h
    refine qr_asg (evr_number (n := 2) hp (by decide +kernel) (evr_var rfl rfl) evr_c) fun x3 H1 e1 h3 => ?_
    have o1 := up h_one e1
    have o2 := up h_other e1
    refine qr_asg (evr_addF hp a5.1 a4.1 (a5.2.2.mono (by omega)) (a4.2.2.mono (by omega))
      (evr_addF hp a1.1 a3.1 (a1.2.2.mono (by omega)) (a3.2.2.mono (by omega))
        (evr_mulF hp F2.1 nG (F2.2.mono (by omega)) lG' (evr_slopeK (n := 2) (pre5 hp nF lF (by omega)) (evr_var rfl o1) evr_c) (evr_var rfl o2))
        (evr_mulF hp a2.1 G1.1 (a2.2.2.mono (by omega)) (G1.2.mono (by omega)) (evr_mulF hp n2.nf F1.1 (n2.le.mono (by omega)) (F1.2.mono (by omega)) (evr_var rfl h3) (s0 nF lF' (evr_var rfl o1))) (s0 nG lG' (evr_var rfl o2))))
      (evr_mulF hp nF G2.1 lF' (G2.2.mono (by omega)) (evr_var rfl o1) (evr_slopeK (n := 2) (pre5 hp nG lG (by omega)) (evr_var rfl o2) evr_c))) fun x4 H2 e2 h4 => ?_
    have o1 := up o1 e2
    have o2 := up o2 e2
    refine Evl.q_when (b := false) (et_neF (evr_slopeK (n := 2) (pre10 hp mFG.1 mFG.2.2 (by omega)) (evr_mulF hp nF nG lF' lG' (evr_var rfl o1) (evr_var rfl o2)) evr_c) (evr_var rfl h4) (s_two hp nF nG lF lG (by omega))) (fun hb H3 e3 => by cases hb) (fun hb H3 e3 => ?_)
    have o1 := up o1 e3
    have o2 := up o2 e3
    have fl := f_less hp nF lF (by omega)
    have eH3 := (e1.trans e2).trans e3
    refine qr_asg (r := vF K C p ([], [1])) (by
      rw [← fl]
      exact evr_subF hp nF nF lF' lF' (evr_var rfl o1) (evr_var rfl o1)) fun x5 H4 e4 h5 => ?_
    have hm : q0 * (4 + 1) ≤ 60 := by omega
    have hM : q0 * 4 + q0 * 4 + 1 ≤ 60 := by omega
    refine Evl.q_forR1 (n := p) (ea_of (evrs_cons (evr_var (r := vI p) rfl rfl) evrs_nil)) ⟨by omega, by omega⟩ (fun i σ' H' => ∃ v w6 w7, σ' = [some (.int p), some v_one, some v_other, some x3, some x4, some v, w6, w7] ∧ Ex H H' ∧ (vF K C p (tots p q0 F0 G0 i)).R v H') (fun H5 e5 => ⟨x5, none, none, rfl, (eH3.trans e4).trans e5, up h5 e5⟩) (fun i σ' H' hi hP => ?_) (fun σ' H' hP => ?_)
    · obtain ⟨v, w6, w7, rfl, eH, hv⟩ := hP
      have hiq : i < q0 := by omega
      have o1 := up h_one eH
      have o2 := up h_other eH
      have ns := fnum_fn hp (sg i)
      have hsg : isInt (.int (sg i)) = true := by
        unfold sg
        split <;> decide +kernel
      refine qr_asg (evr_number (n := sg i) hp hsg (evr_var rfl rfl) (evr_if (et_r (evr_op (evr_op (evr_var (r := vI (i : Int)) rfl rfl) evr_c (op_i (by decide))) evr_c (op_eqS rfl))) (fun hb => ?_) (fun hb => ?_))) fun x7 H5 e5 h7 => ?_
      · have h := eqv_i.mp hb
        have hs : sg i = 1 := by
          unfold sg
          rw [if_pos (by omega)]
        rw [hs]
        exact evr_c
      · have h := nev_i.mp hb
        have hs : sg i = -1 := by
          unfold sg
          rw [if_neg (by omega)]
        rw [hs]
        exact un_negI evr_c
      have o1 := up o1 e5
      have o2 := up o2 e5
      have Fi := sl_small hp nF lF i
      have Gi := sl_small hp nG lG (q0 - 1 - i)
      have b1 := fMul_ok hp ns.nf Fi.1 ns.le Fi.2 (by omega)
      have T := tms_fn hp nF nG (m := 4) lF lG hq hm hM i hiq
      have T0 := tots_fn hp nF nG (m := 4) lF lG hq hm hM i (by omega)
      refine sr_asg (evr_addF hp T0.nf T.nf T0.le T.le (evr_var rfl (up hv e5)) (evr_mulF hp b1.1 Gi.1 (b1.2.2.mono (by omega)) (Gi.2.mono (by omega)) (evr_mulF hp ns.nf Fi.1 (ns.le.mono (by omega)) (Fi.2.mono (by omega)) (evr_var rfl h7) (evr_slopeK (n := i) (pre5 hp nF lF (by omega)) (evr_var rfl o1) (evr_var rfl rfl)))
        (evr_slopeK (n := q0 - 1 - i) (pre5 hp nG lG (by omega)) (evr_var rfl o2) (EvR.eqI (evr_op (evr_op (evr_var (r := vI p) rfl rfl) evr_c op_i0) (evr_var (r := vI (i : Int)) rfl rfl) op_i0) (by omega))))) fun x8 H6 e6 h8 => ?_
      exact ⟨x8, _, _, rfl, (eH.trans e5).trans e6, h8⟩
    · obtain ⟨v, w6, w7, rfl, eH, hv⟩ := hP
      have o1 := up h_one eH
      have o2 := up h_other eH
      have ep : p.toNat = q0 := by omega
      have hv' : (vF K C p (tots p q0 F0 G0 q0)).R v H' := by
        have := hv
        rw [ep] at this
        exact this
      exact sr_ret (evr_eqF (evr_slopeK (n := q0 - 1) (pre10 hp mFG.1 mFG.2.2 (by omega)) (evr_mulF hp nF nG lF' lG' (evr_var rfl o1) (evr_var rfl o2)) (EvR.eqI (evr_op (evr_var (r := vI p) rfl rfl) evr_c op_i0) (by omega))) (evr_var rfl hv') (tots_ok hp nF nG (m := 4) lF lG hq hm hM)) fun v3 H6 e6 hv3 => q v3 H6 (eH.trans e6) hv3
end
end K0
namespace K0
open PySem PySem.Spec PyProof.Rows L2 Kt M
open Evl (Ex Ev EvL EvU EvT EvA EvO ex_l ex_t sq_of st_of sz_of sz_lt fresh_back given)
section
variable {K : PySem.W.Frag} {p : Int} {σ : L2.St} {H : Hp} {t1 t2 : TE} {i j : Nat} {D : Ends} {tz : TS} {P1 P2 : Int → Prop}
theorem qm_parP {r1 r2 : List VR} (h1 : EvM t1 σ H r1) (h2 : EvM t2 σ H r2) (k : ∀ p1 x1 p2 x2 H1, H p1 = none → H p2 = none → Ex H H1 → H1 p1 = some (.lst x1) → H1 p2 = some (.lst x2) → Alls r1 x1 H1 → Alls r2 x2 H1 → tz D ((σ.set i (some (.ref p1))).set j (some (.ref p2))) H1) : tSeq (tPar i j (tCons t1 (tCons t2 tNil))) tz D σ H :=
  h1 H (Ex.refl H) _ fun p1 x1 H1 n1 e1 g1 a1 => h2 H1 e1 _ fun p2 x2 H2 n2 e2 g2 a2 => ⟨_, _, rfl, k p1 x1 p2 x2 H2 n1 (fresh_back e1 n2) (e1.trans e2) (e2 _ _ g1) g2 (a1.mono e2) a2⟩
theorem qb_parP {l : Addr} (h1 : EvB l t1 σ P1) (h2 : EvB l t2 σ P2) (hb : Bag l H) (k : ∀ a b H1, P1 a → P2 b → ExB l H H1 → Bag l H1 → tz D ((σ.set i (some (.int a))).set j (some (.int b))) H1) : tSeq (tPar i j (tCons t1 (tCons t2 tNil))) tz D σ H :=
  h1 H hb _ fun a H1 pa e1 b1 => h2 H1 b1 _ fun b H2 pb e2 b2 => ⟨_, _, rfl, k a b H2 pa pb (e1.trans e2) b2⟩
end
theorem pre_more {p : Int} (hp : Pr p) {F : PF} (hF : NF p F) (lF : Le 5 F) {a b : Nat} (hb : b ≤ 20) : SlPre ⟨p, sl p F a, b⟩ := ⟨hp, (sl_small hp hF lF a).1, hb, fun k _ => by
  show Le 60 (sl p (sl p F a) k)
  rw [sl_sl]
  exact (sl_small hp hF lF (a + k)).2.mono (by omega)⟩
section
variable {P : Program} {w : World} {K : PySem.W.Frag} {mg : Str → Option Value} {base : Heap} {C : Addr}
def sp__law_right (_ : PySem.W.Frag) : Sp := fun vs H Q _ => ∃ l : Addr, vs = [.ref l] ∧ Bag l H ∧ ∀ H', ExB l H H' → Bag l H' → Q (.bl true) H'
abbrev s__law_right : Stmt := topS 78
abbrev N__law_right : List Str := ["bag", "prime", "most", "some", "pairs", "told", "one", "other", "first", "second", "turn", "top", "bottom", "pair"]
theorem sc__law_right : FnScope N__law_right ["bag"] (defScope s__law_right) := ⟨rfl, rfl, rfl, by decide +kernel, rfl, by decide +kernel, by decide +kernel⟩
theorem ok__law_right {f : Addr} {fd : FuncData} (F : Fun K "_law_right" "_law_right" s__law_right f fd) (B : Bis mg) (cf : CFm K mg C)  (D__law_one_of : De P w K mg base "_law_one_of" ["bag", "items"] 2 (sp__law_one_of K)) (D__law_prime : De P w K mg base "_law_prime" ["bag", "most"] 3 (sp__law_prime K)) (D__law_pair_drawn : De P w K mg base "_law_pair_drawn" ["bag", "prime", "most"] 3 (sp__law_pair_drawn K)) (D__law_as_function : De P w K mg base "_law_as_function" ["prime", "pair"] 9 (sp__law_as_function K C)) (D__law_fn_made : De P w K mg base "_law_fn_made" ["prime", "top", "bottom"] 6 (sp__law_fn_made K)) (D__law_rules_right : De P w K mg base "_law_rules_right" ["prime", "one", "other"] 13 (sp__law_rules_right K C)) (D__law_steps_right : De P w K mg base "_law_steps_right" ["prime", "one", "pair"] 13 (sp__law_steps_right K C)) (D__law_grab : De P w K mg base "_law_grab" ["bag", "total"] 1 (sp__law_grab K)) (D__law_twofold_right : De P w K mg base "_law_twofold_right" ["prime", "one", "other"] 13 (sp__law_twofold_right K C)) (M_slope : DmS P w K mg base C 12 (sp_F_slope K C)) (M___eq__ : Dm P w K mg base C "__eq__" ["self", "other"] 1 (sp_F___eq__ K C)) : FnOk P w K mg base CX0 14 f fd ["bag"] (sp__law_right K) := by
  refine F.ok sc__law_right (fun vs H Q E h => ?_) (fun cdv A outer s H vs Q E hr h => ?_)
  · obtain ⟨_, rfl, _⟩ := h
    rfl
  · obtain ⟨l, rfl, hb, q⟩ := h
    refine ⟨_, (pss_cons (ps_asg (pe_tup (pa_cons (pe_call D__law_prime.ok (hr.mono (by decide)) (by rfl) D__law_prime.g D__law_prime.kp D__law_prime.b .nil pass0 (pa_cons (pv 0) (pa_cons pe_int pa_nil))) (pa_cons (pe_call D__law_one_of.ok (hr.mono (by decide)) (by rfl) D__law_one_of.g D__law_one_of.kp D__law_one_of.b .nil pass0 (pa_cons (pv 0) (pa_cons (pe_lst (pa_cons pe_int (pa_cons pe_int (pa_cons pe_int pa_nil)))) pa_nil))) pa_nil))) (pg_tup rfl (pgs_cons (pg_name (i := 1) sc__law_right.nd rfl (Or.inr rfl)) (pgs_cons (pg_name (i := 2) sc__law_right.nd rfl (Or.inr rfl)) pgs_nil))))
      (pss_cons (ps_setLc (i := 3) (own := [("turn", 10)]) (g := (gName 10)) (tt := tYes) rfl sc__law_right.nd rfl rfl (sw_true rfl rfl rfl (by decide +kernel)) (pi_range1 (by rfl) (B "range" (by decide +kernel)) (pa_cons pe_int pa_nil)) (blkOk_by (own := [("turn", 10)]) (N := N__law_right) (sc := defScope s__law_right) (by decide +kernel)) (fun _ _ _ _ _ => (pg_name (i := 10) sc__law_right.nd rfl (Or.inl rfl))) (fun _ _ _ _ _ => pts_nil) (fun _ _ _ _ _ => (pe_call D__law_pair_drawn.ok (hr.mono (by decide)) (by rfl) D__law_pair_drawn.g D__law_pair_drawn.kp D__law_pair_drawn.b .nil pass0 (pa_cons (pv 0) (pa_cons (pv 1) (pa_cons (pv 2) pa_nil))))))
      (pss_cons (ps_par (i := 4) (j := 5) (by rfl) sc__law_right.nd rfl rfl (by decide) rfl rfl (pa_cons (pe_lc (own := [("top", 11), ("bottom", 12)]) (g := (gTup K 2 (gCons (gName 11) (gCons (gName 12) gNil)))) (tt := tYes) rfl sc__law_right.nd (pi_list (pv 3)) (blkOk_by (own := [("top", 11), ("bottom", 12)]) (N := N__law_right) (sc := defScope s__law_right) (by decide +kernel)) (fun _ _ _ _ _ => (pg_tup rfl (pgs_cons (pg_name (i := 11) sc__law_right.nd rfl (Or.inl rfl)) (pgs_cons (pg_name (i := 12) sc__law_right.nd rfl (Or.inl rfl)) pgs_nil)))) (fun _ _ _ _ _ => pts_nil) (fun _ _ _ _ _ => (pe_call D__law_fn_made.ok (hr.mono (by decide)) (by rfl) D__law_fn_made.g D__law_fn_made.kp D__law_fn_made.b .nil pass0 (pa_cons (pv 1) (pa_cons (pv 11) (pa_cons (pv 12) pa_nil)))))) (pa_cons (pe_lc (own := [("pair", 13)]) (g := (gName 13)) (tt := tYes) rfl sc__law_right.nd (pi_list (pv 3)) (blkOk_by (own := [("pair", 13)]) (N := N__law_right) (sc := defScope s__law_right) (by decide +kernel)) (fun _ _ _ _ _ => (pg_name (i := 13) sc__law_right.nd rfl (Or.inl rfl))) (fun _ _ _ _ _ => pts_nil) (fun _ _ _ _ _ => (pe_call D__law_as_function.ok (hr.mono (by decide)) (by rfl) D__law_as_function.g D__law_as_function.kp D__law_as_function.b .nil pass0 (pa_cons (pv 1) (pa_cons (pv 13) pa_nil))))) pa_nil)) (by rfl))
      (pss_cons (ps_asg (pv 5) (pg_lst rfl (pgs_cons (pg_name (i := 6) sc__law_right.nd rfl (Or.inl rfl)) (pgs_cons (pg_name (i := 7) sc__law_right.nd rfl (Or.inl rfl)) pgs_nil))))
      (pss_cons (ps_if (PW.pt (pw_or (pt_not (pt_val (pe_call D__law_steps_right.ok (hr.mono (by decide)) (by rfl) D__law_steps_right.g D__law_steps_right.kp D__law_steps_right.b .nil pass0 (pa_cons (pv 1) (pa_cons (pv 6) (pa_cons (pe_ix (r := rIxL K) ix_list (pv 4) pe_int (fun _ _ => rfl)) pa_nil)))))) (pw_or1 (pt_not (pt_val (pe_call D__law_rules_right.ok (hr.mono (by decide)) (by rfl) D__law_rules_right.g D__law_rules_right.kp D__law_rules_right.b .nil pass0 (pa_cons (pv 1) (pa_cons (pv 6) (pa_cons (pv 7) pa_nil))))))))) (pss_one (ps_ret pe_bl)) pss_nil)
      (pss_cons (ps_par (i := 8) (j := 9) (by rfl) sc__law_right.nd rfl rfl (by decide) rfl rfl (pa_cons (pe_call D__law_grab.ok (hr.mono (by decide)) (by rfl) D__law_grab.g D__law_grab.kp D__law_grab.b .nil pass0 (pa_cons (pv 0) (pa_cons (pe_op op_add (pv 1) pe_int) pa_nil))) (pa_cons (pe_call D__law_grab.ok (hr.mono (by decide)) (by rfl) D__law_grab.g D__law_grab.kp D__law_grab.b .nil pass0 (pa_cons (pv 0) (pa_cons pe_int pa_nil))) pa_nil)) (by rfl))
      (pss_cons (ps_if (pt_cmpR (ne_own M___eq__.own cf.nn M___eq__.ok (hr.mono (by decide)) M___eq__.b pass0) (pe_methK0 (pe_methK0 (pv 6) cf.c.cl M_slope.m M_slope.ok (hr.mono (by decide)) M_slope.kb pass0 (pk_cons (pv 8) pk_nil)) cf.c.cl M_slope.m M_slope.ok (hr.mono (by decide)) M_slope.kb pass0 (pk_cons (pv 9) pk_nil)) (pe_methK0 (pv 6) cf.c.cl M_slope.m M_slope.ok (hr.mono (by decide)) M_slope.kb pass0 (pk_cons (pe_op op_add (pv 8) (pv 9)) pk_nil)) (nomark _)) (pss_one (ps_ret pe_bl)) pss_nil)
      (pss_one (ps_ret (pe_call D__law_twofold_right.ok (hr.mono (by decide)) (by rfl) D__law_twofold_right.g D__law_twofold_right.kp D__law_twofold_right.b .nil pass0 (pa_cons (pv 1) (pa_cons (pv 6) (pa_cons (pv 7) pa_nil))))))))))))), ?_⟩
    refine qb_par (P2 := fun n => n = 1 ∨ n = 2 ∨ n = 4) (evb_prime rfl) (evb_oneof rfl (evbs_cons ((evb_r fun H1 => evr_c (v := .int 1)).imp fun n h => .inl h) (evbs_cons ((evb_r fun H1 => evr_c (v := .int 2)).imp fun n h => .inr (.inl h)) (evbs_cons ((evb_r fun H1 => evr_c (v := .int 4)).imp fun n h => .inr (.inr h)) evbs_nil))) (by decide)) hb fun p most H1 hp hm e1 b1 => ?_
    have h2 := hp.le
    have h7 := hp.le7
    obtain ⟨m, rfl⟩ : ∃ m : Nat, most = (m : Int) := ⟨most.toNat, by omega⟩
    refine ⟨2, rfl, by omega, by omega, fun D hD => ?_⟩
    obtain ⟨eD, bD, hDl⟩ := bag_new (o := .lst []) b1 hD
    refine lc_it (walk_range (lo := 0) (n := 2)) (fun i H' => ∃ (ps : List PF) (acc : List V), ps.length = i ∧ (∀ q ∈ ps, PD p q) ∧ H' D = some (.lst acc) ∧ Alls (ps.map (vG K)) acc H' ∧ ExB l H1 H' ∧ Bag l H') ⟨[], [], rfl, fun q h => by simp at h, upd_same, rfl, eD, bD⟩ (fun _ _ _ _ => trivial) (fun i x H2 H3 hi p2 y => ?_) fun H2 p2 => ?_
    · obtain ⟨ps, acc, lp, hps, hA, hal, e2, b2⟩ := p2
      obtain ⟨rfl, rfl⟩ := y
      refine ⟨rfl, ?_⟩
      unfold tYes
      dsimp only
      rw [if_pos rfl]
      refine ⟨.ref l, rfl, .int p, rfl, .int (m : Int), rfl, l, p, m, rfl, b2, hp, by omega, by omega, fun t b v H4 pt lt pb nb lb e4 b4 hv => ?_⟩
      have hA4 := e4 _ _ hDl hA
      have st : ∀ r ∈ ps.map (vG K), StB r := fun r hr => by
        obtain ⟨q, _, rfl⟩ := List.mem_map.mp hr
        exact stb_G
      have hal4 : Alls (ps.map (vG K)) acc H4 := by
        obtain ⟨c0, c1, c2, hl⟩ := b2
        exact alls_stb st hl e4 hal
      have la := hal.len
      rw [List.length_map] at la
      refine ⟨acc, hA4, sz_lt (by omega), ps ++ [(t, b)], acc ++ [v], by rw [List.length_append, lp]; rfl, fun q hq => ?_, upd_same, ?_, ?_, ?_⟩
      · rcases List.mem_append.mp hq with h | h
        · exact hps q h
        · obtain rfl := List.mem_singleton.mp h
          exact ⟨pt, by show t.length ≤ 5; omega, pb, nb, by show b.length ≤ 5; omega⟩
      · rw [List.map_append]
        refine Alls.stab (fun r hr => ?_) (hal4.snoc hv) hA4
        rcases List.mem_append.mp hr with h | h
        · exact (st r h).stab
        · obtain rfl := List.mem_singleton.mp h
          exact stb_G.stab
      · intro a o ha e'
        rw [upd_ne]
        · exact e4 a o ha (e2 a o ha e')
        · intro z
          rw [z, hD] at e'
          cases e'
      · obtain ⟨c0, c1, c2, h⟩ := b4
        exact ⟨c0, c1, c2, by rw [upd_ne (Ne.symm hDl)]; exact h⟩
    obtain ⟨ps, xD, lp, hps, hA, hal, e2, b2⟩ := p2
    obtain ⟨q1, q2, rfl⟩ : ∃ q1 q2, ps = [q1, q2] := by
      match ps, lp with
      | [q1, q2], _ => exact ⟨q1, q2, rfl⟩
    have d1 := hps q1 (by simp)
    have d2 := hps q2 (by simp)
    obtain ⟨nA, lA⟩ := d1.nf hp
    obtain ⟨nB, lB⟩ := d2.nf hp
    have stG : ∀ qs : List PF, ∀ o ∈ qs.map (vG K), StB o := fun qs o ho => by
      obtain ⟨q, _, rfl⟩ := List.mem_map.mp ho
      exact stb_G
    have stF : ∀ qs : List PF, ∀ o ∈ qs.map (vF K C p), StB o := fun qs o ho => by
      obtain ⟨q, _, rfl⟩ := List.mem_map.mp ho
      exact stb_F
    refine qm_parP (r1 := [nf p q1.1 q1.2, nf p q2.1 q2.2].map (vG K)) (r2 := [nf p q1.1 q1.2, nf p q2.1 q2.2].map (vF K C p)) (em_compG (qs := [q1, q2]) (wk_list (Evl.ev_var rfl) (sq_of hA)) hal rfl (Nat.le_of_ble_eq_true rfl) (fun x y => rfl) (fun o ho => (stG _ o ho).stab) fun n q o x y H3 hq ho e3 hx hy => ?_)
      (em_comp (rs := [q1, q2].map (vG K)) (wk_list (Evl.ev_var rfl) (sq_of hA)) hal rfl (Nat.le_of_ble_eq_true rfl) (fun x => rfl) (fun o ho => (stF _ o ho).stab) fun n r o x H3 hr ho e3 hx => ?_) fun p4 x4 p5 x5 H3 n4 n5 e3 h4 h5 al4 al5 => ?_
    · have hd : PD p q := hps q (List.mem_of_getElem? hq)
      have hoq : o = vG K (nf p q.1 q.2) := by
        match n, hq, ho with
        | 0, hq, ho => rw [← Option.some.inj hq]; exact (Option.some.inj ho).symm
        | 1, hq, ho => rw [← Option.some.inj hq]; exact (Option.some.inj ho).symm
      subst hoq
      exact evr_call (GTB.mk p q.1 q.2) ⟨hp, hd.t, hd.b, hd.nb, by have := hd.lt; show q.1.length ≤ 200; omega, by have := hd.lb; show q.2.length ≤ 200; omega⟩ (evrs_cons (evr_var rfl rfl) (evrs_cons (evr_var rfl hx) (evrs_cons (evr_var rfl hy) evrs_nil)))
    · have hoq : ∃ q, PD p q ∧ r = vG K q ∧ o = vF K C p (nf p q.1 q.2) := by
        match n, hr, ho with
        | 0, hr, ho => exact ⟨q1, d1, (Option.some.inj hr).symm, (Option.some.inj ho).symm⟩
        | 1, hr, ho => exact ⟨q2, d2, (Option.some.inj hr).symm, (Option.some.inj ho).symm⟩
      obtain ⟨q, hd, rfl, rfl⟩ := hoq
      exact evr_call (GTB.mk p q.1 q.2) ⟨hp, hd.okP.1, hd.okP.2, hd.nb⟩ (evrs_cons (evr_var rfl rfl) (evrs_cons (evr_var rfl hx) evrs_nil))
    have b3 := b2.ex e3
    generalize hFA : nf p q1.1 q1.2 = FA at *
    generalize hFB : nf p q2.1 q2.2 = FB at *
    have wG : ∀ {H' : Hp} {σ : L2.St}, σ[4]? = some (some (.ref p4)) → H' p4 = some (.lst x4) → Alls ([FA, FB].map (vG K)) x4 H' → EvR (tVar 4) σ H' (vLs K ([FA, FB].map (vG K))) := fun hs h hal => evr_var hs ⟨p4, x4, rfl, sq_of h, hal⟩
    -- one, other = told
    obtain ⟨v6, w6, e6_, hv6, v7, w7, e7_, hv7, hw7⟩ := al5
    obtain rfl : w7 = [] := hw7
    subst e7_ e6_
    refine ⟨.ref p5, rfl, p5, [v6, v7], rfl, sq_of h5, rfl, _, _, rfl, _, _, rfl, rfl, ?_⟩
    have s1 : EvT (tNot (tB (tCall (sp__law_steps_right K C) [] E0 (tCons (tVar 1) (tCons (tVar 6) (tCons (tOp (rIxL K) (tVar 4) (tC (.int 0))) tNil)))))) [some (.ref l), some (.int p), some (.int (m : Int)), some (.ref D), some (.ref p4), some (.ref p5), some v6, some v7, none, none, none, none, none, none] H3 false :=
      Evl.et_is (Evl.et_not (et_b (evr_call (GF.mk p FA) ⟨hp, nA, lA⟩ (evrs_cons (evr_var rfl rfl) (evrs_cons (evr_var rfl hv6) (evrs_cons (evr_ixLs (i := 0) (r := vG K FA) (wG rfl h4 al4) evr_c rfl) evrs_nil)))))) rfl
    have s2 : EvT (tNot (tB (tCall (sp__law_rules_right K C) [] E0 (tCons (tVar 1) (tCons (tVar 6) (tCons (tVar 7) tNil)))))) [some (.ref l), some (.int p), some (.int (m : Int)), some (.ref D), some (.ref p4), some (.ref p5), some v6, some v7, none, none, none, none, none, none] H3 false :=
      Evl.et_is (Evl.et_not (et_b (evr_call (GAF.mk p FA FB 0) ⟨hp, nA, nB, lA, lB⟩ (evrs_cons (evr_var rfl rfl) (evrs_cons (evr_var rfl hv6) (evrs_cons (evr_var rfl hv7) evrs_nil)))))) rfl
    refine Evl.q_when (Evl.et_or s1 fun _ => s2) (fun h => by cases h) (fun _ H4 e4 => ?_)
    have b4 := b3.ex e4
    have o6 := up hv6 e4
    have o7 := up hv7 e4
    refine qb_parP (evb_grab (t := p + 1) rfl (fun H1 => evr_op (evr_var (r := vI p) rfl rfl) evr_c op_i0) (by omega) (by
      have : (p + 1).natAbs ≤ 10 := by omega
      exact Nat.lt_of_le_of_lt this (by decide))) (evb_grab (t := 4) rfl (fun H1 => evr_c) (by decide) (by decide)) b4 fun fa fb H5 ha hb2 e5 b5 => ?_
    obtain ⟨a, rfl⟩ : ∃ a : Nat, fa = (a : Int) := ⟨fa.toNat, by omega⟩
    obtain ⟨b, rfl⟩ : ∃ b : Nat, fb = (b : Int) := ⟨fb.toNat, by omega⟩
    have o6 := stb_F.bag o6 b4 e5
    have o7 := stb_F.bag o7 b4 e5
    refine Evl.q_when (b := false) (et_neF (evr_slopeK (F := sl p FA a) (n := b) (pre_more hp nA lA (by omega)) (evr_slopeK (n := a) (pre5 hp nA lA (by omega)) (evr_var rfl o6) (evr_var rfl rfl)) (evr_var rfl rfl)) (evr_slopeK (n := a + b) (pre5 hp nA lA (by omega)) (evr_var rfl o6) (EvR.eqI (evr_op (evr_var (r := vI (a : Int)) rfl rfl) (evr_var (r := vI (b : Int)) rfl rfl) op_i0) (by omega))) (sl_sl b a)) (fun h => by cases h) (fun _ H6 e6 => ?_)
    have o6 := up o6 e6
    have o7 := up o7 e6
    refine sr_ret (evr_call (GAF.mk p FA FB 0) ⟨hp, nA, nB, lA, lB⟩ (evrs_cons (evr_var rfl rfl) (evrs_cons (evr_var rfl o6) (evrs_cons (evr_var rfl o7) evrs_nil)))) fun v H7 e7 hv => ?_
    obtain rfl : v = .bl true := hv
    exact q H7 (e1.trans (e2.trans ((ExB.of (e3.trans e4)).trans (e5.trans (ExB.of (e6.trans e7)))))) ((b5.ex e6).ex e7)
end
theorem EvR.sD {K : PySem.W.Frag} {σ : L2.St} {H : Hp} {te : TE} {z : Str} (h : EvR te σ H (vS z)) : EvR te σ H (vD K (.str z)) := h.to fun v H e hv => by
  obtain rfl : v = .str z := hv
  exact Dp.str _
theorem EvR.bD {K : PySem.W.Frag} {σ : L2.St} {H : Hp} {te : TE} {z : Bool} (h : EvR te σ H (vB z)) : EvR te σ H (vD K (.bool z)) := h.to fun v H e hv => by
  obtain rfl : v = .bl z := hv
  exact Dp.bl _
def Ff : PF := ([2, 2], [0, 0, 1])
theorem hFf : nf 3 [1, 1] [0, 0, 2] = Ff := by decide +kernel
theorem p3 : Pr 3 := by simp [Pr]
theorem ok3 (ns : List Int) (h1 : (ns.all fun n => decide (0 ≤ n) && decide (n < 3)) = true) (h2 : trim ns = ns) (h3 : ns.length ≤ 61) : PolyOk 3 ns := ⟨fun n hn => by
  have := List.all_eq_true.mp h1 n hn
  rw [Bool.and_eq_true] at this
  exact ⟨of_decide_eq_true this.1, of_decide_eq_true this.2⟩, h2, h3⟩
theorem nFf : NF 3 Ff := by
  rw [← hFf]
  exact (nf_ok p3 (ok3 [1, 1] (by decide) (by decide) (by decide)).pl (ok3 [0, 0, 2] (by decide) (by decide) (by decide)).pl (by simp) (by decide) (by decide)).1
theorem lFf : Le 3 Ff := ⟨by decide, by decide⟩
theorem nLet : NF 3 fLet := by
  have := (nf_ok p3 (okLet p3).pl (.one p3) (by simp) (by decide) (by decide)).1
  rw [nf_one p3 (okLet p3).pl (by decide)] at this
  exact this
theorem lLet : Le 3 fLet := ⟨by decide, by decide⟩
def Fs1 : PF := ([2, 1], [0, 0, 0, 1])
def Fs2 : PF := ([1], [0, 0, 0, 1])
theorem hFs1 : fSlope 3 Ff = Fs1 := by decide +kernel
theorem hFs2 : sl 3 Ff 2 = Fs2 := by decide +kernel
def Fl3 : PF := ([0, 0, 0, 1], [1])
theorem hFl3 : fPow 3 fLet 3 = Fl3 := by decide +kernel
def Fl4 : PF := ([0, 1, 0, 1], [1])
theorem hFl4 : fAdd 3 fLet Fl3 1 = Fl4 := by decide +kernel
theorem hFs4 : fSlope 3 Fl4 = ([1], [1]) := by decide +kernel
theorem hFs3 : fSlope 3 Fl3 = ([], [1]) := by decide +kernel
theorem tx1 : fnT Fs1 = "(2 + x)/(x^3)" := by decide +kernel
theorem tx2 : fnT Fs2 = "(1)/(x^3)" := by decide +kernel
theorem tx3 : fnT ([1], [1]) = "1" := by decide +kernel
theorem tx4 : fnT ([], [1]) = "0" := by decide +kernel
def dTold : List PyData := [.str "(2 + x)/(x^3)", .str "(1)/(x^3)", .str "1", .bool true, .str "0"]
theorem shTold : SeqAt.shaped (.list dTold) = true := by decide +kernel
section
variable {P : Program} {w : World} {K : PySem.W.Frag} {mg : Str → Option Value} {base : Heap} {C : Addr}
def sp_law (K : PySem.W.Frag) : Sp := fun vs H Q _ => ∃ (ns : List Int) (v : V), vs = [v] ∧ (vL K ns).R v H ∧ ∀ H', Q (.bl true) H'
abbrev s_law : Stmt := topS 79
abbrev N_law : List Str := ["script", "spot", "f", "letter", "told"]
theorem sc_law : FnScope N_law ["script"] (defScope s_law) := ⟨rfl, rfl, rfl, by decide +kernel, rfl, by decide +kernel, by decide +kernel⟩
theorem ok_law {f : Addr} {fd : FuncData} (F : Fun K "law" "law" s_law f fd) (B : Bis mg) (cf : CFm K mg C)  (D__law_right : De P w K mg base "_law_right" ["bag"] 14 (sp__law_right K)) (D__law_bag : De P w K mg base "_law_bag" ["script", "spot"] 1 (sp__law_bag K)) (M_slope : DmS P w K mg base C 12 (sp_F_slope K C)) (M___add__ : Dm P w K mg base C "__add__" ["self", "other"] 12 (sp_F___add__ K C)) (M___eq__ : Dm P w K mg base C "__eq__" ["self", "other"] 1 (sp_F___eq__ K C)) (M___init__ : Dm P w K mg base C "__init__" ["self", "prime", "top", "bottom"] 7 (sp_F___init__ K C)) (M___pow__ : Dm P w K mg base C "__pow__" ["self", "other"] 10 (sp_F___pow__ K C)) (M___str__ : Dm P w K mg base C "__str__" ["self"] 4 (sp_F___str__ K C)) (M_letter : Dk P w K mg base C "letter" ["cls", "prime"] 9 (sp_F_letter K C)) : FnOk P w K mg base CX0 15 f fd ["script"] (sp_law K) := by
  refine F.ok sc_law (fun vs H Q E h => ?_) (fun cdv A outer s H vs Q E hr h => ?_)
  · obtain ⟨_, _, rfl, _⟩ := h
    rfl
  · obtain ⟨ns, v_script, rfl, h_script, q⟩ := h
    refine ⟨_, (pss_cons (ps_for PassesOwn.never rfl (pi_range1 (by rfl) (B "range" (by decide +kernel)) (pa_cons (pe_callB (call_max2 rfl) (by rfl) (B "max" (by decide +kernel)) (by decide +kernel) (pa_cons pe_int (pa_cons (pe_callB (call_min2 rfl) (by rfl) (B "min" (by decide +kernel)) (by decide +kernel) (pa_cons pe_int (pa_cons (pe_callB call_len_seq (by rfl) (B "len" (by decide +kernel)) (by decide +kernel) (pa_cons (pv 0) pa_nil)) pa_nil))) pa_nil))) pa_nil)) (pg_name (i := 1) sc_law.nd rfl (Or.inl rfl)) (pss_one (ps_if (pt_not (pt_val (pe_call D__law_right.ok (hr.mono (by decide)) (by rfl) D__law_right.g D__law_right.kp D__law_right.b .nil pass0 (pa_cons (pe_call D__law_bag.ok (hr.mono (by decide)) (by rfl) D__law_bag.g D__law_bag.kp D__law_bag.b .nil pass0 (pa_cons (pv 0) (pa_cons (pv 1) pa_nil))) pa_nil)))) (pss_one (ps_ret pe_bl)) pss_nil)))
      (pss_cons (ps_par (i := 2) (j := 3) (by rfl) sc_law.nd rfl rfl (by decide) rfl rfl (pa_cons (pe_make (cf.mkr M___init__.own) M___init__.ok (hr.mono (by decide)) (by rfl) cf.mg M___init__.b .nil pass0 (pa_cons pe_int (pa_cons (pe_tup (pa_cons pe_int (pa_cons pe_int pa_nil))) (pa_cons (pe_tup (pa_cons pe_int (pa_cons pe_int (pa_cons pe_int pa_nil)))) pa_nil)))) (pa_cons (ClX.pe_cmeth (pe_glob (v := .ref C) (by rfl) cf.mg rfl) M_letter.rd M_letter.cm M_letter.fnr (hr.mono (by decide)) pass0 (pa_cons pe_int pa_nil)) pa_nil)) (by rfl))
      (pss_cons (ps_set (i := 4) sc_law.nd rfl (Or.inl rfl) (pe_lst (pa_cons (pe_callTy (call_strO M___str__.own M___str__.ok (hr.mono (by decide)) M___str__.b pass0) (by rfl) (B "str" (by decide +kernel)) (by decide +kernel) (pa_cons (pe_meth0 (pv 2) cf.c.cl M_slope.m M_slope.ok (hr.mono (by decide)) M_slope.b M_slope.dv pass0) pa_nil)) (pa_cons (pe_callTy (call_strO M___str__.own M___str__.ok (hr.mono (by decide)) M___str__.b pass0) (by rfl) (B "str" (by decide +kernel)) (by decide +kernel) (pa_cons (pe_methK0 (pv 2) cf.c.cl M_slope.m M_slope.ok (hr.mono (by decide)) M_slope.kb pass0 (pk_cons pe_int pk_nil)) pa_nil)) (pa_cons (pe_callTy (call_strO M___str__.own M___str__.ok (hr.mono (by decide)) M___str__.b pass0) (by rfl) (B "str" (by decide +kernel)) (by decide +kernel) (pa_cons (pe_meth0 (pe_op (op_own (op := .Add) (own_add M___add__.own) cf.first M___add__.ok (hr.mono (by decide)) M___add__.b pass0) (pv 3) (pe_op (op_ownI (op := .Pow) (own_pow M___pow__.own) cf.oi M___pow__.ok (hr.mono (by decide)) M___pow__.b pass0) (pv 3) pe_int)) cf.c.cl M_slope.m M_slope.ok (hr.mono (by decide)) M_slope.b M_slope.dv pass0) pa_nil)) (pa_cons (pe_cmpR (eq_own M___eq__.own cf.notF (Nat.lt_of_succ_lt (hu_of hr)) M___eq__.ok (hr.mono (by decide)) M___eq__.b pass0) (pe_methK0 (pv 2) cf.c.cl M_slope.m M_slope.ok (hr.mono (by decide)) M_slope.kb pass0 (pk_cons pe_int pk_nil)) (pv 2) (nomark _)) (pa_cons (pe_callTy (call_strO M___str__.own M___str__.ok (hr.mono (by decide)) M___str__.b pass0) (by rfl) (B "str" (by decide +kernel)) (by decide +kernel) (pa_cons (pe_meth0 (pe_op (op_ownI (op := .Pow) (own_pow M___pow__.own) cf.oi M___pow__.ok (hr.mono (by decide)) M___pow__.b pass0) (pv 3) pe_int) cf.c.cl M_slope.m M_slope.ok (hr.mono (by decide)) M_slope.b M_slope.dv pass0) pa_nil)) pa_nil)))))))
      (pss_one (ps_ret (pe_cmpR (r := rEqD K) (op_eqD hr.units) (pv 4) (pe_lst (pa_cons pe_str (pa_cons pe_str (pa_cons pe_str (pa_cons pe_bl (pa_cons pe_str pa_nil)))))) (nomark _))))))), ?_⟩
    have hbagx : ∀ {H1 H2 : Hp} {p : Addr}, Ex H H1 → H1 p = none → ∀ {H3 : Hp}, Ex H1 H2 → ExB p H2 H3 → Ex H H3 := fun e1 hp H3 e2 e3 a o ha => by
      have h1 := e1 a o ha
      refine e3 a o (fun z => ?_) (e2 a o h1)
      rw [z, hp] at h1
      cases h1
    refine Evl.q_forR1 (n := max 1 (if (ns.length : Int) < 4 then (ns.length : Int) else 4)) (ea_of (evrs_cons (evr_cb (evrs_cons evr_c (evrs_cons (evr_cb (evrs_cons evr_c (evrs_cons (evr_lenR rfl (EvR.kL (evr_var rfl h_script))) evrs_nil)) (cb_min rfl)) evrs_nil)) (cb_max rfl)) evrs_nil)) (by split <;> omega) (fun i σ' H' => ∃ x1, σ' = [some v_script, x1, none, none, none] ∧ Ex H H') ?_ ?_ ?_
    · intro H1 e1
      exact ⟨none, rfl, e1⟩
    · rintro i σ' H' hi ⟨x1, rfl, e'⟩
      refine ⟨v_script, rfl, .int (i : Int), rfl, ns, i, v_script, rfl, (vL K ns).st e' h_script, by split at hi <;> omega, fun p H1 hp e1 b1 => ⟨p, rfl, b1, fun H2 e2 b2 => ⟨true, rfl, iteF ?_⟩⟩⟩
      exact ⟨_, rfl, hbagx e' hp e1 e2⟩
    · rintro σ' H' ⟨x1, rfl, e'⟩
      refine qr_par (r1 := vF K C 3 Ff) (r2 := vF K C 3 fLet) (evrs_cons ?_ (evrs_cons (evr_letter p3 evr_c) evrs_nil)) fun v2 v3 H1 e1 h2 h3 => ?_
      · have z : EvR (tMake C (sp_F___init__ K C) [] E0 (tCons (tC (.int 3)) (tCons (tTup (tCons (tC (.int 1)) (tCons (tC (.int 1)) tNil))) (tCons (tTup (tCons (tC (.int 0)) (tCons (tC (.int 0)) (tCons (tC (.int 2)) tNil)))) tNil)))) [some v_script, x1, none, none, none] H' (vF K C 3 (nf 3 [1, 1] [0, 0, 2])) := evr_make p3 (ok3 [1, 1] (by decide) (by decide) (by decide)) (ok3 [0, 0, 2] (by decide) (by decide) (by decide)) (by simp) (evrs_cons evr_c (evrs_cons (evr_disp (ns := [1, 1]) (evrs_cons evr_c (evrs_cons evr_c evrs_nil)) (by decide)) (evrs_cons (evr_disp (ns := [0, 0, 2]) (evrs_cons evr_c (evrs_cons evr_c (evrs_cons evr_c evrs_nil))) (by decide)) evrs_nil)))
        rw [hFf] at z
        exact z
      have st : ∀ {F : PF} {s : Str} {σ : L2.St} {H2 : Hp} {te : TE}, TxOk F.1 ∧ TxOk F.2 → fnT F = s → EvR te σ H2 (vF K C 3 F) → EvR (tCB (fun xs H Q => ∃ a dx fs, xs = [V.ref a] ∧ H a = some (HO.ins C dx fs) ∧ sp_F___str__ K C [V.ref a] H (fun v H' => ∃ z, v = V.str z ∧ Q (V.str z) H') E0) (tCons te tNil)) σ H2 (vS s) := fun {F s σ H2 te} ht e h => by
        have z := evr_strF (E := E0) rfl ht h
        rw [e] at z
        exact z
      have k1 : ∀ {σ : L2.St} {H2 : Hp} {te : TE}, EvR te σ H2 (vF K C 3 Ff) → EvR (tMeth C "slope" (sp_F_slope K C) [.int 1] E0 te tNil) σ H2 (vF K C 3 Fs1) := fun h => by
        have z := evr_slope0 ⟨p3, nFf, lFf.mono (by decide)⟩ h
        rw [hFs1] at z
        exact z
      have k2 : ∀ {σ : L2.St} {H2 : Hp} {te tf : TE}, EvR te σ H2 (vF K C 3 Ff) → EvR tf σ H2 (vI ((2 : Nat) : Int)) → EvR (tMethK C "slope" 1 (sp_F_slope K C) (fun vs zs => vs ++ zs) E0 te (tCons tf tNil)) σ H2 (vF K C 3 Fs2) := fun h h' => by
        have z := evr_slopeK (n := 2) (pre5 p3 nFf (lFf.mono (by decide)) (by decide)) h h'
        rw [hFs2] at z
        exact z
      have k0 : ∀ {σ : L2.St} {H2 : Hp} {te tf : TE}, EvR te σ H2 (vF K C 3 Ff) → EvR tf σ H2 (vI ((0 : Nat) : Int)) → EvR (tMethK C "slope" 1 (sp_F_slope K C) (fun vs zs => vs ++ zs) E0 te (tCons tf tNil)) σ H2 (vF K C 3 Ff) := fun h h' => evr_slopeK (n := 0) (pre5 p3 nFf (lFf.mono (by decide)) (by decide)) h h'
      have kp : ∀ {σ : L2.St} {H2 : Hp} {te tf : TE}, EvR te σ H2 (vF K C 3 fLet) → EvR tf σ H2 (vI ((3 : Nat) : Int)) → EvR (tOp (rOwnI C (sp_F___pow__ K C) E0) te tf) σ H2 (vF K C 3 Fl3) := fun h h' => by
        have z := evr_powF (n := 3) p3 nLet (lLet.mono (by decide)) (by decide) h h'
        rw [hFl3] at z
        exact z
      have nFl3 : NF 3 Fl3 := by
        rw [← hFl3]
        exact (fPow_le p3 nLet lLet 3 (by decide)).1
      have lFl3 : Le 6 Fl3 := ⟨by decide, by decide⟩
      have nFl4 : NF 3 Fl4 := by
        rw [← hFl4]
        exact (fAdd_ok p3 nLet nFl3 lLet lFl3 (by decide) 1).1
      have lFl4 : Le 6 Fl4 := ⟨by decide, by decide⟩
      have ka : ∀ {σ : L2.St} {H2 : Hp} {te tf : TE}, EvR te σ H2 (vF K C 3 fLet) → EvR tf σ H2 (vF K C 3 Fl3) → EvR (tOp (rOwn2 C (sp_F___add__ K C) E0) te tf) σ H2 (vF K C 3 Fl4) := fun h h' => by
        have z := evr_addF p3 nLet nFl3 (lLet.mono (by decide)) (lFl3.mono (by decide)) h h'
        rw [hFl4] at z
        exact z
      have k4 : ∀ {σ : L2.St} {H2 : Hp} {te : TE}, EvR te σ H2 (vF K C 3 Fl4) → EvR (tMeth C "slope" (sp_F_slope K C) [.int 1] E0 te tNil) σ H2 (vF K C 3 ([1], [1])) := fun h => by
        have z := evr_slope0 ⟨p3, nFl4, lFl4.mono (by decide)⟩ h
        rw [hFs4] at z
        exact z
      have k3 : ∀ {σ : L2.St} {H2 : Hp} {te : TE}, EvR te σ H2 (vF K C 3 Fl3) → EvR (tMeth C "slope" (sp_F_slope K C) [.int 1] E0 te tNil) σ H2 (vF K C 3 ([], [1])) := fun h => by
        have z := evr_slope0 ⟨p3, nFl3, lFl3.mono (by decide)⟩ h
        rw [hFs3] at z
        exact z
      refine qr_asg (r := vD K (.list dTold)) (evr_dispLD (evrs_cons (EvR.sD (st ⟨⟨by decide, by decide⟩, ⟨by decide, by decide⟩⟩ tx1 (k1 (evr_var rfl h2)))) (evrs_cons (EvR.sD (st ⟨⟨by decide, by decide⟩, ⟨by decide, by decide⟩⟩ tx2 (k2 (evr_var rfl h2) evr_c)))
        (evrs_cons (EvR.sD (st ⟨⟨by decide, by decide⟩, ⟨by decide, by decide⟩⟩ tx3 (k4 (ka (evr_var rfl h3) (kp (evr_var rfl h3) evr_c))))) (evrs_cons (EvR.bD (evr_eqF (k0 (evr_var rfl h2) evr_c) (evr_var rfl h2) rfl))
        (evrs_cons (EvR.sD (st ⟨⟨by decide, by decide⟩, ⟨by decide, by decide⟩⟩ tx4 (k3 (kp (evr_var rfl h3) evr_c)))) evrs_nil))))) (by decide)) fun v4 H2 e2 h4 => ?_
      refine sr_ret (EvR.eqB (c := true) (evr_op (evr_var rfl h4) (evr_dispLD (ds := dTold) (evrs_cons (EvR.sD evr_c) (evrs_cons (EvR.sD evr_c) (evrs_cons (EvR.sD evr_c) (evrs_cons (EvR.bD evr_c) (evrs_cons (EvR.sD evr_c) evrs_nil))))) (by decide)) (op_eqDD shTold shTold)) ?_) fun v H3 e3 hv => ?_
      · rw [SeqAt.eqv_refl _ (SeqAt.canLay_of_shaped shTold)]
      · obtain rfl : v = .bl true := hv
        exact q H3
end
end K0
namespace K0
open PySem PySem.Spec PyProof.Rows L2 Kt M
section
variable {P : Program} {w : World} {K : PySem.W.Frag} {mg : Str → Option Value} {base : Heap}
theorem funOf {x qual : Str} {st : Stmt} {f : Addr} {fd : FuncData} (F : FunD K x qual (defArgs st) (defBody st) (defScope st) [] [] f fd) : Fun K x qual st f fd := He5.fun_of F
theorem says_f (c : He5.SaysA faAll fnAll K) {f : He.Fa} (h : f ∈ faAll) : f.ok K = true := List.all_eq_true.mp (He.ba (show ((faAll.all fun f => f.ok K) && fnAll.all fun d => d.ok K) = true from congrArg (fun z : He.AlD => z.1) c)).1 f h
theorem says_glo {h : Heap} (X : K.In h) (G : h.Ns mainGlobals mg) (c : He5.SaysA faAll fnAll K) {x : Str} (hx : x ∈ glAll) : mg x = some (.ref (He.ga K x)) :=
  He.glo_ok X G (says_f c (List.mem_append_right _ (List.mem_append_left _ (List.mem_map_of_mem hx))))
theorem says_cl (c : He5.SaysA faAll fnAll K) {f : He.Fa} (h : f ∈ clAll) : f.ok K = true := says_f c (List.mem_append_right _ (List.mem_append_right _ (List.mem_append_left _ h)))
theorem says_mt (c : He5.SaysA faAll fnAll K) {x : Str} (hx : x ∈ mtAll) : OwnM K (fC K) x (He.ma K (fC K) x) := by
  have z := He.meth_ok (says_f c (f := He.Fa.meth "Function" x) (List.mem_append_right _ (List.mem_append_right _ (List.mem_append_right _ (List.mem_append_left _ (List.mem_map_of_mem hx))))))
  exact ⟨z.at_, z.fn⟩
theorem says_slope (c : He5.SaysA faAll fnAll K) : Meth K (fC K) "slope" (He.ma K (fC K) "slope") := He.meth_ok (says_f c (f := He.Fa.meth "Function" "slope") (List.mem_append_right _ (List.mem_append_right _ (List.mem_append_right _ (List.mem_append_left _ (List.mem_map_of_mem (by decide)))))))
theorem says_int {h : Heap} (X : K.In h) (G : h.Ns mainGlobals mg) (c : He5.SaysA faAll fnAll K) {x : Str} {n : Int} (hx : (x, n) ∈ inAll) : GI mg x n :=
  He.int_ok X G (says_f c (f := .int x n) (List.mem_append_right _ (List.mem_append_right _ (List.mem_append_right _ (List.mem_append_right _ (List.mem_map.mpr ⟨(x, n), hx, rfl⟩))))))
theorem says_bis {h : Heap} (X : K.In h) (G : h.Ns mainGlobals mg) (c : He5.SaysA faAll fnAll K) : Bis mg := fun x hx =>
  He.free_ok X G (says_f c (List.mem_append_left _ (List.mem_map_of_mem hx)))
theorem ex_at (e : exAll K = true) (i : Nat) {b : Bool} (h : (exL K)[i]? = some b) : b = true := List.all_eq_true.mp (show ((exL K).all id) = true from e) b (List.mem_of_getElem? h)
theorem prop_of {C : Addr} {m : Str} (h : propB K C m = true) : PropOf K C m (He.ma K C m) (He5.wf K C "property" m) := by
  obtain ⟨h1, h⟩ := He.ba h
  obtain ⟨h2, h⟩ := He.ba h
  obtain ⟨h3, h4⟩ := He.ba h
  refine ⟨of_decide_eq_true h1, of_decide_eq_true h2, of_decide_eq_true h3, ?_⟩
  unfold He5.wf
  split at h4
  · rename_i f r e
    exact ⟨r, by rw [e]⟩
  · cases h4
theorem cfm {h : Heap} (X : K.In h) (G : h.Ns mainGlobals mg) (c : He5.SaysA faAll fnAll K) (e : exAll K = true) : CFm K mg (fC K) := by
  have cl : Cls K (fC K) := He.cls_ok (says_cl c (f := .cls "Function") (by simp [clAll]))
  have mk := He.mkr_ok (says_cl c (f := .mkr "Function") (by simp [clAll]))
  exact {
    c := ⟨cl, He.noat_ok (says_cl c (f := .noat "Function" "_prime") (by simp [clAll])), He.noat_ok (says_cl c (f := .noat "Function" "_top") (by simp [clAll])), He.noat_ok (says_cl c (f := .noat "Function" "_bottom") (by simp [clAll]))⟩
    mg := He.glo_ok X G (says_cl c (f := .glo "Function") (by simp [clAll]))
    kp := mk.kp
    mks := mk.makes
    ins := ⟨cl, of_decide_eq_true (ex_at e 2 rfl), of_decide_eq_true (ex_at e 3 rfl), of_decide_eq_true (ex_at e 4 rfl), of_decide_eq_true (ex_at e 5 rfl), of_decide_eq_true (ex_at e 6 rfl)⟩
    first := ex_at e 7 rfl
    notF := ex_at e 8 rfl
    notT := ex_at e 9 rfl
    nn := ⟨of_decide_eq_true (ex_at e 10 rfl), of_decide_eq_true (ex_at e 11 rfl)⟩
    oi := ⟨ex_at e 7 rfl, of_decide_eq_true (ex_at e 12 rfl), of_decide_eq_true (ex_at e 13 rfl), Option.isSome_iff_exists.mp (ex_at e 14 rfl), Option.isSome_iff_exists.mp (ex_at e 15 rfl)⟩
    kt := of_decide_eq_true (ex_at e 16 rfl) }
theorem says_primes {h : Heap} (X : K.In h) (G : h.Ns mainGlobals mg) (c : He5.SaysA faAll fnAll K) (e : exAll K = true) : GT mg K "PRIMES" [2, 3, 5, 7] :=
  ⟨_, He.glo_ok X G (says_cl c (f := .glo "PRIMES") (by simp [clAll])), fun H => He.tupB_ok (ex_at e 0 rfl) H⟩
theorem says_lanes {h : Heap} (X : K.In h) (G : h.Ns mainGlobals mg) (c : He5.SaysA faAll fnAll K) (e : exAll K = true) : GTS mg K "LANES" lanes7 :=
  ⟨_, He.glo_ok X G (says_cl c (f := .glo "LANES") (by simp [clAll])), fun H => He.tupB_ok (ex_at e 1 rfl) H⟩
theorem says_pr (e : exAll K = true) {x : Str} (hx : x ∈ prAll) : PropOf K (fC K) x (He.ma K (fC K) x) (He5.wf K (fC K) "property" x) := prop_of (List.all_eq_true.mp (ex_at e 17 rfl) x hx)
theorem says_cm (e : exAll K = true) {x : Str} (hx : x ∈ cmAll) : ClX.CMet K (fC K) (.type "type") x (He.ma K (fC K) x) (He5.wf K (fC K) "classmethod" x) := by
  have z := List.all_eq_true.mp (ex_at e 18 rfl) x hx
  obtain ⟨z1, z2⟩ := He.ba z
  exact He5.cmet_of z1 z2
theorem says_rd (e : exAll K = true) : ClX.CRead K (fC K) (.type "type") := ⟨ex_at e 19 rfl, of_decide_eq_true (ex_at e 20 rfl)⟩
theorem facts {h : Heap} (X : K.In h) (G : h.Ns mainGlobals mg) (c : He5.SaysA faAll fnAll K) (e : exAll K = true) {fa : Addr} (hfa : mg "law" = some (.ref fa)) :
    ∃ fd : FuncData, (∀ (s : Shared) (v : Value), BindsTo s fd ⟨[v], []⟩ [("script", v)]) ∧ ∀ base : Heap, FnOk P w K mg base CX0 15 fa fd ["script"] (sp_law K) := by
  have B := says_bis X G c
  have cf := cfm X G c e
  have C_BLOCK : GI mg "BLOCK" 90 := says_int X G c (by decide)
  have C_LANE : GI mg "LANE" 4 := says_int X G c (by decide)
  have C_MANY_STEPS : GI mg "MANY_STEPS" 10 := says_int X G c (by decide)
  have C_MAX_POWER : GI mg "MAX_POWER" 60 := says_int X G c (by decide)
  have C_MAX_RAISED : GI mg "MAX_RAISED" 20 := says_int X G c (by decide)
  have C_MAX_SLOPES : GI mg "MAX_SLOPES" 20 := says_int X G c (by decide)
  have C_MOST_SUMMED : GI mg "MOST_SUMMED" 20 := says_int X G c (by decide)
  have C_SHORT : GI mg "SHORT" 5 := says_int X G c (by decide)
  have C_STEPS : GI mg "STEPS" 64 := says_int X G c (by decide)
  have C_PRIMES := says_primes X G c e
  have C_LANES := says_lanes X G c e
  obtain ⟨fdd_is_integer, Fd_is_integer⟩ := c.def_ 0 (d := d_is_integer) rfl
  have gd_is_integer := says_glo X G c (x := "is_integer") (by decide)
  have bd_is_integer : Binds K fdd_is_integer ["value"] [] := Fd_is_integer.bindsN fun _ _ _ _ _ _ us hl => match us, hl with | [_], _ => rfl
  obtain ⟨fdd_is_within, Fd_is_within⟩ := c.def_ 1 (d := d_is_within) rfl
  have gd_is_within := says_glo X G c (x := "is_within") (by decide)
  have bd_is_within : Binds K fdd_is_within ["value", "low", "high"] [] := Fd_is_within.bindsN fun _ _ _ _ _ _ us hl => match us, hl with | [_, _, _], _ => rfl
  obtain ⟨fdd_trimmed, Fd_trimmed⟩ := c.def_ 2 (d := d_trimmed) rfl
  have gd_trimmed := says_glo X G c (x := "trimmed") (by decide)
  have bd_trimmed : Binds K fdd_trimmed ["numbers"] [] := Fd_trimmed.bindsN fun _ _ _ _ _ _ us hl => match us, hl with | [_], _ => rfl
  obtain ⟨fdd_inverse, Fd_inverse⟩ := c.def_ 3 (d := d_inverse) rfl
  have gd_inverse := says_glo X G c (x := "inverse") (by decide)
  have bd_inverse : Binds K fdd_inverse ["prime", "number"] [] := Fd_inverse.bindsN fun _ _ _ _ _ _ us hl => match us, hl with | [_, _], _ => rfl
  obtain ⟨fdd_scale, Fd_scale⟩ := c.def_ 4 (d := d_scale) rfl
  have gd_scale := says_glo X G c (x := "scale") (by decide)
  have bd_scale : Binds K fdd_scale ["prime", "poly", "factor"] [] := Fd_scale.bindsN fun _ _ _ _ _ _ us hl => match us, hl with | [_, _, _], _ => rfl
  obtain ⟨fdd_make_monic, Fd_make_monic⟩ := c.def_ 5 (d := d_make_monic) rfl
  have gd_make_monic := says_glo X G c (x := "make_monic") (by decide)
  have bd_make_monic : Binds K fdd_make_monic ["prime", "poly"] [] := Fd_make_monic.bindsN fun _ _ _ _ _ _ us hl => match us, hl with | [_, _], _ => rfl
  obtain ⟨fdd_add_scaled, Fd_add_scaled⟩ := c.def_ 6 (d := d_add_scaled) rfl
  have gd_add_scaled := says_glo X G c (x := "add_scaled") (by decide)
  have bd_add_scaled : Binds K fdd_add_scaled ["prime", "one", "other", "factor"] [] := Fd_add_scaled.bindsN fun _ _ _ _ _ _ us hl => match us, hl with | [_, _, _, _], _ => rfl
  obtain ⟨fdd_multiply, Fd_multiply⟩ := c.def_ 7 (d := d_multiply) rfl
  have gd_multiply := says_glo X G c (x := "multiply") (by decide)
  have bd_multiply : Binds K fdd_multiply ["prime", "one", "other"] [] := Fd_multiply.bindsN fun _ _ _ _ _ _ us hl => match us, hl with | [_, _, _], _ => rfl
  obtain ⟨fdd_multiply_short, Fd_multiply_short⟩ := c.def_ 8 (d := d_multiply_short) rfl
  have gd_multiply_short := says_glo X G c (x := "multiply_short") (by decide)
  have bd_multiply_short : Binds K fdd_multiply_short ["prime", "one", "other"] [] := Fd_multiply_short.bindsN fun _ _ _ _ _ _ us hl => match us, hl with | [_, _, _], _ => rfl
  obtain ⟨fdd_multiply_long, Fd_multiply_long⟩ := c.def_ 9 (d := d_multiply_long) rfl
  have gd_multiply_long := says_glo X G c (x := "multiply_long") (by decide)
  have bd_multiply_long : Binds K fdd_multiply_long ["prime", "one", "other"] [] := Fd_multiply_long.bindsN fun _ _ _ _ _ _ us hl => match us, hl with | [_, _, _], _ => rfl
  obtain ⟨fdd_block_sum, Fd_block_sum⟩ := c.def_ 10 (d := d_block_sum) rfl
  have gd_block_sum := says_glo X G c (x := "block_sum") (by decide)
  have bd_block_sum : Binds K fdd_block_sum ["lefts", "rights", "place", "start", "stop"] [] := Fd_block_sum.bindsN fun _ _ _ _ _ _ us hl => match us, hl with | [_, _, _, _, _], _ => rfl
  obtain ⟨fdd_packed, Fd_packed⟩ := c.def_ 11 (d := d_packed) rfl
  have gd_packed := says_glo X G c (x := "packed") (by decide)
  have bd_packed : Binds K fdd_packed ["numbers"] [] := Fd_packed.bindsN fun _ _ _ _ _ _ us hl => match us, hl with | [_], _ => rfl
  obtain ⟨fdd_unpacked, Fd_unpacked⟩ := c.def_ 12 (d := d_unpacked) rfl
  have gd_unpacked := says_glo X G c (x := "unpacked") (by decide)
  have bd_unpacked : Binds K fdd_unpacked ["whole"] [] := Fd_unpacked.bindsN fun _ _ _ _ _ _ us hl => match us, hl with | [_], _ => rfl
  obtain ⟨fdd_divide, Fd_divide⟩ := c.def_ 13 (d := d_divide) rfl
  have gd_divide := says_glo X G c (x := "divide") (by decide)
  have bd_divide : Binds K fdd_divide ["prime", "one", "other"] [] := Fd_divide.bindsN fun _ _ _ _ _ _ us hl => match us, hl with | [_, _, _], _ => rfl
  obtain ⟨fdd_first_digits, Fd_first_digits⟩ := c.def_ 14 (d := d_first_digits) rfl
  have gd_first_digits := says_glo X G c (x := "first_digits") (by decide)
  have bd_first_digits : Binds K fdd_first_digits ["prime", "one", "other", "many"] [] := Fd_first_digits.bindsN fun _ _ _ _ _ _ us hl => match us, hl with | [_, _, _, _], _ => rfl
  obtain ⟨fdd_divide_short, Fd_divide_short⟩ := c.def_ 15 (d := d_divide_short) rfl
  have gd_divide_short := says_glo X G c (x := "divide_short") (by decide)
  have bd_divide_short : Binds K fdd_divide_short ["prime", "one", "other"] [] := Fd_divide_short.bindsN fun _ _ _ _ _ _ us hl => match us, hl with | [_, _, _], _ => rfl
  obtain ⟨fdd_quotient_of, Fd_quotient_of⟩ := c.def_ 16 (d := d_quotient_of) rfl
  have gd_quotient_of := says_glo X G c (x := "quotient_of") (by decide)
  have bd_quotient_of : Binds K fdd_quotient_of ["prime", "one", "other"] [] := Fd_quotient_of.bindsN fun _ _ _ _ _ _ us hl => match us, hl with | [_, _, _], _ => rfl
  obtain ⟨fdd_rest_of, Fd_rest_of⟩ := c.def_ 17 (d := d_rest_of) rfl
  have gd_rest_of := says_glo X G c (x := "rest_of") (by decide)
  have bd_rest_of : Binds K fdd_rest_of ["prime", "one", "other"] [] := Fd_rest_of.bindsN fun _ _ _ _ _ _ us hl => match us, hl with | [_, _, _], _ => rfl
  obtain ⟨fdd_common_divisor, Fd_common_divisor⟩ := c.def_ 18 (d := d_common_divisor) rfl
  have gd_common_divisor := says_glo X G c (x := "common_divisor") (by decide)
  have bd_common_divisor : Binds K fdd_common_divisor ["prime", "one", "other"] [] := Fd_common_divisor.bindsN fun _ _ _ _ _ _ us hl => match us, hl with | [_, _, _], _ => rfl
  obtain ⟨fdd_power_of, Fd_power_of⟩ := c.def_ 19 (d := d_power_of) rfl
  have gd_power_of := says_glo X G c (x := "power_of") (by decide)
  have bd_power_of : Binds K fdd_power_of ["prime", "poly", "many"] [] := Fd_power_of.bindsN fun _ _ _ _ _ _ us hl => match us, hl with | [_, _, _], _ => rfl
  obtain ⟨fdd_slope_of, Fd_slope_of⟩ := c.def_ 20 (d := d_slope_of) rfl
  have gd_slope_of := says_glo X G c (x := "slope_of") (by decide)
  have bd_slope_of : Binds K fdd_slope_of ["prime", "poly"] [] := Fd_slope_of.bindsN fun _ _ _ _ _ _ us hl => match us, hl with | [_, _], _ => rfl
  obtain ⟨fdd_check_prime, Fd_check_prime⟩ := c.def_ 21 (d := d_check_prime) rfl
  have gd_check_prime := says_glo X G c (x := "check_prime") (by decide)
  have bd_check_prime : Binds K fdd_check_prime ["prime"] [] := Fd_check_prime.bindsN fun _ _ _ _ _ _ us hl => match us, hl with | [_], _ => rfl
  obtain ⟨fdd_check_poly, Fd_check_poly⟩ := c.def_ 22 (d := d_check_poly) rfl
  have gd_check_poly := says_glo X G c (x := "check_poly") (by decide)
  have bd_check_poly : Binds K fdd_check_poly ["prime", "poly"] [] := Fd_check_poly.bindsN fun _ _ _ _ _ _ us hl => match us, hl with | [_, _], _ => rfl
  obtain ⟨fdd_has_poly_form, Fd_has_poly_form⟩ := c.def_ 23 (d := d_has_poly_form) rfl
  have gd_has_poly_form := says_glo X G c (x := "has_poly_form") (by decide)
  have bd_has_poly_form : Binds K fdd_has_poly_form ["prime", "value"] [] := Fd_has_poly_form.bindsN fun _ _ _ _ _ _ us hl => match us, hl with | [_, _], _ => rfl
  obtain ⟨fdd_made_function, Fd_made_function⟩ := c.def_ 24 (d := d_made_function) rfl
  have gd_made_function := says_glo X G c (x := "made_function") (by decide)
  have bd_made_function : Binds K fdd_made_function ["prime", "top", "bottom"] [] := Fd_made_function.bindsN fun _ _ _ _ _ _ us hl => match us, hl with | [_, _, _], _ => rfl
  obtain ⟨fdd_lowest_terms, Fd_lowest_terms⟩ := c.def_ 25 (d := d_lowest_terms) rfl
  have gd_lowest_terms := says_glo X G c (x := "lowest_terms") (by decide)
  have bd_lowest_terms : Binds K fdd_lowest_terms ["prime", "top", "bottom"] [] := Fd_lowest_terms.bindsN fun _ _ _ _ _ _ us hl => match us, hl with | [_, _, _], _ => rfl
  obtain ⟨fdd_shortened, Fd_shortened⟩ := c.def_ 26 (d := d_shortened) rfl
  have gd_shortened := says_glo X G c (x := "shortened") (by decide)
  have bd_shortened : Binds K fdd_shortened ["prime", "top", "bottom", "common"] [] := Fd_shortened.bindsN fun _ _ _ _ _ _ us hl => match us, hl with | [_, _, _, _], _ => rfl
  obtain ⟨fdd_add_function, Fd_add_function⟩ := c.def_ 27 (d := d_add_function) rfl
  have gd_add_function := says_glo X G c (x := "add_function") (by decide)
  have bd_add_function : Binds K fdd_add_function ["one", "other", "factor"] [] := Fd_add_function.bindsN fun _ _ _ _ _ _ us hl => match us, hl with | [_, _, _], _ => rfl
  obtain ⟨fdd_multiply_function, Fd_multiply_function⟩ := c.def_ 28 (d := d_multiply_function) rfl
  have gd_multiply_function := says_glo X G c (x := "multiply_function") (by decide)
  have bd_multiply_function : Binds K fdd_multiply_function ["one", "other"] [] := Fd_multiply_function.bindsN fun _ _ _ _ _ _ us hl => match us, hl with | [_, _], _ => rfl
  obtain ⟨fdd_turned_round, Fd_turned_round⟩ := c.def_ 29 (d := d_turned_round) rfl
  have gd_turned_round := says_glo X G c (x := "turned_round") (by decide)
  have bd_turned_round : Binds K fdd_turned_round ["function"] [] := Fd_turned_round.bindsN fun _ _ _ _ _ _ us hl => match us, hl with | [_], _ => rfl
  obtain ⟨fdd_slope_once, Fd_slope_once⟩ := c.def_ 30 (d := d_slope_once) rfl
  have gd_slope_once := says_glo X G c (x := "slope_once") (by decide)
  have bd_slope_once : Binds K fdd_slope_once ["function"] [] := Fd_slope_once.bindsN fun _ _ _ _ _ _ us hl => match us, hl with | [_], _ => rfl
  obtain ⟨fdd_poly_text, Fd_poly_text⟩ := c.def_ 31 (d := d_poly_text) rfl
  have gd_poly_text := says_glo X G c (x := "poly_text") (by decide)
  have bd_poly_text : Binds K fdd_poly_text ["poly"] [] := Fd_poly_text.bindsN fun _ _ _ _ _ _ us hl => match us, hl with | [_], _ => rfl
  obtain ⟨fdd_term_text, Fd_term_text⟩ := c.def_ 32 (d := d_term_text) rfl
  have gd_term_text := says_glo X G c (x := "term_text") (by decide)
  have bd_term_text : Binds K fdd_term_text ["number", "power"] [] := Fd_term_text.bindsN fun _ _ _ _ _ _ us hl => match us, hl with | [_, _], _ => rfl
  obtain ⟨fdd_check_same_prime, Fd_check_same_prime⟩ := c.def_ 33 (d := d_check_same_prime) rfl
  have gd_check_same_prime := says_glo X G c (x := "check_same_prime") (by decide)
  have bd_check_same_prime : Binds K fdd_check_same_prime ["values"] [] := Fd_check_same_prime.bindsN fun _ _ _ _ _ _ us hl => match us, hl with | [_], _ => rfl
  obtain ⟨fdd__law_bag, Fd__law_bag⟩ := c.def_ 34 (d := d__law_bag) rfl
  have gd__law_bag := says_glo X G c (x := "_law_bag") (by decide)
  have bd__law_bag : Binds K fdd__law_bag ["script", "spot"] [] := Fd__law_bag.bindsN fun _ _ _ _ _ _ us hl => match us, hl with | [_, _], _ => rfl
  obtain ⟨fdd__law_grab, Fd__law_grab⟩ := c.def_ 35 (d := d__law_grab) rfl
  have gd__law_grab := says_glo X G c (x := "_law_grab") (by decide)
  have bd__law_grab : Binds K fdd__law_grab ["bag", "total"] [] := Fd__law_grab.bindsN fun _ _ _ _ _ _ us hl => match us, hl with | [_, _], _ => rfl
  obtain ⟨fdd__law_one_of, Fd__law_one_of⟩ := c.def_ 36 (d := d__law_one_of) rfl
  have gd__law_one_of := says_glo X G c (x := "_law_one_of") (by decide)
  have bd__law_one_of : Binds K fdd__law_one_of ["bag", "items"] [] := Fd__law_one_of.bindsN fun _ _ _ _ _ _ us hl => match us, hl with | [_, _], _ => rfl
  obtain ⟨fdd__law_prime, Fd__law_prime⟩ := c.def_ 37 (d := d__law_prime) rfl
  have gd__law_prime := says_glo X G c (x := "_law_prime") (by decide)
  have bd__law_prime : Binds K fdd__law_prime ["bag", "most"] [] := Fd__law_prime.bindsN fun _ _ _ _ _ _ us hl => match us, hl with | [_, _], _ => rfl
  obtain ⟨fdd__law_poly_drawn, Fd__law_poly_drawn⟩ := c.def_ 38 (d := d__law_poly_drawn) rfl
  have gd__law_poly_drawn := says_glo X G c (x := "_law_poly_drawn") (by decide)
  have bd__law_poly_drawn : Binds K fdd__law_poly_drawn ["bag", "prime", "most"] [] := Fd__law_poly_drawn.bindsN fun _ _ _ _ _ _ us hl => match us, hl with | [_, _, _], _ => rfl
  obtain ⟨fdd__law_monic_drawn, Fd__law_monic_drawn⟩ := c.def_ 39 (d := d__law_monic_drawn) rfl
  have gd__law_monic_drawn := says_glo X G c (x := "_law_monic_drawn") (by decide)
  have bd__law_monic_drawn : Binds K fdd__law_monic_drawn ["bag", "prime", "degree"] [] := Fd__law_monic_drawn.bindsN fun _ _ _ _ _ _ us hl => match us, hl with | [_, _, _], _ => rfl
  obtain ⟨fdd__law_pair_drawn, Fd__law_pair_drawn⟩ := c.def_ 40 (d := d__law_pair_drawn) rfl
  have gd__law_pair_drawn := says_glo X G c (x := "_law_pair_drawn") (by decide)
  have bd__law_pair_drawn : Binds K fdd__law_pair_drawn ["bag", "prime", "most"] [] := Fd__law_pair_drawn.bindsN fun _ _ _ _ _ _ us hl => match us, hl with | [_, _, _], _ => rfl
  obtain ⟨fdd__law_po_cut, Fd__law_po_cut⟩ := c.def_ 41 (d := d__law_po_cut) rfl
  have gd__law_po_cut := says_glo X G c (x := "_law_po_cut") (by decide)
  have bd__law_po_cut : Binds K fdd__law_po_cut ["numbers"] [] := Fd__law_po_cut.bindsN fun _ _ _ _ _ _ us hl => match us, hl with | [_], _ => rfl
  obtain ⟨fdd__law_po_sum, Fd__law_po_sum⟩ := c.def_ 42 (d := d__law_po_sum) rfl
  have gd__law_po_sum := says_glo X G c (x := "_law_po_sum") (by decide)
  have bd__law_po_sum : Binds K fdd__law_po_sum ["prime", "one", "other", "often"] [] := Fd__law_po_sum.bindsN fun _ _ _ _ _ _ us hl => match us, hl with | [_, _, _, _], _ => rfl
  obtain ⟨fdd__law_po_times, Fd__law_po_times⟩ := c.def_ 43 (d := d__law_po_times) rfl
  have gd__law_po_times := says_glo X G c (x := "_law_po_times") (by decide)
  have bd__law_po_times : Binds K fdd__law_po_times ["prime", "poly", "number"] [] := Fd__law_po_times.bindsN fun _ _ _ _ _ _ us hl => match us, hl with | [_, _, _], _ => rfl
  obtain ⟨fdd__law_po_product, Fd__law_po_product⟩ := c.def_ 44 (d := d__law_po_product) rfl
  have gd__law_po_product := says_glo X G c (x := "_law_po_product") (by decide)
  have bd__law_po_product : Binds K fdd__law_po_product ["prime", "one", "other"] [] := Fd__law_po_product.bindsN fun _ _ _ _ _ _ us hl => match us, hl with | [_, _, _], _ => rfl
  obtain ⟨fdd__law_po_inverse, Fd__law_po_inverse⟩ := c.def_ 45 (d := d__law_po_inverse) rfl
  have gd__law_po_inverse := says_glo X G c (x := "_law_po_inverse") (by decide)
  have bd__law_po_inverse : Binds K fdd__law_po_inverse ["prime", "number"] [] := Fd__law_po_inverse.bindsN fun _ _ _ _ _ _ us hl => match us, hl with | [_, _], _ => rfl
  obtain ⟨fdd__law_po_division, Fd__law_po_division⟩ := c.def_ 46 (d := d__law_po_division) rfl
  have gd__law_po_division := says_glo X G c (x := "_law_po_division") (by decide)
  have bd__law_po_division : Binds K fdd__law_po_division ["prime", "one", "other"] [] := Fd__law_po_division.bindsN fun _ _ _ _ _ _ us hl => match us, hl with | [_, _, _], _ => rfl
  obtain ⟨fdd__law_po_monic, Fd__law_po_monic⟩ := c.def_ 47 (d := d__law_po_monic) rfl
  have gd__law_po_monic := says_glo X G c (x := "_law_po_monic") (by decide)
  have bd__law_po_monic : Binds K fdd__law_po_monic ["prime", "poly"] [] := Fd__law_po_monic.bindsN fun _ _ _ _ _ _ us hl => match us, hl with | [_, _], _ => rfl
  obtain ⟨fdd__law_po_common, Fd__law_po_common⟩ := c.def_ 48 (d := d__law_po_common) rfl
  have gd__law_po_common := says_glo X G c (x := "_law_po_common") (by decide)
  have bd__law_po_common : Binds K fdd__law_po_common ["prime", "one", "other"] [] := Fd__law_po_common.bindsN fun _ _ _ _ _ _ us hl => match us, hl with | [_, _, _], _ => rfl
  obtain ⟨fdd__law_po_slope, Fd__law_po_slope⟩ := c.def_ 49 (d := d__law_po_slope) rfl
  have gd__law_po_slope := says_glo X G c (x := "_law_po_slope") (by decide)
  have bd__law_po_slope : Binds K fdd__law_po_slope ["prime", "poly"] [] := Fd__law_po_slope.bindsN fun _ _ _ _ _ _ us hl => match us, hl with | [_, _], _ => rfl
  obtain ⟨fdd__law_fn_made, Fd__law_fn_made⟩ := c.def_ 50 (d := d__law_fn_made) rfl
  have gd__law_fn_made := says_glo X G c (x := "_law_fn_made") (by decide)
  have bd__law_fn_made : Binds K fdd__law_fn_made ["prime", "top", "bottom"] [] := Fd__law_fn_made.bindsN fun _ _ _ _ _ _ us hl => match us, hl with | [_, _, _], _ => rfl
  obtain ⟨fdd__law_fn_slope, Fd__law_fn_slope⟩ := c.def_ 51 (d := d__law_fn_slope) rfl
  have gd__law_fn_slope := says_glo X G c (x := "_law_fn_slope") (by decide)
  have bd__law_fn_slope : Binds K fdd__law_fn_slope ["prime", "one"] [] := Fd__law_fn_slope.bindsN fun _ _ _ _ _ _ us hl => match us, hl with | [_, _], _ => rfl
  obtain ⟨fdd__law_as_function, Fd__law_as_function⟩ := c.def_ 52 (d := d__law_as_function) rfl
  have gd__law_as_function := says_glo X G c (x := "_law_as_function") (by decide)
  have bd__law_as_function : Binds K fdd__law_as_function ["prime", "pair"] [] := Fd__law_as_function.bindsN fun _ _ _ _ _ _ us hl => match us, hl with | [_, _], _ => rfl
  obtain ⟨fdd__law_steps_right, Fd__law_steps_right⟩ := c.def_ 53 (d := d__law_steps_right) rfl
  have gd__law_steps_right := says_glo X G c (x := "_law_steps_right") (by decide)
  have bd__law_steps_right : Binds K fdd__law_steps_right ["prime", "one", "pair"] [] := Fd__law_steps_right.bindsN fun _ _ _ _ _ _ us hl => match us, hl with | [_, _, _], _ => rfl
  obtain ⟨fdd__law_rules_right, Fd__law_rules_right⟩ := c.def_ 54 (d := d__law_rules_right) rfl
  have gd__law_rules_right := says_glo X G c (x := "_law_rules_right") (by decide)
  have bd__law_rules_right : Binds K fdd__law_rules_right ["prime", "one", "other"] [] := Fd__law_rules_right.bindsN fun _ _ _ _ _ _ us hl => match us, hl with | [_, _, _], _ => rfl
  obtain ⟨fdd__law_twofold_right, Fd__law_twofold_right⟩ := c.def_ 55 (d := d__law_twofold_right) rfl
  have gd__law_twofold_right := says_glo X G c (x := "_law_twofold_right") (by decide)
  have bd__law_twofold_right : Binds K fdd__law_twofold_right ["prime", "one", "other"] [] := Fd__law_twofold_right.bindsN fun _ _ _ _ _ _ us hl => match us, hl with | [_, _, _], _ => rfl
  obtain ⟨fdd__law_right, Fd__law_right⟩ := c.def_ 56 (d := d__law_right) rfl
  have gd__law_right := says_glo X G c (x := "_law_right") (by decide)
  have bd__law_right : Binds K fdd__law_right ["bag"] [] := Fd__law_right.bindsN fun _ _ _ _ _ _ us hl => match us, hl with | [_], _ => rfl
  obtain ⟨fdd_law, Fd_law⟩ := c.def_ 57 (d := d_law) rfl
  have gd_law := says_glo X G c (x := "law") (by decide)
  have bd_law : Binds K fdd_law ["script"] [] := Fd_law.bindsN fun _ _ _ _ _ _ us hl => match us, hl with | [_], _ => rfl
  obtain ⟨fde___init__, Fe___init__⟩ := c.def_ 58 (d := e___init__) rfl
  have be___init__ : Binds K fde___init__ ["self", "prime", "top", "bottom"] [] := Fe___init__.bindsN fun _ _ _ _ _ _ us hl => match us, hl with | [_, _, _, _], _ => rfl
  obtain ⟨fde_number, Fe_number⟩ := c.def_ 59 (d := e_number) rfl
  have be_number : Binds K fde_number ["cls", "prime", "number"] [] := Fe_number.bindsN fun _ _ _ _ _ _ us hl => match us, hl with | [_, _, _], _ => rfl
  obtain ⟨fde_letter, Fe_letter⟩ := c.def_ 60 (d := e_letter) rfl
  have be_letter : Binds K fde_letter ["cls", "prime"] [] := Fe_letter.bindsN fun _ _ _ _ _ _ us hl => match us, hl with | [_, _], _ => rfl
  obtain ⟨fde_prime, Fe_prime⟩ := c.def_ 61 (d := e_prime) rfl
  have be_prime : Binds K fde_prime ["self"] [] := Fe_prime.bindsN fun _ _ _ _ _ _ us hl => match us, hl with | [_], _ => rfl
  obtain ⟨fde_top, Fe_top⟩ := c.def_ 62 (d := e_top) rfl
  have be_top : Binds K fde_top ["self"] [] := Fe_top.bindsN fun _ _ _ _ _ _ us hl => match us, hl with | [_], _ => rfl
  obtain ⟨fde_bottom, Fe_bottom⟩ := c.def_ 63 (d := e_bottom) rfl
  have be_bottom : Binds K fde_bottom ["self"] [] := Fe_bottom.bindsN fun _ _ _ _ _ _ us hl => match us, hl with | [_], _ => rfl
  obtain ⟨fde_slope, Fe_slope⟩ := c.def_ 64 (d := es_slope) rfl
  obtain ⟨ds_slope, dv_slope, bs_slope⟩ := binds_slope Fe_slope
  obtain ⟨fde___add__, Fe___add__⟩ := c.def_ 65 (d := e___add__) rfl
  have be___add__ : Binds K fde___add__ ["self", "other"] [] := Fe___add__.bindsN fun _ _ _ _ _ _ us hl => match us, hl with | [_, _], _ => rfl
  obtain ⟨fde___sub__, Fe___sub__⟩ := c.def_ 66 (d := e___sub__) rfl
  have be___sub__ : Binds K fde___sub__ ["self", "other"] [] := Fe___sub__.bindsN fun _ _ _ _ _ _ us hl => match us, hl with | [_, _], _ => rfl
  obtain ⟨fde___mul__, Fe___mul__⟩ := c.def_ 67 (d := e___mul__) rfl
  have be___mul__ : Binds K fde___mul__ ["self", "other"] [] := Fe___mul__.bindsN fun _ _ _ _ _ _ us hl => match us, hl with | [_, _], _ => rfl
  obtain ⟨fde___floordiv__, Fe___floordiv__⟩ := c.def_ 68 (d := e___floordiv__) rfl
  have be___floordiv__ : Binds K fde___floordiv__ ["self", "other"] [] := Fe___floordiv__.bindsN fun _ _ _ _ _ _ us hl => match us, hl with | [_, _], _ => rfl
  obtain ⟨fde___pow__, Fe___pow__⟩ := c.def_ 69 (d := e___pow__) rfl
  have be___pow__ : Binds K fde___pow__ ["self", "other"] [] := Fe___pow__.bindsN fun _ _ _ _ _ _ us hl => match us, hl with | [_, _], _ => rfl
  obtain ⟨fde___eq__, Fe___eq__⟩ := c.def_ 70 (d := e___eq__) rfl
  have be___eq__ : Binds K fde___eq__ ["self", "other"] [] := Fe___eq__.bindsN fun _ _ _ _ _ _ us hl => match us, hl with | [_, _], _ => rfl
  obtain ⟨fde___bool__, Fe___bool__⟩ := c.def_ 71 (d := e___bool__) rfl
  have be___bool__ : Binds K fde___bool__ ["self"] [] := Fe___bool__.bindsN fun _ _ _ _ _ _ us hl => match us, hl with | [_], _ => rfl
  obtain ⟨fde___str__, Fe___str__⟩ := c.def_ 72 (d := e___str__) rfl
  have be___str__ : Binds K fde___str__ ["self"] [] := Fe___str__.bindsN fun _ _ _ _ _ _ us hl => match us, hl with | [_], _ => rfl
  have e1 := hfa.symm.trans gd_law
  have e2 : fa = He.ga K "law" := by
    injection e1 with e1
    injection e1
  subst e2
  have b := FunD.bindsA (ps := ["script"]) Fd_law fun _ _ _ _ _ _ us hl => match us, hl with | [_], _ => rfl
  refine ⟨fdd_law, fun s v => b s [v] rfl, fun base => ?_⟩
  have X__law_grab : De P w K mg base "_law_grab" ["bag", "total"] 1 (sp__law_grab K) := ⟨_, _, ok__law_grab (funOf Fd__law_grab) B, gd__law_grab, Fd__law_grab.kp, bd__law_grab⟩
  have X__law_one_of : De P w K mg base "_law_one_of" ["bag", "items"] 2 (sp__law_one_of K) := ⟨_, _, ok__law_one_of (funOf Fd__law_one_of) B X__law_grab, gd__law_one_of, Fd__law_one_of.kp, bd__law_one_of⟩
  have X__law_prime : De P w K mg base "_law_prime" ["bag", "most"] 3 (sp__law_prime K) := ⟨_, _, ok__law_prime (funOf Fd__law_prime) B cf X__law_one_of, gd__law_prime, Fd__law_prime.kp, bd__law_prime⟩
  have X__law_one_ofP : De P w K mg base "_law_one_of" ["bag", "items"] 2 (sp__law_one_ofP K) := ⟨_, _, ok__law_one_ofP (funOf Fd__law_one_of) B X__law_grab, gd__law_one_of, Fd__law_one_of.kp, bd__law_one_of⟩
  have X__law_monic_drawn : De P w K mg base "_law_monic_drawn" ["bag", "prime", "degree"] 2 (sp__law_monic_drawn K) := ⟨_, _, ok__law_monic_drawn (funOf Fd__law_monic_drawn) B cf X__law_grab, gd__law_monic_drawn, Fd__law_monic_drawn.kp, bd__law_monic_drawn⟩
  have X__law_poly_drawn : De P w K mg base "_law_poly_drawn" ["bag", "prime", "most"] 2 (sp__law_poly_drawn K) := ⟨_, _, ok__law_poly_drawn (funOf Fd__law_poly_drawn) B X__law_grab, gd__law_poly_drawn, Fd__law_poly_drawn.kp, bd__law_poly_drawn⟩
  have X__law_pair_drawn : De P w K mg base "_law_pair_drawn" ["bag", "prime", "most"] 3 (sp__law_pair_drawn K) := ⟨_, _, ok__law_pair_drawn (funOf Fd__law_pair_drawn) B cf X__law_grab X__law_one_ofP X__law_monic_drawn X__law_poly_drawn, gd__law_pair_drawn, Fd__law_pair_drawn.kp, bd__law_pair_drawn⟩
  have X_is_integer : De P w K mg base "is_integer" ["value"] 1 (sp_is_integer K) := ⟨_, _, ok_is_integer (funOf Fd_is_integer) B, gd_is_integer, Fd_is_integer.kp, bd_is_integer⟩
  have X_check_prime : De P w K mg base "check_prime" ["prime"] 2 (sp_check_prime K) := ⟨_, _, ok_check_prime (funOf Fd_check_prime) B C_PRIMES X_is_integer, gd_check_prime, Fd_check_prime.kp, bd_check_prime⟩
  have X_is_within : De P w K mg base "is_within" ["value", "low", "high"] 2 (sp_is_within K) := ⟨_, _, ok_is_within (funOf Fd_is_within) B X_is_integer, gd_is_within, Fd_is_within.kp, bd_is_within⟩
  have X_has_poly_form : De P w K mg base "has_poly_form" ["prime", "value"] 3 (sp_has_poly_form K) := ⟨_, _, ok_has_poly_form (funOf Fd_has_poly_form) B C_MAX_POWER X_is_within, gd_has_poly_form, Fd_has_poly_form.kp, bd_has_poly_form⟩
  have X_check_poly : De P w K mg base "check_poly" ["prime", "poly"] 4 (sp_check_poly K) := ⟨_, _, ok_check_poly (funOf Fd_check_poly) B X_has_poly_form, gd_check_poly, Fd_check_poly.kp, bd_check_poly⟩
  have X_inverse : De P w K mg base "inverse" ["prime", "number"] 1 (sp_inverse K) := ⟨_, _, ok_inverse (funOf Fd_inverse) B, gd_inverse, Fd_inverse.kp, bd_inverse⟩
  have X_trimmed : De P w K mg base "trimmed" ["numbers"] 1 (sp_trimmed K) := ⟨_, _, ok_trimmed (funOf Fd_trimmed) B, gd_trimmed, Fd_trimmed.kp, bd_trimmed⟩
  have X_divide_short : De P w K mg base "divide_short" ["prime", "one", "other"] 2 (sp_divide_short K) := ⟨_, _, ok_divide_short (funOf Fd_divide_short) B X_inverse X_trimmed, gd_divide_short, Fd_divide_short.kp, bd_divide_short⟩
  have X_add_scaled : De P w K mg base "add_scaled" ["prime", "one", "other", "factor"] 2 (sp_add_scaled K) := ⟨_, _, ok_add_scaled (funOf Fd_add_scaled) B X_trimmed, gd_add_scaled, Fd_add_scaled.kp, bd_add_scaled⟩
  have X_divide : De P w K mg base "divide" ["prime", "one", "other"] 3 (sp_divide K) := ⟨_, _, ok_divide (funOf Fd_divide) B C_STEPS C_MANY_STEPS X_divide_short ⟨_, _, ok_F, gd_first_digits, Fd_first_digits.kp, bd_first_digits⟩ X_add_scaled ⟨_, _, ok_F, gd_multiply, Fd_multiply.kp, bd_multiply⟩ X_trimmed, gd_divide, Fd_divide.kp, bd_divide⟩
  have X_rest_of : De P w K mg base "rest_of" ["prime", "one", "other"] 4 (sp_rest_of K) := ⟨_, _, ok_rest_of (funOf Fd_rest_of) B X_divide, gd_rest_of, Fd_rest_of.kp, bd_rest_of⟩
  have X_scale : De P w K mg base "scale" ["prime", "poly", "factor"] 2 (sp_scale K) := ⟨_, _, ok_scale (funOf Fd_scale) B X_trimmed, gd_scale, Fd_scale.kp, bd_scale⟩
  have X_make_monic : De P w K mg base "make_monic" ["prime", "poly"] 3 (sp_make_monic K) := ⟨_, _, ok_make_monic (funOf Fd_make_monic) B X_scale X_inverse, gd_make_monic, Fd_make_monic.kp, bd_make_monic⟩
  have X_common_divisor : De P w K mg base "common_divisor" ["prime", "one", "other"] 5 (sp_common_divisor K) := ⟨_, _, ok_common_divisor (funOf Fd_common_divisor) B X_rest_of X_make_monic, gd_common_divisor, Fd_common_divisor.kp, bd_common_divisor⟩
  have X_quotient_of : De P w K mg base "quotient_of" ["prime", "one", "other"] 4 (sp_quotient_of K) := ⟨_, _, ok_quotient_of (funOf Fd_quotient_of) B X_divide, gd_quotient_of, Fd_quotient_of.kp, bd_quotient_of⟩
  have X_lowest_terms : De P w K mg base "lowest_terms" ["prime", "top", "bottom"] 6 (sp_lowest_terms K) := ⟨_, _, ok_lowest_terms (funOf Fd_lowest_terms) B cf X_common_divisor X_inverse X_scale X_quotient_of, gd_lowest_terms, Fd_lowest_terms.kp, bd_lowest_terms⟩
  have X_F___init__ : Dm P w K mg base (fC K) "__init__" ["self", "prime", "top", "bottom"] 7 (sp_F___init__ K (fC K)) := ⟨_, _, ok_F___init__ (funOf Fe___init__) B cf X_check_prime X_check_poly X_lowest_terms, be___init__, says_mt c (x := "__init__") (by decide)⟩
  have X__law_as_function : De P w K mg base "_law_as_function" ["prime", "pair"] 9 (sp__law_as_function K (fC K)) := ⟨_, _, ok__law_as_function (funOf Fd__law_as_function) B cf X_F___init__, gd__law_as_function, Fd__law_as_function.kp, bd__law_as_function⟩
  have X__law_po_inverse : De P w K mg base "_law_po_inverse" ["prime", "number"] 1 (sp__law_po_inverse K) := ⟨_, _, ok__law_po_inverse (funOf Fd__law_po_inverse) B, gd__law_po_inverse, Fd__law_po_inverse.kp, bd__law_po_inverse⟩
  have X__law_po_cut : De P w K mg base "_law_po_cut" ["numbers"] 1 (sp__law_po_cut K) := ⟨_, _, ok__law_po_cut (funOf Fd__law_po_cut) B, gd__law_po_cut, Fd__law_po_cut.kp, bd__law_po_cut⟩
  have X__law_po_division : De P w K mg base "_law_po_division" ["prime", "one", "other"] 2 (sp__law_po_division K) := ⟨_, _, ok__law_po_division (funOf Fd__law_po_division) B X__law_po_inverse X__law_po_cut, gd__law_po_division, Fd__law_po_division.kp, bd__law_po_division⟩
  have X__law_po_times : De P w K mg base "_law_po_times" ["prime", "poly", "number"] 2 (sp__law_po_times K) := ⟨_, _, ok__law_po_times (funOf Fd__law_po_times) B X__law_po_cut, gd__law_po_times, Fd__law_po_times.kp, bd__law_po_times⟩
  have X__law_po_monic : De P w K mg base "_law_po_monic" ["prime", "poly"] 3 (sp__law_po_monic K) := ⟨_, _, ok__law_po_monic (funOf Fd__law_po_monic) B X__law_po_times X__law_po_inverse, gd__law_po_monic, Fd__law_po_monic.kp, bd__law_po_monic⟩
  have X__law_po_common : De P w K mg base "_law_po_common" ["prime", "one", "other"] 4 (sp__law_po_common K) := ⟨_, _, ok__law_po_common (funOf Fd__law_po_common) B X__law_po_division X__law_po_monic, gd__law_po_common, Fd__law_po_common.kp, bd__law_po_common⟩
  have X__law_fn_made : De P w K mg base "_law_fn_made" ["prime", "top", "bottom"] 6 (sp__law_fn_made K) := ⟨_, _, ok__law_fn_made (funOf Fd__law_fn_made) B cf X__law_po_common X__law_po_division X__law_po_inverse X__law_po_times, gd__law_fn_made, Fd__law_fn_made.kp, bd__law_fn_made⟩
  have X_slope_of : De P w K mg base "slope_of" ["prime", "poly"] 2 (sp_slope_of K) := ⟨_, _, ok_slope_of (funOf Fd_slope_of) B X_trimmed, gd_slope_of, Fd_slope_of.kp, bd_slope_of⟩
  have X_multiply_short : De P w K mg base "multiply_short" ["prime", "one", "other"] 2 (sp_multiply_short K) := ⟨_, _, ok_multiply_short (funOf Fd_multiply_short) B X_trimmed, gd_multiply_short, Fd_multiply_short.kp, bd_multiply_short⟩
  have X_packed : De P w K mg base "packed" ["numbers"] 1 (sp_packed K) := ⟨_, _, ok_packed (funOf Fd_packed) B C_LANES, gd_packed, Fd_packed.kp, bd_packed⟩
  have X_unpacked : De P w K mg base "unpacked" ["whole"] 1 (sp_unpacked K) := ⟨_, _, ok_unpacked (funOf Fd_unpacked) B C_LANE, gd_unpacked, Fd_unpacked.kp, bd_unpacked⟩
  have X_block_sum : De P w K mg base "block_sum" ["lefts", "rights", "place", "start", "stop"] 1 (sp_block_sum K) := ⟨_, _, ok_block_sum (funOf Fd_block_sum) B, gd_block_sum, Fd_block_sum.kp, bd_block_sum⟩
  have X_multiply_long : De P w K mg base "multiply_long" ["prime", "one", "other"] 2 (sp_multiply_long K) := ⟨_, _, ok_multiply_long (funOf Fd_multiply_long) B C_BLOCK C_MOST_SUMMED X_packed X_unpacked X_block_sum X_trimmed, gd_multiply_long, Fd_multiply_long.kp, bd_multiply_long⟩
  have X_multiply : De P w K mg base "multiply" ["prime", "one", "other"] 4 (sp_multiply K) := ⟨_, _, ok_multiply (funOf Fd_multiply) B C_SHORT gd_multiply Fd_multiply.kp bd_multiply X_multiply_short X_multiply_long, gd_multiply, Fd_multiply.kp, bd_multiply⟩
  have X_made_function : De P w K mg base "made_function" ["prime", "top", "bottom"] 9 (sp_made_function K (fC K)) := ⟨_, _, ok_made_function (funOf Fd_made_function) B cf X_F___init__, gd_made_function, Fd_made_function.kp, bd_made_function⟩
  have X_shortened : De P w K mg base "shortened" ["prime", "top", "bottom", "common"] 10 (sp_shortened K (fC K)) := ⟨_, _, ok_shortened (funOf Fd_shortened) B cf X_common_divisor X_made_function X_quotient_of, gd_shortened, Fd_shortened.kp, bd_shortened⟩
  have X_F_bottom : Dg P w K mg base (fC K) "bottom" ["self"] 1 (sp_F_bottom K (fC K)) := ⟨_, _, _, ok_F_bottom (funOf Fe_bottom) B cf, be_bottom, says_pr e (x := "bottom") (by decide)⟩
  have X_F_prime : Dg P w K mg base (fC K) "prime" ["self"] 1 (sp_F_prime K (fC K)) := ⟨_, _, _, ok_F_prime (funOf Fe_prime) B cf, be_prime, says_pr e (x := "prime") (by decide)⟩
  have X_F_top : Dg P w K mg base (fC K) "top" ["self"] 1 (sp_F_top K (fC K)) := ⟨_, _, _, ok_F_top (funOf Fe_top) B cf, be_top, says_pr e (x := "top") (by decide)⟩
  have X_slope_once : De P w K mg base "slope_once" ["function"] 11 (sp_slope_once K (fC K)) := ⟨_, _, ok_slope_once (funOf Fd_slope_once) B cf X_slope_of X_common_divisor X_quotient_of X_multiply X_add_scaled X_shortened X_F_bottom X_F_prime X_F_top, gd_slope_once, Fd_slope_once.kp, bd_slope_once⟩
  have X_F_slope : DmS P w K mg base (fC K) 12 (sp_F_slope K (fC K)) := ⟨_, _, ok_F_slope Fe_slope B cf C_MAX_SLOPES X_is_within X_slope_once, ds_slope, dv_slope, bs_slope, kbn_slope Fe_slope, says_slope c⟩
  have X_check_same_prime : De P w K mg base "check_same_prime" ["values"] 3 (sp_check_same_prime K (fC K)) := ⟨_, _, ok_check_same_prime (funOf Fd_check_same_prime) B cf X_F_prime, gd_check_same_prime, Fd_check_same_prime.kp, bd_check_same_prime⟩
  have X_add_function : De P w K mg base "add_function" ["one", "other", "factor"] 11 (sp_add_function K (fC K)) := ⟨_, _, ok_add_function (funOf Fd_add_function) B cf X_check_same_prime X_common_divisor X_quotient_of X_add_scaled X_multiply X_shortened X_F_bottom X_F_prime X_F_top, gd_add_function, Fd_add_function.kp, bd_add_function⟩
  have X_F___add__ : Dm P w K mg base (fC K) "__add__" ["self", "other"] 12 (sp_F___add__ K (fC K)) := ⟨_, _, ok_F___add__ (funOf Fe___add__) B cf X_add_function, be___add__, says_mt c (x := "__add__") (by decide)⟩
  have X_F___bool__ : Dm P w K mg base (fC K) "__bool__" ["self"] 1 (sp_F___bool__ K (fC K)) := ⟨_, _, ok_F___bool__ (funOf Fe___bool__) B cf, be___bool__, says_mt c (x := "__bool__") (by decide)⟩
  have X_F___eq__ : Dm P w K mg base (fC K) "__eq__" ["self", "other"] 1 (sp_F___eq__ K (fC K)) := ⟨_, _, ok_F___eq__ (funOf Fe___eq__) B cf, be___eq__, says_mt c (x := "__eq__") (by decide)⟩
  have X_multiply_function : De P w K mg base "multiply_function" ["one", "other"] 10 (sp_multiply_function K (fC K)) := ⟨_, _, ok_multiply_function (funOf Fd_multiply_function) B cf X_check_same_prime X_common_divisor X_multiply X_quotient_of X_made_function X_F_bottom X_F_prime X_F_top, gd_multiply_function, Fd_multiply_function.kp, bd_multiply_function⟩
  have X_turned_round : De P w K mg base "turned_round" ["function"] 10 (sp_turned_round K (fC K)) := ⟨_, _, ok_turned_round (funOf Fd_turned_round) B cf X_inverse X_made_function X_scale X_F_bottom X_F_prime X_F_top, gd_turned_round, Fd_turned_round.kp, bd_turned_round⟩
  have X_F___floordiv__ : Dm P w K mg base (fC K) "__floordiv__" ["self", "other"] 11 (sp_F___floordiv__ K (fC K)) := ⟨_, _, ok_F___floordiv__ (funOf Fe___floordiv__) B cf X_check_same_prime X_multiply_function X_turned_round X_F___bool__, be___floordiv__, says_mt c (x := "__floordiv__") (by decide)⟩
  have X_F___mul__ : Dm P w K mg base (fC K) "__mul__" ["self", "other"] 11 (sp_F___mul__ K (fC K)) := ⟨_, _, ok_F___mul__ (funOf Fe___mul__) B cf X_multiply_function, be___mul__, says_mt c (x := "__mul__") (by decide)⟩
  have X_power_of : De P w K mg base "power_of" ["prime", "poly", "many"] 5 (sp_power_of K) := ⟨_, _, ok_power_of (funOf Fd_power_of) B X_multiply, gd_power_of, Fd_power_of.kp, bd_power_of⟩
  have X_F___pow__ : Dm P w K mg base (fC K) "__pow__" ["self", "other"] 10 (sp_F___pow__ K (fC K)) := ⟨_, _, ok_F___pow__ (funOf Fe___pow__) B cf C_MAX_RAISED X_is_within X_made_function X_power_of, be___pow__, says_mt c (x := "__pow__") (by decide)⟩
  have X_F___sub__ : Dm P w K mg base (fC K) "__sub__" ["self", "other"] 12 (sp_F___sub__ K (fC K)) := ⟨_, _, ok_F___sub__ (funOf Fe___sub__) B cf X_add_function, be___sub__, says_mt c (x := "__sub__") (by decide)⟩
  have X_trimmedT : De P w K mg base "trimmed" ["numbers"] 1 (sp_trimmedT K) := ⟨_, _, ok_trimmedT (funOf Fd_trimmed) B, gd_trimmed, Fd_trimmed.kp, bd_trimmed⟩
  have X_F_number : Dk P w K mg base (fC K) "number" ["cls", "prime", "number"] 9 (sp_F_number K (fC K)) := ⟨_, _, _, _, ok_F_number (funOf Fe_number) B cf X_check_prime X_is_integer X_trimmedT X_F___init__, be_number, says_rd e, says_cm e (x := "number") (by decide)⟩
  have X__law_rules_right : De P w K mg base "_law_rules_right" ["prime", "one", "other"] 13 (sp__law_rules_right K (fC K)) := ⟨_, _, ok__law_rules_right (funOf Fd__law_rules_right) B cf X_F_slope X_F___add__ X_F___bool__ X_F___eq__ X_F___floordiv__ X_F___mul__ X_F___pow__ X_F___sub__ X_F_number, gd__law_rules_right, Fd__law_rules_right.kp, bd__law_rules_right⟩
  have X__law_po_product : De P w K mg base "_law_po_product" ["prime", "one", "other"] 2 (sp__law_po_product K) := ⟨_, _, ok__law_po_product (funOf Fd__law_po_product) B X__law_po_cut, gd__law_po_product, Fd__law_po_product.kp, bd__law_po_product⟩
  have X__law_po_slope : De P w K mg base "_law_po_slope" ["prime", "poly"] 2 (sp__law_po_slope K) := ⟨_, _, ok__law_po_slope (funOf Fd__law_po_slope) B X__law_po_cut, gd__law_po_slope, Fd__law_po_slope.kp, bd__law_po_slope⟩
  have X__law_po_sum : De P w K mg base "_law_po_sum" ["prime", "one", "other", "often"] 2 (sp__law_po_sum K) := ⟨_, _, ok__law_po_sum (funOf Fd__law_po_sum) B X__law_po_cut, gd__law_po_sum, Fd__law_po_sum.kp, bd__law_po_sum⟩
  have X__law_fn_slope : De P w K mg base "_law_fn_slope" ["prime", "one"] 7 (sp__law_fn_slope K) := ⟨_, _, ok__law_fn_slope (funOf Fd__law_fn_slope) B cf X__law_po_product X__law_po_slope X__law_fn_made X__law_po_sum, gd__law_fn_slope, Fd__law_fn_slope.kp, bd__law_fn_slope⟩
  have X__law_steps_right : De P w K mg base "_law_steps_right" ["prime", "one", "pair"] 13 (sp__law_steps_right K (fC K)) := ⟨_, _, ok__law_steps_right (funOf Fd__law_steps_right) B cf X__law_fn_slope X_F_slope X_F___eq__ X_F___sub__ X_F_bottom X_F_top, gd__law_steps_right, Fd__law_steps_right.kp, bd__law_steps_right⟩
  have X__law_twofold_right : De P w K mg base "_law_twofold_right" ["prime", "one", "other"] 13 (sp__law_twofold_right K (fC K)) := ⟨_, _, ok__law_twofold_right (funOf Fd__law_twofold_right) B cf X_F_slope X_F___add__ X_F___eq__ X_F___mul__ X_F___sub__ X_F_number, gd__law_twofold_right, Fd__law_twofold_right.kp, bd__law_twofold_right⟩
  have X__law_right : De P w K mg base "_law_right" ["bag"] 14 (sp__law_right K) := ⟨_, _, ok__law_right (funOf Fd__law_right) B cf X__law_one_of X__law_prime X__law_pair_drawn X__law_as_function X__law_fn_made X__law_rules_right X__law_steps_right X__law_grab X__law_twofold_right X_F_slope X_F___eq__, gd__law_right, Fd__law_right.kp, bd__law_right⟩
  have X__law_bag : De P w K mg base "_law_bag" ["script", "spot"] 1 (sp__law_bag K) := ⟨_, _, ok__law_bag (funOf Fd__law_bag) B, gd__law_bag, Fd__law_bag.kp, bd__law_bag⟩
  have X_term_text : De P w K mg base "term_text" ["number", "power"] 2 (sp_term_text K) := ⟨_, _, ok_term_text (funOf Fd_term_text) B cf, gd_term_text, Fd_term_text.kp, bd_term_text⟩
  have X_poly_text : De P w K mg base "poly_text" ["poly"] 3 (sp_poly_text K) := ⟨_, _, ok_poly_text (funOf Fd_poly_text) B cf X_term_text, gd_poly_text, Fd_poly_text.kp, bd_poly_text⟩
  have X_F___str__ : Dm P w K mg base (fC K) "__str__" ["self"] 4 (sp_F___str__ K (fC K)) := ⟨_, _, ok_F___str__ (funOf Fe___str__) B cf X_poly_text, be___str__, says_mt c (x := "__str__") (by decide)⟩
  have X_F_letter : Dk P w K mg base (fC K) "letter" ["cls", "prime"] 9 (sp_F_letter K (fC K)) := ⟨_, _, _, _, ok_F_letter (funOf Fe_letter) B cf X_F___init__, be_letter, says_rd e, says_cm e (x := "letter") (by decide)⟩
  exact ok_law (funOf Fd_law) B cf X__law_right X__law_bag X_F_slope X_F___add__ X_F___eq__ X_F___init__ X_F___pow__ X_F___str__ X_F_letter
end
end K0
open PySem PySem.W PySem.Calls PyProof.Rows
theorem PySem.Challenge.cw_slopewords_k05_whole_slopes_of_functions_holds : PySem.Challenge.rw_slopewords_k05_whole_slopes_of_functions.Holds := by
  w_on; o_law
  refine HandSHeadRun.head_any (r := OpenLaw.row PySem.Challenge.rw_slopewords_k05_whole_slopes_of_functions) (q := K0.qv) (H := K0.hkAll) (ob := K0.obAll) (M := 20000) (loose := K0.nmAll) (d := HandSHeadRun.topDef (OpenLaw.row PySem.Challenge.rw_slopewords_k05_whole_slopes_of_functions).prog 79) (kwd := []) K0.ob_eq
    (by kernel_rfl) (fun s => by kernel_rfl) K0.run (by kernel_rfl) (by kernel_rfl) (by kernel_rfl) (by rfl) (by first | assumption | decide +kernel) (by decide +kernel) ⟨rfl, rfl, rfl, rfl, rfl, by decide +kernel⟩ ?hw ?hc
  case hw => w_witness2
  case hc =>
    refine L2.walk_ofE (l := PySem.Challenge.rw_slopewords_k05_whole_slopes_of_functions) (n := 63) (k := 15) (x := "script") (CX := L2.CX0) rfl (by decide) (by kernel_rfl) ⟨rfl, by decide, by decide⟩ ?F (fun _ _ _ _ z => z)
    intro w mg fa h Y G hmg0
    obtain ⟨K, KX, c⟩ := Y
    have hmg : mg ("law" : PySem.Str) = some (.ref fa) := by
      have e : (HandSHeadRun.topDef (OpenLaw.row PySem.Challenge.rw_slopewords_k05_whole_slopes_of_functions).prog 79).name = ("law" : PySem.Str) := by kernel_rfl
      rw [← e]
      exact hmg0
    obtain ⟨fd, hb, hF⟩ := K0.facts (P := (PySem.Challenge.rw_slopewords_k05_whole_slopes_of_functions).prog) (w := w) KX G (K0.says_join c.1 c.2.1 c.2.2.2) c.2.2.1 hmg
    exact ⟨K, fd, K0.sp_law K, KX, hb, fun H a ns hl _ hS => ⟨ns, .ref a, rfl, ⟨a, rfl, hS⟩, fun _ => rfl⟩, fun base _ _ => hF base⟩
