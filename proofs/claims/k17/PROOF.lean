import PyProof.Rows.All
import Wide.All
import OpenK.AllK
import Wide.FinOn
import PySem.Challenge.RW_slopewords_k17_errors_of_slopes
import HandS.ForMost
import HandS.Evl
import HandS.Zip
import HandS.TupMul
import HandS.TupAny
import HandS.TupLe
import HandS.Walk
import HandS.IntHex
import HandS.Wide
import HandS.Conv
import HandS.Defaults
import HandS.IsInst
import KE.GoesZip
import KE.GoesEnum
import KE.GoesEnumKw
import KE.GoesMore
import HandS.Style
import HandS.ExcField
import KE.KNestM
import HandS.Head0
import HandS.Head1
import HandS.Head2
import HandS.HeadEnd
import HandS.HeadHook1
import HandS.HeadHook2
import HandS.HeadHook3
import HandS.HeadHook4
import HandS.HeadNt
import HandS.TryMany
import HandS.ExcInit
import KE.KExcInit
import HandS.RaiseMore
import HandS.EndTab
import PyProof.ReprRoads
import PyProof.ReprHeadsTuple
import PyProof.ReprHeadsEmpty
import KE.KxField
import HandS.FStr
import HandS.StrMore
import KE.KOpsOwn
import HandS.Property
import HandS.ClsMeth
import HandS.Codes
import HandS.Small
import PyProof.StrHeap
import PyProof.InstNe
import KE.KExcStr
import HandS.Records
import HandS.Flow
import HandS.CallLocal
import HandS.More
import HandS.ExcOwn
import HandS.WordsExc
import PyProof.ExcBaseAll.ValueError
import HandS.TryOnly
import HandS.Star
import PyProof.ExcBaseAll.IndexError
import HandS.HeadWalk
set_option Elab.async false
set_option linter.all false
set_option maxRecDepth 100000
set_option maxHeartbeats 0
namespace Kt
open PySem PySem.Spec PyProof.Rows L2
open Evl (Ex Ev EvL EvU EvT EvA ex_l ex_t sq_of st_of sz_of sz_lt fresh_back given)
/-- a walk over wi from σ, H and whatever comes beside: n turns, giving Y -/
def Wk (wi : TI) (σ : L2.St) (H : Hp) (n : Nat) (Y : Nat → Hp → V → Hp → Prop) : Prop :=
  ∀ H1, Ex H H1 → ∀ R : It → Hp → Prop, (∀ J H2 G, Ex H1 H2 → Walk J n G Y → (∀ H', Ex H2 H' → G H') → R J H2) → wi σ H1 R
section
variable {K : PySem.W.Frag} {σ : L2.St} {H : Hp} {n : Nat} {Y : Nat → Hp → V → Hp → Prop} {wi : TI} {g : TG} {tl tm te : TE} {ta : TA} {tt : TT} {vs : List Nat} {a b : Addr} {xs ys : List V} {x : V}
theorem Wk.mono {H' : Hp} (e : Ex H H') (h : Wk wi σ H n Y) : Wk wi σ H' n Y := fun H1 a R q => h H1 (e.trans a) R q
theorem wk_tup (h : Ev tl σ H (.ref a)) (hx : SqT K H a xs) : Wk (iTup K tl) σ H xs.length (YAt xs) := fun H1 e R q =>
  h H1 e _ fun H2 e2 => ⟨a, rfl, ⟨xs, ex_t (e.trans e2) hx⟩, q _ H2 _ e2 walk_tup fun H' e' => ex_t ((e.trans e2).trans e') hx⟩
theorem wk_tupU (h : EvU tl σ H xs) : Wk (iTup K tl) σ H xs.length (YAt xs) := fun H1 e R q =>
  h H1 e _ fun p H2 _ e2 hp => ⟨p, rfl, ⟨xs, st_of hp⟩, q _ H2 _ e2 walk_tup fun H' e' => ex_t e' (st_of hp)⟩
theorem wk_list (h : Ev tl σ H (.ref a)) (hx : SqL K H a xs) : Wk (iList K tl) σ H xs.length (YAt xs) := fun H1 e R q =>
  h H1 e _ fun H2 e2 => ⟨a, rfl, ⟨xs, ex_l (e.trans e2) hx⟩, q _ H2 _ e2 walk_list fun H' e' => ex_l ((e.trans e2).trans e') hx⟩
theorem wk_listN (h : EvL tl σ H xs) : Wk (iList K tl) σ H xs.length (YAt xs) := fun H1 e R q =>
  h H1 e _ fun p H2 _ e2 hp => ⟨p, rfl, ⟨xs, sq_of hp⟩, q _ H2 _ e2 walk_list fun H' e' => ex_l e' (sq_of hp)⟩
theorem wk_rng1 {n : Int} (h : EvA ta σ H [.int n]) (hn : -100000 ≤ n ∧ n ≤ 100000) : Wk (iRng1 ta) σ H n.toNat (YFn fun i => .int (i : Int)) := fun H1 e R q =>
  h H1 e _ fun H2 e2 => ⟨n, rfl, by omega, by omega, q _ H2 _ e2 ((walk_range (lo := 0) (n := n.toNat)).mono (fun _ _ => trivial) fun i H x H' _ _ y => ⟨y.1, by
    have z := y.2
    rw [z]
    show V.int (0 + (i : Int)) = V.int (i : Int)
    rw [Int.zero_add]⟩) fun _ _ => trivial⟩
theorem wk_rng2 {lo n : Int} (h : EvA ta σ H [.int lo, .int n]) (hn : -100000 ≤ n ∧ n ≤ 100000 ∧ -100000 ≤ lo ∧ lo ≤ 100000) : Wk (iRng2 ta) σ H (n - lo).toNat (YFn fun i => .int (lo + (i : Int))) := fun H1 e R q =>
  h H1 e _ fun H2 e2 => ⟨lo, n, rfl, ⟨by omega, by omega, by omega, by omega⟩, q _ H2 _ e2 (walk_range.mono (fun _ _ => trivial) fun i H x H' _ _ y => y) fun _ _ => trivial⟩
theorem wk_rng3 {lo j c : Int} {n : Nat} (h : EvA ta σ H [.int lo, .int j, .int c]) (hn : RgC lo j c n) : Wk (iRng3 ta) σ H n (YFn fun i => .int (lo + (i : Nat) * c)) := fun H1 e R q =>
  h H1 e _ fun H2 e2 => ⟨lo, j, c, n, rfl, hn, q _ H2 _ e2 (walk_rangeC.mono (fun _ _ => trivial) fun i H x H' _ _ y => y) fun _ _ => trivial⟩
theorem walk_zipT {n : Nat} (hn : n = min xs.length ys.length) : Walk (RZ.ItzT K a b) n (fun H => SqT K H a xs ∧ SqT K H b ys) (YPair (fun i => xs[i]?) (fun i => ys[i]?)) := by
  subst hn
  refine ⟨fun i _ hi q => ?_, fun _ q => ⟨xs, ys, q.1, q.2, by omega⟩, fun i H v H' _ q y => ?_⟩
  · have h1 : i < xs.length := by omega
    have h2 : i < ys.length := by omega
    exact ⟨xs, ys, xs[i], ys[i], q.1, q.2, by simp [h1], by simp [h2]⟩
  · obtain ⟨T, x, z, h1, h2, h3, h4, h5⟩ := y
    exact ⟨T, x, z, h1, h2, h3, h4 xs q.1, h5 ys q.2⟩
/-- zip of two tuples -/
theorem wk_zipTT (h : EvA ta σ H [.ref a, .ref b]) (hx : SqT K H a xs) (hy : SqT K H b ys) : Wk (RZ.iZipA K ta) σ H (min xs.length ys.length) (YPair (fun i => xs[i]?) (fun i => ys[i]?)) := fun H1 e R q =>
  h H1 e _ fun H2 e2 => ⟨a, b, xs, ys, rfl, .inr ⟨ex_t (e.trans e2) hx, ex_t (e.trans e2) hy, q _ H2 _ e2 (walk_zipT rfl) fun H' e' => ⟨ex_t ((e.trans e2).trans e') hx, ex_t ((e.trans e2).trans e') hy⟩⟩⟩
/-- a comprehension -/
theorem el_comp (hw : Wk wi σ H n Y) (f : Nat → Bool) (v : Nat → V) (hn : n ≤ 50000)
    (ht : ∀ i x H1 H2, i < n → Ex H H1 → Y i H1 x H2 → ∀ R : L2.St → Hp → Prop, (∀ σ2 H3, wipe σ2 vs = wipe σ vs → Ex H1 H3 → EvT tt σ2 H3 (f i) → (f i = true → Ev te σ2 H3 (v i)) → R σ2 H3) → g x (wipe σ vs) H2 R) :
    EvL (tLc wi g tt te vs) σ H (given n f v) := fun H0 e Q q =>
  hw H0 e _ fun J H1 G e1 w hG D hD => by
    refine lc_it w (fun i H' => H1 D = none ∧ Ex H1 H' ∧ H' D = some (.lst (given i f v))) ⟨hD, Ex.new hD, upd_same⟩ (fun i H' _ p => hG H' p.2.1) (fun i x Ha Hb hi p y => ?_) (fun H' p => q D H' (fresh_back e1 p.1) (e1.trans p.2.1) p.2.2)
    obtain ⟨p1, p2, p3⟩ := p
    refine ht i x Ha Hb hi ((e.trans e1).trans p2) y _ fun σ2 H3 hσ e3 hb hv => ⟨hσ, hb H3 (Ex.refl H3) _ fun H4 e4 => ?_⟩
    have e14 : Ex H1 H4 := (p2.trans e3).trans e4
    cases hf : f i with
    | true =>
      refine iteT (hv hf H4 e4 _ fun H5 e5 => ⟨given i f v, e5 D _ (e4 D _ (e3 D _ p3)), sz_lt (by have := Evl.given_len i f v; omega), p1, Ex.mut (e14.trans e5) p1, ?_⟩)
      rw [Evl.given_yes hf]
      exact upd_same
    | false =>
      refine iteF ⟨p1, e14, ?_⟩
      rw [Evl.given_no hf]
      exact e4 D _ (e3 D _ p3)
theorem given_all (n : Nat) (v : Nat → V) : given n (fun _ => true) v = (List.range n).map v := by
  unfold given
  rw [List.filter_eq_self.mpr (fun _ _ => rfl)]
theorem et_yes : EvT tYes σ H true := fun H1 _ _ q => q H1 (Ex.refl H1)
/-- [e for x in ..] over ints -/
theorem el_mapI {ns : List Int} {j : Nat} (hw : Wk wi σ H (ns.map V.int).length (YAt (ns.map V.int))) (f : Int → Int) (hn : ns.length ≤ 50000) (hv : ∀ x, wipe ((wipe σ vs).set j (some x)) vs = wipe σ vs)
    (he : ∀ x ∈ ns, ∀ H1, Ex H H1 → Ev te ((wipe σ vs).set j (some (.int x))) H1 (.int (f x))) : EvL (tLc wi (gName j) tYes te vs) σ H ((ns.map f).map V.int) := by
  have z := el_comp (vs := vs) (g := gName j) (tt := tYes) (te := te) hw (fun _ => true) (fun i => .int (f (ns.getD i 0))) (by rw [List.length_map]; exact hn) (fun i x H1 H2 hi e y R q => by
    obtain ⟨rfl, hx⟩ := y
    rw [List.length_map] at hi
    have hxi : ns[i]? = some ns[i] := List.getElem?_eq_getElem hi
    rw [List.getElem?_map, hxi] at hx
    have ex : V.int ns[i] = x := Option.some.inj hx
    subst ex
    have eg : ns.getD i 0 = ns[i] := by simp [List.getD, hxi]
    refine q _ _ (hv _) (Ex.refl _) et_yes fun _ => ?_
    show Ev te _ _ (.int (f (ns.getD i 0)))
    rw [eg]
    exact he _ (List.getElem_mem hi) _ e)
  rw [given_all] at z
  have el : (List.range (ns.map V.int).length).map (fun i => V.int (f (ns.getD i 0))) = (ns.map f).map V.int := by
    apply List.ext_getElem
    · simp
    · intro i h1 h2
      simp at h1 h2 ⊢
      simp [h1]
  rw [el] at z
  exact z
/-- [e for x, y in ..] over pairs of ints -/
theorem el_zipI {as bs : List Int} {j k : Nat} (hw : Wk wi σ H (min (as.map V.int).length (bs.map V.int).length) (YPair (fun i => (as.map V.int)[i]?) (fun i => (bs.map V.int)[i]?))) (f : Int → Int → Int) (hn : as.length ≤ 50000)
    (hv : ∀ x y, wipe (((wipe σ vs).set j (some x)).set k (some y)) vs = wipe σ vs)
    (he : ∀ x ∈ as, ∀ y ∈ bs, ∀ H1, Ex H H1 → Ev te (((wipe σ vs).set j (some (.int x))).set k (some (.int y))) H1 (.int (f x y))) : EvL (tLc wi (gTup K 2 (gCons (gName j) (gCons (gName k) gNil))) tYes te vs) σ H ((List.zipWith f as bs).map V.int) := by
  have z := el_comp (vs := vs) (g := gTup K 2 (gCons (gName j) (gCons (gName k) gNil))) (tt := tYes) (te := te) hw (fun _ => true) (fun i => .int (f (as.getD i 0) (bs.getD i 0))) (by rw [List.length_map, List.length_map]; omega) (fun i v H1 H2 hi e y R q => by
    obtain ⟨T, x, y, rfl, hT, rfl, hx, hy⟩ := y
    rw [List.length_map, List.length_map] at hi
    have hxi : as[i]? = some (as[i]'(by omega)) := List.getElem?_eq_getElem (by omega)
    have hyi : bs[i]? = some (bs[i]'(by omega)) := List.getElem?_eq_getElem (by omega)
    have hx' : (as.map V.int)[i]? = some x := hx
    have hy' : (bs.map V.int)[i]? = some y := hy
    rw [List.getElem?_map, hxi] at hx'
    rw [List.getElem?_map, hyi] at hy'
    have ex : V.int (as[i]'(by omega)) = x := Option.some.inj hx'
    have ey : V.int (bs[i]'(by omega)) = y := Option.some.inj hy'
    subst ex
    subst ey
    have eg : as.getD i 0 = as[i]'(by omega) := by simp [List.getD, hxi]
    have eg2 : bs.getD i 0 = bs[i]'(by omega) := by simp [List.getD, hyi]
    refine ⟨T, _, rfl, st_of upd_same, rfl, _, _, rfl, _, _, rfl, rfl, q _ _ (hv _ _) (Ex.new hT) et_yes fun _ => ?_⟩
    show Ev te _ _ (.int (f (as.getD i 0) (bs.getD i 0)))
    rw [eg, eg2]
    exact he _ (List.getElem_mem _) _ (List.getElem_mem _) _ (e.trans (Ex.new hT)))
  rw [given_all] at z
  have el : (List.range (min (as.map V.int).length (bs.map V.int).length)).map (fun i => V.int (f (as.getD i 0) (bs.getD i 0))) = (List.zipWith f as bs).map V.int := by
    apply List.ext_getElem
    · simp
    · intro i h1 h2
      simp only [List.length_map, List.length_range] at h1
      have h3 : i < as.length := by omega
      have h4 : i < bs.length := by omega
      simp [h3, h4]
  rw [el] at z
  exact z
end
end Kt
namespace Kt
open PySem PySem.Spec PyProof.Rows L2
theorem tuple_mul1 (l : Addr) (items : Array Value) (n : Nat) (sl : Array (Option Value)) (dd : Option Addr) (x : Int) (u : Tok) (c0 : (decide (x < -(2 ^ 63)) || decide (x ≥ 2 ^ 63)) = false) (c1 : (items.isEmpty || x == 1) = true) :
    Meets (Builtin.«tuple.__mul__» ⟨[.ref l, .int x u], []⟩) (fun _ R s => s.heap.get? l = some { cls := .type "tuple", dict := dd, data := .seq items n, slots := sl } ∧ R (.ok (.ret (Value.ref l))) s) :=
  .of_wp fun prog w A R s h => by
    obtain ⟨hp, g, d, tk, os⟩ := s
    obtain ⟨hl, h⟩ := h
    have f1 := AutoSeq1.idx_int
    wp_walk using wpAny_loadPart' hl
    repeat (first
      | (refine wpAny_ite_false (decide_eq_false (by rw [c0]; exact Bool.false_ne_true)) ?_; wp_walk using wpAny_loadPart' hl)
      | (refine wpAny_ite_true (decide_eq_true (by rw [c1])) ?_; wp_walk using wpAny_loadPart' hl))
    exact ⟨_, rfl, h⟩
theorem tuple_mul0 (l : Addr) (items : Array Value) (n : Nat) (sl : Array (Option Value)) (dd : Option Addr) (x : Int) (u : Tok) (c0 : (decide (x < -(2 ^ 63)) || decide (x ≥ 2 ^ 63)) = false) (c1 : (items.isEmpty || x == 1) = false) (c2 : (decide (x ≤ 0) || items.isEmpty) = true) :
    Meets (Builtin.«tuple.__mul__» ⟨[.ref l, .int x u], []⟩) (fun _ R s => s.heap.get? l = some { cls := .type "tuple", dict := dd, data := .seq items n, slots := sl } ∧
      R (.ok (.ret (Value.ref s.heap.objs.size))) { s with heap := s.heap.push { cls := Value.type "tuple", data := Data.seq #[] }, toks := s.toks }) :=
  .of_wp fun prog w A R s h => by
    obtain ⟨hp, g, d, tk, os⟩ := s
    obtain ⟨hl, h⟩ := h
    have f1 := AutoSeq1.idx_int
    wp_walk using wpAny_loadPart' hl
    repeat (first
      | (refine wpAny_ite_false (decide_eq_false (by rw [c0]; exact Bool.false_ne_true)) ?_; wp_walk using wpAny_loadPart' hl)
      | (refine wpAny_ite_false (decide_eq_false (by rw [c1]; exact Bool.false_ne_true)) ?_; wp_walk using wpAny_loadPart' hl)
      | (refine wpAny_ite_true (decide_eq_true (by rw [c2])) ?_; wp_walk using wpAny_loadPart' hl))
    exact ⟨_, rfl, h⟩
theorem ifD {c A B : Prop} [Decidable c] (h1 : c → A) (h2 : ¬ c → B) : if decide c = true then A else B := by
  by_cases h : c
  · rw [decide_eq_true h]
    exact iteT (h1 h)
  · rw [decide_eq_false h]
    exact iteF (h2 h)
theorem ifN {c A B : Prop} [Decidable c] (h1 : ¬ c → A) (h2 : c → B) : if (!decide c) = true then A else B := by
  by_cases h : c
  · rw [decide_eq_true h]
    exact iteF (h2 h)
  · rw [decide_eq_false h]
    exact iteT (h1 h)
/-- tuple * int, whatever the int: once gives itself -/
def rRepA (K : PySem.W.Frag) : R2 := fun x y H Q => ∃ l k xs, x = .ref l ∧ y = .int k ∧ SqT K H l xs ∧ xs ≠ [] ∧ -100000 ≤ k ∧ k ≤ 1000 ∧ xs.length ≤ 1000 ∧ (k = 1 → Q (.ref l) H) ∧ (k ≠ 1 → ∀ p, H p = none → Q (.ref p) (upd H p (.tup (List.replicate k.toNat xs).flatten)))
theorem op_repA {X : Cx} : OpR X (binaryOp .Mult) (rRepA X.K) := by
  intro pins s σ H x y v u Q I rx ry h
  obtain ⟨l, k, xs, rfl, rfl, hT, hne, h1, h2, hz, q1, q⟩ := h
  by_cases hk : 2 ≤ k
  · exact op_repT pins s σ H (.ref l) (.int k) v u Q I rx ry ⟨l, k, xs, rfl, rfl, hT, hne, hk, h2, hz, q (by omega)⟩
  · cases rx
    obtain ⟨t, rfl⟩ := ry
    obtain ⟨its, r, ⟨⟨cls, dd, data, sl⟩, ho, hc, n, hd⟩, hs⟩ := I.tuple hT
    simp only at hc hd
    subst hc hd
    have hle : its.length = xs.length := r.length.symm
    have hn : its ≠ [] := fun e => hne (by
      rw [e] at hle
      exact List.eq_nil_of_length_eq_zero hle.symm)
    have hi : its.toArray.isEmpty = false := by
      cases its with
      | nil => exact absurd rfl hn
      | cons a b => rfl
    have c0 : (decide (k < -(2 ^ 63)) || decide (k ≥ 2 ^ 63)) = false := by
      rw [decide_eq_false (by omega), decide_eq_false (by omega)] <;> rfl
    by_cases h11 : k = 1
    · have c1 : (its.toArray.isEmpty || k == 1) = true := by rw [hi, h11] <;> rfl
      exact wpAny_binaryOp_repeat_ref (T := "tuple") (U := "int") (by decide) ⟨_, ho, rfl⟩ (fun s' => typeIs_int s' k t) noFill_tuple_mul F.fills_int_mul F.slot_int_rmul repeat_tuple F.slot_int_index.lookup
        (call_meets F.slot_int_rmul (typeIs_int s k t) F.entry_int_rmul (F.args_int_rmul_2 _ _) (int_rmul_tuple k t l its.toArray n dd sl)
          ⟨ho, rfl, ⟨_, ho, rfl⟩, call_meets F.slot_tuple_mul ⟨_, ho, rfl⟩ F.entry_tuple_mul (F.args_tuple_mul_2 _ _) (tuple_mul1 l its.toArray n sl dd k t c0 c1) ⟨ho, ⟨.ref l, H, I, rfl, q1 h11⟩⟩⟩)
    · have c1 : (its.toArray.isEmpty || k == 1) = false := by
        rw [hi, Bool.false_or]
        exact beq_eq_false_iff_ne.mpr h11
      have c2 : (decide (k ≤ 0) || its.toArray.isEmpty) = true := by
        rw [decide_eq_true (by omega), Bool.true_or]
      refine wpAny_binaryOp_repeat_ref (T := "tuple") (U := "int") (by decide) ⟨_, ho, rfl⟩ (fun s' => typeIs_int s' k t) noFill_tuple_mul F.fills_int_mul F.slot_int_rmul repeat_tuple F.slot_int_index.lookup
        (call_meets F.slot_int_rmul (typeIs_int s k t) F.entry_int_rmul (F.args_int_rmul_2 _ _) (int_rmul_tuple k t l its.toArray n dd sl)
          ⟨ho, rfl, ⟨_, ho, rfl⟩, call_meets F.slot_tuple_mul ⟨_, ho, rfl⟩ F.entry_tuple_mul (F.args_tuple_mul_2 _ _) (tuple_mul0 l its.toArray n sl dd k t c0 c1 c2) ⟨ho, ?_⟩⟩)
      have e0 : (List.replicate k.toNat xs).flatten = [] := by
        rw [show k.toNat = 0 by omega] <;> rfl
      have q' := q h11 s.heap.objs.size (I.hok.fresh (Nat.le_refl _))
      rw [e0] at q'
      refine ⟨.ref s.heap.objs.size, _, I.laid (t' := s.toks) (o := .tup []) (fun b ob q => Heap.get?_push_of_some _ q) (Nat.le_refl _) ?_, rfl, q'⟩
      exact ⟨Nat.zero_le _, [], .nil, IsTup.new _ _⟩
end Kt
namespace Kt
open PySem PySem.Spec PyProof.Rows L2
open Evl (Ex Ev EvL EvU EvT EvA ex_l ex_t sq_of st_of sz_of sz_lt fresh_back given)
/-- what a value is, whatever comes beside -/
structure VR where
  R : V → Hp → Prop
  st : ∀ {v : V} {H H' : Hp}, Ex H H' → R v H → R v H'
def vC (c : V) : VR := ⟨fun v _ => v = c, fun _ h => h⟩
abbrev vI (i : Int) : VR := vC (.int i)
abbrev vB (b : Bool) : VR := vC (.bl b)
abbrev vS (z : Str) : VR := vC (.str z)
abbrev vN : VR := vC .non
def Alls : List VR → List V → Hp → Prop
  | [], vs, _ => vs = []
  | r :: rs, vs, H => ∃ v ws, vs = v :: ws ∧ r.R v H ∧ Alls rs ws H
theorem Alls.mono : ∀ {rs : List VR} {vs : List V} {H H' : Hp}, Ex H H' → Alls rs vs H → Alls rs vs H'
  | [], _, _, _, _, h => h
  | r :: rs, _, _, _, e, ⟨v, ws, h1, h2, h3⟩ => ⟨v, ws, h1, r.st e h2, Alls.mono e h3⟩
theorem Alls.len : ∀ {rs : List VR} {vs : List V} {H : Hp}, Alls rs vs H → vs.length = rs.length
  | [], _, _, h => by
    have h' : _ = [] := h
    rw [h'] <;> rfl
  | r :: rs, _, _, ⟨v, ws, h1, h2, h3⟩ => by rw [h1, List.length_cons, List.length_cons, Alls.len h3]
theorem Alls.ints : ∀ {ns : List Int} {vs : List V} {H : Hp}, Alls (ns.map vI) vs H → vs = ns.map V.int
  | [], _, _, h => h
  | n :: ns, _, _, ⟨v, ws, h1, h2, h3⟩ => by rw [h1, h2, Alls.ints h3] <;> rfl
theorem Alls.ofInts : ∀ (ns : List Int) (H : Hp), Alls (ns.map vI) (ns.map V.int) H
  | [], _ => rfl
  | n :: ns, H => ⟨_, _, rfl, rfl, Alls.ofInts ns H⟩
/-- a tuple of ints; a tuple; a list of ints; a list -/
def vP (K : PySem.W.Frag) (ns : List Int) : VR := ⟨fun v H => ∃ a, v = .ref a ∧ SqT K H a (ns.map V.int), fun e ⟨a, h1, h2⟩ => ⟨a, h1, ex_t e h2⟩⟩
def vT (K : PySem.W.Frag) (rs : List VR) : VR := ⟨fun v H => ∃ a xs, v = .ref a ∧ SqT K H a xs ∧ Alls rs xs H, fun e ⟨a, xs, h1, h2, h3⟩ => ⟨a, xs, h1, ex_t e h2, h3.mono e⟩⟩
def vL (K : PySem.W.Frag) (ns : List Int) : VR := ⟨fun v H => ∃ a, v = .ref a ∧ SqL K H a (ns.map V.int), fun e ⟨a, h1, h2⟩ => ⟨a, h1, ex_l e h2⟩⟩
def vLs (K : PySem.W.Frag) (rs : List VR) : VR := ⟨fun v H => ∃ a xs, v = .ref a ∧ SqL K H a xs ∧ Alls rs xs H, fun e ⟨a, xs, h1, h2, h3⟩ => ⟨a, xs, h1, ex_l e h2, h3.mono e⟩⟩
def EvR (te : TE) (σ : L2.St) (H : Hp) (r : VR) : Prop := ∀ H1, Ex H H1 → ∀ Q : VK, (∀ v H2, Ex H1 H2 → r.R v H2 → Q v H2) → te σ H1 Q
def EvRs (ta : TA) (σ : L2.St) (H : Hp) (rs : List VR) : Prop := ∀ H1, Ex H H1 → ∀ Q : List V → Hp → Prop, (∀ vs H2, Ex H1 H2 → Alls rs vs H2 → Q vs H2) → ta σ H1 Q
/-- an operation on values; a call on values -/
def OpV (r : R2) (ra rb rc : VR) (H : Hp) : Prop := ∀ x y H1, Ex H H1 → ra.R x H1 → rb.R y H1 → ∀ Q : VK, (∀ v H2, Ex H1 H2 → rc.R v H2 → Q v H2) → r x y H1 Q
def CallV (r : List V → Hp → VK → Prop) (rs : List VR) (rc : VR) (H : Hp) : Prop := ∀ vs H1, Ex H H1 → Alls rs vs H1 → ∀ Q : VK, (∀ v H2, Ex H1 H2 → rc.R v H2 → Q v H2) → r vs H1 Q
/-- a def's promise: what it is handed, what it hands back -/
def Con {G : Type} (pre : G → Prop) (args : G → List VR) (res : G → VR) : Sp := fun vs H Q _ => ∃ g, pre g ∧ Alls (args g) vs H ∧ ∀ v H', Ex H H' → (res g).R v H' → Q v H'
section
variable {K : PySem.W.Frag} {σ : L2.St} {H H' : Hp} {te ta tb tc : TE} {t u : TT} {tas : TA} {r r1 r2 r3 ra rb rc : VR} {rs : List VR} {op : R2} {v : V} {i : Nat} {b : Bool}
theorem EvR.mono (e : Ex H H') (h : EvR te σ H r) : EvR te σ H' r := fun H1 a Q q => h H1 (e.trans a) Q q
theorem EvRs.mono (e : Ex H H') (h : EvRs tas σ H rs) : EvRs tas σ H' rs := fun H1 a Q q => h H1 (e.trans a) Q q
theorem EvR.ev {c : V} (h : EvR te σ H (vC c)) : Ev te σ H c := fun H1 e Q q => h H1 e Q fun v H2 e2 hv => by
  have z : v = c := hv
  rw [z]
  exact q H2 e2
theorem EvR.of {c : V} (h : Ev te σ H c) (hr : r.R c H) : EvR te σ H r := fun H1 e Q q => h H1 e Q fun H2 e2 => q c H2 e2 (r.st (e.trans e2) hr)
theorem EvR.to (h : EvR te σ H r) (k : ∀ v H', Ex H H' → r.R v H' → r2.R v H') : EvR te σ H r2 := fun H1 e Q q => h H1 e Q fun v H2 e2 hv => q v H2 e2 (k v H2 (e.trans e2) hv)
theorem evr_var (h : σ[i]? = some (some v)) (hr : r.R v H) : EvR (tVar i) σ H r := fun H1 e Q q => ⟨v, h, q v H1 (Ex.refl H1) (r.st e hr)⟩
theorem evr_c : EvR (tC v) σ H (vC v) := fun H1 _ Q q => q v H1 (Ex.refl H1) rfl
theorem evr_op (ha : EvR ta σ H ra) (hb : EvR tb σ H rb) (ho : OpV op ra rb rc H) : EvR (tOp op ta tb) σ H rc := fun H1 e Q q =>
  ha H1 e _ fun x H2 e2 hx => hb H2 (e.trans e2) _ fun y H3 e3 hy => ho x y H3 ((e.trans e2).trans e3) (ra.st e3 hx) hy Q fun z H4 e4 hz => q z H4 ((e2.trans e3).trans e4) hz
theorem evrs_nil : EvRs tNil σ H [] := fun H1 _ Q q => q [] H1 (Ex.refl H1) rfl
theorem evrs_cons (h : EvR te σ H r) (h2 : EvRs tas σ H rs) : EvRs (tCons te tas) σ H (r :: rs) := fun H1 e Q q =>
  h H1 e _ fun v H2 e2 hv => h2 H2 (e.trans e2) _ fun vs H3 e3 hvs => q (v :: vs) H3 (e2.trans e3) ⟨v, vs, rfl, r.st e3 hv, hvs⟩
theorem evr_call {G : Type} {pre : G → Prop} {args : G → List VR} {res : G → VR} {E : XK} (g : G) (hp : pre g) (h : EvRs tas σ H (args g)) : EvR (tCall (Con pre args res) [] E tas) σ H (res g) := fun H1 e Q q =>
  h H1 e _ fun vs H2 e2 hvs => ⟨g, hp, by rw [List.append_nil]; exact hvs, fun v H3 e3 hv => q v H3 (e2.trans e3) hv⟩
theorem evr_cb {rr : List V → Hp → VK → Prop} (h : EvRs tas σ H rs) (hr : CallV rr rs rc H) : EvR (tCB rr tas) σ H rc := fun H1 e Q q =>
  h H1 e _ fun vs H2 e2 hvs => hr vs H2 (e.trans e2) hvs Q fun v H3 e3 hv => q v H3 (e2.trans e3) hv
theorem evr_list {xs : List V} {ns : List Int} (h : EvL te σ H xs) (hx : xs = ns.map V.int) : EvR te σ H (vL K ns) := fun H1 e Q q => h H1 e Q fun p H2 _ e2 hp => q (.ref p) H2 e2 ⟨p, rfl, by rw [← hx]; exact sq_of hp⟩
theorem evr_tup {xs : List V} {ns : List Int} (h : EvU te σ H xs) (hx : xs = ns.map V.int) : EvR te σ H (vP K ns) := fun H1 e Q q => h H1 e Q fun p H2 _ e2 hp => q (.ref p) H2 e2 ⟨p, rfl, by rw [← hx]; exact st_of hp⟩
/-! ### operations -/
theorem op_i0 {g : Int → Int → V} {x y : Int} : OpV (rI0 g) (vI x) (vI y) (vC (g x y)) H := fun a b H1 _ ha hb Q q => ⟨x, y, ha, hb, q _ H1 (Ex.refl H1) rfl⟩
theorem op_i {C : Int → Int → Prop} {g : Int → Int → V} {x y : Int} (hc : C x y) : OpV (rI C g) (vI x) (vI y) (vC (g x y)) H := fun a b H1 _ ha hb Q q => ⟨x, y, ha, hb, hc, q _ H1 (Ex.refl H1) rfl⟩
theorem op_eqS {x y : V} (h : scal x y = true) : OpV rEq (vC x) (vC y) (vB (decide (x = y))) H := fun a b H1 _ ha hb Q q => by
  have e1 : a = x := ha
  have e2 : b = y := hb
  subst e1 e2
  exact ⟨h, q _ H1 (Ex.refl H1) rfl⟩
theorem op_neS {x y : V} (h : scal x y = true) : OpV rNe (vC x) (vC y) (vB (!decide (x = y))) H := fun a b H1 _ ha hb Q q => by
  have e1 : a = x := ha
  have e2 : b = y := hb
  subst e1 e2
  exact ⟨h, q _ H1 (Ex.refl H1) rfl⟩
theorem op_ixP {ns : List Int} {x : Int} {z : V} (h : atI (ns.map V.int) x = some z) : OpV (rIxT K) (vP K ns) (vI x) (vC z) H := fun a b H1 _ ⟨p, ha, hs⟩ hb Q q => ⟨p, _, x, z, ha, hb, hs, h, q z H1 (Ex.refl H1) rfl⟩
theorem op_ixLi {ns : List Int} {x : Int} {z : V} (h : atI (ns.map V.int) x = some z) : OpV (rIxL K) (vL K ns) (vI x) (vC z) H := fun a b H1 _ ⟨p, ha, hs⟩ hb Q q => ⟨p, _, x, z, ha, hb, hs, h, q z H1 (Ex.refl H1) rfl⟩
/-- tuple + tuple; tuple * int -/
theorem op_catP {ns ms : List Int} (hl : ns.length + ms.length ≤ 100000) : OpV (rCatA K) (vP K ns) (vP K ms) (vP K (ns ++ ms)) H := fun x y H1 _ ⟨a, ha, h1⟩ ⟨b, hb, h2⟩ Q q => by
  refine ⟨a, b, _, _, ha, hb, h1, h2, sz_of (by rw [List.length_map, List.length_map]; exact hl), fun z => ?_, fun _ z => ?_, fun _ _ p hp => ?_⟩
  · refine q _ H1 (Ex.refl H1) ⟨b, rfl, ?_⟩
    have z' : ns = [] := List.map_eq_nil_iff.mp z
    rw [z', List.nil_append]
    exact h2
  · refine q _ H1 (Ex.refl H1) ⟨a, rfl, ?_⟩
    have z' : ms = [] := List.map_eq_nil_iff.mp z
    rw [z', List.append_nil]
    exact h1
  · refine q _ _ (Ex.new hp) ⟨p, rfl, ?_⟩
    rw [List.map_append]
    exact st_of upd_same
theorem op_repP {x : Int} {k : Int} (h : -100000 ≤ k ∧ k ≤ 1000) : OpV (rRepA K) (vP K [x]) (vI k) (vP K (List.replicate k.toNat x)) H := fun a b H1 _ ⟨l, ha, hs⟩ hb Q q => by
  refine ⟨l, k, _, ha, hb, hs, by simp, h.1, h.2, by simp, fun z => ?_, fun z p hp => ?_⟩
  · refine q _ H1 (Ex.refl H1) ⟨l, rfl, ?_⟩
    rw [z]
    exact hs
  · refine q _ _ (Ex.new hp) ⟨p, rfl, ?_⟩
    have e : (List.replicate k.toNat ([x].map V.int)).flatten = (List.replicate k.toNat x).map V.int := by
      simp
    rw [← e]
    exact st_of upd_same
theorem evr_disp {ns : List Int} (h : EvRs tas σ H (ns.map vI)) (hl : ns.length ≤ 100000) : EvR (tTup tas) σ H (vP K ns) := fun H1 e Q q =>
  h H1 e _ fun vs H2 e2 hvs => by
    have hv : vs = ns.map V.int := hvs.ints
    subst hv
    exact ⟨sz_of (by rw [List.length_map]; exact hl), fun p hp => q (.ref p) _ (e2.trans (Ex.new hp)) ⟨p, rfl, st_of upd_same⟩⟩
theorem evr_dispT (h : EvRs tas σ H rs) (hl : rs.length ≤ 100000) : EvR (tTup tas) σ H (vT K rs) := fun H1 e Q q =>
  h H1 e _ fun vs H2 e2 hvs => ⟨sz_of (by rw [hvs.len]; exact hl), fun p hp => q (.ref p) _ (e2.trans (Ex.new hp)) ⟨p, _, rfl, st_of upd_same, hvs.mono (Ex.new hp)⟩⟩
theorem evr_dispL {ns : List Int} (h : EvRs tas σ H (ns.map vI)) (hl : ns.length ≤ 100000) : EvR (tLst tas) σ H (vL K ns) := fun H1 e Q q =>
  h H1 e _ fun vs H2 e2 hvs => by
    have hv : vs = ns.map V.int := hvs.ints
    subst hv
    exact ⟨sz_of (by rw [List.length_map]; exact hl), fun p hp => q (.ref p) _ (e2.trans (Ex.new hp)) ⟨p, rfl, sq_of upd_same⟩⟩
/-! ### calls of built-ins -/
theorem cb_lenP {ns : List Int} {rr : List V → Hp → VK → Prop} (hrr : rr = fun xs H Q => ∃ p ys, xs = [.ref p] ∧ (SqL K H p ys ∨ SqT K H p ys) ∧ Q (.int ys.length) H) : CallV rr [vP K ns] (vI ns.length) H := fun vs H1 _ ⟨v, ws, h1, ⟨a, ha, hs⟩, h3⟩ Q q => by
  subst hrr
  subst ha
  have h3' : ws = [] := h3
  subst h3'
  refine ⟨a, _, h1, .inr hs, ?_⟩
  rw [List.length_map]
  exact q _ H1 (Ex.refl H1) rfl
theorem cb_lenL {ns : List Int} {rr : List V → Hp → VK → Prop} (hrr : rr = fun xs H Q => ∃ p ys, xs = [.ref p] ∧ (SqL K H p ys ∨ SqT K H p ys) ∧ Q (.int ys.length) H) : CallV rr [vL K ns] (vI ns.length) H := fun vs H1 _ ⟨v, ws, h1, ⟨a, ha, hs⟩, h3⟩ Q q => by
  subst hrr
  subst ha
  have h3' : ws = [] := h3
  subst h3'
  refine ⟨a, _, h1, .inl hs, ?_⟩
  rw [List.length_map]
  exact q _ H1 (Ex.refl H1) rfl
theorem cb_max {i j : Int} {rr : List V → Hp → VK → Prop} (hrr : rr = fun xs H Q => ∃ i j, xs = [.int i, .int j] ∧ Q (.int (if j > i then j else i)) H) : CallV rr [vI i, vI j] (vI (max i j)) H := fun vs H1 _ ⟨v, ws, h1, hv, ⟨w', ws', h2, hw, h3⟩⟩ Q q => by
  subst hrr
  have hv' : v = .int i := hv
  have hw' : w' = .int j := hw
  have h3' : ws' = [] := h3
  subst hv' hw' h3' h2
  refine ⟨i, j, h1, ?_⟩
  have e : (if j > i then j else i) = max i j := by omega
  rw [e]
  exact q _ H1 (Ex.refl H1) rfl
/-! ### tests -/
theorem et_r (h : EvR te σ H (vB b)) : EvT (tTest te) σ H b := Evl.et_test h.ev
/-! ### statements -/
variable {D : Ends} {tz tu tw : TS}
theorem qr_asg (h : EvR te σ H r) (k : ∀ v H1, Ex H H1 → r.R v H1 → tz D (σ.set i (some v)) H1) : tSeq (tAsg te (gName i)) tz D σ H := h H (Ex.refl H) _ fun v H1 e hv => k v H1 e hv
theorem sr_asg (h : EvR te σ H r) (k : ∀ v H1, Ex H H1 → r.R v H1 → D.nx (σ.set i (some v)) H1) : tAsg te (gName i) D σ H := h H (Ex.refl H) _ fun v H1 e hv => k v H1 e hv
theorem sr_ret (h : EvR te σ H r) (k : ∀ v H1, Ex H H1 → r.R v H1 → D.rt v H1) : tRet te D σ H := h H (Ex.refl H) _ k
end
end Kt
namespace Kt
open PySem PySem.Spec PyProof.Rows L2
open Evl (Ex Ev EvL EvU EvT EvA ex_l ex_t sq_of st_of sz_of sz_lt fresh_back given)
/-- a list (false) or a tuple (true), by what H knows; by the heap; its iterator -/
def SqK (b : Bool) (K : PySem.W.Frag) (H : Hp) (a : Addr) (xs : List V) : Prop := match b with | true => SqT K H a xs | false => SqL K H a xs
def OfK (b : Bool) (h : Heap) (a : Addr) (items : Array Value) : Prop := match b with | true => h.IsTuple a items | false => h.IsList a items
def ItK (b : Bool) (h : Heap) (it a : Addr) (i : Nat) : Prop := match b with | true => h.IsTupleIter it a i | false => h.IsListIter it a i
def objK (b : Bool) (a : Addr) : Obj := match b with | true => { cls := .type "tuple_iterator", data := .fields #[.ref a, .int 0 0] } | false => { cls := .type "list_iterator", data := .fields #[.ref a, .int 0 0] }
theorem ex_k {b : Bool} {K : PySem.W.Frag} {H H' : Hp} {a : Addr} {xs : List V} (e : Ex H H') (h : SqK b K H a xs) : SqK b K H' a xs := by
  cases b with
  | true => exact ex_t e h
  | false => exact ex_l e h
theorem drawsK {prog : Program} {w : World} {A : Around} (b : Bool) (hh : A.handled = none) (it l : Addr) (hne : l ≠ it) (items : Array Value) :
    Draws prog w A it [it, l] items.size (fun i v => items[i]? = some v) (fun i h => ItK b h it l i ∧ OfK b h l items) := by
  cases b with
  | true => exact Draws.tuple hh it l hne items
  | false => exact Draws.list hh it l hne items
theorem beginsK (b : Bool) (l : Addr) (items : Array Value) : Begins (.ref l) (objK b l) fun h => OfK b h l items := by
  cases b with
  | true => exact begins_tuple l items
  | false => exact begins_list l items
theorem ItK.at' {b : Bool} {h h' : Heap} {it l : Addr} {i : Nat} (s : ItK b h it l i) (k : ∀ o, h.get? it = some o → h'.get? it = some o) : ItK b h' it l i := by
  cases b with
  | true => exact Heap.IsTupleIter.at s k
  | false => exact Heap.IsListIter.at s k
theorem ItK.obj {b : Bool} {h : Heap} {it l : Addr} {i : Nat} (s : ItK b h it l i) : ∃ o, h.get? it = some o ∧ ∀ v, o.data ≠ .cell v := by
  cases b with
  | true => obtain ⟨o, e, _, d⟩ := s; exact ⟨o, e, fun v q => by rw [d] at q; cases q⟩
  | false => obtain ⟨o, e, _, d⟩ := s; exact ⟨o, e, fun v q => by rw [d] at q; cases q⟩
theorem ItK.start {b : Bool} {h : Heap} {it l : Addr} (e : h.get? it = some (objK b l)) : ItK b h it l 0 := by
  cases b with
  | true => exact ⟨_, e, rfl, rfl⟩
  | false => exact ⟨_, e, rfl, rfl⟩
theorem OfK.lt {b : Bool} {h : Heap} {l : Addr} {items : Array Value} (s : OfK b h l items) : l < h.objs.size := by
  cases b with
  | true => obtain ⟨o, e, _⟩ := s; exact Heap.lt_size e
  | false => obtain ⟨o, e, _⟩ := s; exact Heap.lt_size e
theorem invK {X : Cx} {pins : List (Addr × Obj)} {σ : L2.St} {H : Hp} {s : Shared} {b : Bool} {a : Addr} {xs : List V} (I : Inv X pins σ H s) (h : SqK b X.K H a xs) : ∃ its : List Value, Vals xs its ∧ OfK b s.heap a its.toArray := by
  cases b with
  | true => obtain ⟨its, r, p, _⟩ := I.tuple h; exact ⟨its, r, p⟩
  | false => obtain ⟨its, r, p, _⟩ := I.list h; exact ⟨its, r, p.isList⟩
theorem injK {X : Cx} {pins : List (Addr × Obj)} {σ : L2.St} {H : Hp} {s : Shared} {b : Bool} {a : Addr} {xs ys : List V} (I : Inv X pins σ H s) (h : SqK b X.K H a xs) (h2 : SqK b X.K H a ys) : xs = ys := by
  cases b with
  | true => exact I.tuple_inj h h2
  | false => exact I.list_inj h h2
/-! ### enumerate(xs, start) -/
def IteK (b : Bool) (K : PySem.W.Frag) (k₀ : Int) (a : Addr) : It :=
  ⟨fun i H => ∃ (xs : List V) (x : V), SqK b K H a xs ∧ xs[i]? = some x, fun i H v H' => ∃ T x, v = .ref T ∧ H T = none ∧ H' = upd H T (.tup [.int (k₀ + (i : Int)), x]) ∧ ∀ xs, SqK b K H a xs → xs[i]? = some x, fun i H => ∃ xs : List V, SqK b K H a xs ∧ xs.length = i⟩
theorem turn_enumK {P : Program} {w : World} {K : PySem.W.Frag} {elts : List Expr} {kk : Nat} {tpos : Pos} (b : Bool) (k₀ : Int) (a e it : Addr) :
    Turn P w K (.Tuple elts kk tpos) (IteK b K k₀ a) [e, it] e (fun i h => (∃ old, IsEnum h e it (k₀ + (i : Int)) old) ∧ ItK b h it a i ∧ e ≠ it ∧ a ≠ it ∧ e ≠ a) where
  mem := by simp
  obj := fun i h st c hc => by
    obtain ⟨⟨old, he⟩, hi, _⟩ := st
    have e' : c = e ∨ c = it := by simpa using hc
    rcases e' with z | z
    · rw [z]; exact ⟨_, he, fun v q => nomatch q⟩
    · rw [z]; exact hi.obj
  keep := fun i h h' st k => let ⟨⟨old, he⟩, hi, hne⟩ := st; ⟨⟨old, k e (by simp) _ he⟩, hi.at' fun o q => k it (by simp) o q, hne⟩
  item := by
    intro X hP hw hK hc i pins s σ H E I hf st hg
    subst hP hw hK
    obtain ⟨⟨old, he⟩, hit, hne, hai, hea⟩ := st
    obtain ⟨xs, x, hq, hx⟩ := hg
    obtain ⟨its, rv, p⟩ := invK I hq
    have hel : e < s.heap.objs.size := Heap.lt_size he
    have hil : it < s.heap.objs.size := by obtain ⟨_, q, _⟩ := hit.obj; exact Heap.lt_size q
    have hl := rv.length
    have hlt : i < its.toArray.size := by
      have := (List.getElem?_eq_some_iff.mp hx).1
      simp; omega
    refine wpAny_pyNext_enum_itemC (drawsK (A := X.A.in1) b (I.ok.hd hc) it a hai its.toArray) he ⟨hit, p⟩ hlt hne (by simp [hne, hea]) fun u h' tk hP ho hst hT hsz hk => ?_
    obtain ⟨u', hu, ru⟩ := rv.get hx
    have eu : u = u' := by
      have h1 : its[i]? = some u := by simpa using hP
      rw [hu] at h1
      exact (Option.some.inj h1).symm
    subst eu
    refine ⟨_, rfl, wpAny_letOwnedTupleGo_enum (s := { s with heap := h', toks := tk + 1 }) ho fun h'' he' sb => ?_⟩
    have hT2 : h''.get? s.heap.objs.size = some { cls := .type "tuple", data := .seq #[.int (k₀ + (i : Int)) tk, u] } := (sb.2 _ (Nat.ne_of_gt hel)).trans hT
    have new : ObjOk X.prog X.w (upd H s.heap.objs.size (.tup [.int (k₀ + (i : Int)), x])) h'' s.heap.objs.size (.tup [.int (k₀ + (i : Int)), x]) :=
      ⟨by show 2 ≤ sizeLine; decide, [.int (k₀ + (i : Int)) tk, u], .cons ⟨_, rfl⟩ (.cons ru .nil), ⟨_, hT2, rfl, _, rfl⟩⟩
    have I1 : Inv X pins σ (upd H s.heap.objs.size (.tup [.int (k₀ + (i : Int)), x])) { s with heap := h'', toks := tk + 1 } :=
      I.turnedNew (ch := [e, it]) (fun b ob hb q => (sb.2 b (fun z => hb (by simp [z]))).trans (hk b ob (fun z => hb (by simp [z])) (fun z => hb (by simp [z])) q)) hf (Nat.le_refl _) new
    refine ⟨.ref s.heap.objs.size, _, I1, rfl, ⟨_, x, rfl, I.hok.fresh (Nat.le_refl _), rfl, fun ys hy => by rw [injK I hy hq]; exact hx⟩, ⟨⟨u, ?_⟩, hst.1.at' fun o q => (sb.2 it (Ne.symm hne)).trans q, hne, hai, hea⟩, fun b hb => ?_⟩
    · have e1 : k₀ + ((i + 1 : Nat) : Int) = k₀ + (i : Int) + 1 := by omega
      rw [e1]; exact he'
    · have hb' : b < s.heap.objs.size := by
        have e' : b = e ∨ b = it := by simpa using hb
        rcases e' with z | z
        · rw [z]; exact hel
        · rw [z]; exact hil
      rw [upd_ne (Nat.ne_of_lt hb')]
      exact (hf b hb).1
  done := by
    intro X hP hw hK hc i pins s σ H E I hf st hg
    subst hP hw hK
    obtain ⟨⟨old, he⟩, hit, hne, hai, hea⟩ := st
    obtain ⟨xs, hq, hx⟩ := hg
    obtain ⟨its, rv, p⟩ := invK I hq
    obtain ⟨f0, f1, f2, f3, f4, f5⟩ := hf it (by simp)
    have hl := rv.length
    have hi : i = its.toArray.size := by simp; omega
    subst hi
    exact wpAny_pyNext_enum_endD (drawsK (A := X.A.in1) b (I.ok.hd hc) it a hai its.toArray) he ⟨hit, p⟩ fun h' eb => ⟨rfl, I.turned (t' := s.toks) (fun b o hb q => eb b o hb q) f0 f1 f3 f4 f5⟩
  self := fun A i s Q E st h => let ⟨⟨_, he⟩, _⟩ := st; wpAny_pyIter_enum he h
def iEnumK (b : Bool) (K : PySem.W.Frag) (ta : TA) : TI := fun σ H R => ta σ H fun vs H1 => ∃ a xs, vs = [.ref a] ∧ SqK b K H1 a xs ∧ R (IteK b K 0 a) H1
theorem meets_enum1 {v : Value} {o : Obj} {H : Heap → Prop} (B : Begins v o H) :
    Meets (Builtin.«enumerate.__new__» ⟨[.type "enumerate", v], []⟩) (fun _ R s => H s.heap ∧
      R (.ok (.ret (.ref (s.heap.push o).objs.size))) { s with heap := (s.heap.push o).push { cls := .type "enumerate", data := .fields #[.none, .bool false, .ref s.heap.objs.size, rawInt 0, .none, .none] } }) :=
  .of_wp fun prog w A R s h => by
    obtain ⟨hp, g, d, tk, os⟩ := s; obtain ⟨h1, h⟩ := h
    have hsub := sub_enumerate
    have q1 : ∀ {A' : Around} {E : Value → Shared → Prop} {Q : Value → Shared → Prop}, Q (.ref hp.objs.size) ⟨hp.push o, g, d, tk, os⟩ → wpAny (model prog w) A' (pyIter v) Q E ⟨hp, g, d, tk, os⟩ :=
      fun q => B.iter prog w _ _ ⟨hp, g, d, tk, os⟩ _ h1 q
    wp_walk using q1
    refine wpAny_stack_any fun st => wpAny_pure ?_
    split
    · rename_i c _ _ _ _ _
      cases (c == Value.type "enumerate")
      · wp_walk using q1
        exact ⟨_, rfl, h⟩
      · wp_walk using q1
        exact ⟨_, rfl, h⟩
    · wp_walk using q1
      exact ⟨_, rfl, h⟩
section
variable {prog : Program} {w : World} {A : Around} {E : Value → Shared → Prop} {s : Shared}
theorem enum_begins1 {v : Value} {o : Obj} {H : Heap → Prop} {Q : Value → Shared → Prop} (B : Begins v o H) (h1 : H s.heap)
    (h : ∀ h', IsEnum h' (s.heap.objs.size + 1) s.heap.objs.size 0 .none → h'.get? s.heap.objs.size = some o → h'.objs.size = s.heap.objs.size + 2 →
      (∀ b o, s.heap.get? b = some o → h'.get? b = some o) → Q (.ref (s.heap.objs.size + 1)) { s with heap := h' }) :
    wpAny (model prog w) A (call (.type "enumerate") [v]) Q E s := by
  refine callType_new F.called_enumerate (by decide) (F.typeCall_enumerate_1 _) (F.newCall_enumerate_1 _) (fun obj => F.args_object_init_2 obj _) F.entry_enumerate_new
    (meets_enum1 B) ⟨h1, ?_⟩
  have hz : (s.heap.push o).objs.size = s.heap.objs.size + 1 := Heap.size_push ..
  show _ ∧ _
  rw [hz]
  have he : IsEnum ((s.heap.push o).push { cls := .type "enumerate", data := .fields #[.none, .bool false, .ref s.heap.objs.size, rawInt 0, .none, .none] }) (s.heap.objs.size + 1) s.heap.objs.size 0 .none := by
    have := Heap.get?_push_size (s.heap.push o) (o := { cls := .type "enumerate", data := .fields #[.none, .bool false, .ref s.heap.objs.size, rawInt 0, .none, .none] }) rfl
    rw [hz] at this; exact this
  refine ⟨⟨_, he, rfl⟩, h _ he (Heap.get?_push_of_some _ (Heap.get?_push_size _ B.free)) (by rw [Heap.size_push, hz]) fun b o x => Heap.get?_push_of_some _ (Heap.get?_push_of_some _ x)⟩
end
theorem pi_enumK {X : Cx} {e : Expr} {ta : TA} {p pos tpos : Pos} {elts : List Expr} {kk : Nat} (b : Bool) (hg : Gl X "enumerate") (hm : X.mg "enumerate" = none) (ha : PA X [e] ta) (hs : starEach [e] X.env = [(false, eval e X.env)] := by rfl) :
    PI X (.Tuple elts kk tpos) (.Call (.Name "enumerate" p) [e] [] pos) (iEnumK b X.K ta) := by
  refine ⟨fun pins s σ H R I h => ?_⟩
  refine Call_ (ld_blt I hg hm boot_enumerate (PyProof.Rows.callWith_type1 (thn (ha.run pos pins s σ H _ I h) fun us s1 ⟨vs, H1, I1, r1, q1⟩ => ?_) hs rfl))
  obtain ⟨a, xs, ex, hq, q⟩ := q1
  subst ex
  cases r1 with
  | cons r rr =>
    cases rr
    cases r
    obtain ⟨its, rv, p'⟩ := invK I1 hq
    have hal : a < s1.heap.objs.size := p'.lt
    refine enum_begins1 (beginsK b a its.toArray) p' fun h' he hit hsz hk => wpAny_pyIter_enum he ?_
    have I2 : Inv X pins σ H1 { s1 with heap := h' } := I1.kept (t' := s1.toks) hk
    refine ⟨s1.heap.objs.size + 1, [s1.heap.objs.size + 1, s1.heap.objs.size], _, _, H1, rfl, I2, turn_enumK b 0 a (s1.heap.objs.size + 1) s1.heap.objs.size, ⟨⟨.none, he⟩, ItK.start hit, Nat.succ_ne_self _, Nat.ne_of_lt hal, Nat.ne_of_gt (Nat.lt_succ_of_lt hal)⟩, fun b hb => ?_, q⟩
    have e' : b = s1.heap.objs.size + 1 ∨ b = s1.heap.objs.size := by simpa using hb
    have hle : s1.heap.objs.size ≤ b := by
      rcases e' with z | z
      · rw [z]; exact Nat.le_add_right _ _
      · rw [z]; exact Nat.le_refl _
    exact I1.fpOk hle (I1.hok.fresh hle)
/-! ### zip of two, lists or tuples -/
def ItzK (b c : Bool) (K : PySem.W.Frag) (a1 a2 : Addr) : It :=
  ⟨fun i H => ∃ (xs ys : List V) (x y : V), SqK b K H a1 xs ∧ SqK c K H a2 ys ∧ xs[i]? = some x ∧ ys[i]? = some y,
    fun i H v H' => ∃ T x y, v = .ref T ∧ H T = none ∧ H' = upd H T (.tup [x, y]) ∧ (∀ xs, SqK b K H a1 xs → xs[i]? = some x) ∧ ∀ ys, SqK c K H a2 ys → ys[i]? = some y,
    fun i H => ∃ xs ys : List V, SqK b K H a1 xs ∧ SqK c K H a2 ys ∧ i ≤ xs.length ∧ i ≤ ys.length ∧ (xs.length = i ∨ ys.length = i)⟩
theorem turn_zipK {P : Program} {w : World} {K : PySem.W.Frag} {elts : List Expr} {kk : Nat} {tpos : Pos} (b c : Bool) {a1 a2 z TI TO i1 i2 : Addr} (S : ZipSep2 z TI TO i1 i2 [i1, a1] [i2, a2]) :
    Turn P w K (.Tuple elts kk tpos) (ItzK b c K a1 a2) [z, TI, TO, i1, i2] z (fun i h => IsZip h z TI TO .none ∧ IsTupOf2 h TI (.ref i1) (.ref i2) ∧ (∃ x y, IsTupOf2 h TO x y) ∧ ItK b h i1 a1 i ∧ ItK c h i2 a2 i ∧ a1 ≠ i1 ∧ a2 ≠ i2) where
  mem := by simp
  obj := fun i h st c' hc => by
    obtain ⟨hz, hTI, ⟨x, y, hTO⟩, h1, h2, _⟩ := st
    have e' : c' = z ∨ c' = TI ∨ c' = TO ∨ c' = i1 ∨ c' = i2 := by simpa using hc
    rcases e' with q | q | q | q | q
    · rw [q]; exact ⟨_, hz, fun v q => nomatch q⟩
    · rw [q]; exact ⟨_, hTI, fun v q => nomatch q⟩
    · rw [q]; exact ⟨_, hTO, fun v q => nomatch q⟩
    · rw [q]; exact h1.obj
    · rw [q]; exact h2.obj
  keep := fun i h h' st k => by
    obtain ⟨hz, hTI, ⟨x, y, hTO⟩, h1, h2, n1, n2⟩ := st
    exact ⟨k z (by simp) _ hz, k TI (by simp) _ hTI, ⟨x, y, k TO (by simp) _ hTO⟩, h1.at' fun o q => k i1 (by simp) o q, h2.at' fun o q => k i2 (by simp) o q, n1, n2⟩
  item := by
    intro X hP hw hK hc i pins s σ H E I hf st hg
    subst hP hw hK
    obtain ⟨hz, hTI, ⟨x0, y0, hTO⟩, h1, h2, n1, n2⟩ := st
    obtain ⟨xs, ys, x, y, hqx, hqy, hx, hy⟩ := hg
    obtain ⟨its, rv, p⟩ := invK I hqx
    obtain ⟨its2, rv2, p2⟩ := invK I hqy
    obtain ⟨u, hu, ru⟩ := rv.get hx
    obtain ⟨u2, hu2, ru2⟩ := rv2.get hy
    have hzl : z < s.heap.objs.size := Heap.lt_size hz
    have lt1 : i < its.toArray.size := by
      have := (List.getElem?_eq_some_iff.mp hu).1
      simpa using this
    have lt2 : i < its2.toArray.size := by
      have := (List.getElem?_eq_some_iff.mp hu2).1
      simpa using this
    refine wpAny_pyNext_zipD2_item S (drawsK (A := X.A.in1) b (I.ok.hd hc) i1 a1 n1 its.toArray) (drawsK (A := X.A.in1) c (I.ok.hd hc) i2 a2 n2 its2.toArray) hz hTI hTO ⟨h1, p⟩ ⟨h2, p2⟩ lt1 lt2 fun v1 v2 h' tk hv1 hv2 z' TO' st1' st2' hT hsz hk => ?_
    have e1 : v1 = u := by
      have h1 : its[i]? = some v1 := by simpa using hv1
      rw [hu] at h1
      exact (Option.some.inj h1).symm
    have e2 : v2 = u2 := by
      have h1 : its2[i]? = some v2 := by simpa using hv2
      rw [hu2] at h1
      exact (Option.some.inj h1).symm
    subst e1 e2
    refine ⟨_, rfl, wpAny_letOwnedTupleGo_zip (s := { s with heap := h', toks := tk }) z' fun h'' z'' sb => ?_⟩
    have hT2 : h''.get? s.heap.objs.size = some { cls := .type "tuple", data := .seq #[v1, v2] } := (sb.2 _ (Nat.ne_of_gt hzl)).trans hT
    have new : ObjOk X.prog X.w (upd H s.heap.objs.size (.tup [x, y])) h'' s.heap.objs.size (.tup [x, y]) :=
      ⟨by show 2 ≤ sizeLine; decide, [v1, v2], .cons ru (.cons ru2 .nil), ⟨_, hT2, rfl, _, rfl⟩⟩
    have I1 : Inv X pins σ (upd H s.heap.objs.size (.tup [x, y])) { s with heap := h'', toks := tk } :=
      I.turnedNew (ch := [z, TI, TO, i1, i2]) (fun c o hb q => (sb.2 c (fun q' => hb (by simp [q']))).trans (hk c o (fun q' => hb (by simp [q'])) (fun q' => hb (by simp [q'])) (fun q' => hb (by simp [q'])) (fun q' => hb (by simp [q'])) q)) hf (Nat.le_refl _) new
    have hi1l : i1 < s.heap.objs.size := by obtain ⟨_, q, _⟩ := h1.obj; exact Heap.lt_size q
    have hi2l : i2 < s.heap.objs.size := by obtain ⟨_, q, _⟩ := h2.obj; exact Heap.lt_size q
    have i1z : i1 ≠ z := fun q => S.zf1 (by rw [← q]; simp)
    have i2z : i2 ≠ z := fun q => S.zf2 (by rw [← q]; simp)
    refine ⟨.ref s.heap.objs.size, _, I1, rfl, ⟨_, x, y, rfl, I.hok.fresh (Nat.le_refl _), rfl, fun l hl => by rw [injK I hl hqx]; exact hx, fun l hl => by rw [injK I hl hqy]; exact hy⟩, ⟨z'', ?_, ⟨v1, v2, ?_⟩, ?_, ?_, n1, n2⟩, fun c hcm => ?_⟩
    · refine (sb.2 _ S.TIz).trans (hk _ _ S.TIz S.TITO S.TIi1 S.TIi2 hTI)
    · exact (sb.2 _ S.TOz).trans TO'
    · exact st1'.1.at' fun o q => (sb.2 _ i1z).trans q
    · exact st2'.1.at' fun o q => (sb.2 _ i2z).trans q
    · have hlt : c < s.heap.objs.size := by
        have e' : c = z ∨ c = TI ∨ c = TO ∨ c = i1 ∨ c = i2 := by simpa using hcm
        rcases e' with q | q | q | q | q
        · rw [q]; exact hzl
        · rw [q]; exact Heap.lt_size hTI
        · rw [q]; exact Heap.lt_size hTO
        · rw [q]; exact hi1l
        · rw [q]; exact hi2l
      rw [upd_ne (Nat.ne_of_lt hlt)]
      exact (hf c hcm).1
  done := by
    intro X hP hw hK hc i pins s σ H E I hf st hg
    subst hP hw hK
    obtain ⟨hz, hTI, ⟨x0, y0, hTO⟩, h1, h2, n1, n2⟩ := st
    obtain ⟨xs, ys, hqx, hqy, le1, le2, hend⟩ := hg
    obtain ⟨its, rv, p⟩ := invK I hqx
    obtain ⟨its2, rv2, p2⟩ := invK I hqy
    have l1 := rv.length
    have l2 := rv2.length
    exact wpAny_pyNext_zipD2_end S (drawsK (A := X.A.in1) b (I.ok.hd hc) i1 a1 n1 its.toArray) (drawsK (A := X.A.in1) c (I.ok.hd hc) i2 a2 n2 its2.toArray) hz hTI hTO ⟨h1, p⟩ ⟨h2, p2⟩ (by simp; omega) (by simp; omega) (by simp; omega) fun h' tk hk => ⟨rfl, I.turnedL (ch := [z, TI, TO, i1, i2]) (fun c o hb q =>
      hk c o (fun q' => hb (by simp [q'])) (fun q' => hb (by simp [q'])) (fun q' => hb (by simp [q'])) (fun q' => hb (by simp [q'])) q) hf⟩
  self := fun A i s Q E st h => wpAny_pyIter_zip st.1 h
def iZipK (b c : Bool) (K : PySem.W.Frag) (ta : TA) : TI := fun σ H R => ta σ H fun vs H1 => ∃ a1 a2 xs ys, vs = [.ref a1, .ref a2] ∧ SqK b K H1 a1 xs ∧ SqK c K H1 a2 ys ∧ R (ItzK b c K a1 a2) H1
theorem pi_zipK {X : Cx} {e e2 : Expr} {ta : TA} {p pos tpos : Pos} {elts : List Expr} {kk : Nat} (b c : Bool) (hg : Gl X "zip") (hm : X.mg "zip" = none) (ha : PA X [e, e2] ta)
    (hs : starEach [e, e2] X.env = (false, eval e X.env) :: starEach [e2] X.env := by rfl) (hpl : (backTo pos (starEach [e2] X.env)).any (·.1) = false := by rfl) :
    PI X (.Tuple elts kk tpos) (.Call (.Name "zip" p) [e, e2] [] pos) (iZipK b c X.K ta) := by
  refine ⟨fun pins s σ H R I h => ?_⟩
  refine Call_ (ld_blt I hg hm PyProof.Rows.boot_zip (PyProof.Rows.callWith_type1 (thn (ha.run pos pins s σ H _ I h) fun us s1 ⟨vs, H1, I1, r1, q1⟩ => ?_) hs hpl))
  obtain ⟨a1, a2, xs, ys, ex, hqx, hqy, q⟩ := q1
  subst ex
  cases r1 with
  | cons r rr =>
    cases rr with
    | cons r' rr =>
      cases rr
      cases r
      cases r'
      obtain ⟨its, rv, p1⟩ := invK I1 hqx
      obtain ⟨its2, rv2, p2⟩ := invK I1 hqy
      have l1 := p1.lt
      have l2 := p2.lt
      refine zip_begins2 (beginsK b a1 its.toArray) (beginsK c a2 its2.toArray) p1 p2 fun h' hz hTI hTO h1 h2 hsz hk => wpAny_pyIter_zip hz ?_
      have I2 : Inv X pins σ H1 { s1 with heap := h' } := I1.kept (t' := s1.toks) hk
      refine ⟨s1.heap.objs.size + 4, [s1.heap.objs.size + 4, s1.heap.objs.size + 2, s1.heap.objs.size + 3, s1.heap.objs.size, s1.heap.objs.size + 1], _, _, H1, rfl, I2, turn_zipK b c (zip_sep2 (fp1 := [a1]) (fp2 := [a2]) (by intro b hb; rw [List.mem_singleton.mp hb]; exact l1) (by intro b hb; rw [List.mem_singleton.mp hb]; exact l2)),
        ⟨hz, hTI, ⟨_, _, hTO⟩, ItK.start h1, ItK.start h2, Nat.ne_of_lt l1, Nat.ne_of_lt (Nat.lt_succ_of_lt l2)⟩, fun c hcm => ?_, q⟩
      have e' : c = s1.heap.objs.size + 4 ∨ c = s1.heap.objs.size + 2 ∨ c = s1.heap.objs.size + 3 ∨ c = s1.heap.objs.size ∨ c = s1.heap.objs.size + 1 := by simpa using hcm
      have hle : s1.heap.objs.size ≤ c := by
        rcases e' with z | z | z | z | z
        · rw [z]; exact Nat.le_add_right _ _
        · rw [z]; exact Nat.le_add_right _ _
        · rw [z]; exact Nat.le_add_right _ _
        · rw [z]; exact Nat.le_refl _
        · rw [z]; exact Nat.le_add_right _ _
      exact I1.fpOk hle (I1.hok.fresh hle)
end Kt
namespace Kt
open PySem PySem.Spec PyProof.Rows L2
open Evl (Ex Ev EvL EvU EvT EvA ex_l ex_t sq_of st_of sz_of sz_lt fresh_back given)
section
variable {prog : Program} {w : World} {A : Around} {E : Value → Shared → Prop} {s : Shared}
/-- where a slice begins, and where it ends, not ahead of it -/
def cutA (lo : Option Int) (n : Nat) : Nat := HT.sIx n 0 lo
def cutC (lo hi : Option Int) (n : Nat) : Nat := max (HT.sIx n 0 lo) (HT.sIx n n hi)
theorem setItem_cut {l b sl : Addr} {items new : Array Value} {n n2 : Nat} {vl vu : Value} {lo hi : Option Int} {Q : Unit → Shared → Prop}
    (e : s.heap.get? l = some { cls := .type "list", data := .seq items n }) (e2 : s.heap.get? b = some { cls := .type "list", data := .seq new n2 }) (hne : l ≠ b)
    (hs : s.heap.IsSliceOf sl vl vu .none) (pl : IsPart vl lo) (pu : IsPart vu hi) (hsz : items.size + new.size ≤ sizeLine)
    (h : Q () { s with heap := s.heap.update l (Obj.mapSeq fun xs => xs.extract 0 (cutA lo items.size) ++ new ++ xs.extract (cutC lo hi items.size) xs.size) }) :
    wpAny (model prog w) A (setItem (.ref l) (.ref sl) (.ref b)) Q E s := by
  obtain ⟨os, hos, hcs, hds⟩ := id hs
  have tL := (PySem.IsL.isList e).typeIs
  have tB := (PySem.IsL.isList e2).typeIs
  have tS : s.TypeIs (.ref sl) "slice" := ⟨os, hos, hcs⟩
  have same : Builtin.List.listSameRef (.ref l) (.ref b) = false := beq_eq_false_iff_ne.mpr hne
  have big : ((fun xs : Array Value => xs.extract 0 (cutA lo items.size) ++ new ++ xs.extract (cutC lo hi items.size) xs.size) items).size ≤ sizeLine + 1 := by
    have h1 := HT.sIx_le items.size 0 (Nat.zero_le _) lo
    simp only [Array.size_append, Array.size_extract, cutA, cutC]
    omega
  have bounds := slice_bounds lo hi items.size
  have step0 : ¬ ((rawPart none == rawInt 0) = true) := Bool.false_ne_true
  unfold setItem
  try with_reducible refine wpAny_holding ?_
  first | refine wpAny_bind (wpAny_pure ?_) | skip
  refine wpAny_bind (wpAny_sequenceKey tL (by decide) ?_)
  refine wpAny_bind (wpAny_callSpecial?_slot (name := Str.ofString "__setitem__") tL slot_list_setitem (wpAny_call_entry slot_list_setitem tL entry_list_setitem ?_ (args_list_setitem _ _ _)))
  refine wpAny_bind (m := Builtin.List.listSubscript? (.ref sl)) ?_
  unfold Builtin.List.listSubscript?
  refine wpAny_bind (wpAny_specialOf tS slice_no_index ?_)
  simp only [Option.isNone_none, if_true]
  refine wpAny_pure (wpAny_bind (m := typeOf (.ref sl)) (wpAny_typeOf tS ?_))
  first
    | rw [if_neg (by decide)]
    | refine PySem.W.KFB.if_not (by decide) ?_
  rw [listSliceParts_eq]
  refine wpAny_bind (wpAny_bind (wpAny_field hos hds (x := .none) rfl (wpAny_bind (wpAny_listPart .none ?_))))
  rw [if_neg step0]
  refine wpAny_bind (wpAny_field hos hds (x := vl) rfl (wpAny_bind (wpAny_listPart pl (wpAny_bind (wpAny_field hos hds (x := vu) rfl (wpAny_bind (wpAny_listPart pu (wpAny_pure ?_))))))))
  first
    | simp only [same, Bool.false_eq_true, if_false]
    | refine PySem.W.KFB.if_not same ?_
    | (dsimp only; rw [if_neg (by rw [same]; exact Bool.false_ne_true)])
  refine wpAny_bind (m := Builtin.List.listAllItems (.ref b) "must assign iterable to extended slice") ?_
  unfold Builtin.List.listAllItems
  refine wpAny_bind (wpAny_typeOf tB ?_)
  first
    | refine PySem.W.KFB.if_so (by decide) ?_
    | rw [if_pos (by decide)]
    | simp only [beq_self_eq_true, Bool.true_or, if_true]
  unfold Builtin.List.listItems
  refine wpAny_bind (wpAny_seqItems e2 rfl (wpAny_pure (wpAny_bind (wpAny_bind (wpAny_seqItems e rfl (wpAny_pure ?_))))))
  refine wpAny_bind (wpAny_of_eq (sliceIndices_raw lo hi none items.size (by simp)) ?_)
  have eb : sliceBounds lo hi none items.size = (((HT.sIx items.size 0 lo : Nat) : Int), ((HT.sIx items.size items.size hi : Nat) : Int), 1) := by
    apply Prod.ext
    · exact bounds.1
    · apply Prod.ext
      · exact bounds.2.1
      · exact bounds.2.2
  rw [eb]
  show wpAny _ _ (if ((1 : Int) == 1) = true then _ else _) _ _ s
  rw [if_pos (by decide)]
  refine wpAny_bind (wpAny_rule ?_)
  first
    | simp only [notLongL hsz, Bool.false_eq_true, if_false]
    | refine PySem.W.KFB.if_not (notLongL hsz) ?_
  first | refine wpAny_bind (wpAny_pure ?_) | skip
  have ea : ((HT.sIx items.size 0 lo : Nat) : Int).toNat = cutA lo items.size := Int.toNat_natCast _
  have ec : (max ((HT.sIx items.size 0 lo : Nat) : Int) ((HT.sIx items.size items.size hi : Nat) : Int)).toNat = cutC lo hi items.size := by
    unfold cutC
    omega
  show wpAny _ _ (updateSeq l (fun xs => xs.extract 0 (((HT.sIx items.size 0 lo : Nat) : Int)).toNat ++ new ++ xs.extract (max ((HT.sIx items.size 0 lo : Nat) : Int) ((HT.sIx items.size items.size hi : Nat) : Int)).toNat xs.size) >>= _) _ _ s
  rw [ea, ec]
  refine wpAny_bind (wpAny_updateSeq (hz := Nat.le_trans (Nat.le_add_right _ _) hsz) (_hz' := big) e rfl ?_)
  refine wpAny_bind (wpAny_letGo ?_)
  first
    | exact wpAny_bind (wpAny_pure (wpAny_pure ⟨.none, rfl, wpAny_pure h⟩))
    | exact wpAny_pure ⟨.none, rfl, wpAny_pure h⟩
end
theorem cut_eq (its ys : List Value) (a c : Nat) : (its.toArray.extract 0 a ++ ys.toArray ++ its.toArray.extract c its.toArray.size) = (its.take a ++ ys ++ its.drop c).toArray := splice_eq its ys a c
section
variable {X : Cx}
/-- xs[lo:hi] = another list -/
def gCut (to : TE) (tl th : TO) : TG := fun v σ H Q => to σ H fun x H1 => tl σ H1 fun lo H2 => th σ H2 fun hi H3 => ∃ l b xs ys, x = .ref l ∧ v = .ref b ∧ l ≠ b ∧ H3 l = some (.lst xs) ∧ H3 b = some (.lst ys) ∧ xs.length + ys.length ≤ sizeLine ∧
  Q σ (upd H3 l (.lst (xs.take (cutA lo xs.length) ++ ys ++ xs.drop (cutC lo hi xs.length))))
theorem pg_cut {o : Expr} {lo hi : Option Expr} {to : TE} {tl th : TO} {p2 pos : Pos} (ho : PE X o to) (hl : PO X lo tl) (hu : PO X hi th)
    (ha : ∀ v, assign (.Subscript o (.Slice lo hi none p2) pos) X.env v = (do
      let ov ← holding [v] (eval o X.env)
      let iv ← holding [v, ov] (eval (.Slice lo hi none p2) X.env)
      standAt pos
      holding [v, ov, iv] (setItem ov iv v)
      release [iv, v, ov] []) := by intro _; rfl) : PG X (.Subscript o (.Slice lo hi none p2) pos) (gCut to tl th) := by
  refine ⟨fun pins s σ H v u Q I r h => ?_⟩
  rw [ha]
  refine wpAny_bind (wpAny_holding (thn (ho.run pins s σ H _ I h) fun ov s1 ⟨x, H1, I1, r1, q1⟩ => ?_))
  refine wpAny_bind (wpAny_holding (wpAny_Slice (thn (hl.run pins s1 σ H1 _ I1 q1) fun vl s2 ⟨l, H2, I2, pl, q2⟩ => thn (hu.run pins s2 σ H2 _ I2 q2) fun vu s3 ⟨w', H3, I3, pu, q3⟩ =>
    thn (po_none.run pins s3 σ H3 (fun o H4 => o = none ∧ H4 = H3) I3 ⟨rfl, rfl⟩) fun vs s4 ⟨o', H4, I4, ps, eo, e4⟩ => ?_)))
  subst eo e4
  obtain ⟨a, b, xs, ys, rfl, rfl, hne, hA, hB, hz, q⟩ := q3
  cases r1
  cases r
  cases ps
  have I5 : Inv X pins σ H4 { s4 with heap := s4.heap.push { cls := .type "slice", data := .fields #[vl, vu, .none] } } := I4.kept (t' := s4.toks) fun b ob q => Heap.get?_push_of_some _ q
  obtain ⟨z, its, n, r, hl, e⟩ := I5.lstM hA
  obtain ⟨z2, its2, n2, r2, hl2, e2⟩ := I5.lstM hB
  refine wpAny_bind (wpAny_standAt (wpAny_bind (wpAny_holding ?_)))
  refine setItem_cut (s := { s4 with heap := s4.heap.push { cls := .type "slice", data := .fields #[vl, vu, .none] } }) e e2 hne (Heap.IsSliceOf.new _ vl vu .none) pl pu (by rw [List.size_toArray, List.size_toArray]; omega) ?_
  refine wpAny_release ⟨σ, _, I5.lset (its' := its.take (cutA l xs.length) ++ its2 ++ its.drop (cutC l w' xs.length)) (t' := s4.toks) hA e ?_ (Vals.append (Vals.append (r.take _) r2) (r.drop _)) ?_, q⟩
  · rw [List.size_toArray, hl]
    exact cut_eq its its2 _ _
  · have h1 := HT.sIx_le xs.length 0 (Nat.zero_le _) l
    rw [List.length_append, List.length_append, List.length_take, List.length_drop]
    simp only [cutA, cutC]
    omega
end
end Kt
namespace Kt
open PySem PySem.Spec PyProof.Rows L2 HT
open Evl (Ex Ev EvL EvU EvT EvA ex_l ex_t sq_of st_of sz_of sz_lt fresh_back given)
/-- what a slice with a step picks -/
def pickA {α : Type} (xs : List α) (lo hi : Option Int) (c : Int) : List α :=
  (List.range (Builtin.Slice.slicePlaces (Builtin.Slice.sliceAdjust lo hi c (xs.length : Int)).1 (Builtin.Slice.sliceAdjust lo hi c (xs.length : Int)).2 c)).filterMap fun (k : Nat) => xs[((Builtin.Slice.sliceAdjust lo hi c (xs.length : Int)).1 + (k : Int) * c).toNat]?
theorem pickA_map {α β : Type} (f : α → β) (xs : List α) (lo hi : Option Int) (c : Int) : pickA (xs.map f) lo hi c = (pickA xs lo hi c).map f := by
  unfold pickA
  rw [List.length_map, List.map_filterMap]
  congr 1
  funext k
  rw [List.getElem?_map]
theorem pickA_vals {xs : List V} {us : List Value} (r : Vals xs us) (lo hi : Option Int) (c : Int) : Vals (pickA xs lo hi c) (pickA us lo hi c) := by
  have hl : xs.length = us.length := r.length
  unfold pickA
  rw [hl]
  induction List.range (Builtin.Slice.slicePlaces (Builtin.Slice.sliceAdjust lo hi c (us.length : Int)).1 (Builtin.Slice.sliceAdjust lo hi c (us.length : Int)).2 c) with
  | nil => exact .nil
  | cons k ks ih =>
    rw [List.filterMap_cons, List.filterMap_cons]
    cases e : xs[((Builtin.Slice.sliceAdjust lo hi c (us.length : Int)).1 + (k : Int) * c).toNat]? with
    | none =>
      have e2 : us[((Builtin.Slice.sliceAdjust lo hi c (us.length : Int)).1 + (k : Int) * c).toNat]? = none := by
        rw [List.getElem?_eq_none_iff] at e ⊢
        omega
      rw [e2]
      exact ih
    | some x =>
      obtain ⟨u, hu, ru⟩ := r.get e
      rw [hu]
      exact .cons ru ih
section
variable {prog : Program} {w : World} {A : Around} {E : Value → Shared → Prop} {s : Shared}
theorem sliceApplied_step {sl : Addr} {vl vu vc : Value} {lo hi : Option Int} {c : Int} {n : Nat} {Q : Int × Int × Nat → Shared → Prop} (hs : s.heap.IsSliceOf sl vl vu vc) (pl : IsPart vl lo) (pu : IsPart vu hi) (pc : IsPart vc (some c)) (hc : c ≠ 0)
    (h : Q ((Builtin.Slice.sliceAdjust lo hi c (n : Int)).1, c, Builtin.Slice.slicePlaces (Builtin.Slice.sliceAdjust lo hi c (n : Int)).1 (Builtin.Slice.sliceAdjust lo hi c (n : Int)).2 c) s) : wpAny (model prog w) A (Builtin.Slice.sliceApplied (.ref sl) (pure (n : Int))) Q E s := by
  obtain ⟨os, hos, hcs, hds⟩ := id hs
  unfold Builtin.Slice.sliceApplied Builtin.Slice.sliceFields
  refine wpAny_bind (wpAny_bind (wpAny_field hos hds (x := vl) rfl (wpAny_bind (wpAny_field hos hds (x := vu) rfl (wpAny_bind (wpAny_field hos hds (x := vc) rfl (wpAny_pure ?_)))))))
  refine wpAny_bind (slicePart_ pc ?_)
  show wpAny _ _ (if (c == 0) = true then _ else _) _ _ s
  rw [if_neg (by simpa using hc)]
  exact wpAny_bind (slicePart_ pl (wpAny_bind (slicePart_ pu (wpAny_bind (wpAny_pure (wpAny_pure h))))))
theorem getItem_tuple_step {t sl : Addr} {items : List Value} {vl vu vc : Value} {lo hi : Option Int} {c : Int} {Q : Value → Shared → Prop} (ht : IsTup s.heap t items.toArray) (hs : s.heap.IsSliceOf sl vl vu vc) (pl : IsPart vl lo) (pu : IsPart vu hi) (pc : IsPart vc (some c)) (hc : c ≠ 0) (hc1 : c ≠ 1)
    (h : Q (.ref s.heap.objs.size) { s with heap := s.heap.push { cls := .type "tuple", data := .seq (pickA items lo hi c).toArray } }) (hz : (pickA items lo hi c).length ≤ sizeLine) : wpAny (model prog w) A (getItem (.ref t) (.ref sl)) Q E s := by
  obtain ⟨os, hos, hcs, hds⟩ := id hs
  have tS : s.TypeIs (.ref sl) "slice" := ⟨os, hos, hcs⟩
  unfold getItem
  try with_reducible refine wpAny_holding ?_
  first | refine wpAny_bind (wpAny_pure ?_) | skip
  refine wpAny_bind (wpAny_sequenceKey ht.typeIs (by decide) ?_)
  refine wpAny_bind (wpAny_callSpecial?_slot (name := Str.ofString "__getitem__") ht.typeIs PyProof.Rows.slot_tuple_getitem (wpAny_call_entry PyProof.Rows.slot_tuple_getitem ht.typeIs entry_tuple_getitem ?_ (args_tuple_getitem _ _)))
  refine wpAny_bind (m := Builtin.Tuple.tupleItemsOf (.ref t)) (tupleItemsOf_ ht ?_)
  refine wpAny_bind (wpAny_typeOf tS ?_)
  rw [if_pos (by decide)]
  refine wpAny_bind (sliceApplied_step hs pl pu pc hc ?_)
  have hno : ((Builtin.Slice.sliceAdjust lo hi c ((items.toArray.size : Nat) : Int)).1 == 0 && c == 1 && Builtin.Slice.slicePlaces (Builtin.Slice.sliceAdjust lo hi c ((items.toArray.size : Nat) : Int)).1 (Builtin.Slice.sliceAdjust lo hi c ((items.toArray.size : Nat) : Int)).2 c == items.toArray.size) = false := by
    rw [show (c == 1) = false by simpa using hc1, Bool.and_false, Bool.false_and]
  show wpAny _ _ (if ((Builtin.Slice.sliceAdjust lo hi c ((items.toArray.size : Nat) : Int)).1 == 0 && c == 1 && Builtin.Slice.slicePlaces (Builtin.Slice.sliceAdjust lo hi c ((items.toArray.size : Nat) : Int)).1 (Builtin.Slice.sliceAdjust lo hi c ((items.toArray.size : Nat) : Int)).2 c == items.toArray.size) = true then _ else _) _ _ s
  rw [if_neg (by rw [hno]; exact Bool.false_ne_true)]
  have ep : (List.filterMap (fun (k : Nat) => items.toArray[((Builtin.Slice.sliceAdjust lo hi c ((items.toArray.size : Nat) : Int)).1 + (k : Int) * c).toNat]?)
      (List.range (Builtin.Slice.slicePlaces (Builtin.Slice.sliceAdjust lo hi c ((items.toArray.size : Nat) : Int)).1 (Builtin.Slice.sliceAdjust lo hi c ((items.toArray.size : Nat) : Int)).2 c))).toArray = (pickA items lo hi c).toArray := by
    simp [pickA]
  have hz' : sizeOk (.seq (pickA items lo hi c).toArray) := by
    show (pickA items lo hi c).toArray.size ≤ sizeLine
    rw [List.size_toArray]
    exact hz
  rw [ep]
  first
    | exact wpAny_bind (m := Builtin.Tuple.tupleExact _) (wpAny_newObj_type (wpAny_pure ⟨_, rfl, wpAny_pure h⟩) hz')
    | exact wpAny_bind (m := Builtin.Tuple.tupleExact _) (wpAny_newObj_type (wpAny_bind (wpAny_pure (wpAny_pure ⟨_, rfl, wpAny_pure h⟩))) hz')
end
theorem pickA_len {α : Type} (xs : List α) (lo hi : Option Int) (c : Int) : (pickA xs lo hi c).length ≤ Builtin.Slice.slicePlaces (Builtin.Slice.sliceAdjust lo hi c (xs.length : Int)).1 (Builtin.Slice.sliceAdjust lo hi c (xs.length : Int)).2 c := by
  unfold pickA
  refine Nat.le_trans (List.length_filterMap_le _ _) ?_
  rw [List.length_range]
  exact Nat.le_refl _
section
variable {X : Cx}
/-- t[lo:hi:step], step not 0 and not 1 -/
def tStepT (K : PySem.W.Frag) (te : TE) (tl th tc : TO) : TE := fun σ H Q => te σ H fun x H1 => tl σ H1 fun lo H2 => th σ H2 fun hi H3 => tc σ H3 fun oc H4 => ∃ a xs c, x = .ref a ∧ oc = some c ∧ c ≠ 0 ∧ c ≠ 1 ∧ SqT K H4 a xs ∧ (pickA xs lo hi c).length ≤ sizeLine ∧
  ∀ p, H4 p = none → Q (.ref p) (upd H4 p (.tup (pickA xs lo hi c)))
theorem pe_stepT {e : Expr} {lo hi c : Option Expr} {te : TE} {tl th tc : TO} {p2 pos : Pos} (he : PE X e te) (hl : PO X lo tl) (hu : PO X hi th) (hc : PO X c tc)
    (hs : ∀ v sl, subscripted (.Slice lo hi c p2) false v sl = operate [v, sl] (getItem v sl) ∨ subscripted (.Slice lo hi c p2) false v sl = operate [sl, v] (getItem v sl) := by intro v sl; first | exact .inl (by with_unfolding_all rfl) | exact .inr (by with_unfolding_all rfl)) :
    PE X (.Subscript e (.Slice lo hi c p2) pos) (tStepT X.K te tl th tc) := by
  refine ⟨fun pins s σ H Q I h => ?_⟩
  refine Subscript_ (thn (he.run pins s σ H _ I h) fun v s1 ⟨x, H1, I1, r1, q1⟩ => ?_)
  refine wpAny_Slice (thn (hl.run pins s1 σ H1 _ I1 q1) fun vl s2 ⟨l, H2, I2, pl, q2⟩ => thn (hu.run pins s2 σ H2 _ I2 q2) fun vu s3 ⟨u, H3, I3, pu, q3⟩ => thn (hc.run pins s3 σ H3 _ I3 q3) fun vc s4 ⟨oc, H4, I4, pc, q4⟩ => ?_)
  obtain ⟨a, xs, c', rfl, rfl, h0, h1, hx, hz, q⟩ := q4
  cases r1
  have I5 : Inv X pins σ H4 { s4 with heap := s4.heap.push { cls := .type "slice", data := .fields #[vl, vu, vc] } } := I4.kept (t' := s4.toks) fun b ob q => Heap.get?_push_of_some _ q
  obtain ⟨its, r, ht, hz2⟩ := I5.tuple hx
  have rp := pickA_vals r l u c'
  have fin : wpAny (model X.prog X.w) X.A (getItem (.ref a) (.ref s4.heap.objs.size)) (EP X pins σ Q) X.xe { s4 with heap := s4.heap.push { cls := .type "slice", data := .fields #[vl, vu, vc] } } := by
    refine getItem_tuple_step (items := its) ht (Heap.IsSliceOf.new _ vl vu vc) pl pu pc h0 h1 ?_ (by rw [← rp.length]; exact hz)
    exact ⟨.ref _, _, I5.laid (t' := s4.toks) (o := .tup (pickA xs l u c')) (fun b ob q => Heap.get?_push_of_some _ q) (Nat.le_refl _) ⟨hz, _, rp, IsTup.new _ _⟩, rfl, q _ (I5.hok.fresh (Nat.le_refl _))⟩
  rcases hs (.ref a) (.ref s4.heap.objs.size) with e1 | e1
  · exact tail_any (ops := [.ref a, .ref s4.heap.objs.size]) ht.typeIs PyProof.Rows.slot_tuple_getitem.lookup fin e1
  · exact tail_any (ops := [.ref s4.heap.objs.size, .ref a]) ht.typeIs PyProof.Rows.slot_tuple_getitem.lookup fin e1
end
end Kt
namespace Kt
open PySem PySem.Spec PyProof.Rows L2
open Evl (Ex Ev EvL EvU EvT EvA ex_l ex_t sq_of st_of sz_of sz_lt fresh_back given)
/-- a def of the text that others call -/
structure De (P : Program) (w : World) (K : PySem.W.Frag) (mg : Str → Option Value) (base : Heap) (name : Str) (ps : List Str) (k : Nat) (sp : Sp) where
  f : Addr
  fd : FuncData
  ok : FnOk P w K mg base CX0 k f fd ps sp
  g : mg name = some (.ref f)
  kp : PySem.W.keepIn K (.ref f) = true
  b : Binds K fd ps []
def biNames : List Str := ["len", "range", "zip", "enumerate", "max", "min", "abs", "int", "list", "tuple", "isinstance", "repr", "sum", "any", "all", "sorted", "bool", "str", "reversed"]
/-- none of these names is the module's own -/
def Bis (mg : Str → Option Value) : Prop := ∀ x ∈ biNames, mg x = none
section
variable {K : PySem.W.Frag} {σ : L2.St} {H H' : Hp} {te : TE} {ta : TA} {tt : TT} {vs : List Nat} {a b : Addr} {xs ys : List V} {g : TG} {wi : TI} {n : Nat} {Y : Nat → Hp → V → Hp → Prop}
theorem walk_zipK {p q : Bool} {n : Nat} (hn : n = min xs.length ys.length) : Walk (ItzK p q K a b) n (fun H => SqK p K H a xs ∧ SqK q K H b ys) (YPair (fun i => xs[i]?) (fun i => ys[i]?)) := by
  subst hn
  refine ⟨fun i _ hi q => ?_, fun _ q => ⟨xs, ys, q.1, q.2, by omega, by omega, by omega⟩, fun i H v H' _ q y => ?_⟩
  · have h1 : i < xs.length := by omega
    have h2 : i < ys.length := by omega
    exact ⟨xs, ys, xs[i], ys[i], q.1, q.2, by simp [h1], by simp [h2]⟩
  · obtain ⟨T, x, z, h1, h2, h3, h4, h5⟩ := y
    exact ⟨T, x, z, h1, h2, h3, h4 xs q.1, h5 ys q.2⟩
theorem walk_enumK {p : Bool} {k₀ : Int} : Walk (IteK p K k₀ a) xs.length (fun H => SqK p K H a xs) (YPair (fun i => some (.int (k₀ + (i : Nat)))) (fun i => xs[i]?)) := by
  refine ⟨fun i _ hi q => ⟨xs, xs[i], q, by simp [hi]⟩, fun _ q => ⟨xs, q, rfl⟩, fun i H v H' _ q y => ?_⟩
  obtain ⟨T, x, h1, h2, h3, h4⟩ := y
  exact ⟨T, _, x, h1, h2, h3, rfl, h4 xs q⟩
/-- a list (false) or a tuple (true) of ints -/
def vK (p : Bool) (K : PySem.W.Frag) (ns : List Int) : VR := ⟨fun v H => ∃ a, v = .ref a ∧ SqK p K H a (ns.map V.int), fun e ⟨a, h1, h2⟩ => ⟨a, h1, ex_k e h2⟩⟩
theorem vP_K {ns : List Int} {v : V} : (vP K ns).R v H ↔ (vK true K ns).R v H := Iff.rfl
theorem vL_K {ns : List Int} {v : V} : (vL K ns).R v H ↔ (vK false K ns).R v H := Iff.rfl
theorem EvR.kP {ns : List Int} (h : EvR te σ H (vP K ns)) : EvR te σ H (vK true K ns) := h
theorem EvR.kL {ns : List Int} (h : EvR te σ H (vL K ns)) : EvR te σ H (vK false K ns) := h
theorem wk_zipK {p q : Bool} {as bs : List Int} (h : EvRs ta σ H [vK p K as, vK q K bs]) : Wk (iZipK p q K ta) σ H (min (as.map V.int).length (bs.map V.int).length) (YPair (fun i => (as.map V.int)[i]?) (fun i => (bs.map V.int)[i]?)) := fun H1 e R k =>
  h H1 e _ fun us H2 e2 ⟨_, _, h1, ⟨a, ha, hx⟩, ⟨_, _, h2, ⟨b, hb, hy⟩, h3⟩⟩ => by
    have h3' : _ = [] := h3
    subst ha hb h3' h2
    exact ⟨a, b, _, _, h1, hx, hy, k _ H2 _ e2 (walk_zipK rfl) fun H' e' => ⟨ex_k e' hx, ex_k e' hy⟩⟩
theorem wk_enumK {p : Bool} {as : List Int} (h : EvRs ta σ H [vK p K as]) : Wk (iEnumK p K ta) σ H (as.map V.int).length (YPair (fun i => some (.int ((0 : Int) + (i : Nat)))) (fun i => (as.map V.int)[i]?)) := fun H1 e R k =>
  h H1 e _ fun us H2 e2 ⟨_, _, h1, ⟨a, ha, hx⟩, h3⟩ => by
    have h3' : _ = [] := h3
    subst ha h3'
    exact ⟨a, _, h1, hx, k _ H2 _ e2 walk_enumK fun H' e' => ex_k e' hx⟩
theorem wk_tupR {tl : TE} {as : List Int} (h : EvR tl σ H (vP K as)) : Wk (iTup K tl) σ H (as.map V.int).length (YAt (as.map V.int)) := fun H1 e R k =>
  h H1 e _ fun v H2 e2 ⟨a, ha, hx⟩ => ⟨a, ha, ⟨_, hx⟩, k _ H2 _ e2 walk_tup fun H' e' => ex_t e' hx⟩
theorem wk_listR {tl : TE} {as : List Int} (h : EvR tl σ H (vL K as)) : Wk (iList K tl) σ H (as.map V.int).length (YAt (as.map V.int)) := fun H1 e R k =>
  h H1 e _ fun v H2 e2 ⟨a, ha, hx⟩ => ⟨a, ha, ⟨_, hx⟩, k _ H2 _ e2 walk_list fun H' e' => ex_l e' hx⟩
/-- comprehensions over ints, their elements by EvR -/
theorem er_mapI {ns : List Int} {j : Nat} (hw : Wk wi σ H (ns.map V.int).length (YAt (ns.map V.int))) (f : Int → Int) (hn : ns.length ≤ 50000) (hv : ∀ x, wipe ((wipe σ vs).set j (some x)) vs = wipe σ vs)
    (he : ∀ x ∈ ns, ∀ H1, Ex H H1 → EvR te ((wipe σ vs).set j (some (.int x))) H1 (vI (f x))) : EvR (tLc wi (gName j) tYes te vs) σ H (vL K (ns.map f)) :=
  evr_list (el_mapI hw f hn hv fun x hx H1 e => (he x hx H1 e).ev) rfl
theorem er_zipI {as bs : List Int} {j k : Nat} (hw : Wk wi σ H (min (as.map V.int).length (bs.map V.int).length) (YPair (fun i => (as.map V.int)[i]?) (fun i => (bs.map V.int)[i]?))) (f : Int → Int → Int) (hn : as.length ≤ 50000)
    (hv : ∀ x y, wipe (((wipe σ vs).set j (some x)).set k (some y)) vs = wipe σ vs)
    (he : ∀ x ∈ as, ∀ y ∈ bs, ∀ H1, Ex H H1 → EvR te (((wipe σ vs).set j (some (.int x))).set k (some (.int y))) H1 (vI (f x y))) : EvR (tLc wi (gTup K 2 (gCons (gName j) (gCons (gName k) gNil))) tYes te vs) σ H (vL K (List.zipWith f as bs)) :=
  evr_list (el_zipI hw f hn hv fun x hx y hy H1 e => (he x hx y hy H1 e).ev) rfl
theorem er_zipN {as bs : List Int} {j k : Nat} (hw : Wk wi σ H (min (as.map V.int).length (bs.map V.int).length) (YPair (fun i => (as.map V.int)[i]?) (fun i => (bs.map V.int)[i]?))) (f : Int → Int → Int) (hn : as.length ≤ 50000)
    (hv : ∀ x y, wipe (((wipe σ vs).set j (some x)).set k (some y)) vs = wipe σ vs)
    (he : ∀ x ∈ as, ∀ y ∈ bs, ∀ H1, Ex H H1 → EvR te (((wipe σ vs).set j (some (.int x))).set k (some (.int y))) H1 (vI (f x y))) : EvL (tLc wi (gTup K 2 (gCons (gName j) (gCons (gName k) gNil))) tYes te vs) σ H ((List.zipWith f as bs).map V.int) :=
  el_zipI hw f hn hv fun x hx y hy H1 e => (he x hx y hy H1 e).ev
theorem er_enumI {as : List Int} {j k : Nat} (hw : Wk wi σ H (as.map V.int).length (YPair (fun i => some (.int ((0 : Int) + (i : Nat)))) (fun i => (as.map V.int)[i]?))) (f : Nat → Int → Int) (hn : as.length ≤ 50000)
    (hv : ∀ x y, wipe (((wipe σ vs).set j (some x)).set k (some y)) vs = wipe σ vs)
    (he : ∀ (i : Nat) x, as[i]? = some x → ∀ H1, Ex H H1 → EvR te (((wipe σ vs).set j (some (.int (i : Int)))).set k (some (.int x))) H1 (vI (f i x))) : EvL (tLc wi (gTup K 2 (gCons (gName j) (gCons (gName k) gNil))) tYes te vs) σ H ((as.mapIdx f).map V.int) := by
  have z := el_comp (vs := vs) (g := gTup K 2 (gCons (gName j) (gCons (gName k) gNil))) (tt := tYes) (te := te) hw (fun _ => true) (fun i => .int (f i (as.getD i 0))) (by rw [List.length_map]; exact hn) (fun i v H1 H2 hi e y R q => by
    obtain ⟨T, x, y, rfl, hT, rfl, hx, hy⟩ := y
    rw [List.length_map] at hi
    have hyi : as[i]? = some as[i] := List.getElem?_eq_getElem hi
    have hx' : some (V.int ((0 : Int) + (i : Nat))) = some x := hx
    have hy' : (as.map V.int)[i]? = some y := hy
    rw [List.getElem?_map, hyi] at hy'
    have ex : V.int ((0 : Int) + (i : Nat)) = x := Option.some.inj hx'
    rw [Int.zero_add] at ex
    have ey : V.int as[i] = y := Option.some.inj hy'
    subst ex
    subst ey
    have eg2 : as.getD i 0 = as[i] := by simp [List.getD, hyi]
    refine ⟨T, _, rfl, st_of upd_same, rfl, _, _, rfl, _, _, rfl, rfl, q _ _ (hv _ _) (Ex.new hT) et_yes fun _ => ?_⟩
    show Ev te _ _ (.int (f i (as.getD i 0)))
    rw [eg2]
    exact (he i _ hyi _ (e.trans (Ex.new hT))).ev)
  rw [given_all] at z
  have el : (List.range (as.map V.int).length).map (fun i => V.int (f i (as.getD i 0))) = (as.mapIdx f).map V.int := by
    apply List.ext_getElem
    · simp
    · intro i h1 h2
      simp only [List.length_map, List.length_range] at h1
      simp [h1]
  rw [el] at z
  exact z
/-- slices -/
theorem evr_revL {as : List Int} (h : EvR te σ H (vL K as)) : EvR (tRevL K te) σ H (vL K as.reverse) := fun H1 e Q q =>
  h H1 e _ fun v H2 e2 ⟨a, ha, hx⟩ => ⟨a, _, ha, hx, fun p hp => q (.ref p) _ (e2.trans (Ex.new hp)) ⟨p, rfl, by
    rw [List.map_reverse]
    exact sq_of upd_same⟩⟩
theorem evr_lenR {rr : List V → Hp → VK → Prop} {p : Bool} {ns : List Int} (hrr : rr = fun xs H Q => ∃ p ys, xs = [.ref p] ∧ (SqL K H p ys ∨ SqT K H p ys) ∧ Q (.int ys.length) H) (h : EvR te σ H (vK p K ns)) : EvR (tCB rr (tCons te tNil)) σ H (vI (ns.length : Int)) := by
  cases p with
  | true => exact evr_cb (rs := [vP K ns]) (evrs_cons h evrs_nil) (cb_lenP hrr)
  | false => exact evr_cb (rs := [vL K ns]) (evrs_cons h evrs_nil) (cb_lenL hrr)
end
end Kt
namespace Kt
open PySem PySem.Spec PyProof.Rows L2
open Evl (Ex Ev EvL EvU EvT EvA EvO ex_l ex_t sq_of st_of sz_of sz_lt fresh_back given)
def cutI (ns : List Int) (lo hi : Option Int) : List Int := (ns.drop (HT.sIx ns.length 0 lo)).take (HT.sIx ns.length ns.length hi - HT.sIx ns.length 0 lo)
theorem cutI_map (ns : List Int) (lo hi : Option Int) : cutV (ns.map V.int) lo hi = (cutI ns lo hi).map V.int := by
  unfold cutV cutI
  rw [List.length_map, List.map_take, List.map_drop]
theorem cutI_to {ns : List Int} {m : Nat} (h : m ≤ ns.length) : cutI ns none (some (m : Int)) = ns.take m := by
  unfold cutI
  rw [HT.sIx_none, HT.sIx_nat, List.drop_zero, Nat.sub_zero, Nat.min_eq_left h]
theorem cutI_from {ns : List Int} {m : Nat} (h : m ≤ ns.length) : cutI ns (some (m : Int)) none = ns.drop m := by
  unfold cutI
  rw [HT.sIx_none, HT.sIx_nat, Nat.min_eq_left h]
  apply List.take_of_length_le
  rw [List.length_drop]
  omega
theorem cutI_len (ns : List Int) (lo hi : Option Int) : (cutI ns lo hi).length ≤ ns.length := by
  unfold cutI
  rw [List.length_take, List.length_drop]
  omega
section
variable {K : PySem.W.Frag} {σ : L2.St} {H H' : Hp} {te to tc : TE} {ta : TA} {tl th tn : TO} {lo hi : Option Int} {a b l : Addr} {xs ys : List V} {ns : List Int} {D : Ends} {tz : TS} {r : VR}
theorem eo_none : EvO tNoPart σ H none := fun H1 _ Q q => q H1 (Ex.refl H1)
theorem eo_some {i : Int} (h : EvR te σ H (vI i)) : EvO (tPart te) σ H (some i) := fun H1 e Q q => h H1 e _ fun v H2 e2 hv => ⟨i, hv, q H2 e2⟩
theorem el_slL (h : EvR te σ H (vL K ns)) (hl : EvO tl σ H lo) (hu : EvO th σ H hi) : EvL (tSl (rSlL K) te tl th) σ H ((cutI ns lo hi).map V.int) := fun H1 e Q q =>
  h H1 e _ fun v H2 e2 ⟨a, ha, hx⟩ => hl H2 (e.trans e2) _ fun H3 e3 => hu H3 ((e.trans e2).trans e3) _ fun H4 e4 =>
    ⟨a, _, ha, ex_l (e3.trans e4) hx, fun p hp => q p _ (fresh_back ((e2.trans e3).trans e4) hp) (((e2.trans e3).trans e4).trans (Ex.new hp)) (by
      rw [cutI_map]
      exact upd_same)⟩
theorem evr_slL (h : EvR te σ H (vL K ns)) (hl : EvO tl σ H lo) (hu : EvO th σ H hi) : EvR (tSl (rSlL K) te tl th) σ H (vL K (cutI ns lo hi)) := evr_list (el_slL h hl hu) rfl
theorem evr_slT (h : EvR te σ H (vP K ns)) (hl : EvO tl σ H lo) (hu : EvO th σ H hi) : EvR (tSl (rSlA K) te tl th) σ H (vP K (cutI ns lo hi)) := fun H1 e Q q =>
  h H1 e _ fun v H2 e2 ⟨a, ha, hx⟩ => hl H2 (e.trans e2) _ fun H3 e3 => hu H3 ((e.trans e2).trans e3) _ fun H4 e4 =>
    ⟨a, _, ha, ex_t (e3.trans e4) hx, fun hw => q (.ref a) H4 ((e2.trans e3).trans e4) ⟨a, rfl, by
        rw [List.length_map] at hw
        have ec : cutI ns lo hi = ns := by
          unfold cutI
          rw [hw.1, hw.2, List.drop_zero, Nat.sub_zero, List.take_length]
        rw [ec]
        exact ex_t (e3.trans e4) hx⟩,
      fun _ p hp => q (.ref p) _ (((e2.trans e3).trans e4).trans (Ex.new hp)) ⟨p, rfl, by
        rw [← cutI_map]
        exact st_of upd_same⟩⟩
theorem evr_stepT {c : Int} (h : EvR te σ H (vP K ns)) (hl : EvO tl σ H lo) (hu : EvO th σ H hi) (hc : EvO tn σ H (some c)) (h0 : c ≠ 0) (h1 : c ≠ 1) (hz : (pickA ns lo hi c).length ≤ 100000) : EvR (tStepT K te tl th tn) σ H (vP K (pickA ns lo hi c)) := fun H1 e Q q =>
  h H1 e _ fun v H2 e2 ⟨a, ha, hx⟩ => hl H2 (e.trans e2) _ fun H3 e3 => hu H3 ((e.trans e2).trans e3) _ fun H4 e4 => hc H4 (((e.trans e2).trans e3).trans e4) _ fun H5 e5 =>
    ⟨a, _, c, ha, rfl, h0, h1, ex_t ((e3.trans e4).trans e5) hx, sz_of (by rw [pickA_map, List.length_map]; exact hz), fun p hp => q (.ref p) _ ((((e2.trans e3).trans e4).trans e5).trans (Ex.new hp)) ⟨p, rfl, by
      rw [← pickA_map]
      exact st_of upd_same⟩⟩
theorem evr_tupleL {rr : List V → Hp → VK → Prop} (hrr : rr = fun xs H Q => ∃ p ys, xs = [.ref p] ∧ ((SqL K H p ys ∧ ∀ l, H l = none → Q (.ref l) (upd H l (.tup ys))) ∨ (SqT K H p ys ∧ Q (.ref p) H))) (h : EvR te σ H (vL K ns)) : EvR (tCB rr (tCons te tNil)) σ H (vP K ns) := fun H1 e Q q =>
  h H1 e _ fun v H2 e2 ⟨a, ha, hx⟩ => by
    subst hrr
    exact ⟨a, _, by rw [ha], .inl ⟨hx, fun p hp => q (.ref p) _ (e2.trans (Ex.new hp)) ⟨p, rfl, st_of upd_same⟩⟩⟩
theorem el_listK {p : Bool} {rr : List V → Hp → VK → Prop} (hrr : rr = fun xs H Q => ∃ p ys, xs = [.ref p] ∧ (SqL K H p ys ∨ SqT K H p ys) ∧ ∀ l, H l = none → Q (.ref l) (upd H l (.lst ys))) (h : EvR te σ H (vK p K ns)) : EvL (tCB rr (tCons te tNil)) σ H (ns.map V.int) := fun H1 e Q q =>
  h H1 e _ fun v H2 e2 ⟨a, ha, hx⟩ => by
    subst hrr
    refine ⟨a, _, by rw [ha], ?_, fun p hp => q p _ (fresh_back e2 hp) (e2.trans (Ex.new hp)) upd_same⟩
    cases p with
    | true => exact .inr hx
    | false => exact .inl hx
theorem el_dispI {rs : List Int} (h : EvRs ta σ H (rs.map vI)) (hl : rs.length ≤ 100000) : EvL (tLst ta) σ H (rs.map V.int) := fun H1 e Q q =>
  h H1 e _ fun vs H2 e2 hvs => by
    have hv : vs = rs.map V.int := hvs.ints
    subst hv
    exact ⟨sz_of (by rw [List.length_map]; exact hl), fun p hp => q p _ (fresh_back e2 hp) (e2.trans (Ex.new hp)) upd_same⟩
/-- a mutable list of ints at a name -/
theorem evr_mut {i : Nat} (h : σ[i]? = some (some (.ref l))) (hl : H l = some (.lst (ns.map V.int))) : EvR (tVar i) σ H (vL K ns) := evr_var h ⟨l, rfl, sq_of hl⟩
theorem qr_app {x : Int} (hl : H l = some (.lst (ns.map V.int))) (ha : Ev to σ H (.ref l)) (h : EvR te σ H (vI x)) (hz : ns.length < 100000) (k : ∀ H1, Ex H H1 → tz D σ (upd H1 l (.lst ((ns ++ [x]).map V.int)))) :
    tSeq (tDrop (tBM K "list" rAppend to (tCons te tNil))) tz D σ H := Evl.q_app hl ha h.ev (by rw [List.length_map]; exact hz) fun H1 e => by
  have z := k H1 e
  rw [List.map_append] at z
  exact z
theorem sr_pop (hl : H l = some (.lst (ns.map V.int))) (ha : Ev to σ H (.ref l)) (hz : ns ≠ []) (k : ∀ H1, Ex H H1 → D.nx σ (upd H1 l (.lst (ns.dropLast.map V.int)))) : tDrop (tBM0 K "list" rPop to) D σ H :=
  ha H (Ex.refl H) _ fun H1 e => ⟨.inl ⟨rfl, _, sq_of (e l _ hl)⟩, l, _, .int (ns.getLast hz), rfl, rfl, e l _ hl, by
    rw [List.length_map, List.getElem?_map, ← List.getLast?_eq_getElem?, List.getLast?_eq_some_getLast hz]
    rfl, by
    have z := k H1 e
    rw [List.map_dropLast] at z
    exact z⟩
theorem sr_cut {ms : List Int} (hl : H l = some (.lst (ns.map V.int))) (ho : ∀ H1, Ex H H1 → Ev to σ H1 (.ref l)) (hlo : ∀ H1, Ex H H1 → EvO tl σ H1 lo) (hhi : ∀ H1, Ex H H1 → EvO th σ H1 hi) (h : EvL te σ H (ms.map V.int)) (hz : ns.length + ms.length ≤ 100000)
    (k : ∀ H1, Ex H H1 → D.nx σ (upd H1 l (.lst ((ns.take (cutA lo ns.length) ++ ms ++ ns.drop (cutC lo hi ns.length)).map V.int)))) : tAsg te (gCut to tl th) D σ H :=
  h H (Ex.refl H) _ fun p H1 hp e1 h1 => ho H1 e1 H1 (Ex.refl H1) _ fun H2 e2 => hlo H2 (e1.trans e2) H2 (Ex.refl H2) _ fun H3 e3 => hhi H3 ((e1.trans e2).trans e3) H3 (Ex.refl H3) _ fun H4 e4 => by
    have e : Ex H H4 := ((e1.trans e2).trans e3).trans e4
    have z := k H4 e
    rw [List.map_append, List.map_append, List.map_take, List.map_drop] at z
    refine ⟨l, p, _, _, rfl, rfl, fun q => ?_, e l _ hl, e4 p _ (e3 p _ (e2 p _ h1)), sz_of (by rw [List.length_map, List.length_map]; exact hz), ?_⟩
    · rw [← q, hl] at hp
      cases hp
    · rw [List.length_map]
      exact z
end
theorem fm_congr {α β : Type} {f g : α → Option β} : ∀ {l : List α}, (∀ x ∈ l, f x = g x) → l.filterMap f = l.filterMap g
  | [], _ => rfl
  | x :: r, h => by
    rw [List.filterMap_cons, List.filterMap_cons, h x List.mem_cons_self, fm_congr fun y hy => h y (List.mem_cons_of_mem _ hy)]
theorem adj_rev (n : Nat) : Builtin.Slice.sliceAdjust none none (-1) (n : Int) = ((n : Int) - 1, -1) := by
  unfold Builtin.Slice.sliceAdjust
  simp
theorem places_rev (n : Nat) : Builtin.Slice.slicePlaces ((n : Int) - 1) (-1) (-1) = n := by
  unfold Builtin.Slice.slicePlaces
  simp
  split <;> omega
theorem pick_all' : ∀ (l : List Int) (m : Nat), (List.range' m l.length).filterMap (fun (k : Nat) => l[k - m]?) = l
  | [], _ => rfl
  | x :: r, m => by
    rw [List.length_cons, List.range'_succ, List.filterMap_cons]
    simp only [Nat.sub_self, List.getElem?_cons_zero]
    congr 1
    refine Eq.trans (fm_congr fun k hk => ?_) (pick_all' r (m + 1))
    have hk' : m + 1 ≤ k := by
      have := List.mem_range'.mp hk
      obtain ⟨i, _, e⟩ := this
      omega
    obtain ⟨j, rfl⟩ := Nat.exists_eq_add_of_le hk'
    have e1 : m + 1 + j - m = j + 1 := by omega
    have e2 : m + 1 + j - (m + 1) = j := by omega
    rw [e1, e2]
    exact List.getElem?_cons_succ
theorem pick_all (l : List Int) : (List.range l.length).filterMap (fun (k : Nat) => l[k]?) = l := by
  rw [List.range_eq_range']
  exact pick_all' l 0
theorem pickA_rev (ns : List Int) : pickA ns none none (-1) = ns.reverse := by
  unfold pickA
  rw [adj_rev, places_rev]
  have z := pick_all ns.reverse
  rw [List.length_reverse] at z
  refine Eq.trans (fm_congr fun k hk => ?_) z
  rw [List.mem_range] at hk
  rw [List.getElem?_reverse hk]
  congr 1
  show (((ns.length : Int) - 1) + (k : Int) * (-1)).toNat = _
  omega
end Kt
namespace K0
open PySem PySem.Spec PyProof.Rows L2 Kt
open Evl (Ex Ev EvL EvU EvT EvA EvO ex_l ex_t sq_of st_of sz_of sz_lt fresh_back)
def topS (i : Nat) : Stmt := PySem.Challenge.pw_slopewords_k17_errors_of_slopes.main.body.getD i (.Pass ⟨0, 0, 0, 0⟩)
def trim : List Int → List Int
  | [] => []
  | x :: r => match trim r with
    | [] => if x = 0 then [] else [x]
    | t :: ts => x :: t :: ts
theorem trim_all0 : ∀ {l : List Int}, (∀ x ∈ l, x = 0) → trim l = []
  | [], _ => rfl
  | x :: r, h => by
    have h1 := trim_all0 (l := r) fun y hy => h y (List.mem_cons_of_mem _ hy)
    have h2 := h x List.mem_cons_self
    simp [trim, h1, h2]
theorem trim_take : ∀ {l : List Int} {s : Nat}, s ≤ l.length → (∀ x ∈ l.drop s, x = 0) → (s = 0 ∨ l[s - 1]? ≠ some 0) → trim l = l.take s
  | l, 0, _, h, _ => by
    rw [List.take_zero]
    exact trim_all0 (by simpa using h)
  | [], s + 1, hs, _, _ => by simp at hs
  | x :: r, s + 1, hs, h, ht => by
    rcases ht with ht | ht
    · cases ht
    · cases s with
      | zero =>
        have h1 : trim r = [] := trim_all0 (by simpa using h)
        have hx : x ≠ 0 := by simpa using ht
        simp [trim, h1, hx]
      | succ s =>
        have ih := trim_take (l := r) (s := s + 1) (by simpa using hs) (by simpa using h) (Or.inr (by simpa using ht))
        rw [trim, ih, List.take_succ_cons]
        cases r with
        | nil => simp at hs
        | cons y r => simp
/-! ### what the defs are worth -/
def invFrom (p n : Int) : Nat → Int → Int
  | 0, _ => 0
  | m + 1, g => if g * n % p = 1 then g else invFrom p n m (g + 1)
def inv (p n : Int) : Int := invFrom p n (p - 1).toNat 1
def scale (p : Int) (ns : List Int) (f : Int) : List Int := if f = 1 then ns else trim (ns.map fun n => f * n % p)
def pad (ns : List Int) (k : Int) : List Int := ns ++ List.replicate k.toNat 0
def addScaled (p : Int) (xs ys : List Int) (f : Int) : List Int :=
  trim (List.zipWith (fun a b => (a + f * b) % p) (pad xs (max (xs.length : Int) ys.length - xs.length)) (pad ys (max (xs.length : Int) ys.length - ys.length)))
/-- ints below 2 ^ 60 in size -/
def Small (ns : List Int) : Prop := ∀ n ∈ ns, -(2 ^ 60) < n ∧ n < 2 ^ 60
structure G2 where
  p : Int
  n : Int
structure GS where
  p : Int
  ns : List Int
  f : Int
structure GA where
  p : Int
  xs : List Int
  ys : List Int
  f : Int
structure GP where
  p : Int
  xs : List Int
structure GQ where
  p : Int
  xs : List Int
  ys : List Int
section
variable {P : Program} {w : World} {K : PySem.W.Frag} {mg : Str → Option Value} {base : Heap}
def sp_trimmed (K : PySem.W.Frag) : Sp := Con (G := List Int) (fun ns => ns.length ≤ 100000) (fun ns => [vL K ns]) (fun ns => vP K (trim ns))
def sp_inverse (K : PySem.W.Frag) : Sp := Con (G := G2) (fun g => 0 < g.p ∧ g.p ≤ 100000) (fun g => [vI g.p, vI g.n]) (fun g => vI (inv g.p g.n))
def sp_scale (K : PySem.W.Frag) : Sp := Con (G := GS) (fun g => 0 < g.p ∧ g.ns.length ≤ 40000 ∧ Small g.ns) (fun g => [vI g.p, vP K g.ns, vI g.f]) (fun g => vP K (scale g.p g.ns g.f))
def sp_add_scaled (K : PySem.W.Frag) : Sp := Con (G := GA) (fun g => 0 < g.p ∧ g.xs.length ≤ 1000 ∧ g.ys.length ≤ 1000 ∧ Small g.xs ∧ Small g.ys) (fun g => [vI g.p, vP K g.xs, vP K g.ys, vI g.f]) (fun g => vP K (addScaled g.p g.xs g.ys g.f))
abbrev s_trimmed : Stmt := topS 11
abbrev N_trimmed : List Str := ["numbers", "size"]
theorem sc_trimmed : FnScope N_trimmed ["numbers"] (defScope s_trimmed) := ⟨rfl, rfl, rfl, by decide +kernel, rfl, by decide +kernel, by decide +kernel⟩
theorem ok_trimmed {f : Addr} {fd : FuncData} (F : Fun K "trimmed" "trimmed" s_trimmed f fd) (B : Bis mg)  : FnOk P w K mg base CX0 1 f fd ["numbers"] (sp_trimmed K) := by
  refine F.ok sc_trimmed (fun vs H Q E h => ?_) (fun cdv A outer s H vs Q E hr h => ?_)
  · obtain ⟨g, _, ha, _⟩ := h
    exact ha.len
  · obtain ⟨ns, hlen, ⟨_, _, rfl, ⟨a, rfl, hS⟩, rfl⟩, q⟩ := h
    dsimp only at *
    refine ⟨_, (pss_cons (ps_set (i := 1) sc_trimmed.nd rfl (Or.inl rfl) (pe_callB call_len_seq (by rfl) (B "len" (by decide +kernel)) (by decide +kernel) (pa_cons (pv 0) pa_nil)))
      (pss_cons (ps_while PassesOwn.never (PW.pt (pw_and (pt_truth (pv 1) (by intro _; rfl)) (pw_and1 (pt_cmpR op_eq (pe_ix ix_list (pv 0) (pe_op op_sub (pv 1) pe_int) (fun _ _ => rfl)) pe_int (nomark _))))) (pss_one (ps_aug (i := 1) sc_trimmed.nd rfl (Or.inl rfl) pe_int ip_sub)))
      (pss_one (ps_ret (pe_callTy call_tuple_of (by rfl) (B "tuple" (by decide +kernel)) (by decide +kernel) (pa_cons (pe_slice sl_list (pv 0) po_none (po_some (pv 1))) pa_nil)))))), ?_⟩
    refine ⟨.ref a, rfl, a, _, rfl, .inl hS, ?_⟩
    show tWhile _ _ _ _ _
    refine ⟨fun m σ H1 => m ≤ ns.length ∧ σ = [some (.ref a), some (.int (m : Int))] ∧ Ex H H1 ∧ ∀ x ∈ ns.drop m, x = 0, ⟨ns.length, Nat.le_refl _, by rw [List.length_map]; rfl, Ex.refl H, by simp⟩, fun m σ H1 hW => ?_⟩
    obtain ⟨hm, rfl, e1, hz⟩ := hW
    have fin : (m = 0 ∨ ns[m - 1]? ≠ some 0) → ∀ (H1 : Hp), Ex H H1 → tRet (tCB
                    (fun xs H_1 Q =>
                      ∃ p ys,
                        xs = [V.ref p] ∧
                          ((SqL K H_1 p ys ∧ ∀ (l : Addr), H_1 l = none → Q (V.ref l) (upd H_1 l (HO.tup ys))) ∨ SqT K H_1 p ys ∧ Q (V.ref p) H_1))
                    (tCons (tSl (rSlL K) (tVar 0) tNoPart (tPart (tVar 1))) tNil)) { nx := fun x H' => Q V.non H', rt := Q } [some (.ref a), some (.int (m : Int))] H1 := by
      intro hc H1 e1
      refine ⟨_, rfl, _, rfl, m, rfl, a, _, rfl, ex_l e1 hS, fun p np => ?_⟩
      refine ⟨p, _, rfl, .inl ⟨.inl (.inl upd_same), fun l nl => ?_⟩⟩
      refine q (.ref l) _ (e1.trans ((Ex.new np).trans (Ex.new nl))) ⟨l, rfl, st_of ?_⟩
      rw [trim_take hm hz hc, cutI_map, cutI_to hm]
      exact upd_same
    refine ⟨_, rfl, _, (by show _ = _; rfl), ?_⟩
    by_cases h0 : m = 0
    · subst h0
      refine iteF (iteF ?_)
      exact fin (.inl rfl) H1 e1
    · have hb : ((m : Int) != 0) = true := by simp [h0]
      rw [hb]
      refine iteT ⟨_, rfl, _, rfl, _, _, rfl, rfl, a, _, _, .int (ns[m - 1]'(by omega)), rfl, rfl, ex_l e1 hS, ?_, rfl, _, rfl, ?_⟩
      · have e : ((m : Int) - 1) = ((m - 1 : Nat) : Int) := by omega
        rw [e]
        exact atI_nat (by rw [List.getElem?_map, List.getElem?_eq_getElem]; rfl)
      · by_cases hz0 : ns[m - 1]'(by omega) = 0
        · rw [hz0]
          refine iteT ⟨fun σ' H' => σ' = [some (.ref a), some (.int ((m - 1 : Nat) : Int))] ∧ Ex H H', fun σ' H' hN => ⟨m - 1, by omega, by omega, hN.1, hN.2, ?_⟩, ?_⟩
          · intro x hx
            have : ns.drop (m - 1) = ns[m - 1]'(by omega) :: ns.drop m := by
              have e := List.drop_eq_getElem_cons (l := ns) (i := m - 1) (by omega)
              rwa [show m - 1 + 1 = m by omega] at e
            rw [this, List.mem_cons] at hx
            rcases hx with hx | hx
            · rw [hx, hz0]
            · exact hz x hx
          · refine ⟨_, rfl, _, _, rfl, rfl, ?_, e1⟩
            have e : ((m : Int) - 1) = ((m - 1 : Nat) : Int) := by omega
            show [some (V.ref a), some (V.int ((m : Int) - 1))] = _
            rw [e]
        · have hd : decide (V.int (ns[m - 1]'(by omega)) = V.int 0) = false := decide_eq_false fun z => hz0 (V.int.inj z)
          rw [hd]
          refine iteF ?_
          refine fin (.inr ?_) H1 e1
          rw [List.getElem?_eq_getElem (by omega)]
          exact fun z => hz0 (Option.some.inj z)
abbrev s_inverse : Stmt := topS 12
abbrev N_inverse : List Str := ["prime", "number", "guess"]
theorem sc_inverse : FnScope N_inverse ["prime", "number"] (defScope s_inverse) := ⟨rfl, rfl, rfl, by decide +kernel, rfl, by decide +kernel, by decide +kernel⟩
theorem ok_inverse {f : Addr} {fd : FuncData} (F : Fun K "inverse" "inverse" s_inverse f fd) (B : Bis mg)  : FnOk P w K mg base CX0 1 f fd ["prime", "number"] (sp_inverse K) := by
  refine F.ok sc_inverse (fun vs H Q E h => ?_) (fun cdv A outer s H vs Q E hr h => ?_)
  · obtain ⟨g, _, ha, _⟩ := h
    exact ha.len
  · obtain ⟨⟨p, n⟩, ⟨hp, hp2⟩, ⟨_, _, rfl, rfl, ⟨_, _, rfl, rfl, rfl⟩⟩, q⟩ := h
    dsimp only at *
    refine ⟨_, (pss_cons (ps_for PassesOwn.never rfl (pi_range2 (by rfl) (B "range" (by decide +kernel)) (pa_cons pe_int (pa_cons (pv 0) pa_nil))) (pg_name (i := 2) sc_inverse.nd rfl (Or.inl rfl)) (pss_one (ps_if (pt_cmpR op_eq (pe_op op_mod (pe_op op_mul (pv 2) (pv 1)) (pv 0)) pe_int (nomark _)) (pss_one (ps_ret (pv 2))) pss_nil)))
      (pss_one (ps_ret pe_int))), ?_⟩
    refine Evl.q_forR2 (lo := 1) (n := p) (Evl.ea_cons Evl.ev_c (Evl.ea_cons (Evl.ev_var rfl) Evl.ea_nil)) (by omega) (fun i σ H1 => (∃ x, σ = [some (.int p), some (.int n), x]) ∧ Ex H H1 ∧ invFrom p n ((p - 1).toNat - i) (1 + i) = inv p n)
      (fun H1 e => ⟨⟨_, rfl⟩, e, rfl⟩) (fun i σ H1 hi hW => ?_) (fun σ H1 hW => ?_)
    · obtain ⟨⟨x, rfl⟩, e, hI⟩ := hW
      have hm : (p - 1).toNat - i = ((p - 1).toNat - (i + 1)) + 1 := by omega
      rw [hm] at hI
      refine ⟨_, rfl, _, rfl, _, _, rfl, rfl, .inl (by omega), _, rfl, _, _, rfl, rfl, hp, rfl, _, rfl, ?_⟩
      refine ifD (fun hc => ⟨_, rfl, ?_⟩) (fun hc => ⟨⟨_, rfl⟩, e, ?_⟩)
      · rw [invFrom, if_pos (V.int.inj hc)] at hI
        show Q (.int (1 + (i : Int))) H1
        rw [hI]
        exact q _ H1 e rfl
      · rw [invFrom, if_neg (fun z => hc (congrArg V.int z))] at hI
        rw [← hI]
        congr 1
    · obtain ⟨⟨x, rfl⟩, e, hI⟩ := hW
      have z : (p - 1).toNat - (p - 1).toNat = 0 := by omega
      rw [z] at hI
      show Q (.int 0) H1
      have e0 : inv p n = 0 := hI.symm
      rw [← e0]
      exact q _ H1 e rfl
abbrev s_scale : Stmt := topS 13
abbrev N_scale : List Str := ["prime", "poly", "factor", "number"]
theorem sc_scale : FnScope N_scale ["prime", "poly", "factor"] (defScope s_scale) := ⟨rfl, rfl, rfl, by decide +kernel, rfl, by decide +kernel, by decide +kernel⟩
theorem ok_scale {f : Addr} {fd : FuncData} (F : Fun K "scale" "scale" s_scale f fd) (B : Bis mg) (D_trimmed : De P w K mg base "trimmed" ["numbers"] 1 (sp_trimmed K)) : FnOk P w K mg base CX0 2 f fd ["prime", "poly", "factor"] (sp_scale K) := by
  refine F.ok sc_scale (fun vs H Q E h => ?_) (fun cdv A outer s H vs Q E hr h => ?_)
  · obtain ⟨g, _, ha, _⟩ := h
    exact ha.len
  · obtain ⟨⟨p, ns, f⟩, ⟨hp, hlen, hsm⟩, ⟨_, _, rfl, rfl, vp, _, rfl, hS, _, _, rfl, rfl, rfl⟩, q⟩ := h
    dsimp only at *
    refine ⟨_, (pss_cons (ps_if (pt_cmpR op_eq (pv 2) pe_int (nomark _)) (pss_one (ps_ret (pv 1))) pss_nil)
      (pss_one (ps_ret (pe_call D_trimmed.ok (hr.mono (by decide)) (by rfl) D_trimmed.g D_trimmed.kp D_trimmed.b .nil pass0 (pa_cons (pe_lc (own := [("number", 3)]) (g := (gName 3)) (tt := tYes) rfl sc_scale.nd (pi_tup (pv 1)) (blkOk_by (own := [("number", 3)]) (N := N_scale) (sc := defScope s_scale) (by decide +kernel)) (fun _ _ _ _ _ => (pg_name (i := 3) sc_scale.nd rfl (Or.inl rfl))) (fun _ _ _ _ _ => pts_nil) (fun _ _ _ _ _ => (pe_op op_mod (pe_op op_mul (pv 2) (pv 3)) (pv 0)))) pa_nil))))), ?_⟩
    refine Evl.q_when (et_r (evr_op (evr_var rfl (r := vI f) rfl) evr_c (op_eqS rfl))) (fun hb H1 e1 => ?_) (fun hb H1 e1 => ?_)
    · refine sr_ret (evr_var rfl ((vP K ns).st e1 hS)) fun v H2 e2 hv => q v H2 (e1.trans e2) ?_
      show (vP K (scale p ns f)).R v H2
      rw [scale, if_pos (V.int.inj (of_decide_eq_true hb))]
      exact hv
    · have hf : ¬ f = 1 := fun z => of_decide_eq_false hb (congrArg V.int z)
      refine sr_ret (evr_call (ns.map fun n => f * n % p) (by rw [List.length_map]; show ns.length ≤ 100000; have : ns.length ≤ 40000 := hlen; omega) (evrs_cons (evr_list ?_ rfl) evrs_nil)) fun v H2 e2 hv => q v H2 (e1.trans e2) ?_
      · obtain ⟨a, rfl, hS⟩ := hS
        refine el_mapI (ns := ns) (f := fun n => f * n % p) (wk_tup (Evl.ev_var rfl) (ex_t e1 hS)) (by have : ns.length ≤ 40000 := hlen; omega) (fun x => rfl) ?_
        intro n hn H1 e
        have := hsm n hn
        exact Evl.ev_op (Evl.ev_op (Evl.ev_var rfl) (Evl.ev_var rfl) (Evl.rv_I (.inr (by omega)))) (Evl.ev_var rfl) (Evl.rv_I hp)
      · show (vP K (scale p ns f)).R v H2
        rw [scale, if_neg hf]
        exact hv
abbrev s_add_scaled : Stmt := topS 15
abbrev N_add_scaled : List Str := ["prime", "one", "other", "factor", "size", "left", "right", "number", "further"]
theorem sc_add_scaled : FnScope N_add_scaled ["prime", "one", "other", "factor"] (defScope s_add_scaled) := ⟨rfl, rfl, rfl, by decide +kernel, rfl, by decide +kernel, by decide +kernel⟩
theorem ok_add_scaled {f : Addr} {fd : FuncData} (F : Fun K "add_scaled" "add_scaled" s_add_scaled f fd) (B : Bis mg) (D_trimmed : De P w K mg base "trimmed" ["numbers"] 1 (sp_trimmed K)) : FnOk P w K mg base CX0 2 f fd ["prime", "one", "other", "factor"] (sp_add_scaled K) := by
  refine F.ok sc_add_scaled (fun vs H Q E h => ?_) (fun cdv A outer s H vs Q E hr h => ?_)
  · obtain ⟨g, _, ha, _⟩ := h
    exact ha.len
  · obtain ⟨⟨p, xs, ys, f⟩, ⟨hp, hl1, hl2, sm1, sm2⟩, ⟨_, _, rfl, rfl, ⟨_, _, rfl, hx, ⟨_, _, rfl, hy, ⟨_, _, rfl, rfl, rfl⟩⟩⟩⟩, q⟩ := h
    dsimp only at *
    refine ⟨_, (pss_cons (ps_set (i := 4) sc_add_scaled.nd rfl (Or.inl rfl) (pe_callB (call_max2 rfl) (by rfl) (B "max" (by decide +kernel)) (by decide +kernel) (pa_cons (pe_callB call_len_seq (by rfl) (B "len" (by decide +kernel)) (by decide +kernel) (pa_cons (pv 1) pa_nil)) (pa_cons (pe_callB call_len_seq (by rfl) (B "len" (by decide +kernel)) (by decide +kernel) (pa_cons (pv 2) pa_nil)) pa_nil))))
      (pss_cons (ps_set (i := 5) sc_add_scaled.nd rfl (Or.inl rfl) (pe_op op_catA (pv 1) (pe_op op_repA (pe_tup (pa_cons pe_int pa_nil)) (pe_op op_sub (pv 4) (pe_callB call_len_seq (by rfl) (B "len" (by decide +kernel)) (by decide +kernel) (pa_cons (pv 1) pa_nil))))))
      (pss_cons (ps_set (i := 6) sc_add_scaled.nd rfl (Or.inl rfl) (pe_op op_catA (pv 2) (pe_op op_repA (pe_tup (pa_cons pe_int pa_nil)) (pe_op op_sub (pv 4) (pe_callB call_len_seq (by rfl) (B "len" (by decide +kernel)) (by decide +kernel) (pa_cons (pv 2) pa_nil))))))
      (pss_one (ps_ret (pe_call D_trimmed.ok (hr.mono (by decide)) (by rfl) D_trimmed.g D_trimmed.kp D_trimmed.b .nil pass0 (pa_cons (pe_lc (own := [("number", 7), ("further", 8)]) (g := (gTup K 2 (gCons (gName 7) (gCons (gName 8) gNil)))) (tt := tYes) rfl sc_add_scaled.nd (pi_zipK true true (by rfl) (B "zip" (by decide +kernel)) (pa_cons (pv 5) (pa_cons (pv 6) pa_nil))) (blkOk_by (own := [("number", 7), ("further", 8)]) (N := N_add_scaled) (sc := defScope s_add_scaled) (by decide +kernel)) (fun _ _ _ _ _ => (pg_tup rfl (pgs_cons (pg_name (i := 7) sc_add_scaled.nd rfl (Or.inl rfl)) (pgs_cons (pg_name (i := 8) sc_add_scaled.nd rfl (Or.inl rfl)) pgs_nil)))) (fun _ _ _ _ _ => pts_nil) (fun _ _ _ _ _ => (pe_op op_mod (pe_op op_add (pv 7) (pe_op op_mul (pv 3) (pv 8))) (pv 0)))) pa_nil))))))), ?_⟩
    refine qr_asg (r := vI (max (xs.length : Int) ys.length)) (evr_cb (evrs_cons (evr_cb (evrs_cons (evr_var rfl hx) evrs_nil) (cb_lenP rfl)) (evrs_cons (evr_cb (evrs_cons (evr_var rfl hy) evrs_nil) (cb_lenP rfl)) evrs_nil)) (cb_max rfl)) fun v H1 e1 hv => ?_
    obtain rfl := hv
    replace hx := (vP K xs).st e1 hx
    replace hy := (vP K ys).st e1 hy
    refine qr_asg (r := vP K (pad xs (max (xs.length : Int) ys.length - xs.length))) (evr_op (evr_var rfl hx) (evr_op (evr_disp (ns := [0]) (evrs_cons evr_c evrs_nil) (by decide)) (evr_op (evr_var rfl rfl) (evr_cb (evrs_cons (evr_var rfl hx) evrs_nil) (cb_lenP rfl)) op_i0) (op_repP (by omega))) (op_catP (by rw [List.length_replicate]; omega))) fun v2 H2 e2 h2 => ?_
    replace hy := (vP K ys).st e2 hy
    refine qr_asg (r := vP K (pad ys (max (xs.length : Int) ys.length - ys.length))) (evr_op (evr_var rfl hy) (evr_op (evr_disp (ns := [0]) (evrs_cons evr_c evrs_nil) (by decide)) (evr_op (evr_var rfl rfl) (evr_cb (evrs_cons (evr_var rfl hy) evrs_nil) (cb_lenP rfl)) op_i0) (op_repP (by omega))) (op_catP (by rw [List.length_replicate]; omega))) fun v3 H3 e3 h3 => ?_
    replace h2 := (vP K _).st e3 h2
    refine sr_ret (evr_call (List.zipWith (fun a b => (a + f * b) % p) (pad xs (max (xs.length : Int) ys.length - xs.length)) (pad ys (max (xs.length : Int) ys.length - ys.length))) ?_ (evrs_cons (evr_list ?_ rfl) evrs_nil)) fun v H4 e4 hv => q v H4 (((e1.trans e2).trans e3).trans e4) hv
    · show (List.zipWith _ _ _).length ≤ 100000
      rw [List.length_zipWith, pad, pad, List.length_append, List.length_append, List.length_replicate, List.length_replicate]
      omega
    · refine er_zipN (wk_zipK (evrs_cons (EvR.kP (evr_var rfl h2)) (evrs_cons (EvR.kP (evr_var rfl h3)) evrs_nil))) (fun a b => (a + f * b) % p) ?_ (fun x y => rfl) ?_
      · rw [pad, List.length_append, List.length_replicate]
        omega
      · intro x hx y hy H5 e5
        have hyb : -(2 ^ 60) < y ∧ y < 2 ^ 60 := by
          rw [pad, List.mem_append] at hy
          rcases hy with hy | hy
          · exact sm2 y hy
          · rw [List.eq_of_mem_replicate hy]
            decide
        exact evr_op (evr_op (evr_var rfl rfl) (evr_op (evr_var rfl rfl) (evr_var rfl rfl) (op_i (.inr (by omega)))) op_i0) (evr_var rfl rfl) (op_i hp)
end
end K0
namespace K0
open PySem PySem.Spec PyProof.Rows L2 Kt
def asL : List Addr := [3, 6, 4, 21, 22, 29, 36, 43, 50, 55, 62, 67, 74, 79, 84, 91, 96, 101, 106, 113, 118, 125, 132, 139, 146, 153, 158, 163, 170, 175, 180, 185, 190, 195, 205, 218, 230, 242, 254, 273, 277, 284, 291, 296, 472, 483, 490, 497, 504, 511, 518, 525, 532, 539, 546, 551, 556, 561, 568, 575, 580, 587, 594, 601, 608, 613, 621, 628, 635, 642, 649, 656, 823, 834, 839, 846, 851, 856, 861, 868, 875, 882, 889, 896, 903, 910, 917, 0, 20, 28, 35, 42, 49, 54, 61, 66, 73, 78, 83, 90, 95, 100, 105, 112, 117, 124, 131, 138, 145, 152, 157, 162, 169, 174, 179, 184, 189, 194, 204, 217, 229, 241, 253, 272, 283, 290, 295, 471, 482, 489, 496, 503, 510, 517, 524, 531, 538, 545, 550, 555, 560, 567, 574, 579, 586, 593, 600, 607, 612, 620, 614, 627, 634, 641, 648, 655, 822, 833, 838, 845, 850, 855, 860, 867, 874, 881, 888, 895, 902, 909, 916, 15, 16, 17, 18, 19, 23, 24, 25, 26, 27, 30, 31, 32, 33, 34, 37, 38, 39, 40, 41, 44, 45, 46, 47, 48, 51, 52, 53, 56, 57, 58, 59, 60, 63, 64, 65, 68, 69, 70, 71, 72, 75, 76, 77, 80, 81, 82, 85, 86, 87, 88, 89, 92, 93, 94, 97, 98, 99, 102, 103, 104, 107, 108, 109, 110, 111, 114, 115, 116, 119, 120, 121, 122, 123, 126, 127, 128, 129, 130, 133, 134, 135, 136, 137, 140, 141, 142, 143, 144, 147, 148, 149, 150, 151, 154, 155, 156, 159, 160, 161, 164, 165, 166, 167, 168, 171, 172, 173, 176, 177, 178, 181, 182, 183, 186, 187, 188, 191, 192, 193, 203, 206, 216, 228, 240, 252, 270, 271, 274, 278, 279, 280, 281, 282, 285, 286, 287, 288, 289, 292, 293, 294, 310, 319, 329, 339, 348, 356, 364, 372, 380, 385, 392, 399, 406, 413, 420, 427, 434, 441, 448, 455, 462, 469, 470, 473, 474, 477, 478, 479, 480, 481, 484, 485, 486, 487, 488, 491, 492, 493, 494, 495, 498, 499, 500, 501, 502, 505, 506, 507, 508, 509, 512, 513, 514, 515, 516, 519, 520, 521, 522, 523, 526, 527, 528, 529, 530, 533, 534, 535, 536, 537, 540, 541, 542, 543, 544, 547, 548, 549, 552, 553, 554, 557, 558, 559, 562, 563, 564, 565, 566, 569, 570, 571, 572, 573, 576, 577, 578, 581, 582, 583, 584, 585, 588, 589, 590, 591, 592, 595, 596, 597, 598, 599, 602, 603, 604, 605, 606, 609, 610, 611, 615, 616, 617, 618, 619, 622, 623, 624, 625, 626, 629, 630, 631, 632, 633, 636, 637, 638, 639, 640, 643, 644, 645, 646, 647, 650, 651, 652, 653, 654, 668, 677, 687, 697, 706, 714, 722, 730, 737, 744, 751, 756, 763, 768, 775, 780, 787, 794, 801, 808, 815, 820, 821, 824, 825, 828, 829, 830, 831, 832, 835, 836, 837, 840, 841, 842, 843, 844, 847, 848, 849, 852, 853, 854, 857, 858, 859, 862, 863, 864, 865, 866, 869, 870, 871, 872, 873, 876, 877, 878, 879, 880, 883, 884, 885, 886, 887, 890, 891, 892, 893, 894, 897, 898, 899, 900, 901, 904, 905, 906, 907, 908, 911, 912, 913, 914, 915, 269, 309, 317, 318, 327, 328, 337, 338, 347, 355, 363, 371, 379, 373, 384, 391, 398, 405, 412, 419, 426, 433, 440, 447, 454, 461, 468, 667, 675, 676, 685, 686, 695, 696, 705, 713, 721, 729, 736, 743, 750, 755, 762, 767, 774, 779, 786, 793, 800, 807, 814, 819, 264, 265, 266, 267, 268, 304, 305, 306, 307, 308, 316, 320, 326, 330, 336, 340, 346, 354, 362, 370, 374, 375, 376, 377, 378, 381, 382, 383, 386, 387, 388, 389, 390, 393, 394, 395, 396, 397, 400, 401, 402, 403, 404, 407, 408, 409, 410, 411, 414, 415, 416, 417, 418, 421, 422, 423, 424, 425, 428, 429, 430, 431, 432, 435, 436, 437, 438, 439, 442, 443, 444, 445, 446, 449, 450, 451, 452, 453, 456, 457, 458, 459, 460, 463, 464, 465, 466, 467, 664, 665, 666, 674, 678, 684, 688, 694, 698, 704, 712, 720, 728, 731, 732, 733, 734, 735, 738, 739, 740, 741, 742, 745, 746, 747, 748, 749, 752, 753, 754, 757, 758, 759, 760, 761, 764, 765, 766, 769, 770, 771, 772, 773, 776, 777, 778, 781, 782, 783, 784, 785, 788, 789, 790, 791, 792, 795, 796, 797, 798, 799, 802, 803, 804, 805, 806, 809, 810, 811, 812, 813, 816, 817, 818, 311, 312, 313, 314, 315, 321, 322, 323, 324, 325, 331, 332, 333, 334, 335, 341, 342, 343, 344, 345, 349, 350, 351, 352, 353, 357, 358, 359, 360, 361, 365, 366, 367, 368, 369, 669, 670, 671, 672, 673, 679, 680, 681, 682, 683, 689, 690, 691, 692, 693, 699, 700, 701, 702, 703, 707, 708, 709, 710, 711, 715, 716, 717, 718, 719, 723, 724, 725, 726, 727, 2]
/-! ### a hook: defs at any address in two rows, tables of code objects, and more -/
abbrev AlB : Type := He.AlD × ((He.AlD × Bool) × He.AlD)
def obB1 (fn : List He5.DefA) (K : PySem.W.Frag) : He.AlD := He5.obsA [] fn K
def obB3 (fa : List He.Fa) (K : PySem.W.Frag) : He.AlD := He5.obsA fa [] K
def obB2 (fn : List He5.DefA) (ex : PySem.W.Frag → Bool) (tf : List He.Defn) (g : Addr → Option Obj) (K : PySem.W.Frag) : He.AlD × Bool := (He5.obsA [] fn K, ex K && He.tabsB g tf K)
def obsB (fa : List He.Fa) (fn1 fn2 : List He5.DefA) (ex : PySem.W.Frag → Bool) (tf : List He.Defn) (g : Addr → Option Obj) : AlB := (obB1 fn1 (He.frT g asL), (obB2 fn2 ex tf g (He.frT g asL), obB3 fa (He.frT g asL)))
structure SaysB (fa : List He.Fa) (fn1 fn2 : List He5.DefA) (ex : PySem.W.Frag → Bool) (tf : List He.Defn) (h : Heap) (K : PySem.W.Frag) : Prop where
  d1 : He5.SaysA [] fn1 K
  d2 : He5.SaysA [] fn2 K
  more : ex K = true
  fa : He5.SaysA fa [] K
  hd : ∀ p ∈ tf, PySem.W.codeHdIn K (He.cT K p).1 (He.cT K p).2 = true
  out : ∀ p ∈ tf, K.lookup (He.cT K p).2 = none
  empty : ∀ p ∈ tf, h.get? (He.cT K p).2 = some { cls := .none, data := .fields #[] }
theorem saysB_of {fa : List He.Fa} {fn1 fn2 : List He5.DefA} {ex : PySem.W.Frag → Bool} {tf : List He.Defn} {h : Heap} (e : obsB fa fn1 fn2 ex tf h.get? = (He5.valA fn1, ((He5.valA fn2, true), He5.valA []))) : SaysB fa fn1 fn2 ex tf h (He.frT h.get? asL) := by
  have e2 : (ex (He.frT h.get? asL) && He.tabsB h.get? tf (He.frT h.get? asL)) = true := congrArg (fun z : AlB => z.2.1.2) e
  obtain ⟨h1, h2⟩ := He.ba e2
  have key : ∀ p ∈ tf, PySem.W.codeHdIn (He.frT h.get? asL) (He.cT (He.frT h.get? asL) p).1 (He.cT (He.frT h.get? asL) p).2 = true ∧ ∃ o, h.get? (He.cT (He.frT h.get? asL) p).2 = some o ∧ He.emptyTab o = true := fun p hp => by
    obtain ⟨h3, h4⟩ := He.ba (List.all_eq_true.mp h2 p hp)
    refine ⟨h3, ?_⟩
    cases q : h.get? (He.cT (He.frT h.get? asL) p).2 with
    | none =>
      rw [q] at h4
      cases h4
    | some o =>
      rw [q] at h4
      exact ⟨o, rfl, h4⟩
  exact ⟨congrArg (fun z : AlB => z.1) e, congrArg (fun z : AlB => z.2.1.1) e, h1, congrArg (fun z : AlB => z.2.2) e, fun p hp => (key p hp).1, fun p hp => by
    obtain ⟨_, o, q, z⟩ := key p hp
    exact He.frT_none q z, fun p hp => by
    obtain ⟨_, o, q, z⟩ := key p hp
    rw [q, He.emptyTab_eq z]⟩
def hookB (fa : List He.Fa) (fn1 fn2 : List He5.DefA) (ex : PySem.W.Frag → Bool) (tf : List He.Defn) : PySem.W.Hook where
  α := AlB
  obs := fun s => obsB fa fn1 fn2 ex tf s.heap.get?
  val := fun _ => (He5.valA fn1, ((He5.valA fn2, true), He5.valA []))
  says := fun _ h => ∃ K : PySem.W.Frag, K.In h ∧ SaysB fa fn1 fn2 ex tf h K
  of := fun _ _ e => ⟨_, He.frT_in, saysB_of e⟩
  keeps := fun _ _ _ ⟨K, hK, c⟩ k => ⟨K, PySem.W.Frag.In.keeps hK k, ⟨c.d1, c.d2, c.more, c.fa, c.hd, c.out, fun p hp => k _ _ (c.empty p hp)⟩⟩
theorem obsB_eq {fa : List He.Fa} {fn1 fn2 : List He5.DefA} {ex : PySem.W.Frag → Bool} {tf : List He.Defn} {g : Addr → Option Obj} {s : Shared} (h : ∀ a, g a = s.heap.get? a) : obsB fa fn1 fn2 ex tf g = (hookB fa fn1 fn2 ex tf).obs s := by
  have e : g = s.heap.get? := funext h
  rw [e] <;> rfl
/-! ### the head: what the top leaves -/
def fC (K : PySem.W.Frag) : Addr := He.ga K "Function"
def oC (K : PySem.W.Frag) : Addr := He.ga K "Operator"
def cP (K : PySem.W.Frag) : Addr := He.ga K "InvalidPoly"
def cF (K : PySem.W.Frag) : Addr := He.ga K "InvalidFunction"
def cO (K : PySem.W.Frag) : Addr := He.ga K "InvalidOperation"
def cN (K : PySem.W.Frag) : Addr := He.ga K "InvalidNumber"
def tfAll : List He.Defn := [("_law_functions_right", none), ("_law_polys_right", none)]
abbrev bmV' : List Value := [.type "ValueError", .type "Exception", .type "BaseException", .type "object"]
abbrev bmI' : List Value := [.type "IndexError", .type "LookupError", .type "Exception", .type "BaseException", .type "object"]
/-- own classes, then the built-in ones (as kx has it) -/
def overB (t : List Value) : List Value → Bool
  | .ref c :: r => overB t r
  | l => l == t
def exgB (K : PySem.W.Frag) (C : Addr) : Bool := match K.lookup C with
  | some ⟨.type c, _, .cls cd, sl⟩ => decide (c = "type") && ((match cd.mro with
    | .ref C' :: bm => decide (C' = C) && overB bmI' bm
    | _ => false) && (cd.hasDict && (!cd.hasDel && (match sl.toList with
    | [_, _, _, _, some (.builtin n), _] => decide (n = "IndexError.__new__")
    | _ => false))))
  | _ => false
def rzL (K : PySem.W.Frag) (C : Addr) : List Bool := [PySem.W.excIn K C bmV' "ValueError.__new__", PySem.W.keepIn K (.ref C), decide (PySem.W.subIn K (.ref C) (.type "BaseException") = some true), decide (PySem.W.typeIn K (.ref C) = some (.type "type"))]
def rnL (K : PySem.W.Frag) (C : Addr) : List Bool := [exgB K C, decide (PySem.W.findIn K (.ref C) "__setattr__" = some (some (.builtin "object.__setattr__"))), decide (PySem.W.subIn K (.ref C) (.type "BaseException") = some true), decide (PySem.W.typeIn K (.ref C) = some (.type "type")), PySem.W.keepIn K (.ref C),
  decide (PySem.W.findIn K (.ref C) "__init__" = some (some (.ref (He.ma K C "__init__")))), decide (PySem.W.typeIn K (.ref (He.ma K C "__init__")) = some (.type "function")), L2.xfB K C, decide (PySem.W.findIn K (.ref C) "given" = some none)]
def exmL (K : PySem.W.Frag) : List Bool := [decide (PySem.W.exmOne K (.ref (cP K)) (.ref (cP K)) = some true), decide (PySem.W.exmOne K (.ref (cP K)) (.ref (cF K)) = some false), decide (PySem.W.exmOne K (.ref (cF K)) (.ref (cF K)) = some true), decide (PySem.W.exmOne K (.ref (cO K)) (.ref (cP K)) = some false), decide (PySem.W.exmOne K (.ref (cO K)) (.ref (cF K)) = some false), decide (PySem.W.exmOne K (.ref (cO K)) (.ref (cO K)) = some true), decide (PySem.W.exmOne K (.ref (cN K)) (.ref (cP K)) = some false), decide (PySem.W.exmOne K (.ref (cN K)) (.ref (cF K)) = some false), decide (PySem.W.exmOne K (.ref (cN K)) (.ref (cO K)) = some false), decide (PySem.W.exmOne K (.ref (cN K)) (.ref (cN K)) = some true)]
def nofL (K : PySem.W.Frag) (C : Addr) : List Bool := [["NoneType", "bool", "int", "str", "list", "tuple", "dict"].all fun m => decide (PySem.W.kitOne K (.type m) (.ref C) = some false), decide (PySem.W.kitOne K (.ref C) (.type "tuple") = some false)]
def tabD (K : PySem.W.Frag) : List Bool := [decide ((He.cT K ("_law_functions_right", none)).2 ≠ (He.cT K ("_law_polys_right", none)).2)]
def d_is_integer : He5.DefA := ⟨fun K => He.ga K "is_integer", "is_integer", "is_integer", defArgs (topS 9), defBody (topS 9), defScope (topS 9), [], []⟩
def d_is_within : He5.DefA := ⟨fun K => He.ga K "is_within", "is_within", "is_within", defArgs (topS 10), defBody (topS 10), defScope (topS 10), [], []⟩
def d_trimmed : He5.DefA := ⟨fun K => He.ga K "trimmed", "trimmed", "trimmed", defArgs (topS 11), defBody (topS 11), defScope (topS 11), [], []⟩
def d_inverse : He5.DefA := ⟨fun K => He.ga K "inverse", "inverse", "inverse", defArgs (topS 12), defBody (topS 12), defScope (topS 12), [], []⟩
def d_scale : He5.DefA := ⟨fun K => He.ga K "scale", "scale", "scale", defArgs (topS 13), defBody (topS 13), defScope (topS 13), [], []⟩
def d_make_monic : He5.DefA := ⟨fun K => He.ga K "make_monic", "make_monic", "make_monic", defArgs (topS 14), defBody (topS 14), defScope (topS 14), [], []⟩
def d_add_scaled : He5.DefA := ⟨fun K => He.ga K "add_scaled", "add_scaled", "add_scaled", defArgs (topS 15), defBody (topS 15), defScope (topS 15), [], []⟩
def d_multiply : He5.DefA := ⟨fun K => He.ga K "multiply", "multiply", "multiply", defArgs (topS 16), defBody (topS 16), defScope (topS 16), [], []⟩
def d_multiply_short : He5.DefA := ⟨fun K => He.ga K "multiply_short", "multiply_short", "multiply_short", defArgs (topS 17), defBody (topS 17), defScope (topS 17), [], []⟩
def d_multiply_long : He5.DefA := ⟨fun K => He.ga K "multiply_long", "multiply_long", "multiply_long", defArgs (topS 18), defBody (topS 18), defScope (topS 18), [], []⟩
def d_block_sum : He5.DefA := ⟨fun K => He.ga K "block_sum", "block_sum", "block_sum", defArgs (topS 19), defBody (topS 19), defScope (topS 19), [], []⟩
def d_packed : He5.DefA := ⟨fun K => He.ga K "packed", "packed", "packed", defArgs (topS 20), defBody (topS 20), defScope (topS 20), [], []⟩
def d_unpacked : He5.DefA := ⟨fun K => He.ga K "unpacked", "unpacked", "unpacked", defArgs (topS 21), defBody (topS 21), defScope (topS 21), [], []⟩
def d_divide : He5.DefA := ⟨fun K => He.ga K "divide", "divide", "divide", defArgs (topS 22), defBody (topS 22), defScope (topS 22), [], []⟩
def d_first_digits : He5.DefA := ⟨fun K => He.ga K "first_digits", "first_digits", "first_digits", defArgs (topS 23), defBody (topS 23), defScope (topS 23), [], []⟩
def d_divide_short : He5.DefA := ⟨fun K => He.ga K "divide_short", "divide_short", "divide_short", defArgs (topS 24), defBody (topS 24), defScope (topS 24), [], []⟩
def d_quotient_of : He5.DefA := ⟨fun K => He.ga K "quotient_of", "quotient_of", "quotient_of", defArgs (topS 25), defBody (topS 25), defScope (topS 25), [], []⟩
def d_rest_of : He5.DefA := ⟨fun K => He.ga K "rest_of", "rest_of", "rest_of", defArgs (topS 26), defBody (topS 26), defScope (topS 26), [], []⟩
def d_common_divisor : He5.DefA := ⟨fun K => He.ga K "common_divisor", "common_divisor", "common_divisor", defArgs (topS 27), defBody (topS 27), defScope (topS 27), [], []⟩
def d_power_of : He5.DefA := ⟨fun K => He.ga K "power_of", "power_of", "power_of", defArgs (topS 29), defBody (topS 29), defScope (topS 29), [], []⟩
def d_slope_of : He5.DefA := ⟨fun K => He.ga K "slope_of", "slope_of", "slope_of", defArgs (topS 30), defBody (topS 30), defScope (topS 30), [], []⟩
def d_check_prime : He5.DefA := ⟨fun K => He.ga K "check_prime", "check_prime", "check_prime", defArgs (topS 48), defBody (topS 48), defScope (topS 48), [], []⟩
def d_check_poly : He5.DefA := ⟨fun K => He.ga K "check_poly", "check_poly", "check_poly", defArgs (topS 49), defBody (topS 49), defScope (topS 49), [], []⟩
def d_has_poly_form : He5.DefA := ⟨fun K => He.ga K "has_poly_form", "has_poly_form", "has_poly_form", defArgs (topS 50), defBody (topS 50), defScope (topS 50), [], []⟩
def d_made_function : He5.DefA := ⟨fun K => He.ga K "made_function", "made_function", "made_function", defArgs (topS 55), defBody (topS 55), defScope (topS 55), [], []⟩
def d_function_of : He5.DefA := ⟨fun K => He.ga K "function_of", "function_of", "function_of", defArgs (topS 56), defBody (topS 56), defScope (topS 56), [], []⟩
def d_lowest_terms : He5.DefA := ⟨fun K => He.ga K "lowest_terms", "lowest_terms", "lowest_terms", defArgs (topS 57), defBody (topS 57), defScope (topS 57), [], []⟩
def d_wide_top : He5.DefA := ⟨fun K => He.ga K "wide_top", "wide_top", "wide_top", defArgs (topS 63), defBody (topS 63), defScope (topS 63), [], []⟩
def d_part_of_top : He5.DefA := ⟨fun K => He.ga K "part_of_top", "part_of_top", "part_of_top", defArgs (topS 64), defBody (topS 64), defScope (topS 64), [], []⟩
def d_check_function : He5.DefA := ⟨fun K => He.ga K "check_function", "check_function", "check_function", defArgs (topS 69), defBody (topS 69), defScope (topS 69), [], []⟩
def d_is_slope : He5.DefA := ⟨fun K => He.ga K "is_slope", "is_slope", "is_slope", defArgs (topS 77), defBody (topS 77), defScope (topS 77), [], []⟩
def d_slope_source : He5.DefA := ⟨fun K => He.ga K "slope_source", "slope_source", "slope_source", defArgs (topS 78), defBody (topS 78), defScope (topS 78), [], []⟩
def d_shrunk : He5.DefA := ⟨fun K => He.ga K "shrunk", "shrunk", "shrunk", defArgs (topS 79), defBody (topS 79), defScope (topS 79), [], [("times", .int 1)]⟩
def d_is_log_slope : He5.DefA := ⟨fun K => He.ga K "is_log_slope", "is_log_slope", "is_log_slope", defArgs (topS 80), defBody (topS 80), defScope (topS 80), [], []⟩
def d_log_source : He5.DefA := ⟨fun K => He.ga K "log_source", "log_source", "log_source", defArgs (topS 81), defBody (topS 81), defScope (topS 81), [], []⟩
def d_log_slope : He5.DefA := ⟨fun K => He.ga K "log_slope", "log_slope", "log_slope", defArgs (topS 82), defBody (topS 82), defScope (topS 82), [], []⟩
def d_log_fault : He5.DefA := ⟨fun K => He.ga K "log_fault", "log_fault", "log_fault", defArgs (topS 83), defBody (topS 83), defScope (topS 83), [], []⟩
def d_turn_of : He5.DefA := ⟨fun K => He.ga K "turn_of", "turn_of", "turn_of", defArgs (topS 84), defBody (topS 84), defScope (topS 84), [], []⟩
def d_are_entries : He5.DefA := ⟨fun K => He.ga K "are_entries", "are_entries", "are_entries", defArgs (topS 91), defBody (topS 91), defScope (topS 91), [], []⟩
def d__law_bag : He5.DefA := ⟨fun K => He.ga K "_law_bag", "_law_bag", "_law_bag", defArgs (topS 98), defBody (topS 98), defScope (topS 98), [], []⟩
def d__law_grab : He5.DefA := ⟨fun K => He.ga K "_law_grab", "_law_grab", "_law_grab", defArgs (topS 99), defBody (topS 99), defScope (topS 99), [], []⟩
def d__law_one_of : He5.DefA := ⟨fun K => He.ga K "_law_one_of", "_law_one_of", "_law_one_of", defArgs (topS 100), defBody (topS 100), defScope (topS 100), [], []⟩
def d__law_met : He5.DefA := ⟨fun K => He.ga K "_law_met", "_law_met", "_law_met", defArgs (topS 101), defBody (topS 101), defScope (topS 101), [], []⟩
def d__law_functions_right : He5.DefA := ⟨fun K => He.ga K "_law_functions_right", "_law_functions_right", "_law_functions_right", defArgs (topS 102), defBody (topS 102), defScope (topS 102), [], []⟩
def d__law_polys_right : He5.DefA := ⟨fun K => He.ga K "_law_polys_right", "_law_polys_right", "_law_polys_right", defArgs (topS 103), defBody (topS 103), defScope (topS 103), [], []⟩
def d_law : He5.DefA := ⟨fun K => He.ga K "law", "law", "law", defArgs (topS 104), defBody (topS 104), defScope (topS 104), [], []⟩
def e___init__ : He5.DefA := ⟨fun K => He.ma K (fC K) "__init__", "__init__", "Function.__init__", defArgs (inClass (topS 54) 0), defBody (inClass (topS 54) 0), defScope (inClass (topS 54) 0), [], []⟩
def e_letter : He5.DefA := ⟨fun K => He5.wf K (fC K) "classmethod" "letter", "letter", "Function.letter", defArgs (inClass (topS 54) 2), defBody (inClass (topS 54) 2), defScope (inClass (topS 54) 2), [], []⟩
def e_prime : He5.DefA := ⟨fun K => He5.wf K (fC K) "property" "prime", "prime", "Function.prime", defArgs (inClass (topS 54) 4), defBody (inClass (topS 54) 4), defScope (inClass (topS 54) 4), [], []⟩
def e_top : He5.DefA := ⟨fun K => He5.wf K (fC K) "property" "top", "top", "Function.top", defArgs (inClass (topS 54) 5), defBody (inClass (topS 54) 5), defScope (inClass (topS 54) 5), [], []⟩
def e_bottom : He5.DefA := ⟨fun K => He5.wf K (fC K) "property" "bottom", "bottom", "Function.bottom", defArgs (inClass (topS 54) 6), defBody (inClass (topS 54) 6), defScope (inClass (topS 54) 6), [], []⟩
def e_last_part : He5.DefA := ⟨fun K => He.ma K (fC K) "last_part", "last_part", "Function.last_part", defArgs (inClass (topS 54) 10), defBody (inClass (topS 54) 10), defScope (inClass (topS 54) 10), [], []⟩
def e___pow__ : He5.DefA := ⟨fun K => He.ma K (fC K) "__pow__", "__pow__", "Function.__pow__", defArgs (inClass (topS 54) 18), defBody (inClass (topS 54) 18), defScope (inClass (topS 54) 18), [], []⟩
def e___eq__ : He5.DefA := ⟨fun K => He.ma K (fC K) "__eq__", "__eq__", "Function.__eq__", defArgs (inClass (topS 54) 19), defBody (inClass (topS 54) 19), defScope (inClass (topS 54) 19), [], []⟩
def e___bool__ : He5.DefA := ⟨fun K => He.ma K (fC K) "__bool__", "__bool__", "Function.__bool__", defArgs (inClass (topS 54) 20), defBody (inClass (topS 54) 20), defScope (inClass (topS 54) 20), [], []⟩
def o___init__ : He5.DefA := ⟨fun K => He.ma K (oC K) "__init__", "__init__", "Operator.__init__", defArgs (inClass (topS 89) 0), defBody (inClass (topS 89) 0), defScope (inClass (topS 89) 0), [], []⟩
def o_times : He5.DefA := ⟨fun K => He5.wf K (oC K) "classmethod" "times", "times", "Operator.times", defArgs (inClass (topS 89) 3), defBody (inClass (topS 89) 3), defScope (inClass (topS 89) 3), [], []⟩
def e_given : He5.DefA := ⟨fun K => He.ma K (cN K) "__init__", "__init__", "InvalidNumber.__init__", defArgs (inClass (topS 44) 0), defBody (inClass (topS 44) 0), defScope (inClass (topS 44) 0), [], []⟩
def fnp0 : List He5.DefA := [d_is_integer, d_is_within, d_trimmed, d_inverse, d_scale, d_make_monic, d_add_scaled, d_multiply, d_multiply_short, d_multiply_long, d_block_sum, d_packed, d_unpacked, d_divide, d_first_digits, d_divide_short, d_quotient_of, d_rest_of, d_common_divisor, d_power_of]
def fnp1 : List He5.DefA := [d_slope_of, d_check_prime, d_check_poly, d_has_poly_form, d_made_function, d_function_of, d_lowest_terms, d_wide_top, d_part_of_top, d_check_function, d_is_slope, d_slope_source, d_shrunk, d_is_log_slope, d_log_source, d_log_slope, d_log_fault, d_turn_of, d_are_entries, d__law_bag]
def fnp2 : List He5.DefA := [d__law_grab, d__law_one_of, d__law_met, d__law_functions_right, d__law_polys_right, d_law, e___init__, e_letter, e_prime, e_top, e_bottom, e_last_part, e___pow__, e___eq__, e___bool__, o___init__, o_times, e_given]
def fnA1 : List He5.DefA := fnp0
def fnA2 : List He5.DefA := fnp1 ++ fnp2
def nmp0 : List PySem.Str := ["_wall", "SHORT", "BLOCK", "MOST_SUMMED", "MANY_STEPS", "STEPS", "LANE", "LANES", "is_integer", "is_within", "trimmed", "inverse", "scale", "make_monic", "add_scaled", "multiply", "multiply_short", "multiply_long", "block_sum", "packed"]
def nmp1 : List PySem.Str := ["unpacked", "divide", "first_digits", "divide_short", "quotient_of", "rest_of", "common_divisor", "common_triple", "power_of", "slope_of", "spread_out", "square_free_rows", "kernel_of_numbers", "fixed_polys", "split_by", "split_square_free", "factor_rows", "SlopeError", "InvalidPoly", "InvalidFunction"]
def nmp2 : List PySem.Str := ["InvalidOperator", "InvalidOperation", "InvalidNumber", "PRIMES", "MAX_POWER", "check_prime", "check_poly", "has_poly_form", "MAX_SLOPES", "MAX_RAISED_functions", "Function", "made_function", "function_of", "lowest_terms", "shortened", "add_function", "multiply_function", "turned_round", "slope_once", "wide_top"]
def nmp3 : List PySem.Str := ["part_of_top", "join_parts", "clear_bottoms", "poly_text", "term_text", "check_function", "check_same_prime", "finite_poles", "order_at", "residue_at", "MAX_SHRUNK", "is_slope", "slope_source", "shrunk", "is_log_slope", "log_source", "log_slope", "log_fault", "turn_of", "MAX_ENTRIES"]
def nmp4 : List PySem.Str := ["MAX_RAISED_operators", "MAX_INDEX", "Operator", "entry_text", "are_entries", "made_operator", "add_entries", "multiply_operator", "lifted_once", "made_of", "_law_bag", "_law_grab", "_law_one_of", "_law_met", "_law_functions_right", "_law_polys_right"]
def nmAll : List PySem.Str := nmp0 ++ nmp1 ++ nmp2 ++ nmp3 ++ nmp4
def glp0 : List PySem.Str := ["is_integer", "is_within", "trimmed", "inverse", "scale", "make_monic", "add_scaled", "multiply", "multiply_short", "multiply_long", "block_sum", "packed", "unpacked", "divide", "first_digits", "divide_short", "quotient_of", "rest_of", "common_divisor", "power_of"]
def glp1 : List PySem.Str := ["slope_of", "check_prime", "check_poly", "has_poly_form", "made_function", "function_of", "lowest_terms", "wide_top", "part_of_top", "check_function", "is_slope", "slope_source", "shrunk", "is_log_slope", "log_source", "log_slope", "log_fault", "turn_of", "are_entries", "_law_bag"]
def glp2 : List PySem.Str := ["_law_grab", "_law_one_of", "_law_met", "_law_functions_right", "_law_polys_right", "law"]
def glAll : List PySem.Str := glp0 ++ glp1 ++ glp2
def inAll : List (PySem.Str × Int) := [("SHORT", 5), ("BLOCK", 90), ("MOST_SUMMED", 20), ("MANY_STEPS", 10), ("STEPS", 64), ("LANE", 4), ("MAX_POWER", 60), ("MAX_SLOPES", 20), ("MAX_RAISED_functions", 20), ("MAX_SHRUNK", 20), ("MAX_ENTRIES", 9), ("MAX_RAISED_operators", 8), ("MAX_INDEX", 1000)]
def mtAll : List PySem.Str := ["__init__", "last_part", "__pow__", "__eq__", "__bool__"]
def prAll : List PySem.Str := ["prime", "top", "bottom"]
def cmAll : List PySem.Str := ["letter"]
def mtAllD : List PySem.Str := ["__init__"]
def prAllD : List PySem.Str := []
def cmAllD : List PySem.Str := ["times"]
def clAll : List He.Fa := [He.Fa.glo "PRIMES", He.Fa.glo "LANES", He.Fa.glo "InvalidPoly", He.Fa.glo "InvalidFunction", He.Fa.glo "InvalidOperation", He.Fa.glo "InvalidNumber", He.Fa.glo "Function", He.Fa.cls "Function", He.Fa.mkr "Function", He.Fa.noat "Function" "_prime", He.Fa.noat "Function" "_top", He.Fa.noat "Function" "_bottom", He.Fa.glo "Operator", He.Fa.cls "Operator", He.Fa.mkr "Operator", He.Fa.noat "Operator" "_prime", He.Fa.noat "Operator" "_entries", He.Fa.meth "Operator" "__init__"]
def faAll : List He.Fa := biNames.map He.Fa.free ++ (glAll.map He.Fa.glo ++ (clAll ++ (mtAll.map (fun m => He.Fa.meth "Function" m) ++ inAll.map fun q => He.Fa.int q.1 q.2)))
def propB (K : PySem.W.Frag) (C : Addr) (m : PySem.Str) : Bool := decide (PySem.W.findIn K (.ref C) m = some (some (.ref (He.ma K C m)))) && (decide (PySem.W.specialIn K (.ref (He.ma K C m)) "__get__" = some (some (.builtin "property.__get__"))) && (decide (PySem.W.takesIn K (.ref (He.ma K C m)) = some true) && (match PySem.W.recIn K (He.ma K C m) "property" with
  | some (.ref _ :: _) => true
  | _ => false)))
def exL (K : PySem.W.Frag) : List Bool := [
  He.tupB K "PRIMES" [.int 2, .int 3, .int 5, .int 7],
  He.tupB K "LANES" [.str "0000", .str "0001", .str "0002", .str "0003", .str "0004", .str "0005", .str "0006"],
  decide (PySem.W.findIn K (.ref (fC K)) "__class__" = some (some (.builtin "object.__class__"))),
  decide (PySem.W.specialIn K (.builtin "object.__class__") "__get__" = some (some (.builtin "getset_descriptor.__get__"))),
  decide (PySem.W.takesIn K (.builtin "object.__class__") = some true),
  decide (PySem.W.mroIn K (fC K) (.type "object") = some true),
  decide (PySem.W.kitOne K (.ref (fC K)) (.ref (fC K)) = some true),
  PySem.W.selfFirst K (fC K),
  PySem.W.notFirst K (fC K) (.ref (fC K)),
  PySem.W.notFirst K (fC K) (.type "tuple"),
  decide (PySem.W.findIn K (.ref (fC K)) "__ne__" = some (some (.builtin "object.__ne__"))),
  decide (PySem.W.subIn K (.ref (fC K)) (.type "object") = some true),
  decide (PySem.W.findIn K (.ref (fC K)) (dunderR Operator.Pow.info.2) = some none),
  decide (PySem.W.subIn K (.type "int") (.ref (fC K)) = some false),
  (PySem.W.findIn K (.type "int") (PySem.dunder Operator.Pow.info.2)).isSome,
  (PySem.W.findIn K (.type "int") (dunderR Operator.Pow.info.2)).isSome,
  decide (PySem.W.kitOne K (.type "tuple") (.ref (fC K)) = some false),
  prAll.all (propB K (fC K)),
  cmAll.all (fun m => He5.wrapB K (fC K) "classmethod" "classmethod.__get__" m && PySem.W.fnIn K (He5.wf K (fC K) "classmethod" m)),
  PySem.W.readsIn K (fC K) (.type "type"),
  decide (PySem.W.specialIn K (.ref (fC K)) "__getattribute__" = some (some (.builtin "type.__getattribute__"))),
  prAllD.all (propB K (oC K)),
  cmAllD.all (fun m => He5.wrapB K (oC K) "classmethod" "classmethod.__get__" m && PySem.W.fnIn K (He5.wf K (oC K) "classmethod" m)),
  PySem.W.readsIn K (oC K) (.type "type"),
  decide (PySem.W.specialIn K (.ref (oC K)) "__getattribute__" = some (some (.builtin "type.__getattribute__"))),
  decide (PySem.W.findIn K (.ref (oC K)) "__class__" = some (some (.builtin "object.__class__"))),
  decide (PySem.W.specialIn K (.builtin "object.__class__") "__get__" = some (some (.builtin "getset_descriptor.__get__"))),
  decide (PySem.W.takesIn K (.builtin "object.__class__") = some true),
  decide (PySem.W.mroIn K (oC K) (.type "object") = some true),
  decide (PySem.W.kitOne K (.ref (oC K)) (.ref (oC K)) = some true),
  decide (PySem.W.kitOne K (.ref (oC K)) (.ref (fC K)) = some false),
  (rzL K (cP K)).all id,
  (rzL K (cF K)).all id,
  (rzL K (cO K)).all id,
  (rnL K (cN K)).all id,
  (exmL K).all id,
  (nofL K (fC K)).all id,
  (tabD K).all id]
def exAll (K : PySem.W.Frag) : Bool := (exL K).all id
abbrev RW : PySem.W.OpenRow := PySem.W.OpenLaw.row PySem.Challenge.rw_slopewords_k17_errors_of_slopes
abbrev qv : PySem.Program := PySem.W.view RW.prog [104]
abbrev hkAll : PySem.W.Hook := hookB faAll fnA1 fnA2 exAll tfAll
def obAll (s : PySem.W.SharedT) : AlB := obsB faAll fnA1 fnA2 exAll tfAll (HandSHeadRun.getT s)
theorem ob_eq (s : PySem.W.SharedT) : obAll s = hkAll.obs s.abs := obsB_eq (HandSHeadRun.getT_eq s)
abbrev kAll (s : PySem.W.SharedT) : PySem.W.Frag := He.frT (HandSHeadRun.getT s) asL
noncomputable abbrev endAll (w : PySem.World) (os : OsState) : Option PySem.W.SharedT := HandSHeadRun.endF (HandSHeadRun.stepQ (HandSHeadRun.denQ HandSHeadRun.tabQ) RW.prog w) 20000 RW.prog w os
theorem run2 (w : PySem.World) (os : OsState) : (endAll w os).map (fun s => obB2 fnA2 exAll tfAll (HandSHeadRun.getT s) (kAll s)) = some (He5.valA fnA2, true) := by
  kernel_rfl
theorem run3 (w : PySem.World) (os : OsState) : (endAll w os).map (fun s => obB3 faAll (kAll s)) = some (He5.valA []) := by
  kernel_rfl
open HandSHeadRun PySem.W in
theorem run1 (w : PySem.World) (os : OsState) : (endAll w os).map (fun s => (looksF RW.prog (boot_heap w.params) s.abs, seenQ qv nmAll (importedModules RW.prog.main.body) (fun s => xlAt qv [] s && recOk RW.toRowW.records s) s.abs, obB1 fnA1 (kAll s))) = some (true, openGood qv nmAll, He5.valA fnA1) := by
  kernel_rfl
theorem run (w : PySem.World) : HandSHeadRun.RunEq RW qv hkAll obAll 20000 nmAll w := by
  intro os
  have h1 := run1 w os
  have h2 := run2 w os
  have h3 := run3 w os
  show (endAll w os).map _ = _
  generalize endAll w os = r at h1 h2 h3 ⊢
  cases r with
  | none => cases h1
  | some s =>
    have e1 := Option.some.inj h1
    have e2 := Option.some.inj h2
    have e3 := Option.some.inj h3
    simp only [Prod.mk.injEq] at e1
    obtain ⟨a1, a2, a3⟩ := e1
    show some (_, _, (_, (_, _))) = some (_, _, (_, (_, _)))
    rw [a1, a2]
    exact congrArg (fun z => some (true, _, z)) (Prod.ext a3 (Prod.ext e2 e3))
def fnAll : List He5.DefA := fnA1 ++ fnA2
theorem says_join {K : PySem.W.Frag} {fa : List He.Fa} {fn1 fn2 : List He5.DefA} (h1 : He5.SaysA [] fn1 K) (h2 : He5.SaysA [] fn2 K) (h3 : He5.SaysA fa [] K) : He5.SaysA fa (fn1 ++ fn2) K := by
  have a1 : (true && fn1.all fun d => d.ok K) = true := congrArg (fun z : He.AlD => z.1) h1
  have a2 : (true && fn2.all fun d => d.ok K) = true := congrArg (fun z : He.AlD => z.1) h2
  have a3 : ((fa.all fun f => f.ok K) && true) = true := congrArg (fun z : He.AlD => z.1) h3
  have b1 : fn1.map (fun d => He5.fnA K (d.at_ K)) = fn1.map He5.DefA.val := congrArg (fun z : He.AlD => z.2) h1
  have b2 : fn2.map (fun d => He5.fnA K (d.at_ K)) = fn2.map He5.DefA.val := congrArg (fun z : He.AlD => z.2) h2
  show (((fa.all fun f => f.ok K) && (fn1 ++ fn2).all fun d => d.ok K), (fn1 ++ fn2).map fun d => He5.fnA K (d.at_ K)) = (true, (fn1 ++ fn2).map He5.DefA.val)
  rw [List.all_append, List.map_append, List.map_append, b1, b2]
  rw [Bool.true_and] at a1 a2
  rw [Bool.and_true] at a3
  rw [a1, a2, a3]
  rfl
end K0
namespace Kt
open PySem PySem.Spec PyProof.Rows L2
open Evl (Ex Ev EvL EvU EvT EvA EvO ex_l ex_t sq_of st_of sz_of sz_lt fresh_back given)
theorem Alls.get : ∀ {rs : List VR} {xs : List V} {i : Nat} {r : VR} {H : Hp}, Alls rs xs H → rs[i]? = some r → ∃ x, xs[i]? = some x ∧ r.R x H
  | [], _, _, _, _, _, h => by simp at h
  | r0 :: rs, _, 0, r, _, ⟨v, ws, h1, h2, h3⟩, h => by
    have e : r0 = r := by simpa using h
    subst e h1
    exact ⟨v, rfl, h2⟩
  | r0 :: rs, _, i + 1, r, _, ⟨v, ws, h1, h2, h3⟩, h => by
    subst h1
    have h' : rs[i]? = some r := by simpa using h
    obtain ⟨x, hx, hr⟩ := Alls.get h3 h'
    exact ⟨x, by simpa using hx, hr⟩
theorem cutI_drop {ns : List Int} {m : Nat} : cutI ns (some (m : Int)) none = ns.drop m := by
  by_cases h : m ≤ ns.length
  · exact cutI_from h
  · unfold cutI
    rw [HT.sIx_none, HT.sIx_nat, Nat.min_eq_right (by omega), List.drop_eq_nil_of_le (Nat.le_refl _), List.drop_eq_nil_of_le (by omega), List.take_nil]
mutual
theorem dp_ex {K : PySem.W.Frag} {H H' : Hp} (e : Ex H H') : ∀ {v : V} {d : PyData}, Dp K H v d → Dp K H' v d
  | _, _, .non => .non
  | _, _, .bl b => .bl b
  | _, _, .int i => .int i
  | _, _, .str x => .str x
  | _, _, .lst h a => .lst (ex_l e h) (dpa_ex e a)
  | _, _, .tup h a => .tup (ex_t e h) (dpa_ex e a)
theorem dpa_ex {K : PySem.W.Frag} {H H' : Hp} (e : Ex H H') : ∀ {vs : List V} {ds : List PyData}, DpAll K H vs ds → DpAll K H' vs ds
  | _, _, .nil => .nil
  | _, _, .cons h a => .cons (dp_ex e h) (dpa_ex e a)
end
/-- plain data -/
def vD (K : PySem.W.Frag) (d : PyData) : VR := ⟨fun v H => Dp K H v d, fun e h => dp_ex e h⟩
theorem dpa_ints (K : PySem.W.Frag) (H : Hp) : ∀ ns : List Int, DpAll K H (ns.map V.int) (ns.map PyData.int)
  | [] => .nil
  | n :: ns => .cons (.int n) (dpa_ints K H ns)
def dP (ns : List Int) : PyData := .tuple (ns.map PyData.int)
def dL (ns : List Int) : PyData := .list (ns.map PyData.int)
theorem vP_D {K : PySem.W.Frag} {ns : List Int} {v : V} {H : Hp} (h : (vP K ns).R v H) : (vD K (dP ns)).R v H := by
  obtain ⟨a, rfl, hs⟩ := h
  exact .tup hs (dpa_ints K H ns)
theorem vL_D {K : PySem.W.Frag} {ns : List Int} {v : V} {H : Hp} (h : (vL K ns).R v H) : (vD K (dL ns)).R v H := by
  obtain ⟨a, rfl, hs⟩ := h
  exact .lst hs (dpa_ints K H ns)
theorem eqvAll_ints : ∀ xs ys : List Int, PyData.eqvAll (xs.map PyData.int) (ys.map PyData.int) = decide (xs = ys)
  | [], [] => by simp [PyData.eqvAll]
  | [], y :: ys => by simp [PyData.eqvAll]
  | x :: xs, [] => by simp [PyData.eqvAll]
  | x :: xs, y :: ys => by
    rw [List.map_cons, List.map_cons, PyData.eqvAll, eqvAll_ints xs ys, PyData.eqv]
    by_cases h1 : x = y <;> by_cases h2 : xs = ys <;> simp [h1, h2]
theorem eqv_P (xs ys : List Int) : PyData.eqv (dP xs) (dP ys) = decide (xs = ys) := by
  unfold dP
  rw [PyData.eqv]
  exact eqvAll_ints xs ys
theorem eqv_L (xs ys : List Int) : PyData.eqv (dL xs) (dL ys) = decide (xs = ys) := by
  unfold dL
  rw [PyData.eqv]
  exact eqvAll_ints xs ys
theorem lay_ints : ∀ xs : List Int, PyData.canLayAll0 (xs.map PyData.int) = true
  | [] => rfl
  | x :: xs => by rw [List.map_cons, PyData.canLayAll0, lay_ints xs, PyData.canLay0] <;> rfl
theorem depth_ints : ∀ xs : List Int, PyData.depthAll (xs.map PyData.int) = 0
  | [] => rfl
  | x :: xs => by rw [List.map_cons, PyData.depthAll, depth_ints xs, PyData.depth] <;> rfl
theorem shaped_P (xs : List Int) : SeqAt.shaped (dP xs) = true := by
  unfold SeqAt.shaped dP
  rw [PyData.canLay0, lay_ints, PyData.depth, depth_ints]
  rfl
theorem shaped_L (xs : List Int) : SeqAt.shaped (dL xs) = true := by
  unfold SeqAt.shaped dL
  rw [PyData.canLay0, lay_ints, PyData.depth, depth_ints]
  rfl
section
variable {K : PySem.W.Frag} {σ : L2.St} {H H' : Hp} {te to tc : TE} {ns xs ys : List Int} {x y : Int}
theorem op_eqDD {d e : PyData} (sd : SeqAt.shaped d = true) (se : SeqAt.shaped e = true) : OpV (rEqD K) (vD K d) (vD K e) (vB (PyData.eqv d e)) H := fun a b H1 _ ha hb Q q => ⟨d, e, ha, hb, sd, se, q _ H1 (Ex.refl H1) rfl⟩
theorem op_neDD {d e : PyData} (sd : SeqAt.shaped d = true) (se : SeqAt.shaped e = true) : OpV (rNeD K) (vD K d) (vD K e) (vB (!PyData.eqv d e)) H := fun a b H1 _ ha hb Q q => ⟨d, e, ha, hb, sd, se, q _ H1 (Ex.refl H1) rfl⟩
theorem op_eqP : OpV (rEqD K) (vP K xs) (vP K ys) (vB (decide (xs = ys))) H := fun a b H1 e ha hb Q q => by
  have z := op_eqDD (K := K) (H := H) (shaped_P xs) (shaped_P ys) a b H1 e (vP_D ha) (vP_D hb) Q
  rw [eqv_P] at z
  exact z q
theorem op_neP : OpV (rNeD K) (vP K xs) (vP K ys) (vB (!decide (xs = ys))) H := fun a b H1 e ha hb Q q => by
  have z := op_neDD (K := K) (H := H) (shaped_P xs) (shaped_P ys) a b H1 e (vP_D ha) (vP_D hb) Q
  rw [eqv_P] at z
  exact z q
theorem op_eqLL : OpV (rEqD K) (vL K xs) (vL K ys) (vB (decide (xs = ys))) H := fun a b H1 e ha hb Q q => by
  have z := op_eqDD (K := K) (H := H) (shaped_L xs) (shaped_L ys) a b H1 e (vL_D ha) (vL_D hb) Q
  rw [eqv_L] at z
  exact z q
theorem op_neLL : OpV (rNeD K) (vL K xs) (vL K ys) (vB (!decide (xs = ys))) H := fun a b H1 e ha hb Q q => by
  have z := op_neDD (K := K) (H := H) (shaped_L xs) (shaped_L ys) a b H1 e (vL_D ha) (vL_D hb) Q
  rw [eqv_L] at z
  exact z q
theorem EvR.eqI (h : EvR te σ H (vI x)) (e : x = y) : EvR te σ H (vI y) := e ▸ h
/-! ### truth -/
def tTr (K : PySem.W.Frag) (ta : TE) : TT := fun σ H Q => ta σ H fun x H' => ∃ k, TruV K x H' k ∧ Q k H'
theorem et_truI (h : EvR te σ H (vI x)) : EvT (tTr K te) σ H (x != 0) := fun H1 e Q q => h H1 e _ fun v H2 e2 hv => by
  have hv' : v = .int x := hv
  subst hv'
  exact ⟨_, rfl, q H2 e2⟩
theorem et_truP (h : EvR te σ H (vP K ns)) : EvT (tTr K te) σ H (!ns.isEmpty) := fun H1 e Q q => h H1 e _ fun v H2 e2 ⟨a, ha, hs⟩ => by
  subst ha
  refine ⟨_, .inr (.inl ⟨_, hs, rfl⟩), ?_⟩
  have ee : (!(ns.map V.int).isEmpty) = !ns.isEmpty := by cases ns <;> rfl
  rw [ee]
  exact q H2 e2
theorem et_truL (h : EvR te σ H (vL K ns)) : EvT (tTr K te) σ H (!ns.isEmpty) := fun H1 e Q q => h H1 e _ fun v H2 e2 ⟨a, ha, hs⟩ => by
  subst ha
  refine ⟨_, .inl ⟨_, hs, rfl⟩, ?_⟩
  have ee : (!(ns.map V.int).isEmpty) = !ns.isEmpty := by cases ns <;> rfl
  rw [ee]
  exact q H2 e2
theorem un_negI (h : EvR te σ H (vI x)) : EvR (tUn (rU fun i => .int (-i)) te) σ H (vI (-x)) := fun H1 e Q q => h H1 e _ fun v H2 e2 hv => ⟨x, hv, q _ H2 e2 rfl⟩
/-- the last item -/
theorem atI_lastI {ns : List Int} (h : ns ≠ []) : atI (ns.map V.int) (-1) = some (.int (ns.getLast h)) := by
  have e : ns.map V.int = (ns.dropLast.map V.int) ++ [.int (ns.getLast h)] := by
    rw [← List.map_singleton, ← List.map_append, List.dropLast_concat_getLast]
  rw [e]
  exact atI_last _ _
/-- an item of a tuple of things -/
theorem evr_ixT {rs : List VR} {i : Nat} {r : VR} (h : EvR te σ H (vT K rs)) (hi : EvR to σ H (vI (i : Int))) (hr : rs[i]? = some r) : EvR (tOp (rIxT K) te to) σ H r := fun H1 e Q q =>
  h H1 e _ fun v H2 e2 ⟨a, xs, ha, hs, hal⟩ => hi H2 (e.trans e2) _ fun u H3 e3 hu => by
    obtain ⟨x, hx, rx⟩ := Alls.get hal hr
    have hu' : u = .int (i : Int) := hu
    subst ha hu'
    exact ⟨a, xs, _, x, rfl, rfl, ex_t e3 hs, atI_nat hx, q x H3 (e2.trans e3) (r.st e3 rx)⟩
end
end Kt
namespace Kt
open PySem PySem.Spec PyProof.Rows L2
open Evl (Ex Ev EvL EvU EvT EvA EvO ex_l ex_t sq_of st_of sz_of sz_lt fresh_back given)
section
variable {K : PySem.W.Frag} {σ : L2.St} {H H' : Hp} {te to tc tf : TE} {ta : TA} {ns xs ys : List Int} {x y : Int} {a : Addr} {v : V} {d : PyData} {b c : Bool}
theorem ty_sqT {xs : List V} (h : SqT K H a xs) : TyX K H (.ref a) (.type "tuple") := by
  rcases h with (h | ⟨o, h⟩) | ⟨o, _, _, h, hc, _⟩
  · exact .base (.tup h)
  · exact .fTuple h
  · exact .kTuple h hc
theorem ty_sqL {xs : List V} (h : SqL K H a xs) : TyX K H (.ref a) (.type "list") := by
  rcases h with (h | ⟨o, h⟩) | ⟨o, _, _, h, hc, _⟩
  · exact .base (.lst h)
  · exact .base (.frz h)
  · exact .kList h hc
/-- the kind of plain data -/
def tyN : PyData → String
  | .none => "NoneType"
  | .bool _ => "bool"
  | .int _ => "int"
  | .str _ => "str"
  | .list _ => "list"
  | .tuple _ => "tuple"
  | .dict _ => "dict"
theorem ty_D (h : Dp K H v d) : TyX K H v (.type (tyN d)) := by
  cases h with
  | non => exact .base .non
  | bl b => exact .base (.bl b)
  | int i => exact .base (.int i)
  | str z => exact .base (.str z)
  | lst h _ => exact ty_sqL h
  | tup h _ => exact ty_sqT h
/-- something of a kind -/
def vTy (K : PySem.W.Frag) (n : String) : VR → Prop := fun r => ∀ v H, r.R v H → TyX K H v (.type n)
theorem vTy_D : vTy K (tyN d) (vD K d) := fun _ _ h => ty_D h
theorem vTy_I : vTy K "int" (vI x) := fun v H h => by
  have h' : v = .int x := h
  subst h'
  exact .base (.int x)
theorem vTy_P : vTy K "tuple" (vP K ns) := fun v H ⟨a, ha, h⟩ => by
  subst ha
  exact ty_sqT h
theorem vTy_T {rs : List VR} : vTy K "tuple" (vT K rs) := fun v H ⟨a, _, ha, h, _⟩ => by
  subst ha
  exact ty_sqT h
theorem vTy_L : vTy K "list" (vL K ns) := fun v H ⟨a, ha, h⟩ => by
  subst ha
  exact ty_sqL h
theorem evr_isi {r : VR} {m n : String} (h : EvR te σ H r) (hr : vTy K m r) (e : kitB m n = some b) : EvR (tCB (rIsi K) (tCons te (tCons (tC (.ty n)) tNil))) σ H (vB b) := fun H1 e1 Q q =>
  h H1 e1 _ fun v H2 e2 hv => ⟨v, .ty n, _, _, b, rfl, .ty n, hr v H2 hv, kit_ty e, q _ H2 e2 rfl⟩
/-! ### and, or, not as values -/
theorem evr_and (h : EvR te σ H (vB b)) (h2 : b = true → EvR to σ H (vB c)) : EvR (tAndV te to) σ H (vB (b && c)) := fun H1 e Q q => h H1 e _ fun v H2 e2 hv => by
  have hv' : v = .bl b := hv
  subst hv'
  refine ⟨b, rfl, ?_⟩
  cases b with
  | true => exact iteT (h2 rfl H2 (e.trans e2) Q fun v H3 e3 hv => q v H3 (e2.trans e3) hv)
  | false => exact iteF (q _ H2 e2 rfl)
theorem evr_or (h : EvR te σ H (vB b)) (h2 : b = false → EvR to σ H (vB c)) : EvR (tOrV te to) σ H (vB (b || c)) := fun H1 e Q q => h H1 e _ fun v H2 e2 hv => by
  have hv' : v = .bl b := hv
  subst hv'
  refine ⟨b, rfl, ?_⟩
  cases b with
  | true => exact iteT (q _ H2 e2 rfl)
  | false => exact iteF (h2 rfl H2 (e.trans e2) Q fun v H3 e3 hv => q v H3 (e2.trans e3) hv)
theorem evr_not (h : EvR te σ H (vB b)) : EvR (tNotV te) σ H (vB (!b)) := fun H1 e Q q => h H1 e _ fun v H2 e2 hv => ⟨b, hv, q _ H2 e2 rfl⟩
/-- a < b < c -/
theorem evr_chain {r r' : R2} {ra rb rc : VR} (ha : EvR te σ H ra) (hb : EvR to σ H rb) (ho : OpV r ra rb (vB b) H) (hc : b = true → EvR tc σ H rc) (ho2 : b = true → OpV r' rb rc (vB c) H) : EvR (tChain r r' te to tc) σ H (vB (b && c)) := fun H1 e Q q =>
  ha H1 e _ fun u H2 e2 hu => hb H2 (e.trans e2) _ fun v H3 e3 hv => ho u v H3 ((e.trans e2).trans e3) (ra.st e3 hu) hv _ fun z H4 e4 hz => by
    refine ⟨b, hz, ?_⟩
    cases b with
    | true => exact iteT (hc rfl H4 (((e.trans e2).trans e3).trans e4) _ fun w H5 e5 hw => ho2 rfl v w H5 ((((e.trans e2).trans e3).trans e4).trans e5) (rb.st (e4.trans e5) hv) hw Q fun y H6 e6 hy => q y H6 ((((e2.trans e3).trans e4).trans e5).trans e6) hy)
    | false => exact iteF (q _ H4 ((e2.trans e3).trans e4) rfl)
theorem EvR.eqB (h : EvR te σ H (vB b)) (e : b = c) : EvR te σ H (vB c) := e ▸ h
theorem evr_abs {rr : List V → Hp → VK → Prop} (hrr : rr = fun xs H Q => ∃ i, xs = [.int i] ∧ Q (.int (if i < 0 then -i else i)) H) (h : EvR te σ H (vI x)) : EvR (tCB rr (tCons te tNil)) σ H (vI (if x < 0 then -x else x)) := fun H1 e Q q => h H1 e _ fun v H2 e2 hv => by
  have hv' : v = .int x := hv
  subst hrr hv'
  exact ⟨x, rfl, q _ H2 e2 rfl⟩
/-- one of a written row of ints -/
theorem op_notInI {r : R2} (hr : r = rIn K true) : OpV r (vI x) (vP K ns) (vB (!decide (x ∈ ns))) H := fun u v H1 _ hu ⟨a, ha, hs⟩ Q q => by
  have hu' : u = .int x := hu
  subst hu' ha hr
  refine ⟨a, _, rfl, .inr hs, rfl, ?_, ?_⟩
  · rw [List.all_map]
    exact List.all_eq_true.mpr fun _ _ => rfl
  · have e : inV (.int x) (ns.map V.int) = decide (x ∈ ns) := by
      unfold inV
      rw [List.any_map]
      by_cases h : x ∈ ns
      · rw [decide_eq_true h]
        exact List.any_eq_true.mpr ⟨x, h, beq_self_eq_true x⟩
      · rw [decide_eq_false h]
        refine List.any_eq_false.mpr fun y hy z => h ?_
        have z' : (y == x) = true := z
        rw [← eq_of_beq z']
        exact hy
    rw [e]
    exact q _ H1 (Ex.refl H1) rfl
/-! ### lists of truths, all -/
theorem evr_all {bs : List Bool} {r : List V → Hp → VK → Prop} (hr : r = rAll K) (h : EvL te σ H (bs.map V.bl)) : EvR (tCB r (tCons te tNil)) σ H (vB (bs.all id)) := fun H1 e Q q => h H1 e _ fun p H2 _ e2 hp => by
  subst hr
  exact ⟨p, bs, rfl, sq_of hp, q _ H2 e2 rfl⟩
end
end Kt
namespace M
/-- rows of ints without an end: polynomials and more -/
@[ext] structure PS where
  c : Nat → Int
def mulc : Nat → (Nat → Int) → (Nat → Int) → Int
  | 0, f, g => f 0 * g 0
  | k + 1, f, g => f 0 * g (k + 1) + mulc k (fun i => f (i + 1)) g
def cst (n : Int) : Nat → Int
  | 0 => n
  | _ + 1 => 0
namespace PS
instance : Add PS := ⟨fun f g => ⟨fun k => f.c k + g.c k⟩⟩
instance : Neg PS := ⟨fun f => ⟨fun k => -f.c k⟩⟩
instance : Sub PS := ⟨fun f g => ⟨fun k => f.c k - g.c k⟩⟩
instance : Mul PS := ⟨fun f g => ⟨fun k => mulc k f.c g.c⟩⟩
instance : IntCast PS := ⟨fun n => ⟨cst n⟩⟩
instance : NatCast PS := ⟨fun n => ⟨cst n⟩⟩
instance (n : Nat) : OfNat PS n := ⟨⟨cst n⟩⟩
def npow (f : PS) : Nat → PS
  | 0 => 1
  | n + 1 => npow f n * f
instance : HPow PS Nat PS := ⟨npow⟩
instance : HMul Int PS PS := ⟨fun n f => ⟨fun k => n * f.c k⟩⟩
instance : SMul Nat PS := ⟨fun n f => ⟨fun k => n * f.c k⟩⟩
instance : SMul Int PS := ⟨fun n f => ⟨fun k => n * f.c k⟩⟩
@[simp] theorem add_c (f g : PS) (k : Nat) : (f + g).c k = f.c k + g.c k := rfl
@[simp] theorem neg_c (f : PS) (k : Nat) : (-f).c k = -f.c k := rfl
@[simp] theorem sub_c (f g : PS) (k : Nat) : (f - g).c k = f.c k - g.c k := rfl
theorem mul_c (f g : PS) (k : Nat) : (f * g).c k = mulc k f.c g.c := rfl
@[simp] theorem smulN_c (n : Nat) (f : PS) (k : Nat) : (n • f).c k = n * f.c k := rfl
@[simp] theorem smulZ_c (n : Int) (f : PS) (k : Nat) : (n • f).c k = n * f.c k := rfl
theorem mulc_addL : ∀ (k : Nat) (f g h : Nat → Int), mulc k (fun i => f i + g i) h = mulc k f h + mulc k g h
  | 0, f, g, h => Int.add_mul _ _ _
  | k + 1, f, g, h => by
    have := mulc_addL k (fun i => f (i + 1)) (fun i => g (i + 1)) h
    simp only [mulc]
    rw [this, Int.add_mul]
    omega
theorem mulc_scL : ∀ (k : Nat) (n : Int) (f h : Nat → Int), mulc k (fun i => n * f i) h = n * mulc k f h
  | 0, n, f, h => Int.mul_assoc _ _ _
  | k + 1, n, f, h => by
    have := mulc_scL k n (fun i => f (i + 1)) h
    simp only [mulc]
    rw [this, Int.mul_add, Int.mul_assoc]
theorem mulc_right : ∀ (k : Nat) (f g : Nat → Int), mulc (k + 1) f g = f (k + 1) * g 0 + mulc k f (fun i => g (i + 1))
  | 0, f, g => by
    simp only [mulc]
    omega
  | k + 1, f, g => by
    have := mulc_right k (fun i => f (i + 1)) g
    rw [mulc, this]
    simp only [mulc]
    omega
theorem mulc_comm : ∀ (k : Nat) (f g : Nat → Int), mulc k f g = mulc k g f
  | 0, f, g => Int.mul_comm _ _
  | k + 1, f, g => by
    rw [mulc_right k g f, mulc, mulc_comm k, Int.mul_comm]
theorem mulc_assoc : ∀ (k : Nat) (f g h : Nat → Int), mulc k (fun i => mulc i f g) h = mulc k f (fun i => mulc i g h)
  | 0, f, g, h => Int.mul_assoc _ _ _
  | k + 1, f, g, h => by
    have e1 := mulc_assoc k (fun i => f (i + 1)) g h
    have e2 := mulc_addL k (fun i => f 0 * g (i + 1)) (fun i => mulc i (fun j => f (j + 1)) g) h
    have e3 := mulc_scL k (f 0) (fun i => g (i + 1)) h
    simp only [mulc] at *
    rw [e2, e3, e1, Int.mul_add, Int.mul_assoc]
    omega
theorem mulc_zeroL : ∀ (k : Nat) (g : Nat → Int), mulc k (fun _ => 0) g = 0
  | 0, g => Int.zero_mul _
  | k + 1, g => by
    simp only [mulc]
    rw [mulc_zeroL k g, Int.zero_mul]
    rfl
theorem mulc_cst : ∀ (k : Nat) (n : Int) (g : Nat → Int), mulc k (cst n) g = n * g k
  | 0, n, g => rfl
  | k + 1, n, g => by
    show cst n 0 * g (k + 1) + mulc k (fun _ => 0) g = _
    rw [mulc_zeroL, Int.add_zero]
    rfl
theorem add_comm' (f g : PS) : f + g = g + f := by ext k; exact Int.add_comm _ _
theorem mul_comm' (f g : PS) : f * g = g * f := by ext k; exact mulc_comm _ _ _
theorem mul_assoc' (f g h : PS) : f * g * h = f * (g * h) := by ext k; exact mulc_assoc _ _ _ _
theorem cst_mul (n : Int) (f : PS) : (⟨cst n⟩ : PS) * f = n • f := by ext k; exact mulc_cst _ _ _
theorem ofNat_c (n : Nat) : (OfNat.ofNat n : PS) = ⟨cst n⟩ := rfl
theorem one_c : (1 : PS) = ⟨cst 1⟩ := rfl
theorem zero_c : (0 : PS) = ⟨cst 0⟩ := rfl
@[simp] theorem cst0 (k : Nat) : cst 0 k = 0 := by cases k <;> rfl
theorem cst_add (a b : Int) : (⟨cst (a + b)⟩ : PS) = ⟨cst a⟩ + ⟨cst b⟩ := by
  ext k
  cases k <;> simp [cst]
instance : Lean.Grind.CommRing PS where
  nsmul := ⟨fun n f => n • f⟩
  zsmul := ⟨fun n f => n • f⟩
  npow := ⟨npow⟩
  add_zero f := by ext k; simp [zero_c]
  add_comm := add_comm'
  add_assoc f g h := by ext k; exact Int.add_assoc _ _ _
  mul_assoc := mul_assoc'
  mul_one f := by
    rw [mul_comm', one_c, cst_mul]
    ext k
    exact Int.one_mul _
  one_mul f := by
    rw [one_c, cst_mul]
    ext k
    exact Int.one_mul _
  left_distrib f g h := by
    rw [mul_comm', mul_comm' f g, mul_comm' f h]
    ext k
    exact mulc_addL _ _ _ _
  right_distrib f g h := by
    ext k
    exact mulc_addL _ _ _ _
  zero_mul f := by
    rw [zero_c, cst_mul]
    ext k
    show (0 : Int) * f.c k = cst 0 k
    rw [Int.zero_mul, cst0]
  mul_zero f := by
    rw [mul_comm', zero_c, cst_mul]
    ext k
    show (0 : Int) * f.c k = cst 0 k
    rw [Int.zero_mul, cst0]
  neg_add_cancel f := by
    ext k
    show -f.c k + f.c k = cst 0 k
    rw [cst0]
    omega
  sub_eq_add_neg f g := by
    ext k
    exact Int.sub_eq_add_neg
  mul_comm := mul_comm'
  pow_zero f := rfl
  pow_succ f n := rfl
  ofNat_succ n := by
    show (⟨cst ((n + 1 : Nat) : Int)⟩ : PS) = ⟨cst (n : Int)⟩ + ⟨cst 1⟩
    rw [← cst_add]
    rfl
  nsmul_eq_natCast_mul n f := by
    show n • f = (⟨cst n⟩ : PS) * f
    rw [cst_mul]
    rfl
  intCast_ofNat n := rfl
  intCast_neg n := by
    show (⟨cst (-n)⟩ : PS) = -⟨cst n⟩
    ext k
    cases k <;> simp [cst]
  neg_zsmul n f := by
    ext k
    show (-n) * f.c k = -(n * f.c k)
    rw [Int.neg_mul]
  zsmul_natCast_eq_nsmul n f := rfl
end PS
example (a b c : PS) : (a + b) * c = c * b + a * c := by grind
example (a b c d : PS) (h : a = b * c) (h2 : b = d * d) : a - d * d * c = 0 := by grind
end M
namespace K0
open PySem PySem.Spec PyProof.Rows L2 Kt
open Evl (Ex Ev EvL EvU EvT EvA EvO ex_l ex_t sq_of st_of sz_of sz_lt fresh_back)
/-! ### slope_of, make_monic, divide -/
def GI (mg : Str → Option Value) (x : Str) (n : Int) : Prop := ∃ t, mg x = some (.int n t)
theorem pe_gi {X : Cx} {x : Str} {n : Int} {pos : Pos} (h : GI X.mg x n) (hg : Gl X x) (hd : (x == ("__debug__" : Str)) = false := by decide) : PE X (.Name x pos) (tC (.int n)) := by
  obtain ⟨t, ht⟩ := h
  exact pe_glob hg ht ⟨t, rfl⟩ hd
def slopeOf (p : Int) (xs : List Int) : List Int := trim ((xs.mapIdx fun i n => (i : Int) * n % p).drop 1)
def makeMonic (p : Int) (xs : List Int) : List Int := if xs.isEmpty = true ∨ xs.getLastD 0 = 1 then xs else scale p xs (inv p (xs.getLastD 0))
/-- one turn of a division: the rest and the quotient's numbers so far -/
def divStep (p u : Int) (ys : List Int) (s : List Int × List Int) : List Int × List Int :=
  let f := s.1.getLastD 0 * u % p
  let r := if f = 0 then s.1 else s.1.take (s.1.length - ys.length) ++ List.zipWith (fun n y => (n - f * y) % p) (s.1.drop (s.1.length - ys.length)) ys
  (r.dropLast, s.2 ++ [f])
def divIter (p u : Int) (ys : List Int) : Nat → List Int × List Int → List Int × List Int
  | 0, s => s
  | n + 1, s => divIter p u ys n (divStep p u ys s)
def divide (p : Int) (xs ys : List Int) : List Int × List Int :=
  let s := divIter p (inv p (ys.getLastD 0)) ys (xs.length + 1 - ys.length) (xs, [])
  (trim s.2.reverse, trim s.1)
theorem invFrom_bd (p n : Int) : ∀ (m : Nat) (g : Int), 0 ≤ g → 0 ≤ invFrom p n m g ∧ invFrom p n m g ≤ g + m
  | 0, g, h => by
    show (0 : Int) ≤ 0 ∧ (0 : Int) ≤ g + 0
    omega
  | m + 1, g, h => by
    rw [invFrom]
    split
    · omega
    · have := invFrom_bd p n m (g + 1) (by omega)
      omega
theorem inv_bd {p n : Int} (hp : 0 < p) : 0 ≤ inv p n ∧ inv p n ≤ p := by
  have := invFrom_bd p n (p - 1).toNat 1 (by omega)
  unfold inv
  omega
theorem small_mod {p x : Int} (hp : 0 < p) (hp2 : p ≤ 100000) : -(2 ^ 60) < x % p ∧ x % p < 2 ^ 60 := by
  have h1 := Int.emod_nonneg x (by omega : p ≠ 0)
  have h2 := Int.emod_lt_of_pos x hp
  omega
theorem Small.take {l : List Int} (h : Small l) (k : Nat) : Small (l.take k) := fun n hn => h n (List.mem_of_mem_take hn)
theorem Small.dropLast {l : List Int} (h : Small l) : Small l.dropLast := fun n hn => h n (List.dropLast_subset l hn)
theorem Small.app {l m : List Int} (h : Small l) (h2 : Small m) : Small (l ++ m) := fun n hn => (List.mem_append.mp hn).elim (h n) (h2 n)
theorem small_zip {p : Int} (hp : 0 < p) (hp2 : p ≤ 100000) (f : Int → Int → Int) (as bs : List Int) : Small (List.zipWith (fun a b => f a b % p) as bs) := fun n hn => by
  obtain ⟨a, b, _, _, rfl⟩ : ∃ a b, a ∈ as ∧ b ∈ bs ∧ f a b % p = n := by
    induction as generalizing bs with
    | nil => simp at hn
    | cons a as ih =>
      cases bs with
      | nil => simp at hn
      | cons b bs =>
        rw [List.zipWith_cons_cons, List.mem_cons] at hn
        rcases hn with hn | hn
        · exact ⟨a, b, List.mem_cons_self, List.mem_cons_self, hn.symm⟩
        · obtain ⟨x, y, h1, h2, h3⟩ := ih bs hn
          exact ⟨x, y, List.mem_cons_of_mem _ h1, List.mem_cons_of_mem _ h2, h3⟩
  exact small_mod hp hp2
section
variable {P : Program} {w : World} {K : PySem.W.Frag} {mg : Str → Option Value} {base : Heap}
def sp_slope_of (K : PySem.W.Frag) : Sp := Con (G := GP) (fun g => 0 < g.p ∧ g.xs.length ≤ 1000 ∧ Small g.xs) (fun g => [vI g.p, vP K g.xs]) (fun g => vP K (slopeOf g.p g.xs))
def sp_make_monic (K : PySem.W.Frag) : Sp := Con (G := GP) (fun g => 0 < g.p ∧ g.p ≤ 100000 ∧ g.xs.length ≤ 1000 ∧ Small g.xs) (fun g => [vI g.p, vP K g.xs]) (fun g => vP K (makeMonic g.p g.xs))
/-- what a division asks for -/
def DivPre (g : GQ) : Prop := 0 < g.p ∧ g.p ≤ 100000 ∧ g.xs.length ≤ 1000 ∧ g.ys.length ≤ 64 ∧ g.ys ≠ [] ∧ Small g.xs ∧ Small g.ys
def sp_divide (K : PySem.W.Frag) : Sp := Con (G := GQ) DivPre (fun g => [vI g.p, vP K g.xs, vP K g.ys]) (fun g => vT K [vP K (divide g.p g.xs g.ys).1, vP K (divide g.p g.xs g.ys).2])
def sp_divide_short (K : PySem.W.Frag) : Sp := Con (G := GQ) (fun g => 0 < g.p ∧ g.p ≤ 100000 ∧ g.xs.length ≤ 1000 ∧ g.ys.length ≤ 1000 ∧ g.ys ≠ [] ∧ Small g.xs ∧ Small g.ys) (fun g => [vI g.p, vP K g.xs, vP K g.ys]) (fun g => vT K [vP K (divide g.p g.xs g.ys).1, vP K (divide g.p g.xs g.ys).2])
abbrev s_make_monic : Stmt := topS 14
abbrev N_make_monic : List Str := ["prime", "poly"]
theorem sc_make_monic : FnScope N_make_monic ["prime", "poly"] (defScope s_make_monic) := ⟨rfl, rfl, rfl, by decide +kernel, rfl, by decide +kernel, by decide +kernel⟩
theorem ok_make_monic {f : Addr} {fd : FuncData} (F : Fun K "make_monic" "make_monic" s_make_monic f fd) (B : Bis mg) (D_scale : De P w K mg base "scale" ["prime", "poly", "factor"] 2 (sp_scale K)) (D_inverse : De P w K mg base "inverse" ["prime", "number"] 1 (sp_inverse K)) : FnOk P w K mg base CX0 3 f fd ["prime", "poly"] (sp_make_monic K) := by
  refine F.ok sc_make_monic (fun vs H Q E h => ?_) (fun cdv A outer s H vs Q E hr h => ?_)
  · obtain ⟨g, _, ha, _⟩ := h
    exact ha.len
  · obtain ⟨⟨p, xs⟩, ⟨hp, hp2, hl, hsm⟩, ⟨_, _, rfl, rfl, ⟨v_poly, _, rfl, h_poly, rfl⟩⟩, q⟩ := h
    dsimp only at *
    refine ⟨_, (pss_cons (ps_if (PW.pt (pw_or (pt_not (pt_truth (pv 1) (by intro _; rfl))) (pw_or1 (pt_cmpR op_eq (pe_ix ix_tup (pv 1) (pe_un un_neg pe_int) (fun _ _ => rfl)) pe_int (nomark _))))) (pss_one (ps_ret (pv 1))) pss_nil)
      (pss_one (ps_ret (pe_call D_scale.ok (hr.mono (by decide)) (by rfl) D_scale.g D_scale.kp D_scale.b .nil pass0 (pa_cons (pv 0) (pa_cons (pv 1) (pa_cons (pe_call D_inverse.ok (hr.mono (by decide)) (by rfl) D_inverse.g D_inverse.kp D_inverse.b .nil pass0 (pa_cons (pv 0) (pa_cons (pe_ix ix_tup (pv 1) (pe_un un_neg pe_int) (fun _ _ => rfl)) pa_nil))) pa_nil))))))), ?_⟩
    have eL : ∀ hx : xs ≠ [], xs.getLastD 0 = xs.getLast hx := fun hx => by rw [List.getLastD_eq_getLast?, List.getLast?_eq_some_getLast hx] <;> rfl
    refine Evl.q_when (b := xs.isEmpty || decide (V.int (xs.getLastD 0) = V.int 1)) (Evl.et_is (Evl.et_or (Evl.et_not (et_truP (evr_var rfl h_poly))) fun hne => ?_) (by rw [Bool.not_not])) (fun hb H1 e1 => ?_) (fun hb H1 e1 => ?_)
    · have hx : xs ≠ [] := by
        intro z
        subst z
        simp at hne
      refine et_r (evr_op (evr_op (evr_var rfl h_poly) (un_negI evr_c) (op_ixP (z := .int (xs.getLastD 0)) ?_)) evr_c (op_eqS rfl))
      rw [eL hx]
      exact atI_lastI hx
    · refine sr_ret (evr_var rfl ((vP K xs).st e1 h_poly)) fun v H2 e2 hv => q v H2 (e1.trans e2) ?_
      show (vP K (makeMonic p xs)).R v H2
      rw [makeMonic, if_pos]
      · exact hv
      · rcases Bool.or_eq_true_iff.mp hb with h | h
        · exact .inl h
        · exact .inr (V.int.inj (of_decide_eq_true h))
    · have hb' := Bool.or_eq_false_iff.mp hb
      have hx : xs ≠ [] := by
        intro z
        subst z
        simp at hb'
      have hc : ¬ (xs.isEmpty = true ∨ xs.getLastD 0 = 1) := by
        rintro (h | h)
        · rw [hb'.1] at h; cases h
        · exact of_decide_eq_false hb'.2 (congrArg V.int h)
      replace h_poly := (vP K xs).st e1 h_poly
      refine sr_ret (evr_call (GS.mk p xs (inv p (xs.getLastD 0))) ⟨hp, by show xs.length ≤ 40000; omega, hsm⟩ (evrs_cons (evr_var rfl rfl) (evrs_cons (evr_var rfl h_poly) (evrs_cons (evr_call (G2.mk p (xs.getLastD 0)) ⟨hp, hp2⟩ (evrs_cons (evr_var rfl rfl) (evrs_cons (evr_op (evr_var rfl h_poly) (un_negI evr_c) (op_ixP ?_)) evrs_nil))) evrs_nil)))) fun v H2 e2 hv => q v H2 (e1.trans e2) ?_
      · rw [eL hx]
        exact atI_lastI hx
      · show (vP K (makeMonic p xs)).R v H2
        rw [makeMonic, if_neg hc]
        exact hv
abbrev s_divide_short : Stmt := topS 24
abbrev N_divide_short : List Str := ["prime", "one", "other", "rest", "quotient", "size", "unit", "factor", "low", "number", "further"]
theorem sc_divide_short : FnScope N_divide_short ["prime", "one", "other"] (defScope s_divide_short) := ⟨rfl, rfl, rfl, by decide +kernel, rfl, by decide +kernel, by decide +kernel⟩
theorem ok_divide_short {f : Addr} {fd : FuncData} (F : Fun K "divide_short" "divide_short" s_divide_short f fd) (B : Bis mg) (D_inverse : De P w K mg base "inverse" ["prime", "number"] 1 (sp_inverse K)) (D_trimmed : De P w K mg base "trimmed" ["numbers"] 1 (sp_trimmed K)) : FnOk P w K mg base CX0 2 f fd ["prime", "one", "other"] (sp_divide_short K) := by
  refine F.ok sc_divide_short (fun vs H Q E h => ?_) (fun cdv A outer s H vs Q E hr h => ?_)
  · obtain ⟨g, _, ha, _⟩ := h
    exact ha.len
  · obtain ⟨⟨p, xs, ys⟩, ⟨hp, hp2, hl1, hl2, hne, sm1, sm2⟩, ⟨_, _, rfl, rfl, ⟨v_one, _, rfl, h_one, ⟨v_other, _, rfl, h_other, rfl⟩⟩⟩, q⟩ := h
    dsimp only at *
    refine ⟨_, (pss_cons (ps_set (i := 3) sc_divide_short.nd rfl (Or.inl rfl) (pe_callTy call_list_of (by rfl) (B "list" (by decide +kernel)) (by decide +kernel) (pa_cons (pv 1) pa_nil)))
      (pss_cons (ps_set (i := 4) sc_divide_short.nd rfl (Or.inl rfl) (pe_lst pa_nil))
      (pss_cons (ps_set (i := 5) sc_divide_short.nd rfl (Or.inl rfl) (pe_callB call_len_seq (by rfl) (B "len" (by decide +kernel)) (by decide +kernel) (pa_cons (pv 2) pa_nil)))
      (pss_cons (ps_set (i := 6) sc_divide_short.nd rfl (Or.inl rfl) (pe_call D_inverse.ok (hr.mono (by decide)) (by rfl) D_inverse.g D_inverse.kp D_inverse.b .nil pass0 (pa_cons (pv 0) (pa_cons (pe_ix ix_tup (pv 2) (pe_un un_neg pe_int) (fun _ _ => rfl)) pa_nil))))
      (pss_cons (ps_while PassesOwn.never (pt_cmpR op_ge (pe_callB call_len_seq (by rfl) (B "len" (by decide +kernel)) (by decide +kernel) (pa_cons (pv 3) pa_nil)) (pv 5) (nomark _)) (pss_cons (ps_set (i := 7) sc_divide_short.nd rfl (Or.inr rfl) (pe_op op_mod (pe_op op_mul (pe_ix ix_list (pv 3) (pe_un un_neg pe_int) (fun _ _ => rfl)) (pv 6)) (pv 0)))
      (pss_cons (ps_expr (pe_bm PySem.F.plainAttrs_list PySem.F.slot_list_append PySem.F.type_list_append mt_append (pv 4) (pa_cons (pv 7) pa_nil)))
      (pss_cons (ps_if (pt_truth (pv 7) (by intro _; rfl)) (pss_cons (ps_set (i := 8) sc_divide_short.nd rfl (Or.inl rfl) (pe_op op_sub (pe_callB call_len_seq (by rfl) (B "len" (by decide +kernel)) (by decide +kernel) (pa_cons (pv 3) pa_nil)) (pv 5)))
      (pss_one (ps_asg (pe_lc (own := [("number", 9), ("further", 10)]) (g := (gTup K 2 (gCons (gName 9) (gCons (gName 10) gNil)))) (tt := tYes) rfl sc_divide_short.nd (pi_zipK false true (by rfl) (B "zip" (by decide +kernel)) (pa_cons (pe_slice sl_list (pv 3) (po_some (pv 8)) po_none) (pa_cons (pv 2) pa_nil))) (blkOk_by (own := [("number", 9), ("further", 10)]) (N := N_divide_short) (sc := defScope s_divide_short) (by decide +kernel)) (fun _ _ _ _ _ => (pg_tup rfl (pgs_cons (pg_name (i := 9) sc_divide_short.nd rfl (Or.inl rfl)) (pgs_cons (pg_name (i := 10) sc_divide_short.nd rfl (Or.inl rfl)) pgs_nil)))) (fun _ _ _ _ _ => pts_nil) (fun _ _ _ _ _ => (pe_op op_mod (pe_op op_sub (pv 9) (pe_op op_mul (pv 7) (pv 10))) (pv 0)))) (pg_cut (pv 3) (po_some (pv 8)) po_none)))) pss_nil)
      (pss_one (ps_expr (pe_bm0 PySem.F.plainAttrs_list PySem.F.slot_list_pop PySem.F.type_list_pop mt_pop (pv 3))))))))
      (pss_one (ps_ret (pe_tup (pa_cons (pe_call D_trimmed.ok (hr.mono (by decide)) (by rfl) D_trimmed.g D_trimmed.kp D_trimmed.b .nil pass0 (pa_cons (pe_revL (pv 4)) pa_nil)) (pa_cons (pe_call D_trimmed.ok (hr.mono (by decide)) (by rfl) D_trimmed.g D_trimmed.kp D_trimmed.b .nil pass0 (pa_cons (pv 3) pa_nil)) pa_nil)))))))))), ?_⟩
    have eL : ∀ {l : List Int} (hx : l ≠ []), l.getLastD 0 = l.getLast hx := fun hx => by rw [List.getLastD_eq_getLast?, List.getLast?_eq_some_getLast hx] <;> rfl
    refine Evl.q_asgL (el_listK rfl (EvR.kP (evr_var rfl h_one))) fun l1 H1 n1 e1 hA => ?_
    refine Evl.q_asgL (el_dispI (rs := []) evrs_nil (by decide)) fun l2 H2 n2 e2 hB => ?_
    have hne12 : l1 ≠ l2 := fun z => by
      rw [← z, hA] at n2
      cases n2
    have n2' : H l2 = none := fresh_back e1 n2
    have e02 : Ex H H2 := e1.trans e2
    refine qr_asg (evr_lenR rfl (EvR.kP (evr_var rfl ((vP K ys).st e02 h_other)))) fun v H3 e3 hv => ?_
    obtain rfl := hv
    refine qr_asg (evr_call (G2.mk p (ys.getLastD 0)) ⟨hp, hp2⟩ (evrs_cons (evr_var rfl rfl) (evrs_cons (evr_op (evr_var rfl ((vP K ys).st (e02.trans e3) h_other)) (un_negI evr_c) (op_ixP (by rw [eL hne]; exact atI_lastI hne))) evrs_nil))) fun v H4 e4 hv => ?_
    obtain rfl := hv
    have e04 : Ex H H4 := (e02.trans e3).trans e4
    have hu0 : 0 ≤ inv p (ys.getLastD 0) ∧ inv p (ys.getLastD 0) ≤ 100000 := by
      have := inv_bd (n := ys.getLastD 0) hp
      omega
    dsimp only
    have hq : (vT K [vP K (divide p xs ys).1, vP K (divide p xs ys).2]) = vT K [vP K (trim (divIter p (inv p (ys.getLastD 0)) ys (xs.length + 1 - ys.length) (xs, [])).2.reverse), vP K (trim (divIter p (inv p (ys.getLastD 0)) ys (xs.length + 1 - ys.length) (xs, [])).1)] := rfl
    rw [hq] at q
    generalize inv p (ys.getLastD 0) = u at hu0 q
    refine Evl.q_while (fun m σ H' => ∃ r qs x8 x9, σ = [some (.int p), some v_one, some v_other, some (.ref l1), some (.ref l2), some (.int (ys.length : Int)), some (.int u), x8, x9, none, none] ∧ Ex H H' ∧ H' l1 = some (.lst (r.map V.int)) ∧ H' l2 = some (.lst (qs.map V.int)) ∧
      m = r.length ∧ qs.length + r.length = xs.length ∧ Small r ∧ divIter p u ys (r.length + 1 - ys.length) (r, qs) = divIter p u ys (xs.length + 1 - ys.length) (xs, [])) xs.length
      ⟨xs, [], none, none, rfl, e04, e4 _ _ (e3 _ _ (e2 _ _ hA)), e4 _ _ (e3 _ _ hB), rfl, by simp, sm1, rfl⟩ fun m σ H' hW => ?_
    obtain ⟨r, qs, x8, x9, rfl, e', hA', hB', rfl, hlen, smr, hI⟩ := hW
    have hys : 1 ≤ ys.length := List.length_pos_iff.mpr hne
    refine ⟨_, et_r (evr_op (evr_lenR rfl (EvR.kL (evr_mut rfl hA'))) (evr_var rfl rfl) op_i0), fun hb H5 e5 => ?_, fun hb H5 e5 => ?_⟩
    · have hge : ys.length ≤ r.length := by
        have := of_decide_eq_true hb
        omega
      have hr0 : r ≠ [] := by
        intro z
        have := congrArg List.length z
        rw [List.length_nil] at this
        omega
      have hcnt : r.length + 1 - ys.length = (r.length - ys.length) + 1 := by omega
      have hstep : divIter p u ys (r.length + 1 - ys.length) (r, qs) = divIter p u ys (r.length - ys.length) (divStep p u ys (r, qs)) := by rw [hcnt] <;> rfl
      have hlast := smr _ (List.getLast_mem hr0)
      have hA5 := e5 _ _ hA'
      have hB5 := e5 _ _ hB'
      refine ⟨fun σ2 H2 => ∃ r2 qs2 y8 y9, σ2 = [some (.int p), some v_one, some v_other, some (.ref l1), some (.ref l2), some (.int (ys.length : Int)), some (.int u), y8, y9, none, none] ∧ Ex H H2 ∧ H2 l1 = some (.lst (r2.map V.int)) ∧ H2 l2 = some (.lst (qs2.map V.int)) ∧
        r2.length + 1 = r.length ∧ qs2.length = qs.length + 1 ∧ Small r2 ∧ (r2, qs2) = divStep p u ys (r, qs), fun σ2 H2 hN => ?_, ?_⟩
      · obtain ⟨r2, qs2, y8, y9, rfl, g1, g2, g3, g4, g5, g6, g7⟩ := hN
        refine ⟨r2.length, by omega, r2, qs2, y8, y9, rfl, g1, g2, g3, rfl, by omega, g6, ?_⟩
        rw [← hI, hstep, ← g7, show r2.length + 1 - ys.length = r.length - ys.length by omega]
      · refine qr_asg (r := vI (r.getLast hr0 * u % p)) (evr_op (evr_op (evr_op (evr_mut rfl hA5) (un_negI evr_c) (op_ixLi (atI_lastI hr0))) (evr_var rfl rfl) (op_i (.inr (by omega)))) (evr_var rfl rfl) (op_i hp)) fun v H6 e6 hv => ?_
        obtain rfl := hv
        have ef : r.getLastD 0 * u % p = r.getLast hr0 * u % p := by rw [eL hr0]
        have hf := small_mod (x := r.getLast hr0 * u) hp hp2
        have hf0 := Int.emod_nonneg (r.getLast hr0 * u) (by omega : p ≠ 0)
        have hf1 := Int.emod_lt_of_pos (r.getLast hr0 * u) hp
        generalize r.getLast hr0 * u % p = f at ef hf hf0 hf1
        have hA6 := e6 _ _ hA5
        have hB6 := e6 _ _ hB5
        refine qr_app hB6 (Evl.ev_var rfl) (evr_var rfl rfl) (by omega) fun H7 e7 => ?_
        have e07 : Ex H (upd H7 l2 (.lst ((qs ++ [f]).map V.int))) := Ex.mut (((e'.trans e5).trans e6).trans e7) n2'
        have hA7 : (upd H7 l2 (.lst ((qs ++ [f]).map V.int))) l1 = some (.lst (r.map V.int)) := by
          rw [upd_ne hne12]
          exact e7 _ _ hA6
        have hB7 : (upd H7 l2 (.lst ((qs ++ [f]).map V.int))) l2 = some (.lst ((qs ++ [f]).map V.int)) := upd_same
        generalize (upd H7 l2 (.lst ((qs ++ [f]).map V.int))) = H8 at e07 hA7 hB7
        refine Evl.q_when (et_truI (evr_var rfl rfl)) (fun hb2 H9 e9 => ?_) (fun hb2 H9 e9 => ?_)
        · have hf2 : f ≠ 0 := by simpa using hb2
          have hA9 := e9 _ _ hA7
          refine qr_asg (r := vI ((r.length - ys.length : Nat) : Int)) ((evr_op (evr_lenR rfl (EvR.kL (evr_mut rfl hA9))) (evr_var rfl rfl) op_i0).eqI (by omega)) fun v H10 e10 hv => ?_
          obtain rfl := hv
          have hA10 := e10 _ _ hA9
          have hB10 := e10 _ _ (e9 _ _ hB7)
          have e010 : Ex H H10 := (e07.trans e9).trans e10
          refine sr_cut (ns := r) (ms := List.zipWith (fun n y => (n - f * y) % p) (r.drop (r.length - ys.length)) ys) (lo := some ((r.length - ys.length : Nat) : Int)) (hi := none) hA10 (fun H1 e1 => Evl.ev_var rfl) (fun H1 e1 => eo_some (evr_var rfl rfl)) (fun H1 e1 => eo_none) ?_ ?_ fun H11 e11 => ?_
          · refine er_zipN (wk_zipK (evrs_cons (EvR.kL ?_) (evrs_cons (EvR.kP (evr_var rfl ((vP K ys).st e010 h_other))) evrs_nil))) (fun n y => (n - f * y) % p) (by rw [List.length_drop]; omega) (fun x y => rfl) ?_
            · rw [← cutI_drop]
              exact evr_slL (evr_mut rfl hA10) (eo_some (evr_var rfl rfl)) eo_none
            · intro n hn y hy H12 e12
              exact evr_op (evr_op (evr_var rfl rfl) (evr_op (evr_var rfl rfl) (evr_var rfl rfl) (op_i (.inl (by omega)))) op_i0) (evr_var rfl rfl) (op_i hp)
          · rw [List.length_zipWith, List.length_drop]
            omega
          · have ec1 : cutA (some ((r.length - ys.length : Nat) : Int)) r.length = r.length - ys.length := by
              unfold cutA
              rw [HT.sIx_nat]
              omega
            have ec2 : cutC (some ((r.length - ys.length : Nat) : Int)) none r.length = r.length := by
              unfold cutC
              rw [HT.sIx_nat, HT.sIx_none]
              omega
            rw [ec1, ec2, List.drop_length, List.append_nil]
            have hne11 : List.take (r.length - ys.length) r ++ List.zipWith (fun n y => (n - f * y) % p) (r.drop (r.length - ys.length)) ys ≠ [] := by
              intro z
              have := congrArg List.length z
              rw [List.length_append, List.length_take, List.length_zipWith, List.length_drop, List.length_nil] at this
              omega
            refine sr_pop (ns := List.take (r.length - ys.length) r ++ List.zipWith (fun n y => (n - f * y) % p) (r.drop (r.length - ys.length)) ys) upd_same (Evl.ev_var rfl) hne11 fun H12 e12 => ?_
            have hn1 : H l1 = none := n1
            refine ⟨_, qs ++ [f], _, _, rfl, Ex.mut ((Ex.mut (e010.trans e11) hn1).trans e12) hn1, upd_same, ?_, ?_, by rw [List.length_append]; rfl, ?_, ?_⟩
            · rw [upd_ne (Ne.symm hne12)]
              refine e12 _ _ ?_
              rw [upd_ne (Ne.symm hne12)]
              exact e11 _ _ hB10
            · rw [List.length_dropLast, List.length_append, List.length_take, List.length_zipWith, List.length_drop]
              omega
            · exact ((smr.take _).app (small_zip hp hp2 _ _ _)).dropLast
            · unfold divStep
              simp only [ef]
              rw [if_neg hf2]
        · have hf2 : f = 0 := by simpa using hb2
          have hA9 := e9 _ _ hA7
          have hn1 : H l1 = none := n1
          refine sr_pop (ns := r) hA9 (Evl.ev_var rfl) hr0 fun H12 e12 => ?_
          refine ⟨_, qs ++ [f], _, _, rfl, Ex.mut ((e07.trans e9).trans e12) hn1, upd_same, ?_, ?_, by rw [List.length_append]; rfl, smr.dropLast, ?_⟩
          · rw [upd_ne (Ne.symm hne12)]
            exact e12 _ _ (e9 _ _ hB7)
          · rw [List.length_dropLast]
            have := List.length_pos_iff.mpr hr0
            omega
          · unfold divStep
            simp only [ef]
            rw [if_pos hf2]
    · have hlt : r.length < ys.length := by
        have := of_decide_eq_false hb
        omega
      have h0 : r.length + 1 - ys.length = 0 := by omega
      rw [h0] at hI
      have hI2 : (r, qs) = divIter p u ys (xs.length + 1 - ys.length) (xs, []) := hI
      rw [← hI2] at q
      have hA5 := e5 _ _ hA'
      have hB5 := e5 _ _ hB'
      refine sr_ret (evr_dispT (evrs_cons (evr_call qs.reverse (by show qs.reverse.length ≤ 100000; rw [List.length_reverse]; omega) (evrs_cons (evr_revL (evr_mut rfl hB5)) evrs_nil)) (evrs_cons (evr_call r (by show r.length ≤ 100000; omega) (evrs_cons (evr_mut rfl hA5) evrs_nil)) evrs_nil)) (Nat.le_of_ble_eq_true rfl)) fun v H6 e6 hv => q v H6 ((e'.trans e5).trans e6) hv
/-- no call keeps these -/
def spF : Sp := fun _ _ _ _ => False
theorem ok_F {f : Addr} {fd : FuncData} {ps : List Str} {k : Nat} : FnOk P w K mg base CX0 k f fd ps spF := ⟨fun _ _ _ _ h => h.elim, fun _ _ _ _ _ _ _ _ _ _ _ _ _ h => h.elim⟩
abbrev s_divide : Stmt := topS 22
abbrev N_divide : List Str := ["prime", "one", "other", "rest", "quotient", "low", "digits", "_"]
theorem sc_divide : FnScope N_divide ["prime", "one", "other"] (defScope s_divide) := ⟨rfl, rfl, rfl, by decide +kernel, rfl, by decide +kernel, by decide +kernel⟩
theorem ok_divide {f : Addr} {fd : FuncData} (F : Fun K "divide" "divide" s_divide f fd) (B : Bis mg) (C_STEPS : GI mg "STEPS" 64) (C_MANY_STEPS : GI mg "MANY_STEPS" 10) (D_divide_short : De P w K mg base "divide_short" ["prime", "one", "other"] 2 (sp_divide_short K)) (D_first_digits : De P w K mg base "first_digits" ["prime", "one", "other", "many"] 2 spF) (D_add_scaled : De P w K mg base "add_scaled" ["prime", "one", "other", "factor"] 2 (sp_add_scaled K)) (D_multiply : De P w K mg base "multiply" ["prime", "one", "other"] 2 spF) (D_trimmed : De P w K mg base "trimmed" ["numbers"] 1 (sp_trimmed K)) : FnOk P w K mg base CX0 3 f fd ["prime", "one", "other"] (sp_divide K) := by
  refine F.ok sc_divide (fun vs H Q E h => ?_) (fun cdv A outer s H vs Q E hr h => ?_)
  · obtain ⟨g, _, ha, _⟩ := h
    exact ha.len
  · obtain ⟨⟨prime, one, other⟩, hpre, ⟨_, _, rfl, rfl, ⟨v_one, _, rfl, h_one, ⟨v_other, _, rfl, h_other, rfl⟩⟩⟩, q⟩ := h
    dsimp only at *
    refine ⟨_, (pss_cons (ps_if (PW.pt (pw_or (pt_cmpR op_lt (pe_op op_sub (pe_callB call_len_seq (by rfl) (B "len" (by decide +kernel)) (by decide +kernel) (pa_cons (pv 1) pa_nil)) (pe_callB call_len_seq (by rfl) (B "len" (by decide +kernel)) (by decide +kernel) (pa_cons (pv 2) pa_nil))) (pe_gi C_MANY_STEPS (by rfl)) (nomark _)) (pw_or1 (pt_cmpR op_le (pe_callB call_len_seq (by rfl) (B "len" (by decide +kernel)) (by decide +kernel) (pa_cons (pv 2) pa_nil)) (pe_gi C_STEPS (by rfl)) (nomark _))))) (pss_one (ps_ret (pe_call D_divide_short.ok (hr.mono (by decide)) (by rfl) D_divide_short.g D_divide_short.kp D_divide_short.b .nil pass0 (pa_cons (pv 0) (pa_cons (pv 1) (pa_cons (pv 2) pa_nil)))))) pss_nil)
      (pss_cons (ps_set (i := 3) sc_divide.nd rfl (Or.inl rfl) (pv 1))
      (pss_cons (ps_setLc (i := 4) (own := [("_", 7)]) (g := (gName 7)) (tt := tYes) rfl sc_divide.nd rfl rfl (sw_true rfl rfl rfl (by decide +kernel)) (pi_range1 (by rfl) (B "range" (by decide +kernel)) (pa_cons (pe_op op_add (pe_op op_sub (pe_callB call_len_seq (by rfl) (B "len" (by decide +kernel)) (by decide +kernel) (pa_cons (pv 1) pa_nil)) (pe_callB call_len_seq (by rfl) (B "len" (by decide +kernel)) (by decide +kernel) (pa_cons (pv 2) pa_nil))) pe_int) pa_nil)) (blkOk_by (own := [("_", 7)]) (N := N_divide) (sc := defScope s_divide) (by decide +kernel)) (fun _ _ _ _ _ => (pg_name (i := 7) sc_divide.nd rfl (Or.inl rfl))) (fun _ _ _ _ _ => pts_nil) (fun _ _ _ _ _ => pe_int))
      (pss_cons (ps_while PassesOwn.never (pt_cmpR op_ge (pe_op op_sub (pe_callB call_len_seq (by rfl) (B "len" (by decide +kernel)) (by decide +kernel) (pa_cons (pv 3) pa_nil)) (pe_callB call_len_seq (by rfl) (B "len" (by decide +kernel)) (by decide +kernel) (pa_cons (pv 2) pa_nil))) (pe_gi C_MANY_STEPS (by rfl)) (nomark _)) (pss_cons (ps_set (i := 5) sc_divide.nd rfl (Or.inl rfl) (pe_callB (call_max2 rfl) (by rfl) (B "max" (by decide +kernel)) (by decide +kernel) (pa_cons pe_int (pa_cons (pe_op op_sub (pe_op op_add (pe_op op_sub (pe_callB call_len_seq (by rfl) (B "len" (by decide +kernel)) (by decide +kernel) (pa_cons (pv 3) pa_nil)) (pe_callB call_len_seq (by rfl) (B "len" (by decide +kernel)) (by decide +kernel) (pa_cons (pv 2) pa_nil))) pe_int) (pe_gi C_STEPS (by rfl))) pa_nil))))
      (pss_cons (ps_set (i := 6) sc_divide.nd rfl (Or.inl rfl) (pe_call D_first_digits.ok (hr.mono (by decide)) (by rfl) D_first_digits.g D_first_digits.kp D_first_digits.b .nil pass0 (pa_cons (pv 0) (pa_cons (pv 3) (pa_cons (pv 2) (pa_cons (pe_op op_sub (pe_op op_add (pe_op op_sub (pe_callB call_len_seq (by rfl) (B "len" (by decide +kernel)) (by decide +kernel) (pa_cons (pv 3) pa_nil)) (pe_callB call_len_seq (by rfl) (B "len" (by decide +kernel)) (by decide +kernel) (pa_cons (pv 2) pa_nil))) pe_int) (pv 5)) pa_nil))))))
      (pss_cons (ps_asg (pv 6) (pg_cut (pv 4) (po_some (pv 5)) (po_some (pe_op op_add (pv 5) (pe_callB call_len_seq (by rfl) (B "len" (by decide +kernel)) (by decide +kernel) (pa_cons (pv 6) pa_nil))))))
      (pss_one (ps_set (i := 3) sc_divide.nd rfl (Or.inl rfl) (pe_call D_add_scaled.ok (hr.mono (by decide)) (by rfl) D_add_scaled.g D_add_scaled.kp D_add_scaled.b .nil pass0 (pa_cons (pv 0) (pa_cons (pv 3) (pa_cons (pe_op op_catA (pe_op op_repA (pe_tup (pa_cons pe_int pa_nil)) (pv 5)) (pe_call D_multiply.ok (hr.mono (by decide)) (by rfl) D_multiply.g D_multiply.kp D_multiply.b .nil pass0 (pa_cons (pv 0) (pa_cons (pv 6) (pa_cons (pv 2) pa_nil))))) (pa_cons (pe_un un_neg pe_int) pa_nil)))))))))))
      (pss_cons (ps_asg (pe_call D_divide_short.ok (hr.mono (by decide)) (by rfl) D_divide_short.g D_divide_short.kp D_divide_short.b .nil pass0 (pa_cons (pv 0) (pa_cons (pv 3) (pa_cons (pv 2) pa_nil)))) (pg_tup rfl (pgs_cons (pg_name (i := 6) sc_divide.nd rfl (Or.inl rfl)) (pgs_cons (pg_name (i := 3) sc_divide.nd rfl (Or.inl rfl)) pgs_nil))))
      (pss_cons (ps_asg (pv 6) (pg_cut (pv 4) po_none (po_some (pe_callB call_len_seq (by rfl) (B "len" (by decide +kernel)) (by decide +kernel) (pa_cons (pv 6) pa_nil)))))
      (pss_one (ps_ret (pe_tup (pa_cons (pe_call D_trimmed.ok (hr.mono (by decide)) (by rfl) D_trimmed.g D_trimmed.kp D_trimmed.b .nil pass0 (pa_cons (pv 4) pa_nil)) (pa_cons (pv 3) pa_nil))))))))))), ?_⟩
    obtain ⟨p0, p1, l1, l2, hne, s1, s2⟩ := hpre
    dsimp only at p0 p1 l1 l2 hne s1 s2
    refine Evl.q_when (b := decide ((one.length : Int) - other.length < 10) || decide ((other.length : Int) ≤ 64)) (Evl.et_or (et_r (evr_op (evr_op (evr_lenR rfl (EvR.kP (evr_var rfl h_one))) (evr_lenR rfl (EvR.kP (evr_var rfl h_other))) op_i0) evr_c op_i0)) fun _ => et_r (evr_op (evr_lenR rfl (EvR.kP (evr_var rfl h_other))) evr_c op_i0)) (fun hb H1 e1 => ?_) (fun hb H1 e1 => ?_)
    · exact sr_ret (evr_call (GQ.mk prime one other) ⟨p0, p1, l1, by dsimp only; omega, hne, s1, s2⟩ (evrs_cons (evr_var rfl rfl) (evrs_cons (evr_var rfl ((vP K one).st e1 h_one)) (evrs_cons (evr_var rfl ((vP K other).st e1 h_other)) evrs_nil)))) fun v H2 e2 hv => q v H2 (e1.trans e2) hv
    · exfalso
      have := of_decide_eq_false (Bool.or_eq_false_iff.mp hb).2
      omega
end
end K0
namespace Kt
open PySem PySem.Spec PyProof.Rows L2
open Evl (Ex Ev EvL EvU EvT EvA EvO ex_l ex_t sq_of st_of sz_of sz_lt fresh_back)
section
variable {K : PySem.W.Frag} {σ : L2.St} {H : Hp} {te tf : TE} {ta : TA} {D : Ends} {tz : TS} {r1 r2 : VR} {i j : Nat}
theorem qr_par (h : EvRs ta σ H [r1, r2]) (k : ∀ u v H1, Ex H H1 → r1.R u H1 → r2.R v H1 → tz D ((σ.set i (some u)).set j (some v)) H1) : tSeq (tPar i j ta) tz D σ H :=
  h H (Ex.refl H) _ fun vs H1 e ⟨u, _, h1, hu, ⟨v, _, h2, hv, h3⟩⟩ => by
    have h3' : _ = [] := h3
    subst h3' h2
    exact ⟨u, v, h1, k u v H1 e hu hv⟩
theorem sr_par (h : EvRs ta σ H [r1, r2]) (k : ∀ u v H1, Ex H H1 → r1.R u H1 → r2.R v H1 → D.nx ((σ.set i (some u)).set j (some v)) H1) : tPar i j ta D σ H :=
  h H (Ex.refl H) _ fun vs H1 e ⟨u, _, h1, hu, ⟨v, _, h2, hv, h3⟩⟩ => by
    have h3' : _ = [] := h3
    subst h3' h2
    exact ⟨u, v, h1, k u v H1 e hu hv⟩
end
end Kt
namespace K0
open PySem PySem.Spec PyProof.Rows L2 Kt
open Evl (Ex Ev EvL EvU EvT EvA EvO ex_l ex_t sq_of st_of sz_of sz_lt fresh_back)
/-! ### quotient_of, rest_of, common_divisor -/
theorem trim_sub : ∀ {l : List Int} {x : Int}, x ∈ trim l → x ∈ l
  | [], _, h => by simp [trim] at h
  | y :: r, x, h => by
    rw [trim] at h
    cases hr : trim r with
    | nil =>
      rw [hr] at h
      simp only at h
      split at h
      · simp at h
      · exact List.mem_cons.mpr (.inl (by simpa using h))
    | cons t ts =>
      rw [hr] at h
      simp only at h
      rcases List.mem_cons.mp h with h | h
      · exact List.mem_cons.mpr (.inl h)
      · exact List.mem_cons.mpr (.inr (trim_sub (l := r) (by rw [hr]; exact h)))
theorem trim_len : ∀ (l : List Int), (trim l).length ≤ l.length
  | [] => Nat.le_refl _
  | y :: r => by
    have ih := trim_len r
    rw [trim]
    cases hr : trim r with
    | nil =>
      simp only
      split <;> simp
    | cons t ts =>
      rw [hr] at ih
      simp only [List.length_cons] at ih ⊢
      omega
theorem Small.trim {l : List Int} (h : Small l) : Small (trim l) := fun x hx => h x (trim_sub hx)
theorem Small.rev {l : List Int} (h : Small l) : Small l.reverse := fun x hx => h x (List.mem_reverse.mp hx)
theorem divStep_len (p u : Int) (ys : List Int) (s : List Int × List Int) : (divStep p u ys s).1.length = s.1.length - 1 ∧ (divStep p u ys s).2.length = s.2.length + 1 := by
  unfold divStep
  simp only [List.length_append, List.length_dropLast, List.length_cons, List.length_nil]
  refine ⟨?_, trivial⟩
  split
  · rfl
  · rw [List.length_append, List.length_take, List.length_zipWith, List.length_drop]
    omega
theorem divIter_len (p u : Int) (ys : List Int) : ∀ (n : Nat) (s : List Int × List Int), (divIter p u ys n s).1.length = s.1.length - n ∧ (divIter p u ys n s).2.length = s.2.length + n
  | 0, s => ⟨rfl, rfl⟩
  | n + 1, s => by
    have h1 := divStep_len p u ys s
    have h2 := divIter_len p u ys n (divStep p u ys s)
    rw [divIter]
    omega
theorem divStep_small {p : Int} (hp : 0 < p) (hp2 : p ≤ 100000) (u : Int) (ys : List Int) (s : List Int × List Int) (h : Small s.1 ∧ Small s.2) : Small (divStep p u ys s).1 ∧ Small (divStep p u ys s).2 := by
  unfold divStep
  refine ⟨?_, h.2.app fun n hn => ?_⟩
  · simp only
    apply Small.dropLast
    split
    · exact h.1
    · exact (h.1.take _).app (small_zip hp hp2 _ _ _)
  · obtain rfl : n = _ := List.mem_singleton.mp hn
    exact small_mod hp hp2
theorem divIter_small {p : Int} (hp : 0 < p) (hp2 : p ≤ 100000) (u : Int) (ys : List Int) : ∀ (n : Nat) (s : List Int × List Int), (Small s.1 ∧ Small s.2) → Small (divIter p u ys n s).1 ∧ Small (divIter p u ys n s).2
  | 0, s, h => h
  | n + 1, s, h => divIter_small hp hp2 u ys n _ (divStep_small hp hp2 u ys s h)
theorem divide_small {p : Int} (hp : 0 < p) (hp2 : p ≤ 100000) {xs : List Int} (ys : List Int) (h : Small xs) : Small (divide p xs ys).1 ∧ Small (divide p xs ys).2 := by
  have z := divIter_small hp hp2 (inv p (ys.getLastD 0)) ys (xs.length + 1 - ys.length) (xs, []) ⟨h, fun n hn => by simp at hn⟩
  exact ⟨z.2.rev.trim, z.1.trim⟩
theorem divide_len1 (p : Int) (xs ys : List Int) : (divide p xs ys).1.length ≤ xs.length + 1 - ys.length := by
  have z := (divIter_len p (inv p (ys.getLastD 0)) ys (xs.length + 1 - ys.length) (xs, [])).2
  have t := trim_len (divIter p (inv p (ys.getLastD 0)) ys (xs.length + 1 - ys.length) (xs, [])).2.reverse
  rw [List.length_reverse] at t
  simp only [List.length_nil] at z
  show (trim _).length ≤ _
  omega
theorem divide_len2 (p : Int) (xs : List Int) {ys : List Int} (h : ys ≠ []) : (divide p xs ys).2.length < ys.length := by
  have z := (divIter_len p (inv p (ys.getLastD 0)) ys (xs.length + 1 - ys.length) (xs, [])).1
  have t := trim_len (divIter p (inv p (ys.getLastD 0)) ys (xs.length + 1 - ys.length) (xs, [])).1
  have := List.length_pos_iff.mpr h
  show (trim _).length < _
  simp only at z
  omega
def quotientOf (p : Int) (xs ys : List Int) : List Int := if ys = [1] then xs else (divide p xs ys).1
def comIter (p : Int) : Nat → List Int → List Int → List Int
  | 0, xs, _ => makeMonic p xs
  | n + 1, xs, ys => if ys = [] then makeMonic p xs else if ys.length = 1 then [1] else comIter p n ys (divide p xs ys).2
def common (p : Int) (xs ys : List Int) : List Int := comIter p (ys.length + 1) xs ys
theorem comIter_more (p : Int) : ∀ (n m : Nat) (xs ys : List Int), ys.length < n → ys.length < m → comIter p n xs ys = comIter p m xs ys
  | 0, _, _, _, h, _ => by omega
  | _ + 1, 0, _, _, _, h => by omega
  | n + 1, m + 1, xs, ys, h1, h2 => by
    rw [comIter, comIter]
    by_cases hy : ys = []
    · rw [if_pos hy, if_pos hy]
    · rw [if_neg hy, if_neg hy]
      have := divide_len2 p xs hy
      rw [comIter_more p n m ys (divide p xs ys).2 (by omega) (by omega)]
section
variable {P : Program} {w : World} {K : PySem.W.Frag} {mg : Str → Option Value} {base : Heap}
def sp_quotient_of (K : PySem.W.Frag) : Sp := Con (G := GQ) DivPre (fun g => [vI g.p, vP K g.xs, vP K g.ys]) (fun g => vP K (quotientOf g.p g.xs g.ys))
def sp_rest_of (K : PySem.W.Frag) : Sp := Con (G := GQ) DivPre (fun g => [vI g.p, vP K g.xs, vP K g.ys]) (fun g => vP K (divide g.p g.xs g.ys).2)
def sp_common_divisor (K : PySem.W.Frag) : Sp := Con (G := GQ) (fun g => 0 < g.p ∧ g.p ≤ 100000 ∧ g.xs.length ≤ 1000 ∧ g.ys.length ≤ 64 ∧ Small g.xs ∧ Small g.ys) (fun g => [vI g.p, vP K g.xs, vP K g.ys]) (fun g => vP K (common g.p g.xs g.ys))
abbrev s_quotient_of : Stmt := topS 25
abbrev N_quotient_of : List Str := ["prime", "one", "other"]
theorem sc_quotient_of : FnScope N_quotient_of ["prime", "one", "other"] (defScope s_quotient_of) := ⟨rfl, rfl, rfl, by decide +kernel, rfl, by decide +kernel, by decide +kernel⟩
theorem ok_quotient_of {f : Addr} {fd : FuncData} (F : Fun K "quotient_of" "quotient_of" s_quotient_of f fd) (B : Bis mg) (D_divide : De P w K mg base "divide" ["prime", "one", "other"] 3 (sp_divide K)) : FnOk P w K mg base CX0 4 f fd ["prime", "one", "other"] (sp_quotient_of K) := by
  refine F.ok sc_quotient_of (fun vs H Q E h => ?_) (fun cdv A outer s H vs Q E hr h => ?_)
  · obtain ⟨g, _, ha, _⟩ := h
    exact ha.len
  · obtain ⟨⟨prime, one, other⟩, hpre, ⟨_, _, rfl, rfl, ⟨v_one, _, rfl, h_one, ⟨v_other, _, rfl, h_other, rfl⟩⟩⟩, q⟩ := h
    dsimp only at *
    refine ⟨_, (pss_cons (ps_if (pt_cmpR (op_eqD hr.units) (pv 2) (pe_tup (pa_cons pe_int pa_nil)) (nomark _)) (pss_one (ps_ret (pv 1))) pss_nil)
      (pss_one (ps_ret (pe_ix ix_tup (pe_call D_divide.ok (hr.mono (by decide)) (by rfl) D_divide.g D_divide.kp D_divide.b .nil pass0 (pa_cons (pv 0) (pa_cons (pv 1) (pa_cons (pv 2) pa_nil)))) pe_int (fun _ _ => rfl))))), ?_⟩
    refine Evl.q_when (et_r (evr_op (evr_var rfl h_other) (evr_disp (ns := [1]) (evrs_cons evr_c evrs_nil) (by decide)) op_eqP)) (fun hb H1 e1 => ?_) (fun hb H1 e1 => ?_)
    · refine sr_ret (evr_var rfl ((vP K one).st e1 h_one)) fun v H2 e2 hv => q v H2 (e1.trans e2) ?_
      show (vP K (quotientOf prime one other)).R v H2
      rw [quotientOf, if_pos (of_decide_eq_true hb)]
      exact hv
    · refine sr_ret (evr_ixT (i := 0) (r := vP K (divide prime one other).1) (evr_call (GQ.mk prime one other) hpre (evrs_cons (evr_var rfl rfl) (evrs_cons (evr_var rfl ((vP K one).st e1 h_one)) (evrs_cons (evr_var rfl ((vP K other).st e1 h_other)) evrs_nil)))) evr_c rfl) fun v H2 e2 hv => q v H2 (e1.trans e2) ?_
      show (vP K (quotientOf prime one other)).R v H2
      rw [quotientOf, if_neg (of_decide_eq_false hb)]
      exact hv
abbrev s_rest_of : Stmt := topS 26
abbrev N_rest_of : List Str := ["prime", "one", "other"]
theorem sc_rest_of : FnScope N_rest_of ["prime", "one", "other"] (defScope s_rest_of) := ⟨rfl, rfl, rfl, by decide +kernel, rfl, by decide +kernel, by decide +kernel⟩
theorem ok_rest_of {f : Addr} {fd : FuncData} (F : Fun K "rest_of" "rest_of" s_rest_of f fd) (B : Bis mg) (D_divide : De P w K mg base "divide" ["prime", "one", "other"] 3 (sp_divide K)) : FnOk P w K mg base CX0 4 f fd ["prime", "one", "other"] (sp_rest_of K) := by
  refine F.ok sc_rest_of (fun vs H Q E h => ?_) (fun cdv A outer s H vs Q E hr h => ?_)
  · obtain ⟨g, _, ha, _⟩ := h
    exact ha.len
  · obtain ⟨⟨prime, one, other⟩, hpre, ⟨_, _, rfl, rfl, ⟨v_one, _, rfl, h_one, ⟨v_other, _, rfl, h_other, rfl⟩⟩⟩, q⟩ := h
    dsimp only at *
    refine ⟨_, (pss_one (ps_ret (pe_ix ix_tup (pe_call D_divide.ok (hr.mono (by decide)) (by rfl) D_divide.g D_divide.kp D_divide.b .nil pass0 (pa_cons (pv 0) (pa_cons (pv 1) (pa_cons (pv 2) pa_nil)))) pe_int (fun _ _ => rfl)))), ?_⟩
    exact sr_ret (evr_ixT (i := 1) (r := vP K (divide prime one other).2) (evr_call (GQ.mk prime one other) hpre (evrs_cons (evr_var rfl rfl) (evrs_cons (evr_var rfl h_one) (evrs_cons (evr_var rfl h_other) evrs_nil)))) evr_c rfl) fun v H2 e2 hv => q v H2 e2 hv
abbrev s_common_divisor : Stmt := topS 27
abbrev N_common_divisor : List Str := ["prime", "one", "other"]
theorem sc_common_divisor : FnScope N_common_divisor ["prime", "one", "other"] (defScope s_common_divisor) := ⟨rfl, rfl, rfl, by decide +kernel, rfl, by decide +kernel, by decide +kernel⟩
theorem ok_common_divisor {f : Addr} {fd : FuncData} (F : Fun K "common_divisor" "common_divisor" s_common_divisor f fd) (B : Bis mg) (D_rest_of : De P w K mg base "rest_of" ["prime", "one", "other"] 4 (sp_rest_of K)) (D_make_monic : De P w K mg base "make_monic" ["prime", "poly"] 3 (sp_make_monic K)) : FnOk P w K mg base CX0 5 f fd ["prime", "one", "other"] (sp_common_divisor K) := by
  refine F.ok sc_common_divisor (fun vs H Q E h => ?_) (fun cdv A outer s H vs Q E hr h => ?_)
  · obtain ⟨g, _, ha, _⟩ := h
    exact ha.len
  · obtain ⟨⟨prime, one, other⟩, ⟨hp, hp2, hl1, hl2, sm1, sm2⟩, ⟨_, _, rfl, rfl, ⟨v_one, _, rfl, h_one, ⟨v_other, _, rfl, h_other, rfl⟩⟩⟩, q⟩ := h
    dsimp only at *
    refine ⟨_, (pss_cons (ps_while PassesOwn.never (pt_truth (pv 2) (by intro _; rfl)) (pss_cons (ps_if (pt_cmpR op_eq (pe_callB call_len_seq (by rfl) (B "len" (by decide +kernel)) (by decide +kernel) (pa_cons (pv 2) pa_nil)) pe_int (nomark _)) (pss_one (ps_ret (pe_tup (pa_cons pe_int pa_nil)))) pss_nil)
      (pss_one (ps_par (i := 1) (j := 2) (by rfl) sc_common_divisor.nd rfl rfl (by decide) rfl rfl (pa_cons (pv 2) (pa_cons (pe_call D_rest_of.ok (hr.mono (by decide)) (by rfl) D_rest_of.g D_rest_of.kp D_rest_of.b .nil pass0 (pa_cons (pv 0) (pa_cons (pv 1) (pa_cons (pv 2) pa_nil)))) pa_nil)) (by rfl)))))
      (pss_one (ps_ret (pe_call D_make_monic.ok (hr.mono (by decide)) (by rfl) D_make_monic.g D_make_monic.kp D_make_monic.b .nil pass0 (pa_cons (pv 0) (pa_cons (pv 1) pa_nil)))))), ?_⟩
    refine Evl.q_while (fun m σ H' => ∃ a b va vb, σ = [some (.int prime), some va, some vb] ∧ Ex H H' ∧ (vP K a).R va H' ∧ (vP K b).R vb H' ∧ m = b.length ∧ a.length ≤ 1000 ∧ b.length ≤ 64 ∧ Small a ∧ Small b ∧ comIter prime (b.length + 1) a b = common prime one other) other.length
      ⟨one, other, v_one, v_other, rfl, Ex.refl H, h_one, h_other, rfl, hl1, hl2, sm1, sm2, rfl⟩ fun m σ H' hW => ?_
    obtain ⟨a, b, va, vb, rfl, e', ha, hb, rfl, la, lb, sa, sb, hI⟩ := hW
    refine ⟨_, et_truP (evr_var rfl hb), fun hc H5 e5 => ?_, fun hc H5 e5 => ?_⟩
    · have hne : b ≠ [] := by
        intro z
        subst z
        cases hc
      rw [comIter, if_neg hne] at hI
      refine ⟨fun σ2 H2 => ∃ va vb, σ2 = [some (.int prime), some va, some vb] ∧ Ex H H2 ∧ (vP K b).R va H2 ∧ (vP K (divide prime a b).2).R vb H2 ∧ b.length ≠ 1, fun σ2 H2 hN => ?_, ?_⟩
      · obtain ⟨va2, vb2, rfl, g1, g2, g3, g4⟩ := hN
        have hlt := divide_len2 prime a hne
        refine ⟨_, hlt, b, _, va2, vb2, rfl, g1, g2, g3, rfl, by omega, by omega, sb, (divide_small hp hp2 b sa).2, ?_⟩
        rw [if_neg g4] at hI
        rw [← hI]
        exact comIter_more prime _ _ _ _ (by omega) (by omega)
      · refine Evl.q_when (et_r (evr_op (evr_lenR rfl (EvR.kP (evr_var rfl ((vP K b).st e5 hb)))) evr_c (op_eqS rfl))) (fun hb2 H6 e6 => ?_) (fun hb2 H6 e6 => ?_)
        · have h1 : b.length = 1 := by
            have := V.int.inj (of_decide_eq_true hb2)
            omega
          rw [if_pos h1] at hI
          refine sr_ret (evr_disp (K := K) (ns := [1]) (evrs_cons evr_c evrs_nil) (by decide)) fun v H7 e7 hv => q v H7 (((e'.trans e5).trans e6).trans e7) ?_
          rw [← hI]
          exact hv
        · have h1 : b.length ≠ 1 := by
            intro z
            have := of_decide_eq_false hb2
            rw [z] at this
            exact this rfl
          have e56 := e5.trans e6
          refine sr_par (evrs_cons (evr_var rfl ((vP K b).st e56 hb)) (evrs_cons (evr_call (GQ.mk prime a b) ⟨hp, hp2, la, lb, hne, sa, sb⟩ (evrs_cons (evr_var rfl rfl) (evrs_cons (evr_var rfl ((vP K a).st e56 ha)) (evrs_cons (evr_var rfl ((vP K b).st e56 hb)) evrs_nil)))) evrs_nil)) fun u v H7 e7 hu hv => ?_
          exact ⟨u, v, rfl, (e'.trans e56).trans e7, hu, hv, h1⟩
    · have hz : b = [] := by
        cases b with
        | nil => rfl
        | cons x r => cases hc
      rw [comIter, if_pos hz] at hI
      refine sr_ret (evr_call (GP.mk prime a) ⟨hp, hp2, la, sa⟩ (evrs_cons (evr_var rfl rfl) (evrs_cons (evr_var rfl ((vP K a).st e5 ha)) evrs_nil))) fun v H6 e6 hv => q v H6 ((e'.trans e5).trans e6) ?_
      rw [← hI]
      exact hv
end
end K0
namespace K0
open M
/-- the row of a list's numbers -/
def co (xs : List Int) : PS := ⟨fun k => xs.getD k 0⟩
def Red (p : Int) (xs : List Int) : Prop := ∀ n ∈ xs, 0 ≤ n ∧ n < p
/-- alike but for p times something -/
def MEq (p : Int) (f g : PS) : Prop := ∃ h : PS, f = g + ⟨cst p⟩ * h
theorem MEq.refl {p : Int} (f : PS) : MEq p f f := ⟨0, by grind⟩
theorem MEq.of {p : Int} {f g : PS} (h : f = g) : MEq p f g := h ▸ .refl f
theorem MEq.symm {p : Int} {f g : PS} : MEq p f g → MEq p g f := fun ⟨h, e⟩ => ⟨-h, by grind⟩
theorem MEq.trans {p : Int} {f g h : PS} : MEq p f g → MEq p g h → MEq p f h := fun ⟨a, e⟩ ⟨b, e2⟩ => ⟨a + b, by grind⟩
theorem MEq.add {p : Int} {f g f' g' : PS} : MEq p f f' → MEq p g g' → MEq p (f + g) (f' + g') := fun ⟨a, e⟩ ⟨b, e2⟩ => ⟨a + b, by grind⟩
theorem MEq.sub {p : Int} {f g f' g' : PS} : MEq p f f' → MEq p g g' → MEq p (f - g) (f' - g') := fun ⟨a, e⟩ ⟨b, e2⟩ => ⟨a - b, by grind⟩
theorem MEq.mul {p : Int} {f g f' g' : PS} : MEq p f f' → MEq p g g' → MEq p (f * g) (f' * g') := fun ⟨a, e⟩ ⟨b, e2⟩ => ⟨a * g' + f' * b + ⟨cst p⟩ * a * b, by grind⟩
theorem MEq.c {p : Int} {f g : PS} : MEq p f g → ∀ k, f.c k % p = g.c k % p := fun ⟨h, e⟩ k => by
  rw [e]
  show (g.c k + mulc k (cst p) h.c) % p = _
  rw [PS.mulc_cst, Int.add_mul_emod_self_left]
theorem MEq.ofc {p : Int} {f g : PS} (h : ∀ k, f.c k % p = g.c k % p) : MEq p f g := ⟨⟨fun k => (f.c k - g.c k) / p⟩, by
  ext k
  show f.c k = g.c k + mulc k (cst p) _
  rw [PS.mulc_cst]
  have := Int.mul_ediv_cancel' (Int.dvd_of_emod_eq_zero (Int.emod_eq_emod_iff_emod_sub_eq_zero.mp (h k)))
  show f.c k = g.c k + p * ((f.c k - g.c k) / p)
  omega⟩
theorem co_c (xs : List Int) (k : Nat) : (co xs).c k = xs.getD k 0 := rfl
theorem co_cons0 (x : Int) (xs : List Int) : (co (x :: xs)).c 0 = x := rfl
theorem co_consS (x : Int) (xs : List Int) (k : Nat) : (co (x :: xs)).c (k + 1) = (co xs).c k := rfl
theorem co_nil : co [] = 0 := by
  ext k
  show ([] : List Int).getD k 0 = cst 0 k
  rw [PS.cst0]
  simp
theorem co_far {xs : List Int} {k : Nat} (h : xs.length ≤ k) : (co xs).c k = 0 := by
  rw [co_c, List.getD_eq_getElem?_getD, List.getElem?_eq_none h] <;> rfl
theorem co_near {xs : List Int} {k : Nat} (h : k < xs.length) : (co xs).c k = xs[k] := by
  rw [co_c, List.getD_eq_getElem?_getD, List.getElem?_eq_getElem h] <;> rfl
theorem co_trim : ∀ xs : List Int, co (trim xs) = co xs
  | [] => rfl
  | x :: r => by
    have ih := co_trim r
    rw [trim]
    cases hr : trim r with
    | nil =>
      rw [hr] at ih
      simp only
      split
      next h =>
        subst h
        ext k
        cases k with
        | zero => rfl
        | succ k =>
          rw [co_consS, ← ih]
          rfl
      next h =>
        ext k
        cases k with
        | zero => rfl
        | succ k => rw [co_consS, co_consS, ih]
    | cons t ts =>
      rw [hr] at ih
      simp only
      ext k
      cases k with
      | zero => rfl
      | succ k => rw [co_consS, co_consS, ih]
theorem co_zero_trim : ∀ {xs : List Int}, co xs = 0 → trim xs = []
  | xs, h => trim_all0 fun x hx => by
    obtain ⟨k, hk, rfl⟩ := List.getElem_of_mem hx
    rw [← co_near hk, h]
    exact PS.cst0 k
theorem trim_ext : ∀ {xs ys : List Int}, co xs = co ys → trim xs = trim ys
  | [], ys, h => by
    rw [co_nil] at h
    rw [co_zero_trim h.symm]
    rfl
  | x :: r, [], h => by
    rw [co_nil] at h
    rw [co_zero_trim h]
    rfl
  | x :: r, y :: t, h => by
    have h0 : x = y := by
      have := congrArg (fun f => f.c 0) h
      exact this
    have hr : co r = co t := by
      ext k
      have := congrArg (fun f => f.c (k + 1)) h
      exact this
    rw [trim, trim, trim_ext hr, h0]
theorem Red.trim {p : Int} {xs : List Int} (h : Red p xs) : Red p (trim xs) := fun n hn => h n (trim_sub hn)
theorem red_mod {p : Int} (hp : 0 < p) (xs : List Int) : Red p (xs.map (· % p)) := fun n hn => by
  obtain ⟨x, _, rfl⟩ := List.mem_map.mp hn
  exact ⟨Int.emod_nonneg _ (by omega), Int.emod_lt_of_pos _ hp⟩
theorem Red.co {p : Int} (hp : 0 < p) {xs : List Int} (h : Red p xs) (k : Nat) : 0 ≤ (K0.co xs).c k ∧ (K0.co xs).c k < p := by
  by_cases hk : k < xs.length
  · rw [co_near hk]
    exact h _ (List.getElem_mem hk)
  · rw [co_far (by omega)]
    omega
theorem Red.small {p : Int} (hp : p ≤ 100000) {xs : List Int} (h : Red p xs) : Small xs := fun n hn => by
  have := h n hn
  omega
/-- reduced and cut rows are told apart -/
theorem canon {p : Int} (hp : 0 < p) {xs ys : List Int} (hx : Red p xs) (hy : Red p ys) (tx : trim xs = xs) (ty : trim ys = ys) (h : MEq p (co xs) (co ys)) : xs = ys := by
  rw [← tx, ← ty]
  apply trim_ext
  ext k
  have h1 := hx.co hp k
  have h2 := hy.co hp k
  have h3 := h.c k
  rw [Int.emod_eq_of_lt h1.1 h1.2, Int.emod_eq_of_lt h2.1 h2.2] at h3
  exact h3
theorem trim_trim (xs : List Int) : trim (trim xs) = trim xs := trim_ext (co_trim xs)
theorem co_mod_c (p : Int) (xs : List Int) (k : Nat) : (co (xs.map (· % p))).c k = (co xs).c k % p := by
  by_cases hk : k < xs.length
  · rw [co_near (by rw [List.length_map]; exact hk), co_near hk, List.getElem_map]
  · rw [co_far (by rw [List.length_map]; omega), co_far (by omega)]
    rfl
theorem co_mod {p : Int} (xs : List Int) : MEq p (co (xs.map (· % p))) (co xs) := .ofc fun k => by rw [co_mod_c, Int.emod_emod]
/-! ### products -/
def addL : List Int → List Int → List Int
  | [], ys => ys
  | x :: xs, [] => x :: xs
  | x :: xs, y :: ys => (x + y) :: addL xs ys
theorem co_addL : ∀ xs ys : List Int, co (addL xs ys) = co xs + co ys
  | [], ys => by rw [co_nil, addL]; grind
  | x :: xs, [] => by rw [co_nil, addL]; grind
  | x :: xs, y :: ys => by
    have ih := co_addL xs ys
    ext k
    cases k with
    | zero => rfl
    | succ k =>
      rw [addL, co_consS, ih]
      rfl
theorem addL_len : ∀ xs ys : List Int, (addL xs ys).length = max xs.length ys.length
  | [], ys => by simp [addL]
  | x :: xs, [] => by simp [addL]
  | x :: xs, y :: ys => by
    rw [addL, List.length_cons, addL_len, List.length_cons, List.length_cons]
    omega
def conv : List Int → List Int → List Int
  | [], _ => []
  | x :: xs, ys => addL (ys.map (x * ·)) (0 :: conv xs ys)
theorem co_scale (x : Int) (ys : List Int) : co (ys.map (x * ·)) = ⟨cst x⟩ * co ys := by
  ext k
  show _ = mulc k (cst x) _
  rw [PS.mulc_cst]
  by_cases hk : k < ys.length
  · rw [co_near (by rw [List.length_map]; exact hk), co_near hk, List.getElem_map]
  · rw [co_far (by rw [List.length_map]; omega), co_far (by omega), Int.mul_zero]
theorem co_conv : ∀ xs ys : List Int, co (conv xs ys) = co xs * co ys
  | [], ys => by rw [conv, co_nil]; grind
  | x :: xs, ys => by
    have ih := co_conv xs ys
    rw [conv, co_addL, co_scale]
    ext k
    show mulc k (cst x) _ + (co (0 :: conv xs ys)).c k = mulc k (co (x :: xs)).c (co ys).c
    rw [PS.mulc_cst]
    cases k with
    | zero =>
      show x * _ + 0 = x * _
      omega
    | succ k =>
      rw [co_consS, ih]
      rfl
theorem conv_len : ∀ xs ys : List Int, (conv xs ys).length ≤ xs.length + ys.length
  | [], ys => by simp [conv]
  | x :: xs, ys => by
    have := conv_len xs ys
    rw [conv, addL_len, List.length_map, List.length_cons, List.length_cons]
    omega
def prod (p : Int) (xs ys : List Int) : List Int := trim ((conv xs ys).map (· % p))
theorem prod_red {p : Int} (hp : 0 < p) (xs ys : List Int) : Red p (prod p xs ys) := (red_mod hp _).trim
theorem prod_trim (p : Int) (xs ys : List Int) : trim (prod p xs ys) = prod p xs ys := trim_trim _
theorem prod_len (p : Int) (xs ys : List Int) : (prod p xs ys).length ≤ xs.length + ys.length := by
  have h1 := conv_len xs ys
  have h2 := trim_len ((conv xs ys).map (· % p))
  rw [List.length_map] at h2
  unfold prod
  omega
theorem co_prod {p : Int} (xs ys : List Int) : MEq p (co (prod p xs ys)) (co xs * co ys) := by
  unfold prod
  rw [co_trim, ← co_conv]
  exact co_mod _
/-- what a product is: the only reduced and cut row of its worth -/
theorem prod_is {p : Int} (hp : 0 < p) {xs ys zs : List Int} (h1 : Red p zs) (h2 : trim zs = zs) (h : MEq p (co zs) (co xs * co ys)) : prod p xs ys = zs :=
  canon hp (prod_red hp xs ys) h1 (prod_trim p xs ys) h2 ((co_prod xs ys).trans h.symm)
theorem prod_comm {p : Int} (hp : 0 < p) (xs ys : List Int) : prod p xs ys = prod p ys xs :=
  prod_is hp (prod_red hp ys xs) (prod_trim p ys xs) ((co_prod ys xs).trans (.of (by grind)))
theorem co_one : co [1] = 1 := by
  ext k
  cases k with
  | zero => rfl
  | succ k => rfl
theorem prod_one {p : Int} (hp : 0 < p) {ys : List Int} (h1 : Red p ys) (h2 : trim ys = ys) : prod p [1] ys = ys :=
  prod_is hp h1 h2 (.of (by rw [co_one]; grind))
end K0
namespace Kt
open PySem PySem.Spec PyProof.Rows L2
open Evl (Ex Ev EvL EvU EvT EvA EvO ex_l ex_t sq_of st_of sz_of sz_lt fresh_back)
section
variable {K : PySem.W.Frag} {σ : L2.St} {H : Hp} {te tf : TE} {ta : TA} {D : Ends} {tz : TS} {r : VR} {i : Nat} {t : TT} {b : Bool} {v0 : V}
theorem set_same (h : σ[i]? = some (some v0)) : σ.set i (some v0) = σ := by
  apply List.ext_getElem?
  intro k
  rw [List.getElem?_set]
  split
  next e =>
    subst e
    split
    · exact h.symm
    · next hk =>
      rw [List.getElem?_eq_none (by omega)]
  next => rfl
/-- if c: x = e -/
theorem qr_ifAsg (h : EvT t σ H b) (hx : σ[i]? = some (some v0)) (h1 : b = true → EvR te σ H r) (h2 : b = false → r.R v0 H) (k : ∀ v H1, Ex H H1 → r.R v H1 → tz D (σ.set i (some v)) H1) : tSeq (tIfS t (tAsg te (gName i)) tNext) tz D σ H :=
  Evl.q_when h (fun hb H1 e1 => sr_asg ((h1 hb).mono e1) fun v H2 e2 hv => k v H2 (e1.trans e2) hv) fun hb H1 e1 => by
    have z := k v0 H1 e1 (r.st e1 (h2 hb))
    rw [set_same hx] at z
    exact z
theorem sr_ifAsg (h : EvT t σ H b) (hx : σ[i]? = some (some v0)) (h1 : b = true → EvR te σ H r) (h2 : b = false → r.R v0 H) (k : ∀ v H1, Ex H H1 → r.R v H1 → D.nx (σ.set i (some v)) H1) : tIfS t (tAsg te (gName i)) tNext D σ H :=
  Evl.s_when h (fun hb H1 e1 => sr_asg ((h1 hb).mono e1) fun v H2 e2 hv => k v H2 (e1.trans e2) hv) fun hb H1 e1 => by
    have z := k v0 H1 e1 (r.st e1 (h2 hb))
    rw [set_same hx] at z
    exact z
end
end Kt
namespace K0
open PySem PySem.Spec PyProof.Rows L2 Kt M
open Evl (Ex Ev EvL EvU EvT EvA EvO ex_l ex_t sq_of st_of sz_of sz_lt fresh_back)
/-! ### multiply, power_of -/
/-- what a product asks for -/
structure MulPre (g : GQ) : Prop where
  p0 : 2 ≤ g.p
  p1 : g.p ≤ 7
  rx : Red g.p g.xs
  ry : Red g.p g.ys
  tx : trim g.xs = g.xs
  ty : trim g.ys = g.ys
  lx : g.xs.length ≤ 300
  ly : g.ys.length ≤ 300
  lm : g.xs.length ≤ 90 ∨ g.ys.length ≤ 90
structure GW where
  p : Int
  xs : List Int
  n : Nat
def pw (p : Int) (xs : List Int) : Nat → List Int
  | 0 => [1]
  | n + 1 => prod p (pw p xs n) xs
section
variable {P : Program} {w : World} {K : PySem.W.Frag} {mg : Str → Option Value} {base : Heap}
def sp_mul (pre : GQ → Prop) (K : PySem.W.Frag) : Sp := Con (G := GQ) pre (fun g => [vI g.p, vP K g.xs, vP K g.ys]) (fun g => vP K (prod g.p g.xs g.ys))
def sp_multiply (K : PySem.W.Frag) : Sp := sp_mul MulPre K
def sp_multiply_short (K : PySem.W.Frag) : Sp := sp_mul (fun g => MulPre g ∧ g.xs.length ≤ 5 ∧ g.xs.length ≤ g.ys.length) K
def sp_multiply_long (K : PySem.W.Frag) : Sp := sp_mul (fun g => MulPre g ∧ 5 < g.xs.length ∧ g.xs.length ≤ g.ys.length) K
abbrev s_multiply : Stmt := topS 16
abbrev N_multiply : List Str := ["prime", "one", "other"]
theorem sc_multiply : FnScope N_multiply ["prime", "one", "other"] (defScope s_multiply) := ⟨rfl, rfl, rfl, by decide +kernel, rfl, by decide +kernel, by decide +kernel⟩
/-- no call keeps this one -/
theorem ok_void {f : Addr} {fd : FuncData} {ps : List Str} {k : Nat} : FnOk P w K mg base CX0 k f fd ps (sp_mul (fun _ => False) K) :=
  ⟨fun _ _ _ _ ⟨_, h, _⟩ => h.elim, fun _ _ _ _ _ _ _ _ _ _ _ _ _ ⟨_, h, _⟩ => h.elim⟩
theorem ok_multiply0 {pre inner : GQ → Prop} (hpre : ∀ g, pre g → MulPre g) (hin : ∀ p xs ys, pre ⟨p, xs, ys⟩ → ys.length < xs.length → inner ⟨p, ys, xs⟩) {k : Nat} (hk : 2 ≤ k) {f : Addr} {fd : FuncData} (F : Fun K "multiply" "multiply" s_multiply f fd) (B : Bis mg) (C_SHORT : GI mg "SHORT" 5)
    (D_multiply : De P w K mg base "multiply" ["prime", "one", "other"] k (sp_mul inner K)) (D_multiply_short : De P w K mg base "multiply_short" ["prime", "one", "other"] 2 (sp_multiply_short K)) (D_multiply_long : De P w K mg base "multiply_long" ["prime", "one", "other"] 2 (sp_multiply_long K)) : FnOk P w K mg base CX0 (k + 1) f fd ["prime", "one", "other"] (sp_mul pre K) := by
  refine F.ok sc_multiply (fun vs H Q E h => ?_) (fun cdv A outer s H vs Q E hr h => ?_)
  · obtain ⟨g, _, ha, _⟩ := h
    exact ha.len
  · obtain ⟨⟨prime, one, other⟩, hp, ⟨_, _, rfl, rfl, ⟨v_one, _, rfl, h_one, ⟨v_other, _, rfl, h_other, rfl⟩⟩⟩, q⟩ := h
    have hm := hpre _ hp
    obtain ⟨t, ht⟩ := C_SHORT
    dsimp only at *
    refine ⟨_, (pss_cons (ps_if (pt_cmpR op_gt (pe_callB call_len_seq (by rfl) (B "len" (by decide +kernel)) (by decide +kernel) (pa_cons (pv 1) pa_nil)) (pe_callB call_len_seq (by rfl) (B "len" (by decide +kernel)) (by decide +kernel) (pa_cons (pv 2) pa_nil)) (nomark _)) (pss_one (ps_ret (pe_call D_multiply.ok hr (by rfl) D_multiply.g D_multiply.kp D_multiply.b .nil pass0 (pa_cons (pv 0) (pa_cons (pv 2) (pa_cons (pv 1) pa_nil)))))) pss_nil)
      (pss_cons (ps_if (pt_cmpR (op_eqD hr.units) (pv 1) (pe_tup (pa_cons pe_int pa_nil)) (nomark _)) (pss_one (ps_ret (pv 2))) pss_nil)
      (pss_cons (ps_if (pt_cmpR op_le (pe_callB call_len_seq (by rfl) (B "len" (by decide +kernel)) (by decide +kernel) (pa_cons (pv 1) pa_nil)) (pe_glob (v := .int 5) rfl ht ⟨t, rfl⟩) (nomark _)) (pss_one (ps_ret (pe_call D_multiply_short.ok (hr.mono hk) (by rfl) D_multiply_short.g D_multiply_short.kp D_multiply_short.b .nil pass0 (pa_cons (pv 0) (pa_cons (pv 1) (pa_cons (pv 2) pa_nil)))))) pss_nil)
      (pss_one (ps_ret (pe_call D_multiply_long.ok (hr.mono hk) (by rfl) D_multiply_long.g D_multiply_long.kp D_multiply_long.b .nil pass0 (pa_cons (pv 0) (pa_cons (pv 1) (pa_cons (pv 2) pa_nil))))))))), ?_⟩
    have hp0 : 0 < prime := by
      have := hm.p0
      dsimp only at this
      omega
    refine Evl.q_when (et_r (evr_op (evr_lenR rfl (EvR.kP (evr_var rfl h_one))) (evr_lenR rfl (EvR.kP (evr_var rfl h_other))) op_i0)) (fun hb H1 e1 => ?_) (fun hb H1 e1 => ?_)
    · have hlt : other.length < one.length := by
        have := of_decide_eq_true hb
        omega
      refine sr_ret (evr_call (GQ.mk prime other one) (hin _ _ _ hp hlt) (evrs_cons (evr_var rfl rfl) (evrs_cons (evr_var rfl ((vP K other).st e1 h_other)) (evrs_cons (evr_var rfl ((vP K one).st e1 h_one)) evrs_nil)))) fun v H2 e2 hv => q v H2 (e1.trans e2) ?_
      show (vP K (prod prime one other)).R v H2
      rw [prod_comm hp0]
      exact hv
    · have hle : one.length ≤ other.length := by
        have := of_decide_eq_false hb
        omega
      refine Evl.q_when (et_r (evr_op (evr_var rfl ((vP K one).st e1 h_one)) (evr_disp (K := K) (ns := [1]) (evrs_cons evr_c evrs_nil) (by decide)) op_eqP)) (fun hb2 H2 e2 => ?_) (fun hb2 H2 e2 => ?_)
      · refine sr_ret (evr_var rfl ((vP K other).st (e1.trans e2) h_other)) fun v H3 e3 hv => q v H3 ((e1.trans e2).trans e3) ?_
        show (vP K (prod prime one other)).R v H3
        rw [of_decide_eq_true hb2, prod_one hp0 hm.ry hm.ty]
        exact hv
      · have e12 := e1.trans e2
        refine Evl.q_when (et_r (evr_op (evr_lenR rfl (EvR.kP (evr_var rfl ((vP K one).st e12 h_one)))) evr_c op_i0)) (fun hb3 H3 e3 => ?_) (fun hb3 H3 e3 => ?_)
        · have h5 : one.length ≤ 5 := by
            have := of_decide_eq_true hb3
            omega
          exact sr_ret (evr_call (GQ.mk prime one other) ⟨hm, h5, hle⟩ (evrs_cons (evr_var rfl rfl) (evrs_cons (evr_var rfl ((vP K one).st (e12.trans e3) h_one)) (evrs_cons (evr_var rfl ((vP K other).st (e12.trans e3) h_other)) evrs_nil)))) fun v H4 e4 hv => q v H4 ((e12.trans e3).trans e4) hv
        · exact sr_ret (evr_call (GQ.mk prime one other) ⟨hm, by have := of_decide_eq_false hb3; dsimp only; omega, hle⟩ (evrs_cons (evr_var rfl rfl) (evrs_cons (evr_var rfl ((vP K one).st (e12.trans e3) h_one)) (evrs_cons (evr_var rfl ((vP K other).st (e12.trans e3) h_other)) evrs_nil)))) fun v H4 e4 hv => q v H4 ((e12.trans e3).trans e4) hv
theorem ok_multiply {f : Addr} {fd : FuncData} (F : Fun K "multiply" "multiply" s_multiply f fd) (B : Bis mg) (C_SHORT : GI mg "SHORT" 5) (g : mg "multiply" = some (.ref f)) (kp : PySem.W.keepIn K (.ref f) = true) (b : Binds K fd ["prime", "one", "other"] [])
    (D_multiply_short : De P w K mg base "multiply_short" ["prime", "one", "other"] 2 (sp_multiply_short K)) (D_multiply_long : De P w K mg base "multiply_long" ["prime", "one", "other"] 2 (sp_multiply_long K)) : FnOk P w K mg base CX0 4 f fd ["prime", "one", "other"] (sp_multiply K) :=
  have b1 := ok_multiply0 (pre := fun g => MulPre g ∧ g.xs.length ≤ g.ys.length) (inner := fun _ => False) (fun _ h => h.1) (fun p xs ys h h2 => by
    have := h.2
    dsimp only at this
    omega) (Nat.le_refl 2) F B C_SHORT ⟨f, fd, ok_void, g, kp, b⟩ D_multiply_short D_multiply_long
  ok_multiply0 (pre := MulPre) (inner := fun g => MulPre g ∧ g.xs.length ≤ g.ys.length) (fun _ h => h) (fun p xs ys h h2 => ⟨⟨h.p0, h.p1, h.ry, h.rx, h.ty, h.tx, h.ly, h.lx, h.lm.symm⟩, Nat.le_of_lt h2⟩) (by decide) F B C_SHORT ⟨f, fd, b1, g, kp, b⟩ D_multiply_short D_multiply_long
theorem red_one {p : Int} (hp : 2 ≤ p) : Red p [1] := fun n hn => by
  obtain rfl := List.mem_singleton.mp hn
  omega
theorem pw_red {p : Int} (hp : 2 ≤ p) (xs : List Int) : ∀ n, Red p (pw p xs n)
  | 0 => red_one hp
  | n + 1 => prod_red (by omega) _ _
theorem pw_trim (p : Int) (xs : List Int) : ∀ n, trim (pw p xs n) = pw p xs n
  | 0 => rfl
  | n + 1 => prod_trim _ _ _
theorem co_pw (p : Int) (xs : List Int) : ∀ n, MEq p (co (pw p xs n)) (co xs ^ n)
  | 0 => .of co_one
  | n + 1 => (co_prod _ _).trans ((co_pw p xs n).mul (.refl _))
theorem pow_plus (f : PS) (i : Nat) : ∀ j : Nat, f ^ (i + j) = f ^ i * f ^ j
  | 0 => by
    show f ^ i = f ^ i * 1
    grind
  | j + 1 => by
    show f ^ (i + j) * f = f ^ i * (f ^ j * f)
    rw [pow_plus f i j]
    grind
theorem MEq.pow {p : Int} {f g : PS} (h : MEq p f g) : ∀ n : Nat, MEq p (f ^ n) (g ^ n)
  | 0 => .refl _
  | n + 1 => (MEq.pow h n).mul h
def sp_power_of (K : PySem.W.Frag) : Sp := Con (G := GW) (fun g => 2 ≤ g.p ∧ g.p ≤ 7 ∧ Red g.p g.xs ∧ trim g.xs = g.xs ∧ g.n * (1 + g.xs.length) ≤ 170) (fun g => [vI g.p, vP K g.xs, vI (g.n : Int)]) (fun g => vP K (pw g.p g.xs g.n))
abbrev s_power_of : Stmt := topS 29
abbrev N_power_of : List Str := ["prime", "poly", "many", "power"]
theorem sc_power_of : FnScope N_power_of ["prime", "poly", "many"] (defScope s_power_of) := ⟨rfl, rfl, rfl, by decide +kernel, rfl, by decide +kernel, by decide +kernel⟩
theorem ok_power_of {f : Addr} {fd : FuncData} (F : Fun K "power_of" "power_of" s_power_of f fd) (B : Bis mg) (D_multiply : De P w K mg base "multiply" ["prime", "one", "other"] 4 (sp_multiply K)) : FnOk P w K mg base CX0 5 f fd ["prime", "poly", "many"] (sp_power_of K) := by
  refine F.ok sc_power_of (fun vs H Q E h => ?_) (fun cdv A outer s H vs Q E hr h => ?_)
  · obtain ⟨g, _, ha, _⟩ := h
    exact ha.len
  · obtain ⟨⟨prime, poly, many⟩, ⟨hp, hp2, rx, tx, ln⟩, ⟨_, _, rfl, rfl, ⟨v_poly, _, rfl, h_poly, ⟨_, _, rfl, rfl, rfl⟩⟩⟩, q⟩ := h
    dsimp only at *
    refine ⟨_, (pss_cons (ps_set (i := 3) sc_power_of.nd rfl (Or.inl rfl) (pe_tup (pa_cons pe_int pa_nil)))
      (pss_cons (ps_while PassesOwn.never (pt_truth (pv 2) (by intro _; rfl)) (pss_cons (ps_if (pt_truth (pe_op op_mod (pv 2) pe_int) (by intro _; rfl)) (pss_one (ps_set (i := 3) sc_power_of.nd rfl (Or.inl rfl) (pe_call D_multiply.ok (hr.mono (by decide)) (by rfl) D_multiply.g D_multiply.kp D_multiply.b .nil pass0 (pa_cons (pv 0) (pa_cons (pv 3) (pa_cons (pv 1) pa_nil)))))) pss_nil)
      (pss_cons (ps_set (i := 2) sc_power_of.nd rfl (Or.inl rfl) (pe_op op_fdiv (pv 2) pe_int))
      (pss_one (ps_if (pt_truth (pv 2) (by intro _; rfl)) (pss_one (ps_set (i := 1) sc_power_of.nd rfl (Or.inl rfl) (pe_call D_multiply.ok (hr.mono (by decide)) (by rfl) D_multiply.g D_multiply.kp D_multiply.b .nil pass0 (pa_cons (pv 0) (pa_cons (pv 1) (pa_cons (pv 1) pa_nil)))))) pss_nil)))))
      (pss_one (ps_ret (pv 3))))), ?_⟩
    refine qr_asg (evr_disp (K := K) (ns := [1]) (evrs_cons evr_c evrs_nil) (by decide)) fun vp H1 e1 hv1 => ?_
    refine Evl.q_while (fun m σ H' => ∃ a b va vb, ∃ i j : Nat, σ = [some (.int prime), some vb, some (.int (m : Int)), some va] ∧ Ex H H' ∧ (vP K a).R va H' ∧ (vP K b).R vb H' ∧ Red prime a ∧ trim a = a ∧ Red prime b ∧ trim b = b ∧
      a.length ≤ 1 + poly.length * i ∧ b.length ≤ poly.length * j ∧ i + j * m = many ∧ (j ≤ many ∨ m = 0) ∧ j ≤ 1 + many ∧ MEq prime (co a) (co poly ^ i) ∧ MEq prime (co b) (co poly ^ j)) many
      ⟨[1], poly, vp, v_poly, 0, 1, rfl, e1, hv1, (vP K poly).st e1 h_poly, red_one hp, rfl, rx, tx, by simp, by omega, by omega, by omega, by omega, .of co_one, .of (by show _ = PS.npow _ 1; unfold PS.npow; unfold PS.npow; grind)⟩ fun m σ H' hW => ?_
    obtain ⟨a, b, va, vb, i, j, rfl, e', ha, hb, ra, ta, rb, tb, la, lb, hij, hj, hj2, ma, mb⟩ := hW
    refine ⟨_, et_truI (evr_var rfl rfl), fun hc H5 e5 => ?_, fun hc H5 e5 => ?_⟩
    · have hm : m ≠ 0 := by
        intro z
        subst z
        cases hc
      have hj1 : j ≤ many := by omega
      have hjm : j * m = j * (m % 2) + (j + j) * (m / 2) := by
        have := Nat.div_add_mod m 2
        calc j * m = j * (2 * (m / 2) + m % 2) := by rw [this]
          _ = _ := by rw [Nat.mul_add, ← Nat.mul_assoc, Nat.mul_comm j 2, Nat.two_mul]; omega
      refine ⟨fun σ2 H2 => ∃ a2 b2 va2 vb2, ∃ i2 j2 : Nat, σ2 = [some (.int prime), some vb2, some (.int ((m / 2 : Nat) : Int)), some va2] ∧ Ex H H2 ∧ (vP K a2).R va2 H2 ∧ (vP K b2).R vb2 H2 ∧ Red prime a2 ∧ trim a2 = a2 ∧ Red prime b2 ∧ trim b2 = b2 ∧
        a2.length ≤ 1 + poly.length * i2 ∧ b2.length ≤ poly.length * j2 ∧ i2 + j2 * (m / 2) = many ∧ (j2 ≤ many ∨ m / 2 = 0) ∧ j2 ≤ 1 + many ∧ MEq prime (co a2) (co poly ^ i2) ∧ MEq prime (co b2) (co poly ^ j2), fun σ2 H2 hN => ?_, ?_⟩
      · obtain ⟨a2, b2, va2, vb2, i2, j2, hN⟩ := hN
        exact ⟨m / 2, by omega, a2, b2, va2, vb2, i2, j2, hN⟩
      · have hjm2 : j ≤ j * m := Nat.le_mul_of_pos_right j (Nat.pos_of_ne_zero hm)
        have hLn : poly.length * many ≤ 170 - many := by
          have : many * (1 + poly.length) = many + poly.length * many := by rw [Nat.mul_add, Nat.mul_one, Nat.mul_comm many]
          omega
        have hLi : poly.length * i ≤ poly.length * many := Nat.mul_le_mul_left _ (by omega)
        have hLj : poly.length * j ≤ poly.length * many := Nat.mul_le_mul_left _ hj1
        have hLij : poly.length * (i + j) = poly.length * i + poly.length * j := Nat.mul_add _ _ _
        have hLjj : poly.length * (j + j) = poly.length * j + poly.length * j := Nat.mul_add _ _ _
        refine qr_ifAsg (v0 := va) (r := vP K (if m % 2 = 0 then a else prod prime a b)) (et_truI (evr_op (evr_var rfl rfl) evr_c (op_i (by decide)))) rfl (fun hb2 => ?_) (fun hb2 => ?_) fun va2 H6 e6 hva2 => ?_
        · have h2 : ¬ m % 2 = 0 := by
            intro z
            have : (m : Int) % 2 = 0 := by omega
            rw [this] at hb2
            cases hb2
          rw [if_neg h2]
          have hm1 : a.length ≤ 90 ∨ b.length ≤ 90 := by
            rcases Nat.le_total i j with h | h
            · left
              have : poly.length * (i + i) ≤ poly.length * many := Nat.mul_le_mul_left _ (by omega)
              rw [Nat.mul_add] at this
              omega
            · right
              have : poly.length * (j + j) ≤ poly.length * many := Nat.mul_le_mul_left _ (by omega)
              rw [Nat.mul_add] at this
              omega
          exact evr_call (GQ.mk prime a b) ⟨hp, hp2, ra, rb, ta, tb, by dsimp only; omega, by dsimp only; omega, hm1⟩ (evrs_cons (evr_var rfl rfl) (evrs_cons (evr_var rfl ((vP K a).st e5 ha)) (evrs_cons (evr_var rfl ((vP K b).st e5 hb)) evrs_nil)))
        · have h2 : m % 2 = 0 := by
            have : (m : Int) % 2 = 0 := by simpa using hb2
            omega
          rw [if_pos h2]
          exact (vP K a).st e5 ha
        · refine qr_asg (r := vI ((m / 2 : Nat) : Int)) ((evr_op (evr_var rfl rfl) evr_c (op_i ⟨by omega, by omega⟩)).eqI (by omega)) fun v H7 e7 hv => ?_
          obtain rfl := hv
          have e67 := (e5.trans e6).trans e7
          refine sr_ifAsg (v0 := vb) (r := vP K (if m / 2 = 0 then b else prod prime b b)) (et_truI (evr_var rfl rfl)) rfl (fun hb2 => ?_) (fun hb2 => ?_) fun vb2 H8 e8 hvb2 => ?_
          · have h2 : ¬ m / 2 = 0 := by
              intro z
              rw [z] at hb2
              cases hb2
            rw [if_neg h2]
            have hb7 := (vP K b).st e67 hb
            have hm1 : b.length ≤ 90 := by
              have h1 : j + j ≤ (j + j) * (m / 2) := Nat.le_mul_of_pos_right _ (by omega)
              have h2 : poly.length * (j + j) ≤ poly.length * many := Nat.mul_le_mul_left _ (by omega)
              omega
            exact evr_call (GQ.mk prime b b) ⟨hp, hp2, rb, rb, tb, tb, by dsimp only; omega, by dsimp only; omega, .inl hm1⟩ (evrs_cons (evr_var rfl rfl) (evrs_cons (evr_var rfl hb7) (evrs_cons (evr_var rfl hb7) evrs_nil)))
          · have h2 : m / 2 = 0 := by
              have : ((m / 2 : Nat) : Int) = 0 := by simpa using hb2
              omega
            rw [if_pos h2]
            exact (vP K b).st e67 hb
          · have hp0 : 0 < prime := by omega
            have la2 := prod_len prime a b
            have lb2 := prod_len prime b b
            refine ⟨_, _, va2, vb2, if m % 2 = 0 then i else i + j, if m / 2 = 0 then j else j + j, rfl, (e'.trans e67).trans e8, (vP K _).st (e7.trans e8) hva2, hvb2, ?_, ?_, ?_, ?_, ?_, ?_, ?_, ?_, ?_, ?_, ?_⟩
            · split
              · exact ra
              · exact prod_red hp0 _ _
            · split
              · exact ta
              · exact prod_trim _ _ _
            · split
              · exact rb
              · exact prod_red hp0 _ _
            · split
              · exact tb
              · exact prod_trim _ _ _
            · split <;> omega
            · split <;> omega
            · have h01 : m % 2 = 0 ∨ m % 2 = 1 := by omega
              split
              next h0 =>
                rw [h0, Nat.mul_zero] at hjm
                split
                next h3 => rw [h3] at hjm ⊢; omega
                next h3 => omega
              next h0 =>
                rw [show m % 2 = 1 by omega, Nat.mul_one] at hjm
                split
                next h3 => rw [h3] at hjm ⊢; omega
                next h3 => omega
            · split
              next h3 => exact .inr h3
              next h3 =>
                have := Nat.le_mul_of_pos_right (j + j) (Nat.pos_of_ne_zero h3)
                omega
            · split
              next h3 => omega
              next h3 =>
                have := Nat.le_mul_of_pos_right (j + j) (Nat.pos_of_ne_zero h3)
                omega
            · split
              · exact ma
              · exact (co_prod a b).trans ((ma.mul mb).trans (.of (pow_plus _ _ _).symm))
            · split
              · exact mb
              · exact (co_prod b b).trans ((mb.mul mb).trans (.of (pow_plus _ _ _).symm))
    · have hm : m = 0 := by
        have : (m : Int) = 0 := by simpa using hc
        omega
      subst hm
      rw [Nat.mul_zero, Nat.add_zero] at hij
      subst hij
      refine sr_ret (evr_var rfl ((vP K a).st e5 ha)) fun v H6 e6 hv => q v H6 ((e'.trans e5).trans e6) ?_
      show (vP K (pw prime poly i)).R v H6
      rw [canon (by omega) (pw_red hp poly i) ra (pw_trim prime poly i) ta ((co_pw prime poly i).trans ma.symm)]
      exact hv
end
end K0
namespace K0
open M
/-! ### a division's worth -/
def Xp (m : Nat) : PS := ⟨fun k => if k = m then 1 else 0⟩
def sh (m : Nat) (g : PS) : PS := ⟨fun k => if k < m then 0 else g.c (k - m)⟩
theorem Xp0 : Xp 0 = 1 := by
  ext k
  cases k <;> rfl
theorem Xp_c (m k : Nat) (g : PS) : (Xp m * g).c k = (sh m g).c k := by
  induction m generalizing k with
  | zero =>
    rw [Xp0, show (1 : PS) * g = g by grind]
    simp [sh]
  | succ m ih =>
    cases k with
    | zero =>
      show (if 0 = m + 1 then (1 : Int) else 0) * g.c 0 = if 0 < m + 1 then 0 else g.c (0 - (m + 1))
      simp
    | succ k =>
      show (if 0 = m + 1 then (1 : Int) else 0) * g.c (k + 1) + mulc k (fun i => if i + 1 = m + 1 then 1 else 0) g.c = _
      have e : (fun i => if i + 1 = m + 1 then (1 : Int) else 0) = (Xp m).c := by
        funext i
        show _ = if i = m then (1 : Int) else 0
        simp
      rw [e]
      have := ih k
      rw [PS.mul_c] at this
      rw [this]
      show (if 0 = m + 1 then (1 : Int) else 0) * g.c (k + 1) + (if k < m then 0 else g.c (k - m)) = if k + 1 < m + 1 then 0 else g.c (k + 1 - (m + 1))
      simp
theorem Xp_mul (m : Nat) (g : PS) : Xp m * g = sh m g := PS.ext (funext fun k => Xp_c m k g)
theorem Xp_succ (m : Nat) : Xp (m + 1) = Xp m * Xp 1 := by
  rw [Xp_mul]
  ext k
  show (if k = m + 1 then (1 : Int) else 0) = if k < m then 0 else if k - m = 1 then 1 else 0
  split <;> split <;> (try split) <;> omega
theorem co_cons (x : Int) (l : List Int) : co (x :: l) = ⟨cst x⟩ + Xp 1 * co l := by
  rw [Xp_mul]
  ext k
  cases k with
  | zero =>
    show x = x + 0
    omega
  | succ k =>
    show (co l).c k = 0 + if k + 1 < 1 then 0 else (co l).c (k + 1 - 1)
    simp
theorem cst_c (n : Int) (g : PS) (k : Nat) : ((⟨cst n⟩ : PS) * g).c k = n * g.c k := PS.mulc_cst _ _ _
theorem co_dropLast {r : List Int} (h : (co r).c (r.length - 1) = 0) : co r.dropLast = co r := by
  ext k
  by_cases hk : k < r.length - 1
  · rw [co_near (by rw [List.length_dropLast]; exact hk), co_near (by omega), List.getElem_dropLast]
  · rw [co_far (by rw [List.length_dropLast]; omega)]
    by_cases h2 : k = r.length - 1
    · rw [h2, h]
    · rw [co_far (by omega)]
theorem lastD_co {r : List Int} (h : r ≠ []) : r.getLastD 0 = (co r).c (r.length - 1) := by
  have := List.length_pos_iff.mpr h
  rw [co_near (by omega), List.getLastD_eq_getLast?, List.getLast?_eq_some_getLast h, List.getLast_eq_getElem]
  rfl
theorem divStep_red {p : Int} (hp : 0 < p) (u : Int) (ys : List Int) (s : List Int × List Int) (h : Red p s.1 ∧ Red p s.2) : Red p (divStep p u ys s).1 ∧ Red p (divStep p u ys s).2 := by
  unfold divStep
  refine ⟨fun n hn => ?_, fun n hn => ?_⟩
  · simp only at hn
    replace hn := List.dropLast_subset _ hn
    split at hn
    · exact h.1 n hn
    · rcases List.mem_append.mp hn with hn | hn
      · exact h.1 n (List.mem_of_mem_take hn)
      · obtain ⟨i, hi, rfl⟩ := List.getElem_of_mem hn
        rw [List.getElem_zipWith]
        exact ⟨Int.emod_nonneg _ (by omega), Int.emod_lt_of_pos _ hp⟩
  · rcases List.mem_append.mp hn with hn | hn
    · exact h.2 n hn
    · obtain rfl := List.mem_singleton.mp hn
      exact ⟨Int.emod_nonneg _ (by omega), Int.emod_lt_of_pos _ hp⟩
theorem divIter_red {p : Int} (hp : 0 < p) (u : Int) (ys : List Int) : ∀ (n : Nat) (s : List Int × List Int), (Red p s.1 ∧ Red p s.2) → Red p (divIter p u ys n s).1 ∧ Red p (divIter p u ys n s).2
  | 0, s, h => h
  | n + 1, s, h => divIter_red hp u ys n _ (divStep_red hp u ys s h)
theorem divide_red {p : Int} (hp : 0 < p) {xs : List Int} (ys : List Int) (h : Red p xs) : Red p (divide p xs ys).1 ∧ Red p (divide p xs ys).2 := by
  have z := divIter_red hp (inv p (ys.getLastD 0)) ys (xs.length + 1 - ys.length) (xs, []) ⟨h, fun n hn => by simp at hn⟩
  exact ⟨Red.trim fun n hn => z.2 n (List.mem_reverse.mp hn), z.1.trim⟩
theorem divide_trim (p : Int) (xs ys : List Int) : trim (divide p xs ys).1 = (divide p xs ys).1 ∧ trim (divide p xs ys).2 = (divide p xs ys).2 := ⟨trim_trim _, trim_trim _⟩
theorem step_c {r ys : List Int} {f p : Int} {m : Nat} (hm : r.length = m + ys.length) (k : Nat) :
    (co (r.take m ++ List.zipWith (fun n y => (n - f * y) % p) (r.drop m) ys)).c k = if k < m then (co r).c k else if k < r.length then ((co r).c k - f * (co ys).c (k - m)) % p else 0 := by
  have hl : (r.take m ++ List.zipWith (fun n y => (n - f * y) % p) (r.drop m) ys).length = r.length := by
    rw [List.length_append, List.length_take, List.length_zipWith, List.length_drop]
    omega
  by_cases h1 : k < r.length
  · rw [co_near (by omega), co_near h1]
    by_cases h2 : k < m
    · rw [if_pos h2, List.getElem_append_left (by rw [List.length_take]; omega), List.getElem_take]
    · have hlt : (List.take m r).length = m := by
        rw [List.length_take]
        omega
      rw [if_neg h2, if_pos h1, List.getElem_append_right (by omega), List.getElem_zipWith, co_near (by omega)]
      simp only [hlt, List.getElem_drop, Nat.add_sub_cancel' (by omega : m ≤ k)]
  · rw [if_neg h1, co_far (by omega), if_neg (by omega)]
theorem divStep_co {p u : Int} (hp : 0 < p) {ys r qs : List Int} (hne : ys ≠ []) (hu : u * ys.getLastD 0 % p = 1) (hr : Red p r) {m : Nat} (hm : r.length = m + ys.length) :
    MEq p (co r) (⟨cst (r.getLastD 0 * u % p)⟩ * (Xp m * co ys) + co (divStep p u ys (r, qs)).1) := by
  have hy := List.length_pos_iff.mpr hne
  have hrn : r ≠ [] := by
    intro z
    rw [z, List.length_nil] at hm
    omega
  have em : r.length - ys.length = m := by omega
  rw [lastD_co hne] at hu
  rw [lastD_co hrn]
  have elast : ∀ x : Int, (x - x * u % p * (co ys).c (ys.length - 1)) % p = 0 := fun x => by
    rw [Int.sub_emod, Int.mul_emod, Int.emod_emod, ← Int.mul_emod, Int.mul_assoc, Int.mul_emod, hu]
    simp
  unfold divStep
  simp only [em, lastD_co hrn]
  split
  next h0 =>
    have hz := elast ((co r).c (r.length - 1))
    rw [h0, Int.zero_mul, Int.sub_zero] at hz
    have hb := hr.co hp (r.length - 1)
    rw [Int.emod_eq_of_lt hb.1 hb.2] at hz
    rw [co_dropLast hz, h0]
    refine .of ?_
    have : (⟨cst 0⟩ : PS) = 0 := rfl
    rw [this]
    grind
  next h0 =>
    have hc := step_c (r := r) (ys := ys) (f := (co r).c (r.length - 1) * u % p) (p := p) (m := m) hm
    have hlen : (r.take m ++ List.zipWith (fun n y => (n - (co r).c (r.length - 1) * u % p * y) % p) (r.drop m) ys).length = r.length := by
      rw [List.length_append, List.length_take, List.length_zipWith, List.length_drop]
      omega
    have hz := hc (r.length - 1)
    rw [if_neg (by omega), if_pos (by omega), show r.length - 1 - m = ys.length - 1 by omega, elast] at hz
    rw [co_dropLast (by rw [hlen]; exact hz)]
    refine .ofc fun k => ?_
    rw [PS.add_c, cst_c, Xp_mul, hc]
    show _ = (_ * (if k < m then 0 else (co ys).c (k - m)) + _) % p
    by_cases h1 : k < m
    · rw [if_pos h1, if_pos h1, Int.mul_zero, Int.zero_add]
    · rw [if_neg h1, if_neg h1]
      by_cases h2 : k < r.length
      · rw [if_pos h2, Int.add_emod_emod]
        congr 1
        omega
      · rw [if_neg h2, co_far (xs := r) (k := k) (by omega), co_far (xs := ys) (k := k - m) (by omega)]
        simp
theorem divIter_co {p u : Int} (hp : 0 < p) {ys : List Int} (hne : ys ≠ []) (hu : u * ys.getLastD 0 % p = 1) : ∀ (n : Nat) (r qs : List Int), Red p r → (n = 0 ∨ r.length + 1 = n + ys.length) →
    MEq p (Xp n * co qs.reverse * co ys + co r) (co (divIter p u ys n (r, qs)).2.reverse * co ys + co (divIter p u ys n (r, qs)).1)
  | 0, r, qs, _, _ => .of (by rw [Xp0, divIter]; grind)
  | n + 1, r, qs, hr, hn => by
    have hn' : r.length = n + ys.length := by omega
    have h1 := divStep_co (qs := qs) hp hne hu hr hn'
    have hl := (divStep_len p u ys (r, qs)).1
    have hd := (divStep_red hp u ys (r, []) ⟨hr, fun n hn => by simp at hn⟩).1
    have e2 : (divStep p u ys (r, qs)).2 = qs ++ [r.getLastD 0 * u % p] := rfl
    have ih := divIter_co hp hne hu n (divStep p u ys (r, qs)).1 (divStep p u ys (r, qs)).2 hd (by
      have := List.length_pos_iff.mpr hne
      dsimp only at hl
      omega)
    rw [divIter]
    refine .trans ?_ ih
    rw [e2, List.reverse_append, List.reverse_singleton, List.singleton_append, co_cons, Xp_succ]
    obtain ⟨a, ha⟩ := h1
    exact ⟨a, by grind⟩
/-- the last number can be undone -/
def Inv (p : Int) (ys : List Int) : Prop := ys ≠ [] ∧ inv p (ys.getLastD 0) * ys.getLastD 0 % p = 1
theorem co_divide {p : Int} (hp : 0 < p) {xs ys : List Int} (hx : Red p xs) (hy : Inv p ys) : MEq p (co xs) (co (divide p xs ys).1 * co ys + co (divide p xs ys).2) := by
  have z := divIter_co hp hy.1 hy.2 (xs.length + 1 - ys.length) xs [] hx (by
    have := List.length_pos_iff.mpr hy.1
    omega)
  show MEq p _ (co (trim _) * _ + co (trim _))
  rw [co_trim, co_trim]
  refine .trans (.of ?_) z
  rw [List.reverse_nil, co_nil]
  grind
theorem inv_ok : ∀ p ∈ ([2, 3, 5, 7] : List Int), ∀ k : Fin 7, 0 < (k.val : Int) → (k.val : Int) < p → inv p k.val * k.val % p = 1 := by decide
def Pr (p : Int) : Prop := p = 2 ∨ p = 3 ∨ p = 5 ∨ p = 7
theorem Pr.mem {p : Int} (h : Pr p) : p ∈ ([2, 3, 5, 7] : List Int) := by
  rcases h with rfl | rfl | rfl | rfl <;> simp
theorem inv_pr {p n : Int} (h : Pr p) (h0 : 0 < n) (h1 : n < p) : inv p n * n % p = 1 := by
  have hp : p ≤ 7 := by
    rcases h with rfl | rfl | rfl | rfl <;> decide
  have z := inv_ok p h.mem ⟨n.toNat, by omega⟩
  have e : ((n.toNat : Nat) : Int) = n := by omega
  simp only [e] at z
  exact z h0 h1
theorem trim_last {xs : List Int} (h : trim xs = xs) (hne : xs ≠ []) : xs.getLastD 0 ≠ 0 := by
  intro hz
  rw [lastD_co hne] at hz
  have e := co_dropLast hz
  have t := trim_ext e
  have l1 := trim_len xs.dropLast
  rw [t, h, List.length_dropLast] at l1
  have := List.length_pos_iff.mpr hne
  omega
theorem Inv.mk' {p : Int} (hp : Pr p) {ys : List Int} (hr : Red p ys) (ht : trim ys = ys) (hne : ys ≠ []) : Inv p ys := by
  refine ⟨hne, ?_⟩
  have h0 := trim_last ht hne
  have hm : ys.getLastD 0 ∈ ys := by
    rw [List.getLastD_eq_getLast?, List.getLast?_eq_some_getLast hne]
    exact List.getLast_mem hne
  have := hr _ hm
  exact inv_pr hp (by omega) this.2
end K0
namespace K0
open M
/-! ### only one quotient, only one rest -/
theorem mulc_zero_mod {p : Int} : ∀ (k : Nat) (f g : Nat → Int), (∀ i, f i % p = 0) → mulc k f g % p = 0
  | 0, f, g, h => by
    show f 0 * g 0 % p = 0
    rw [Int.mul_emod, h, Int.zero_mul, Int.zero_emod]
  | k + 1, f, g, h => by
    have ih := mulc_zero_mod k (fun i => f (i + 1)) g fun i => h _
    show (f 0 * g (k + 1) + mulc k (fun i => f (i + 1)) g) % p = 0
    rw [Int.add_emod, ih, Int.mul_emod, h, Int.zero_mul, Int.zero_emod]
    rfl
theorem mulc_top {p : Int} {m : Nat} {g : Nat → Int} (hg : ∀ j, m < j → g j = 0) : ∀ (k : Nat) (f : Nat → Int), (∀ i, k < i → f i % p = 0) → mulc (k + m) f g % p = f k * g m % p
  | 0, f, hf => by
    rw [Nat.zero_add]
    cases m with
    | zero => rfl
    | succ m =>
      show (f 0 * g (m + 1) + mulc m (fun i => f (i + 1)) g) % p = _
      rw [Int.add_emod, mulc_zero_mod m _ g fun i => hf _ (by omega), Int.add_zero, Int.emod_emod]
  | k + 1, f, hf => by
    have ih := mulc_top hg k (fun i => f (i + 1)) fun i hi => hf _ (by omega)
    rw [show k + 1 + m = (k + m) + 1 by omega]
    show (f 0 * g (k + m + 1) + mulc (k + m) (fun i => f (i + 1)) g) % p = _
    rw [hg _ (by omega), Int.mul_zero, Int.zero_add, ih]
theorem top_zero {p : Int} {ys : List Int} (hy : Inv p ys) {f : PS} {N : Nat} (hN : ∀ k, N ≤ k → f.c k = 0) (h : ∀ k, ys.length - 1 ≤ k → (f * co ys).c k % p = 0) : ∀ j k, N - j ≤ k → f.c k % p = 0
  | 0, k, hk => by
    rw [hN k (by omega)]
    rfl
  | j + 1, k, hk => by
    have ih := top_zero hy hN h j
    by_cases h2 : N - j ≤ k
    · exact ih k h2
    · have z := h (k + (ys.length - 1)) (by omega)
      rw [PS.mul_c, mulc_top (m := ys.length - 1) (fun j hj => co_far (by
        have := List.length_pos_iff.mpr hy.1
        omega)) k f.c (fun i hi => ih i (by omega)), ← lastD_co hy.1] at z
      have e : f.c k * (inv p (ys.getLastD 0) * ys.getLastD 0) % p = 0 := by
        rw [Int.mul_comm (inv p _), ← Int.mul_assoc, Int.mul_emod, z, Int.zero_mul, Int.zero_emod]
      rw [Int.mul_emod, hy.2] at e
      by_cases hp1 : p = 1
      · rw [hp1]
        exact Int.emod_one _
      · rw [Int.mul_one, Int.emod_emod] at e
        exact e
theorem div_uniq {p : Int} {ys q r q2 r2 : List Int} (hy : Inv p ys) (hr : r.length < ys.length) (hr2 : r2.length < ys.length) (h : MEq p (co q * co ys + co r) (co q2 * co ys + co r2)) : MEq p (co q) (co q2) ∧ MEq p (co r) (co r2) := by
  have z : MEq p (co q) (co q2) := by
    refine .ofc fun k => ?_
    have hf := top_zero (p := p) hy (f := co q - co q2) (N := q.length + q2.length) (fun k hk => by
      rw [PS.sub_c, co_far (by omega), co_far (by omega)]
      rfl) (fun k hk => by
      obtain ⟨a, ha⟩ := h
      have hl := List.length_pos_iff.mpr hy.1
      have e : (co q - co q2) * co ys = (co r2 - co r) + ⟨cst p⟩ * a := by grind
      rw [e, PS.add_c, PS.sub_c, cst_c, co_far (by omega), co_far (by omega)]
      simp) (q.length + q2.length) k (by omega)
    rw [PS.sub_c] at hf
    exact Int.emod_eq_emod_iff_emod_sub_eq_zero.mpr hf
  refine ⟨z, ?_⟩
  obtain ⟨a, ha⟩ := z
  obtain ⟨b, hb⟩ := h
  exact ⟨b - a * co ys, by grind⟩
theorem divide_is {p : Int} (hp : 0 < p) {xs ys q r : List Int} (hx : Red p xs) (hy : Inv p ys) (rq : Red p q) (rr : Red p r) (tq : trim q = q) (tr : trim r = r) (hr : r.length < ys.length) (h : MEq p (co xs) (co q * co ys + co r)) : divide p xs ys = (q, r) := by
  have z := div_uniq hy (divide_len2 p xs hy.1) hr ((co_divide hp hx hy).symm.trans h)
  have d := divide_red hp ys hx
  have t := divide_trim p xs ys
  exact Prod.ext (canon hp d.1 rq t.1 tq z.1) (canon hp d.2 rr t.2 tr z.2)
theorem divide_ne {p : Int} (hp : 0 < p) {xs ys : List Int} (hx : Red p xs) (tx : trim xs = xs) (hy : Inv p ys) (hl : ys.length ≤ xs.length) : (divide p xs ys).1 ≠ [] := by
  intro z
  have h := co_divide hp hx hy
  rw [z, co_nil, show (0 : PS) * co ys + co (divide p xs ys).2 = co (divide p xs ys).2 by grind] at h
  have e := canon hp hx (divide_red hp ys hx).2 tx (divide_trim p xs ys).2 h
  have := divide_len2 p xs hy.1
  rw [← e] at this
  omega
theorem divide_len3 {p : Int} (hp : 0 < p) {xs ys : List Int} (hx : Red p xs) (hy : Inv p ys) : (divide p xs ys).2.length ≤ xs.length := by
  have z := (divIter_len p (inv p (ys.getLastD 0)) ys (xs.length + 1 - ys.length) (xs, [])).1
  have t := trim_len (divIter p (inv p (ys.getLastD 0)) ys (xs.length + 1 - ys.length) (xs, [])).1
  show (trim _).length ≤ _
  simp only at z
  omega
theorem prod_len1 {p : Int} (hp : 0 < p) (xs ys : List Int) : (prod p xs ys).length ≤ xs.length + ys.length - 1 := by
  have nil : ∀ ys : List Int, prod p [] ys = [] := fun ys => prod_is hp (fun n hn => by simp at hn) rfl (.of (by rw [co_nil]; grind))
  have cl : ∀ xs ys : List Int, ys ≠ [] → (conv xs ys).length ≤ xs.length + ys.length - 1 := by
    intro xs ys hy
    have hy' := List.length_pos_iff.mpr hy
    induction xs with
    | nil => simp [conv]
    | cons x xs ih =>
      rw [conv, addL_len, List.length_map, List.length_cons, List.length_cons]
      omega
  by_cases hy : ys = []
  · subst hy
    rw [prod_comm hp, nil]
    simp
  · have h1 := cl xs ys hy
    have h2 := trim_len ((conv xs ys).map (· % p))
    rw [List.length_map] at h2
    unfold prod
    omega
/-! ### sums and scaled rows -/
theorem pad_len {ns : List Int} {k : Nat} (h : ns.length ≤ k) : (pad ns ((k : Int) - ns.length)).length = k := by
  unfold pad
  rw [List.length_append, List.length_replicate]
  omega
theorem addScaled_len (p : Int) (xs ys : List Int) (f : Int) : (addScaled p xs ys f).length ≤ max xs.length ys.length := by
  have h := trim_len (List.zipWith (fun a b => (a + f * b) % p) (pad xs (max (xs.length : Int) ys.length - xs.length)) (pad ys (max (xs.length : Int) ys.length - ys.length)))
  have e : max (xs.length : Int) ys.length = ((max xs.length ys.length : Nat) : Int) := by omega
  rw [e, List.length_zipWith, pad_len (by omega), pad_len (by omega)] at h
  unfold addScaled
  rw [e]
  omega
theorem addScaled_red {p : Int} (hp : 0 < p) (xs ys : List Int) (f : Int) : Red p (addScaled p xs ys f) := Red.trim fun n hn => by
  obtain ⟨i, hi, rfl⟩ := List.getElem_of_mem hn
  rw [List.getElem_zipWith]
  exact ⟨Int.emod_nonneg _ (by omega), Int.emod_lt_of_pos _ hp⟩
theorem addScaled_trim (p : Int) (xs ys : List Int) (f : Int) : trim (addScaled p xs ys f) = addScaled p xs ys f := trim_trim _
theorem co_pad (ns : List Int) (k : Int) : co (pad ns k) = co ns := by
  ext i
  unfold pad
  by_cases h1 : i < ns.length
  · rw [co_near (by rw [List.length_append]; omega), co_near h1, List.getElem_append_left h1]
  · rw [co_far (xs := ns) (by omega)]
    by_cases h2 : i < (ns ++ List.replicate k.toNat 0).length
    · rw [co_near h2, List.getElem_append_right (by omega), List.getElem_replicate]
    · rw [co_far (by omega)]
theorem co_addScaled {p : Int} (xs ys : List Int) (f : Int) : MEq p (co (addScaled p xs ys f)) (co xs + ⟨cst f⟩ * co ys) := by
  unfold addScaled
  rw [co_trim]
  have e : max (xs.length : Int) ys.length = ((max xs.length ys.length : Nat) : Int) := by omega
  rw [e]
  generalize hA : pad xs _ = A
  generalize hB : pad ys _ = B
  have lA : A.length = max xs.length ys.length := by rw [← hA, pad_len (by omega)]
  have lB : B.length = max xs.length ys.length := by rw [← hB, pad_len (by omega)]
  rw [← co_pad xs ((max xs.length ys.length : Nat) - xs.length), ← co_pad ys ((max xs.length ys.length : Nat) - ys.length), hA, hB]
  refine .ofc fun k => ?_
  rw [PS.add_c, cst_c]
  by_cases hk : k < max xs.length ys.length
  · rw [co_near (by rw [List.length_zipWith]; omega), co_near (by omega), co_near (by omega), List.getElem_zipWith, Int.emod_emod]
  · rw [co_far (by rw [List.length_zipWith]; omega), co_far (by omega), co_far (by omega)]
    simp
theorem scale_red {p : Int} (hp : 0 < p) {ns : List Int} (h : Red p ns) (f : Int) : Red p (scale p ns f) := by
  unfold scale
  split
  · exact h
  · exact Red.trim fun n hn => by
      obtain ⟨i, hi, rfl⟩ := List.getElem_of_mem hn
      rw [List.getElem_map]
      exact ⟨Int.emod_nonneg _ (by omega), Int.emod_lt_of_pos _ hp⟩
theorem scale_trim (p : Int) {ns : List Int} (h : trim ns = ns) (f : Int) : trim (scale p ns f) = scale p ns f := by
  unfold scale
  split
  · exact h
  · exact trim_trim _
theorem scale_len (p : Int) (ns : List Int) (f : Int) : (scale p ns f).length ≤ ns.length := by
  unfold scale
  split
  · exact Nat.le_refl _
  · have := trim_len (ns.map fun n => f * n % p)
    rw [List.length_map] at this
    exact this
theorem co_scaled {p : Int} (ns : List Int) (f : Int) : MEq p (co (scale p ns f)) (⟨cst f⟩ * co ns) := by
  unfold scale
  split
  next h =>
    subst h
    refine .of ?_
    have : (⟨cst 1⟩ : PS) = 1 := rfl
    rw [this]
    grind
  next =>
    rw [co_trim]
    refine .ofc fun k => ?_
    rw [cst_c]
    by_cases hk : k < ns.length
    · rw [co_near (by rw [List.length_map]; exact hk), co_near hk, List.getElem_map, Int.emod_emod]
    · rw [co_far (by rw [List.length_map]; omega), co_far (by omega), Int.mul_zero]
end K0
namespace Kt
open PySem PySem.Spec PyProof.Rows L2
open Evl (Ex Ev EvL EvU EvT EvA EvO ex_l ex_t sq_of st_of sz_of sz_lt fresh_back)
section
variable {K : PySem.W.Frag} {σ : L2.St} {H : Hp} {te tf : TE} {ta : TA} {D : Ends} {tz : TS} {r r1 r2 r3 : VR} {i j k : Nat} {t : TT} {b : Bool} {v0 : V}
theorem evr_if (h : EvT t σ H b) (h1 : b = true → EvR te σ H r) (h2 : b = false → EvR tf σ H r) : EvR (tIf t te tf) σ H r := fun H1 e Q q => h H1 e _ fun H2 e2 => by
  cases b with
  | true => exact iteT (h1 rfl H2 (e.trans e2) Q fun v H3 e3 hv => q v H3 (e2.trans e3) hv)
  | false => exact iteF (h2 rfl H2 (e.trans e2) Q fun v H3 e3 hv => q v H3 (e2.trans e3) hv)
theorem qr_un2 (h : EvR te σ H (vT K [r1, r2])) (k : ∀ u v H1, Ex H H1 → r1.R u H1 → r2.R v H1 → tz D ((σ.set i (some u)).set j (some v)) H1) : tSeq (tAsg te (gTup K 2 (gCons (gName i) (gCons (gName j) gNil)))) tz D σ H :=
  h H (Ex.refl H) _ fun w H1 e ⟨a, xs, ha, hs, ⟨u, _, h1, hu, ⟨v, _, h2, hv, h3⟩⟩⟩ => by
    have h3' : _ = [] := h3
    subst h3' h2 h1
    exact ⟨a, _, ha, hs, rfl, u, _, rfl, v, _, rfl, rfl, k u v H1 e hu hv⟩
end
end Kt
namespace K0
open PySem PySem.Spec PyProof.Rows L2 Kt M
open Evl (Ex Ev EvL EvU EvT EvA EvO ex_l ex_t sq_of st_of sz_of sz_lt fresh_back)
/-! ### common_triple -/
theorem Pr.le {p : Int} (h : Pr p) : 2 ≤ p ∧ p ≤ 10 := by
  rcases h with rfl | rfl | rfl | rfl <;> decide
theorem Pr.le7 {p : Int} (h : Pr p) : p ≤ 7 := by
  rcases h with rfl | rfl | rfl | rfl <;> decide
theorem inv_one {p : Int} (h : Pr p) : inv p 1 = 1 := by
  rcases h with rfl | rfl | rfl | rfl <;> decide
theorem Inv.one {p : Int} (h : Pr p) : Inv p [1] := Inv.mk' h (red_one h.le.1) rfl (by simp)
theorem quotientOf_eq {p : Int} (h : Pr p) {xs ys : List Int} (hx : Red p xs) (tx : trim xs = xs) : quotientOf p xs ys = (divide p xs ys).1 := by
  unfold quotientOf
  split
  next e =>
    subst e
    have hp := h.le
    rw [divide_is (by omega) hx (Inv.one h) hx (fun n hn => by simp at hn) tx rfl (by simp) (.of (by rw [co_one, co_nil]; grind)) (r := [])]
  next => rfl
theorem makeMonic_eq {p : Int} (h : Pr p) (xs : List Int) : makeMonic p xs = scale p xs (inv p (xs.getLastD 0)) := by
  unfold makeMonic
  split
  next e =>
    rcases e with e | e
    · have z : xs = [] := by
        cases xs with
        | nil => rfl
        | cons x r => cases e
      subst z
      unfold scale
      split <;> rfl
    · rw [e, inv_one h]
      rfl
  next => rfl
theorem trim_self {l : List Int} (h : l.getLastD 0 ≠ 0) : trim l = l := by
  by_cases hl : l = []
  · subst hl
    rfl
  · have z := trim_take (l := l) (s := l.length) (Nat.le_refl _) (by simp) (.inr ?_)
    · rw [z, List.take_length]
    · rw [← List.getLast?_eq_getElem?]
      intro e
      rw [List.getLastD_eq_getLast?, e] at h
      exact h rfl
theorem monic_len {p : Int} {xs : List Int} (h : Inv p xs) : (scale p xs (inv p (xs.getLastD 0))).length = xs.length ∧ (scale p xs (inv p (xs.getLastD 0))).getLastD 0 % p = 1 := by
  unfold scale
  split
  next e =>
    have z := h.2
    rw [e, Int.one_mul] at z
    exact ⟨rfl, z⟩
  next e =>
    have el : (xs.map fun n => inv p (xs.getLastD 0) * n % p).getLastD 0 = 1 := by
      have z := h.2
      generalize inv p (xs.getLastD 0) = u at z ⊢
      rw [List.getLastD_eq_getLast?, List.getLast?_eq_some_getLast h.1] at z
      rw [List.getLastD_eq_getLast?, List.getLast?_map, List.getLast?_eq_some_getLast h.1]
      exact z
    rw [trim_self (by rw [el]; decide), List.length_map, el]
    refine ⟨rfl, ?_⟩
    by_cases hp : p = 1
    · have z := h.2
      rw [hp, Int.emod_one] at z
      cases z
    · by_cases h0 : p = 0
      · rw [h0]; rfl
      · have z : 1 % p = inv p (xs.getLastD 0) * xs.getLastD 0 % p % p := by rw [h.2]
        rw [z, Int.emod_emod, h.2]
def trIter (p : Int) : Nat → List Int → List Int → List Int → List Int → List Int × List Int
  | 0, old, _, left, _ => (old, left)
  | n + 1, old, new, left, right => if new = [] then (old, left) else trIter p n new (divide p old new).2 right (addScaled p left (prod p (divide p old new).1 right) (-1))
theorem trIter_more (p : Int) : ∀ (n m : Nat) (old new left right : List Int), new.length < n → new.length < m → trIter p n old new left right = trIter p m old new left right
  | 0, _, _, _, _, _, h, _ => by omega
  | _ + 1, 0, _, _, _, _, _, h => by omega
  | n + 1, m + 1, old, new, left, right, h1, h2 => by
    rw [trIter, trIter]
    by_cases hy : new = []
    · rw [if_pos hy, if_pos hy]
    · rw [if_neg hy, if_neg hy]
      have := divide_len2 p old hy
      rw [trIter_more p n m _ _ _ _ (by omega) (by omega)]
structure T3 where
  c : List Int
  a : List Int
  b : List Int
def triple (p : Int) (xs ys : List Int) : T3 :=
  if ys = [] then ⟨makeMonic p xs, if xs = [] then [] else [inv p (xs.getLastD 0)], []⟩
  else
    let s := trIter p (ys.length + 1) xs ys [1] []
    let u := inv p (s.1.getLastD 0)
    let c := scale p s.1 u
    let a := (divide p (scale p s.2 u) (quotientOf p ys c)).2
    ⟨c, a, quotientOf p (addScaled p c (prod p a xs) (-1)) ys⟩
theorem prod_nil {p : Int} (hp : 0 < p) (ys : List Int) : prod p [] ys = [] := prod_is hp (fun n hn => by simp at hn) rfl (.of (by rw [co_nil]; grind))
/-- what the loop keeps -/
structure TrI (p : Int) (N M : Nat) (old new left right : List Int) : Prop where
  r1 : Red p old
  r2 : Red p new
  r3 : Red p left
  r4 : Red p right
  t1 : trim old = old
  t2 : trim new = new
  t3 : trim left = left
  t4 : trim right = right
  l1 : right.length + old.length ≤ N
  l2 : left.length + new.length ≤ N
  ne : old = [] → new ≠ []
  lM : new.length ≤ M ∧ (new = [] → old.length ≤ M)
theorem TrI.step {p : Int} (hp : Pr p) {N M : Nat} {old new left right : List Int} (h : TrI p N M old new left right) (hne : new ≠ []) : TrI p N M new (divide p old new).2 right (addScaled p left (prod p (divide p old new).1 right) (-1)) := by
  have hle := hp.le
  have hp0 : 0 < p := by omega
  have hi := Inv.mk' hp h.r2 h.t2 hne
  have hl := List.length_pos_iff.mpr hne
  have d1 := divide_len1 p old new
  have d2 := divide_len2 p old hne
  have d3 := divide_len3 hp0 h.r1 hi
  have d4 := prod_len1 hp0 (divide p old new).1 right
  have d5 := addScaled_len p left (prod p (divide p old new).1 right) (-1)
  have hl1 := h.l1
  have hl2 := h.l2
  have hM := h.lM
  have d6 : (prod p (divide p old new).1 right).length + new.length ≤ N := by
    by_cases hq : (divide p old new).1 = []
    · rw [hq, prod_nil hp0]
      rw [List.length_nil]
      omega
    · have := List.length_pos_iff.mpr hq
      omega
  exact ⟨h.r2, (divide_red hp0 new h.r1).2, h.r4, addScaled_red hp0 _ _ _, h.t2, (divide_trim p old new).2, h.t4, addScaled_trim _ _ _ _, by omega, by omega, fun z => absurd z hne, by omega, fun _ => by omega⟩
section
variable {P : Program} {w : World} {K : PySem.W.Frag} {mg : Str → Option Value} {base : Heap}
def sp_common_triple (K : PySem.W.Frag) : Sp := Con (G := GQ) (fun g => Pr g.p ∧ Red g.p g.xs ∧ Red g.p g.ys ∧ trim g.xs = g.xs ∧ trim g.ys = g.ys ∧ g.xs.length ≤ 61 ∧ g.ys.length ≤ 61) (fun g => [vI g.p, vP K g.xs, vP K g.ys]) (fun g => vT K [vP K (triple g.p g.xs g.ys).c, vP K (triple g.p g.xs g.ys).a, vP K (triple g.p g.xs g.ys).b])
end
end K0
namespace Kt
open PySem PySem.Spec PyProof.Rows L2
open Evl (Ex Ev EvL EvU EvT EvA EvO ex_l ex_t sq_of st_of sz_of sz_lt fresh_back given)
section
variable {K : PySem.W.Frag} {σ : L2.St} {H : Hp} {te tf : TE} {ta : TA} {D : Ends} {tz : TS} {r : VR} {i j : Nat} {t : TT} {b : Bool} {x : Int}
theorem qr_drop (h : EvR te σ H r) (k : ∀ H1, Ex H H1 → tz D σ H1) : tSeq (tDrop te) tz D σ H := h H (Ex.refl H) _ fun v H1 e _ => k H1 e
theorem sr_drop (h : EvR te σ H r) (k : ∀ H1, Ex H H1 → D.nx σ H1) : tDrop te D σ H := h H (Ex.refl H) _ fun v H1 e _ => k H1 e
theorem et_b (h : EvR te σ H (vB b)) : EvT (tB te) σ H b := fun H1 e Q q => h H1 e _ fun v H2 e2 hv => ⟨b, hv, q H2 e2⟩
theorem EvR.iD (h : EvR te σ H (vI x)) : EvR te σ H (vD K (.int x)) := h.to fun v H1 e hv => by
  have hv' : v = .int x := hv
  subst hv'
  exact Dp.int x
theorem D_I {v : V} (h : (vD K (.int x)).R v H) : v = .int x := by
  have h' : Dp K H v (.int x) := h
  cases h'
  rfl
theorem Dpa_ints : ∀ {xs : List V} {ns : List Int}, DpAll K H xs (ns.map PyData.int) → xs = ns.map V.int
  | _, [], h => by
    cases h
    rfl
  | _, n :: ns, h => by
    rw [List.map_cons] at h
    cases h with
    | cons h1 h2 =>
      cases h1
      rw [Dpa_ints h2]
      rfl
theorem Dpa_len : ∀ {xs : List V} {ds : List PyData}, DpAll K H xs ds → xs.length = ds.length
  | _, _, .nil => rfl
  | _, _, .cons _ h => congrArg Nat.succ (Dpa_len h)
theorem Dpa_get : ∀ {xs : List V} {ds : List PyData} {i : Nat} {x : V}, DpAll K H xs ds → xs[i]? = some x → ∃ d, ds[i]? = some d ∧ Dp K H x d
  | _, _, i, _, .nil, h => by simp at h
  | _, _, 0, _, .cons h1 _, h => by
    obtain rfl := Option.some.inj h
    exact ⟨_, rfl, h1⟩
  | _, _, i + 1, _, .cons _ h2, h => by
    obtain ⟨d, h3, h4⟩ := Dpa_get h2 h
    exact ⟨d, h3, h4⟩
/-- [truth of x for x in data] -/
theorem el_mapD {wi : TI} {vs : List Nat} {xs : List V} {ds : List PyData} (hd : DpAll K H xs ds) (hw : Wk wi σ H xs.length (YAt xs)) (f : PyData → Bool) (hn : ds.length ≤ 50000) (hv : ∀ x, wipe ((wipe σ vs).set j (some x)) vs = wipe σ vs)
    (he : ∀ x d H1, Ex H H1 → (vD K d).R x H1 → EvR te ((wipe σ vs).set j (some x)) H1 (vB (f d))) : EvL (tLc wi (gName j) tYes te vs) σ H ((ds.map f).map V.bl) := by
  have hlen := Dpa_len hd
  have z := el_comp (vs := vs) (g := gName j) (tt := tYes) (te := te) hw (fun _ => true) (fun i => .bl (f (ds.getD i .none))) (by omega) (fun i x H1 H2 hi e y R q => by
    obtain ⟨rfl, hx⟩ := y
    obtain ⟨d, h1, h2⟩ := Dpa_get hd hx
    have eg : ds.getD i .none = d := by rw [List.getD_eq_getElem?_getD, h1] <;> rfl
    refine q _ _ (hv _) (Ex.refl _) et_yes fun _ => ?_
    show Ev te _ _ (.bl (f (ds.getD i .none)))
    rw [eg]
    exact (he x d _ e (dp_ex e h2)).ev)
  rw [given_all] at z
  have el : (List.range xs.length).map (fun i => V.bl (f (ds.getD i .none))) = (ds.map f).map V.bl := by
    apply List.ext_getElem
    · simp [hlen]
    · intro i h1 h2
      simp at h1 h2 ⊢
      simp [h2]
  rw [el] at z
  exact z
/-- an int, a row of ints that stands at the module's top -/
def GT (mg : Str → Option Value) (K : PySem.W.Frag) (x : Str) (ns : List Int) : Prop := ∃ a, mg x = some (.ref a) ∧ ∀ H, SqT K H a (ns.map V.int)
theorem last_cut (ns : List Int) : cutI ns (some (-1)) none = ns.drop (ns.length - 1) := by
  unfold cutI
  rw [HT.sIx_none]
  have e : HT.sIx ns.length 0 (some (-1)) = ns.length - 1 := by
    show (if (-1 : Int) < 0 then ((-1 : Int) + (ns.length : Int)).toNat else min (-1 : Int).toNat ns.length) = _
    rw [if_pos (by decide)]
    omega
  rw [e]
  apply List.take_of_length_le
  rw [List.length_drop]
  omega
theorem last_zero (ns : List Int) : ns.drop (ns.length - 1) = [0] ↔ ns.getLast? = some 0 := by
  rcases List.eq_nil_or_concat ns with rfl | ⟨l, x, rfl⟩
  · simp
  · simp
/-- len of a sequence that stands -/
theorem evr_lenV {rr : List V → Hp → VK → Prop} {a : Addr} {xs : List V} (hrr : rr = fun xs H Q => ∃ p ys, xs = [.ref p] ∧ (SqL K H p ys ∨ SqT K H p ys) ∧ Q (.int ys.length) H) (h : EvR te σ H (vC (.ref a))) (hs : SqL K H a xs ∨ SqT K H a xs) : EvR (tCB rr (tCons te tNil)) σ H (vI (xs.length : Int)) := fun H1 e Q q => h H1 e _ fun v H2 e2 hv => by
  have hv' : v = .ref a := hv
  subst hrr hv'
  exact ⟨a, xs, rfl, hs.imp (ex_l (e.trans e2)) (ex_t (e.trans e2)), q _ H2 e2 rfl⟩
theorem evr_cR {v : V} (h : r.R v H) : EvR (tC v) σ H r := fun H1 e Q q => q v H1 (Ex.refl H1) (r.st e h)
end
end Kt
namespace K0
open PySem PySem.Spec PyProof.Rows L2 Kt M
open Evl (Ex Ev EvL EvU EvT EvA EvO ex_l ex_t sq_of st_of sz_of sz_lt fresh_back)
/-! ### what the checks say -/
def isInt : PyData → Bool
  | .int i => decide ((if i < 0 then -i else i) < 10 ^ 60)
  | _ => false
def isWithin (d : PyData) (lo hi : Int) : Bool :=
  match d with
  | .int i => isInt (.int i) && (decide (lo ≤ i) && decide (i ≤ hi))
  | _ => false
/-- plain data, or an empty dict -/
inductive OV where
  | d (x : PyData)
  | dict
def vO (K : PySem.W.Frag) : OV → VR
  | .d x => vD K x
  | .dict => ⟨fun v H => ∃ a, v = .ref a ∧ H a = some (.dK []), fun e ⟨a, h1, h2⟩ => ⟨a, h1, e _ _ h2⟩⟩
def OV.ty : OV → String
  | .d x => tyN x
  | .dict => "dict"
theorem vTy_O {K : PySem.W.Frag} {o : OV} : vTy K o.ty (vO K o) := by
  cases o with
  | d x => exact vTy_D
  | dict =>
    intro v H ⟨a, ha, h⟩
    subst ha
    exact .base (.dK h)
def lastZ : List PyData → Bool := fun ds => match ds.getLast? with
  | some (.int 0) => true
  | _ => false
def hpf (p : Int) : OV → Bool
  | .d (.tuple ds) => decide (ds.length ≤ 61) && ((ds.map fun d => isWithin d 0 (p - 1)).all id && !lastZ ds)
  | _ => false
structure GWi where
  d : PyData
  lo : Int
  hi : Int
structure GO where
  p : Int
  o : OV
structure PolyOk (p : Int) (ns : List Int) : Prop where
  r : Red p ns
  t : trim ns = ns
  l : ns.length ≤ 61
def isIB : PyData → Bool
  | .int _ => true
  | .bool _ => true
  | _ => false
def isB : PyData → Bool
  | .bool _ => true
  | _ => false
def isTup : OV → Bool
  | .d (.tuple _) => true
  | _ => false
def longT : OV → Bool
  | .d (.tuple ds) => decide (61 < ds.length)
  | _ => false
def isBetween (d : PyData) (lo hi : Int) : Bool :=
  match d with
  | .int i => decide (lo ≤ i) && decide (i ≤ hi)
  | _ => false
theorem kit_int (d : PyData) : kitB (tyN d) "int" = some (isIB d) := by
  have k1 : kitB "NoneType" "int" = some false := by decide +kernel
  have k2 : kitB "bool" "int" = some true := by decide +kernel
  have k3 : kitB "int" "int" = some true := by decide +kernel
  have k4 : kitB "str" "int" = some false := by decide +kernel
  have k5 : kitB "list" "int" = some false := by decide +kernel
  have k6 : kitB "tuple" "int" = some false := by decide +kernel
  have k7 : kitB "dict" "int" = some false := by decide +kernel
  cases d <;> assumption
theorem kit_bool (d : PyData) : kitB (tyN d) "bool" = some (isB d) := by
  have k1 : kitB "NoneType" "bool" = some false := by decide +kernel
  have k2 : kitB "bool" "bool" = some true := by decide +kernel
  have k3 : kitB "int" "bool" = some false := by decide +kernel
  have k4 : kitB "str" "bool" = some false := by decide +kernel
  have k5 : kitB "list" "bool" = some false := by decide +kernel
  have k6 : kitB "tuple" "bool" = some false := by decide +kernel
  have k7 : kitB "dict" "bool" = some false := by decide +kernel
  cases d <;> assumption
theorem kit_tuple (o : OV) : kitB o.ty "tuple" = some (isTup o) := by
  have k1 : kitB "NoneType" "tuple" = some false := by decide +kernel
  have k2 : kitB "bool" "tuple" = some false := by decide +kernel
  have k3 : kitB "int" "tuple" = some false := by decide +kernel
  have k4 : kitB "str" "tuple" = some false := by decide +kernel
  have k5 : kitB "list" "tuple" = some false := by decide +kernel
  have k6 : kitB "tuple" "tuple" = some true := by decide +kernel
  have k7 : kitB "dict" "tuple" = some false := by decide +kernel
  cases o with
  | dict => exact k7
  | d x => cases x <;> assumption
theorem ints_of {p : Int} : ∀ {ds : List PyData}, (ds.map fun d => isWithin d 0 (p - 1)).all id = true → ∃ ns : List Int, ds = ns.map PyData.int ∧ Red p ns
  | [], _ => ⟨[], rfl, fun n hn => by simp at hn⟩
  | d :: ds, h => by
    rw [List.map_cons, List.all_cons, Bool.and_eq_true] at h
    obtain ⟨ns, rfl, h2⟩ := ints_of h.2
    have h1 : isWithin d 0 (p - 1) = true := h.1
    cases d with
    | int i =>
      have h3 : (isInt (.int i) && (decide (0 ≤ i) && decide (i ≤ p - 1))) = true := h1
      rw [Bool.and_eq_true, Bool.and_eq_true, decide_eq_true_eq, decide_eq_true_eq] at h3
      refine ⟨i :: ns, rfl, fun n hn => ?_⟩
      rcases List.mem_cons.mp hn with rfl | hn
      · omega
      · exact h2 n hn
    | none => cases h1
    | bool b => cases h1
    | str z => cases h1
    | list l => cases h1
    | tuple l => cases h1
    | dict l => cases h1
theorem lastZ_ints (ns : List Int) : lastZ (ns.map PyData.int) = decide (ns.drop (ns.length - 1) = [0]) := by
  unfold lastZ
  rw [List.getLast?_map]
  cases h : ns.getLast? with
  | none =>
    rw [List.getLast?_eq_none_iff] at h
    subst h
    rfl
  | some x =>
    by_cases hx : x = 0
    · subst hx
      rw [decide_eq_true ((last_zero ns).mpr h)]
      rfl
    · rw [decide_eq_false (fun z => hx (by
        rw [last_zero, h] at z
        exact Option.some.inj z))]
      show (match some (PyData.int x) with | some (PyData.int 0) => true | _ => false) = false
      split
      next e => exact absurd (PyData.int.inj (Option.some.inj e)) hx
      next => rfl
theorem hpf_ok {p : Int} {ns : List Int} (h : PolyOk p ns) (hp : p ≤ 10) : hpf p (.d (dP ns)) = true := by
  have h1 : ((ns.map PyData.int).map fun d => isWithin d 0 (p - 1)).all id = true := by
    rw [List.map_map, List.all_map]
    refine List.all_eq_true.mpr fun n hn => ?_
    have := h.r n hn
    show (decide ((if n < 0 then -n else n) < 10 ^ 60) && (decide (0 ≤ n) && decide (n ≤ p - 1))) = true
    rw [if_neg (by omega), decide_eq_true (by omega), decide_eq_true (by omega), decide_eq_true (by omega)]
    rfl
  show (decide ((ns.map PyData.int).length ≤ 61) && (_ && !lastZ (ns.map PyData.int))) = true
  rw [h1, lastZ_ints, List.length_map, decide_eq_true h.l, decide_eq_false]
  · rfl
  · intro z
    rw [last_zero] at z
    have hne : ns ≠ [] := by
      intro e
      rw [e] at z
      cases z
    refine trim_last h.t hne ?_
    rw [List.getLastD_eq_getLast?, z]
    rfl
section
variable {P : Program} {w : World} {K : PySem.W.Frag} {mg : Str → Option Value} {base : Heap}
def sp_is_integer (K : PySem.W.Frag) : Sp := Con (G := PyData) (fun _ => True) (fun d => [vD K d]) (fun d => vB (isInt d))
def sp_is_within (K : PySem.W.Frag) : Sp := Con (G := GWi) (fun _ => True) (fun g => [vD K g.d, vI g.lo, vI g.hi]) (fun g => vB (isWithin g.d g.lo g.hi))
def sp_check_prime (_ : PySem.W.Frag) : Sp := Con (G := Int) Pr (fun p => [vI p]) (fun _ => vN)
def sp_has_poly_form (K : PySem.W.Frag) : Sp := Con (G := GO) (fun g => g.p ≤ 10) (fun g => [vI g.p, vO K g.o]) (fun g => vB (hpf g.p g.o))
def sp_is_poly (K : PySem.W.Frag) : Sp := Con (G := GO) (fun g => Pr g.p) (fun g => [vI g.p, vO K g.o]) (fun g => vB (hpf g.p g.o))
def sp_check_poly (K : PySem.W.Frag) : Sp := Con (G := GP) (fun g => Pr g.p ∧ PolyOk g.p g.xs) (fun g => [vI g.p, vP K g.xs]) (fun _ => vN)
def sp_check_polys (K : PySem.W.Frag) : Sp := Con (G := GQ) (fun g => Pr g.p ∧ PolyOk g.p g.xs ∧ PolyOk g.p g.ys) (fun g => [vI g.p, vP K g.xs, vP K g.ys]) (fun _ => vN)
abbrev s_is_integer : Stmt := topS 9
abbrev N_is_integer : List Str := ["value"]
theorem sc_is_integer : FnScope N_is_integer ["value"] (defScope s_is_integer) := ⟨rfl, rfl, rfl, by decide +kernel, rfl, by decide +kernel, by decide +kernel⟩
theorem ok_is_integer {f : Addr} {fd : FuncData} (F : Fun K "is_integer" "is_integer" s_is_integer f fd) (B : Bis mg)   : FnOk P w K mg base CX0 1 f fd ["value"] (sp_is_integer K) := by
  refine F.ok sc_is_integer (fun vs H Q E h => ?_) (fun cdv A outer s H vs Q E hr h => ?_)
  · obtain ⟨g, _, ha, _⟩ := h
    exact ha.len
  · obtain ⟨value, -, ⟨v_value, _, rfl, h_value, rfl⟩, q⟩ := h
    dsimp only at *
    refine ⟨_, (pss_one (ps_ret (pe_and (pe_callB call_isi (by rfl) (B "isinstance" (by decide +kernel)) (by decide +kernel) (pa_cons (pv 0) (pa_cons (pe_bltn (v := .ty "int") (by rfl) (B "int" (by decide +kernel)) (by decide +kernel) rfl) pa_nil))) (pe_and (pe_not (pe_callB call_isi (by rfl) (B "isinstance" (by decide +kernel)) (by decide +kernel) (pa_cons (pv 0) (pa_cons (pe_bltn (v := .ty "bool") (by rfl) (B "bool" (by decide +kernel)) (by decide +kernel) rfl) pa_nil)))) (pe_one (pe_cmpR op_lt (pe_callB call_abs (by rfl) (B "abs" (by decide +kernel)) (by decide +kernel) (pa_cons (pv 0) pa_nil)) (pe_op op_pow pe_int pe_int) (nomark _))))))), ?_⟩
    have hk : isInt value = (isIB value && ((!isB value) && isInt value)) := by
      cases value <;> rfl
    rw [hk] at q
    refine sr_ret (evr_and (evr_isi (evr_var rfl h_value) vTy_D (kit_int value)) fun h1 => evr_and (evr_not (evr_isi (evr_var rfl h_value) vTy_D (kit_bool value))) fun h2 => ?_) fun v H2 e2 hv => q v H2 e2 hv
    cases value with
    | int i =>
      obtain rfl := D_I h_value
      exact evr_op (evr_abs rfl (evr_var rfl rfl)) (evr_op evr_c evr_c (op_i ⟨by decide, by decide, by decide⟩)) op_i0
    | none => cases h1
    | bool b => cases h2
    | str z => cases h1
    | list l => cases h1
    | tuple l => cases h1
    | dict l => cases h1
abbrev s_is_within : Stmt := topS 10
abbrev N_is_within : List Str := ["value", "low", "high"]
theorem sc_is_within : FnScope N_is_within ["value", "low", "high"] (defScope s_is_within) := ⟨rfl, rfl, rfl, by decide +kernel, rfl, by decide +kernel, by decide +kernel⟩
theorem ok_is_within {f : Addr} {fd : FuncData} (F : Fun K "is_within" "is_within" s_is_within f fd) (B : Bis mg)  (D_is_integer : De P w K mg base "is_integer" ["value"] 1 (sp_is_integer K)) : FnOk P w K mg base CX0 2 f fd ["value", "low", "high"] (sp_is_within K) := by
  refine F.ok sc_is_within (fun vs H Q E h => ?_) (fun cdv A outer s H vs Q E hr h => ?_)
  · obtain ⟨g, _, ha, _⟩ := h
    exact ha.len
  · obtain ⟨⟨value, low, high⟩, -, ⟨v_value, _, rfl, h_value, ⟨_, _, rfl, rfl, ⟨_, _, rfl, rfl, rfl⟩⟩⟩, q⟩ := h
    dsimp only at *
    refine ⟨_, (pss_one (ps_ret (pe_and (pe_call D_is_integer.ok (hr.mono (by decide)) (by rfl) D_is_integer.g D_is_integer.kp D_is_integer.b .nil pass0 (pa_cons (pv 0) pa_nil)) (pe_one (pe_chain op_le op_le (pv 1) (pv 0) (pv 2)))))), ?_⟩
    have hk : isWithin value low high = (isInt value && isBetween value low high) := by
      cases value <;> rfl
    rw [hk] at q
    refine sr_ret (evr_and (evr_call value trivial (evrs_cons (evr_var rfl h_value) evrs_nil)) fun h1 => ?_) fun v H2 e2 hv => q v H2 e2 hv
    cases value with
    | int i =>
      obtain rfl := D_I h_value
      exact evr_chain (evr_var rfl rfl) (evr_var rfl rfl) op_i0 (fun _ => evr_var rfl rfl) fun _ => op_i0
    | none => cases h1
    | bool b => cases h1
    | str z => cases h1
    | list l => cases h1
    | tuple l => cases h1
    | dict l => cases h1
abbrev s_check_prime : Stmt := topS 48
abbrev N_check_prime : List Str := ["prime"]
theorem sc_check_prime : FnScope N_check_prime ["prime"] (defScope s_check_prime) := ⟨rfl, rfl, rfl, by decide +kernel, rfl, by decide +kernel, by decide +kernel⟩
theorem ok_check_prime {f : Addr} {fd : FuncData} (F : Fun K "check_prime" "check_prime" s_check_prime f fd) (B : Bis mg) (C_PRIMES : GT mg K "PRIMES" [2, 3, 5, 7]) (D_is_integer : De P w K mg base "is_integer" ["value"] 1 (sp_is_integer K)) : FnOk P w K mg base CX0 2 f fd ["prime"] (sp_check_prime K) := by
  refine F.ok sc_check_prime (fun vs H Q E h => ?_) (fun cdv A outer s H vs Q E hr h => ?_)
  · obtain ⟨g, _, ha, _⟩ := h
    exact ha.len
  · obtain ⟨prime, hpr, ⟨_, _, rfl, rfl, rfl⟩, q⟩ := h
    dsimp only at *
    obtain ⟨ap, hap, hsp⟩ := C_PRIMES
    refine ⟨_, (pss_one (ps_if (PW.pt (pw_or (pt_not (pt_val (pe_call D_is_integer.ok (hr.mono (by decide)) (by rfl) D_is_integer.g D_is_integer.kp D_is_integer.b .nil pass0 (pa_cons (pv 0) pa_nil)))) (pw_or1 (pt_cmpR op_notIn_seq (pv 0) (pe_glob (v := .ref ap) rfl hap rfl) (by rfl))))) (pss_one ps_never) pss_nil)), ?_⟩
    have hle := hpr.le
    have hin : prime ∈ ([2, 3, 5, 7] : List Int) := hpr.mem
    refine Evl.s_when (b := !isInt (.int prime) || !decide (prime ∈ ([2, 3, 5, 7] : List Int))) (Evl.et_or (Evl.et_not (et_b (evr_call (PyData.int prime) trivial (evrs_cons (EvR.iD (evr_var rfl rfl)) evrs_nil)))) fun _ => et_r (evr_op (evr_var rfl rfl) (evr_cR (r := vP K [2, 3, 5, 7]) ⟨ap, rfl, hsp H⟩) (op_notInI rfl))) (fun hb H1 e1 => ?_) (fun hb H1 e1 => q .non H1 e1 rfl)
    rw [decide_eq_true hin] at hb
    have : isInt (.int prime) = true := decide_eq_true (by rw [if_neg (by omega)]; omega)
    rw [this] at hb
    cases hb
abbrev s_has_poly_form : Stmt := topS 50
abbrev N_has_poly_form : List Str := ["prime", "value", "number"]
theorem sc_has_poly_form : FnScope N_has_poly_form ["prime", "value"] (defScope s_has_poly_form) := ⟨rfl, rfl, rfl, by decide +kernel, rfl, by decide +kernel, by decide +kernel⟩
theorem ok_has_poly_form {f : Addr} {fd : FuncData} (F : Fun K "has_poly_form" "has_poly_form" s_has_poly_form f fd) (B : Bis mg) (C_MAX_POWER : GI mg "MAX_POWER" 60) (D_is_within : De P w K mg base "is_within" ["value", "low", "high"] 2 (sp_is_within K)) : FnOk P w K mg base CX0 3 f fd ["prime", "value"] (sp_has_poly_form K) := by
  refine F.ok sc_has_poly_form (fun vs H Q E h => ?_) (fun cdv A outer s H vs Q E hr h => ?_)
  · obtain ⟨g, _, ha, _⟩ := h
    exact ha.len
  · obtain ⟨⟨prime, value⟩, hp, ⟨_, _, rfl, rfl, ⟨v_value, _, rfl, h_value, rfl⟩⟩, q⟩ := h
    dsimp only at *
    refine ⟨_, (pss_cons (ps_if (PW.pt (pw_or (pt_not (pt_val (pe_callB call_isi (by rfl) (B "isinstance" (by decide +kernel)) (by decide +kernel) (pa_cons (pv 1) (pa_cons (pe_bltn (v := .ty "tuple") (by rfl) (B "tuple" (by decide +kernel)) (by decide +kernel) rfl) pa_nil))))) (pw_or1 (pt_cmpR op_gt (pe_callB call_len_seq (by rfl) (B "len" (by decide +kernel)) (by decide +kernel) (pa_cons (pv 1) pa_nil)) (pe_op op_add (pe_gi C_MAX_POWER (by rfl)) pe_int) (nomark _))))) (pss_one (ps_ret pe_bl)) pss_nil)
      (pss_one (ps_ret (pe_and (pe_callB (cr_all rfl) (by rfl) (B "all" (by decide +kernel)) (by decide +kernel) (pa_cons (pe_lc (own := [("number", 2)]) (g := (gName 2)) (tt := tYes) rfl sc_has_poly_form.nd (pi_tup (pv 1)) (blkOk_by (own := [("number", 2)]) (N := N_has_poly_form) (sc := defScope s_has_poly_form) (by decide +kernel)) (fun _ _ _ _ _ => (pg_name (i := 2) sc_has_poly_form.nd rfl (Or.inl rfl))) (fun _ _ _ _ _ => pts_nil) (fun _ _ _ _ _ => (pe_call D_is_within.ok (hr.mono (by decide)) (by rfl) D_is_within.g D_is_within.kp D_is_within.b .nil pass0 (pa_cons (pv 2) (pa_cons pe_int (pa_cons (pe_op op_sub (pv 0) pe_int) pa_nil)))))) pa_nil)) (pe_one (pe_cmpR (op_neD hr.units) (pe_slice sl_tupA (pv 1) (po_some (pe_un un_neg pe_int)) po_none) (pe_tup (pa_cons pe_int pa_nil)) (nomark _))))))), ?_⟩
    refine Evl.q_when (b := (!isTup value) || longT value) (Evl.et_or (Evl.et_not (et_b (evr_isi (evr_var rfl h_value) vTy_O (kit_tuple value)))) fun h1 => ?_) (fun hb H1 e1 => ?_) (fun hb H1 e1 => ?_)
    · cases value with
      | dict => cases h1
      | d x =>
        cases x with
        | tuple ds =>
          have hD : Dp K H v_value (.tuple ds) := h_value
          cases hD with
          | tup hs hd =>
            refine et_r ((evr_op (evr_lenV rfl (evr_var (r := vC _) rfl rfl) (.inr hs)) (evr_op evr_c evr_c op_i0) op_i0).eqB ?_)
            rw [Dpa_len hd]
            show decide ((60 : Int) + 1 < (ds.length : Int)) = decide (61 < ds.length)
            by_cases h : 61 < ds.length
            · rw [decide_eq_true h, decide_eq_true (by omega)]
            · rw [decide_eq_false h, decide_eq_false (by omega)]
        | none => cases h1
        | bool b => cases h1
        | int b => cases h1
        | str z => cases h1
        | list l => cases h1
        | dict l => cases h1
    · refine sr_ret evr_c fun v H2 e2 hv => q v H2 (e1.trans e2) ?_
      have ef : hpf prime value = false := by
        cases value with
        | dict => rfl
        | d x =>
          cases x with
          | tuple ds =>
            have h61 : 61 < ds.length := of_decide_eq_true hb
            show (decide (ds.length ≤ 61) && _) = false
            rw [decide_eq_false (by omega), Bool.false_and]
          | none => rfl
          | bool b => rfl
          | int b => rfl
          | str z => rfl
          | list l => rfl
          | dict l => rfl
      rw [ef]
      exact hv
    · cases value with
      | dict => cases hb
      | d x =>
        cases x with
        | tuple ds =>
          have h61 : ds.length ≤ 61 := by
            have : decide (61 < ds.length) = false := hb
            have := of_decide_eq_false this
            omega
          have hq : hpf prime (.d (.tuple ds)) = ((ds.map fun d => isWithin d 0 (prime - 1)).all id && !lastZ ds) := by
            show (decide (ds.length ≤ 61) && _) = _
            rw [decide_eq_true h61, Bool.true_and]
          rw [hq] at q
          have hD : Dp K H v_value (.tuple ds) := h_value
          cases hD with
          | @tup a xs _ hs hd =>
            refine sr_ret (evr_and (evr_all rfl (el_mapD (H := H1) (dpa_ex e1 hd) (wk_tup (Evl.ev_var rfl) (ex_t e1 hs)) (fun d => isWithin d 0 (prime - 1)) (by omega) (fun x => rfl) fun x d H2 e2 hx => evr_call (GWi.mk d 0 (prime - 1)) trivial (evrs_cons (evr_var rfl hx) (evrs_cons evr_c (evrs_cons (evr_op (evr_var rfl rfl) evr_c op_i0) evrs_nil))))) fun h1 => ?_) fun v H2 e2 hv => q v H2 (e1.trans e2) hv
            obtain ⟨ns, rfl, hns⟩ := ints_of h1
            obtain rfl := Dpa_ints hd
            rw [lastZ_ints, ← last_cut]
            exact evr_op (evr_slT (evr_var rfl ⟨a, rfl, ex_t e1 hs⟩) (eo_some (un_negI evr_c)) eo_none) (evr_disp (K := K) (ns := [0]) (evrs_cons evr_c evrs_nil) (by decide)) op_neP
        | none => cases hb
        | bool b => cases hb
        | int b => cases hb
        | str z => cases hb
        | list l => cases hb
        | dict l => cases hb
abbrev s_check_poly : Stmt := topS 49
abbrev N_check_poly : List Str := ["prime", "poly"]
theorem sc_check_poly : FnScope N_check_poly ["prime", "poly"] (defScope s_check_poly) := ⟨rfl, rfl, rfl, by decide +kernel, rfl, by decide +kernel, by decide +kernel⟩
theorem ok_check_poly {f : Addr} {fd : FuncData} (F : Fun K "check_poly" "check_poly" s_check_poly f fd) (B : Bis mg)  (D_has_poly_form : De P w K mg base "has_poly_form" ["prime", "value"] 3 (sp_has_poly_form K)) : FnOk P w K mg base CX0 4 f fd ["prime", "poly"] (sp_check_poly K) := by
  refine F.ok sc_check_poly (fun vs H Q E h => ?_) (fun cdv A outer s H vs Q E hr h => ?_)
  · obtain ⟨g, _, ha, _⟩ := h
    exact ha.len
  · obtain ⟨⟨prime, poly⟩, ⟨hpr, hok⟩, ⟨_, _, rfl, rfl, ⟨v_poly, _, rfl, h_poly, rfl⟩⟩, q⟩ := h
    dsimp only at *
    refine ⟨_, (pss_one (ps_if (pt_not (pt_val (pe_call D_has_poly_form.ok (hr.mono (by decide)) (by rfl) D_has_poly_form.g D_has_poly_form.kp D_has_poly_form.b .nil pass0 (pa_cons (pv 0) (pa_cons (pv 1) pa_nil))))) (pss_one ps_never) pss_nil)), ?_⟩
    refine Evl.s_when (Evl.et_not (et_b (evr_call (GO.mk prime (.d (dP poly))) hpr.le.2 (evrs_cons (evr_var rfl rfl) (evrs_cons (evr_var (r := vO K (.d (dP poly))) rfl (vP_D h_poly)) evrs_nil))))) (fun hb H1 e1 => ?_) (fun hb H1 e1 => q .non H1 e1 rfl)
    have hb' : (!hpf prime (.d (dP poly))) = true := hb
    rw [hpf_ok hok hpr.le.2] at hb'
    cases hb'
end
end K0
namespace Kt
open PySem PySem.Spec PyProof.Rows L2
section
variable {P : Program} {w : World} {K : PySem.W.Frag} {mg : Str → Option Value} {base : Heap} {x qual : Str} {params : Arguments} {body : List Stmt} {scope : Scope} {dvs : List V} {kws : List (Str × V)} {f : Addr} {fd : FuncData}
/-- a def with defaults that lets nothing out -/
theorem FunD.ok0 {N ps : List Str} {k : Nat} {sp : Sp} (F : FunD K x qual params body scope dvs kws f fd) (S : FnScope N ps scope) (len : ∀ vs H Q E, sp vs H Q E → vs.length = ps.length)
    (hbody : ∀ (cdv : Value) (A : Around) (outer : List Env) (s : Shared) (H : Hp) (vs : List V) (Q : VK) (E : XK), Room k (A.deeper (envOfC qual scope s.heap.objs.size f cdv)) → sp vs H Q E →
      ∃ t, PSs (cxOf CX0 P w K mg base N qual scope f cdv A outer s H E).nox body t ∧ t { nx := fun _ H' => Q .non H', rt := Q } (start N vs) H) : FnOk P w K mg base CX0 (k + 1) f fd ps sp :=
  F.ok S len fun cdv A outer s H vs Q E hr hsp => by
    obtain ⟨t, h, q⟩ := hbody cdv A outer s H vs Q E hr hsp
    exact ⟨t, h.nox, q⟩
end
section
open Evl (Ex Ev EvL EvU EvT EvA EvO ex_l ex_t sq_of st_of sz_of sz_lt fresh_back)
variable {K : PySem.W.Frag} {σ : L2.St} {H : Hp} {te : TE} {D : Ends} {tz tu : TS} {j : Nat}
/-- for x in a row of ints that an expression gives -/
theorem qr_forT {xs : List Int} (h : EvR te σ H (vP K xs)) (Pv : V → Nat → L2.St → Hp → Prop) (h0 : ∀ v H1, Ex H H1 → (vP K xs).R v H1 → Pv v 0 σ H1) (hl : ∀ v i σ' H', Pv v i σ' H' → (vP K xs).R v H')
    (hs : ∀ v i x σ' H', xs[i]? = some x → Pv v i σ' H' → tu { D with nx := fun σ2 H2 => Pv v (i + 1) σ2 H2, ct := fun σ2 H2 => Pv v (i + 1) σ2 H2, bk := tz D } (σ'.set j (some (.int x))) H')
    (hd : ∀ v σ' H', Pv v xs.length σ' H' → tz D σ' H') : tSeq (tFor (iTup K te) (gName j) tu) tz D σ H :=
  h H (Ex.refl H) _ fun v H1 e ⟨a, ha, hx⟩ => by
    subst ha
    refine ⟨a, rfl, ⟨_, hx⟩, for_tup (xs := xs.map V.int) (Pv (.ref a)) (h0 _ H1 e ⟨a, rfl, hx⟩) (fun i σ' H' _ p => ?_) (fun i x σ' H' hi p => ?_) (fun σ' H' p => hd (.ref a) σ' H' (by rw [List.length_map] at p; exact p))⟩
    · obtain ⟨b, hb, hs⟩ := hl _ i σ' H' p
      cases hb
      exact hs
    · rw [List.getElem?_map] at hi
      cases hx : xs[i]? with
      | none =>
        rw [hx] at hi
        cases hi
      | some n =>
        rw [hx] at hi
        obtain rfl : V.int n = x := Option.some.inj hi
        exact hs (.ref a) i n σ' H' hx p
end
end Kt
namespace K0
open PySem PySem.Spec PyProof.Rows L2 Kt M
open Evl (Ex Ev EvL EvU EvT EvA EvO ex_l ex_t sq_of st_of sz_of sz_lt fresh_back)
structure GAt where
  p : Int
  xs : List Int
  n : Int
def polyAt (p n : Int) : Int → List Int → Int
  | a, [] => a
  | a, x :: xs => polyAt p n ((a * n + x) % p) xs
/-- fewer than 61 digits -/
def Wide60 (n : Int) : Prop := -(10 ^ 60) < n ∧ n < 10 ^ 60
theorem isInt_wide {n : Int} (h : Wide60 n) : isInt (.int n) = true := decide_eq_true (by
  have := h.1
  have := h.2
  split <;> omega)
theorem polyAt_app (p n : Int) : ∀ (a : Int) (xs ys : List Int), polyAt p n a (xs ++ ys) = polyAt p n (polyAt p n a xs) ys
  | a, [], ys => rfl
  | a, x :: xs, ys => polyAt_app p n _ xs ys
theorem polyAt_bd {p n : Int} (hp : 0 < p) : ∀ (a : Int) (xs : List Int), (0 ≤ a ∧ a < p) → 0 ≤ polyAt p n a xs ∧ polyAt p n a xs < p
  | a, [], h => h
  | a, x :: xs, h => polyAt_bd hp _ xs ⟨Int.emod_nonneg _ (by omega), Int.emod_lt_of_pos _ hp⟩
theorem polyAt_take {p n : Int} {xs : List Int} {i : Nat} {x : Int} (h : xs[i]? = some x) : polyAt p n 0 (xs.take (i + 1)) = (polyAt p n 0 (xs.take i) * n + x) % p := by
  rw [List.take_add_one, h, polyAt_app]
  rfl
section
variable {P : Program} {w : World} {K : PySem.W.Frag} {mg : Str → Option Value} {base : Heap}
def sp_poly_sum (K : PySem.W.Frag) : Sp := Con (G := GA) (fun g => Pr g.p ∧ PolyOk g.p g.xs ∧ PolyOk g.p g.ys ∧ Wide60 g.f) (fun g => [vI g.p, vP K g.xs, vP K g.ys, vI g.f]) (fun g => vP K (addScaled g.p g.xs g.ys (g.f % g.p)))
def sp_poly_product (K : PySem.W.Frag) : Sp := Con (G := GQ) (fun g => Pr g.p ∧ PolyOk g.p g.xs ∧ PolyOk g.p g.ys) (fun g => [vI g.p, vP K g.xs, vP K g.ys]) (fun g => vP K (prod g.p g.xs g.ys))
def sp_poly_division (K : PySem.W.Frag) : Sp := Con (G := GQ) (fun g => Pr g.p ∧ PolyOk g.p g.xs ∧ PolyOk g.p g.ys ∧ g.ys ≠ []) (fun g => [vI g.p, vP K g.xs, vP K g.ys]) (fun g => vT K [vP K (divide g.p g.xs g.ys).1, vP K (divide g.p g.xs g.ys).2])
def sp_common_poly (K : PySem.W.Frag) : Sp := Con (G := GQ) (fun g => Pr g.p ∧ PolyOk g.p g.xs ∧ PolyOk g.p g.ys) (fun g => [vI g.p, vP K g.xs, vP K g.ys]) (fun g => vP K (common g.p g.xs g.ys))
def sp_common_paper (K : PySem.W.Frag) : Sp := Con (G := GQ) (fun g => Pr g.p ∧ PolyOk g.p g.xs ∧ PolyOk g.p g.ys) (fun g => [vI g.p, vP K g.xs, vP K g.ys]) (fun g => vT K [vP K (triple g.p g.xs g.ys).c, vP K (triple g.p g.xs g.ys).a, vP K (triple g.p g.xs g.ys).b])
def sp_poly_power (K : PySem.W.Frag) : Sp := Con (G := GW) (fun g => Pr g.p ∧ PolyOk g.p g.xs ∧ g.n * (1 + g.xs.length) ≤ 60) (fun g => [vI g.p, vP K g.xs, vI (g.n : Int)]) (fun g => vP K (pw g.p g.xs g.n))
def sp_poly_slope (K : PySem.W.Frag) : Sp := Con (G := GP) (fun g => Pr g.p ∧ PolyOk g.p g.xs) (fun g => [vI g.p, vP K g.xs]) (fun g => vP K (slopeOf g.p g.xs))
def sp_poly_at (K : PySem.W.Frag) : Sp := Con (G := GAt) (fun g => Pr g.p ∧ PolyOk g.p g.xs ∧ Wide60 g.n) (fun g => [vI g.p, vP K g.xs, vI g.n]) (fun g => vI (polyAt g.p g.n 0 g.xs.reverse))
end
end K0
namespace Kt
open PySem PySem.Spec PyProof.Rows L2
open Evl (Ex Ev EvL EvU EvT EvA EvO ex_l ex_t sq_of st_of sz_of sz_lt fresh_back given)
section
variable {K : PySem.W.Frag} {σ : L2.St} {H : Hp} {te tf tk : TE} {ta : TA} {D : Ends} {tz tu : TS} {r : VR} {i j k : Nat} {t : TT} {b : Bool} {x : Int} {ns ms : List Int} {l : Addr}
theorem evr_int1 {rr : List V → Hp → VK → Prop} (hrr : rr = fun xs H Q => (∃ i, xs = [.int i] ∧ Q (.int i) H) ∨ ∃ k, xs = [.bl k] ∧ Q (.int (if k then 1 else 0)) H) (h : EvR te σ H (vI x)) : EvR (tCB rr (tCons te tNil)) σ H (vI x) := fun H1 e Q q => h H1 e _ fun v H2 e2 hv => by
  have hv' : v = .int x := hv
  subst hrr hv'
  exact .inl ⟨x, rfl, q _ H2 e2 rfl⟩
/-- [0] * k -/
theorem el_repI {ns : List Int} (h : EvL te σ H (ns.map V.int)) (hk : EvR tk σ H (vI x)) (hx : -100000 ≤ x ∧ x ≤ 100000) (hz : ns.length * x.toNat ≤ 100000) : EvL (tOp rRep te tk) σ H ((List.replicate x.toNat ns).flatten.map V.int) := fun H1 e Q q =>
  h H1 e _ fun p H2 hp e2 h2 => hk H2 (e.trans e2) _ fun v H3 e3 hv => by
    refine ⟨p, x, _, rfl, hv, e3 _ _ h2, by omega, by omega, sz_of (by rw [List.length_map]; exact hz), fun l hl => q l _ (fresh_back (e2.trans e3) hl) ((e2.trans e3).trans (Ex.new hl)) ?_⟩
    have e : (List.replicate x.toNat ns).flatten.map V.int = (List.replicate x.toNat (ns.map V.int)).flatten := by
      rw [List.map_flatten, List.map_replicate]
    rw [e]
    exact upd_same
theorem el_rep1 {a : Int} (h : EvL te σ H ([a].map V.int)) (hk : EvR tk σ H (vI x)) (hx : -100000 ≤ x ∧ x ≤ 100000) : EvL (tOp rRep te tk) σ H ((List.replicate x.toNat a).map V.int) := by
  have z := el_repI h hk hx (by rw [List.length_singleton]; omega)
  have e : (List.replicate x.toNat [a]).flatten = List.replicate x.toNat a := by simp
  rw [e] at z
  exact z
theorem el_catI (h : EvL te σ H (ns.map V.int)) (h2 : EvL tk σ H (ms.map V.int)) (hz : ns.length + ms.length ≤ 100000) : EvL (tOp rCat te tk) σ H ((ns ++ ms).map V.int) := fun H1 e Q q =>
  h H1 e _ fun p H2 hp e2 hp2 => h2 H2 (e.trans e2) _ fun p' H3 hp' e3 hp3 => by
    refine ⟨p, p', _, _, rfl, rfl, e3 _ _ hp2, hp3, sz_of (by rw [List.length_map, List.length_map]; exact hz), fun l hl => q l _ (fresh_back (e2.trans e3) hl) ((e2.trans e3).trans (Ex.new hl)) ?_⟩
    rw [List.map_append]
    exact upd_same
theorem evr_ofL (h : EvL te σ H (ns.map V.int)) : EvR te σ H (vL K ns) := evr_list h rfl
/-- an item of a row or a list by a place from 0 -/
theorem op_ixPn {n : Nat} (h : ns[n]? = some x) : OpV (rIxT K) (vP K ns) (vI (n : Int)) (vC (.int x)) H := op_ixP (atI_nat (by rw [List.getElem?_map, h] <;> rfl))
theorem op_ixLn {n : Nat} (h : ns[n]? = some x) : OpV (rIxL K) (vL K ns) (vI (n : Int)) (vC (.int x)) H := op_ixLi (atI_nat (by rw [List.getElem?_map, h] <;> rfl))
/-- xs[j] = e, xs a list that changes -/
theorem sr_set {tb : TE} {n : Nat} (hl : H l = some (.lst (ns.map V.int))) (h : EvR te σ H (vI x)) (ho : EvR tf σ H (vC (.ref l))) (hi : EvR tb σ H (vI (n : Int))) (hj : n < ns.length) (k : ∀ H1, Ex H H1 → D.nx σ (upd H1 l (.lst ((ns.set n x).map V.int)))) : tAsg te (gSub tf tb rSetL) D σ H :=
  Evl.s_setL hl h.ev ho.ev hi.ev (by rw [List.length_map]; exact hj) fun H1 e => by
    have z := k H1 e
    rw [List.map_set] at z
    exact z
theorem qr_set {tb : TE} {n : Nat} (hl : H l = some (.lst (ns.map V.int))) (h : EvR te σ H (vI x)) (ho : EvR tf σ H (vC (.ref l))) (hi : EvR tb σ H (vI (n : Int))) (hj : n < ns.length) (k : ∀ H1, Ex H H1 → tz D σ (upd H1 l (.lst ((ns.set n x).map V.int)))) : tSeq (tAsg te (gSub tf tb rSetL)) tz D σ H := sr_set (D := { D with nx := tz D }) hl h ho hi hj k
/-- for i, x in enumerate(row) -/
theorem sr_enumT {xs : List Int} (h : EvRs ta σ H [vP K xs]) (Pv : V → Nat → L2.St → Hp → Prop) (h0 : ∀ v H1, Ex H H1 → (vP K xs).R v H1 → Pv v 0 σ H1) (hl : ∀ v i σ' H', Pv v i σ' H' → (vP K xs).R v H')
    (hs : ∀ v n x σ' H' H2, xs[n]? = some x → Pv v n σ' H' → Ex H' H2 → tu { D with nx := Pv v (n + 1), ct := Pv v (n + 1), bk := D.nx } ((σ'.set i (some (.int (n : Int)))).set j (some (.int x))) H2)
    (hd : ∀ v σ' H', Pv v xs.length σ' H' → D.nx σ' H') : tFor (iEnumK true K ta) (gTup K 2 (gCons (gName i) (gCons (gName j) gNil))) tu D σ H :=
  h H (Ex.refl H) _ fun us H1 e ⟨v, _, h1, ⟨a, ha, hx⟩, h3⟩ => by
    have h3' : _ = [] := h3
    subst ha h3'
    refine ⟨a, _, h1, hx, for_it (walk_enumK (p := true) (xs := xs.map V.int)) (Pv (.ref a)) (h0 _ H1 e ⟨a, rfl, hx⟩) (fun n σ' H' _ p => ?_) (fun n y σ' H' H2 hn p yy => ?_) (fun σ' H' p => hd (.ref a) σ' H' (by rw [List.length_map] at p; exact p))⟩
    · obtain ⟨b, hb, hs⟩ := hl _ n σ' H' p
      cases hb
      exact hs
    · obtain ⟨T, y1, y2, rfl, hT, rfl, e1, e2⟩ := yy
      have e1' : some (V.int ((0 : Int) + (n : Nat))) = some y1 := e1
      have e2' : (xs.map V.int)[n]? = some y2 := e2
      rw [List.getElem?_map] at e2'
      cases hxn : xs[n]? with
      | none =>
        rw [hxn] at e2'
        cases e2'
      | some x =>
        rw [hxn] at e2'
        obtain rfl : V.int x = y2 := Option.some.inj e2'
        obtain rfl : V.int ((0 : Int) + (n : Nat)) = y1 := Option.some.inj e1'
        rw [Int.zero_add]
        exact ⟨T, _, rfl, st_of upd_same, rfl, _, _, rfl, _, _, rfl, rfl, hs (.ref a) n x σ' H' _ hxn p (Ex.new hT)⟩
theorem qr_enumT {xs : List Int} (h : EvRs ta σ H [vP K xs]) (Pv : V → Nat → L2.St → Hp → Prop) (h0 : ∀ v H1, Ex H H1 → (vP K xs).R v H1 → Pv v 0 σ H1) (hl : ∀ v i σ' H', Pv v i σ' H' → (vP K xs).R v H')
    (hs : ∀ v n x σ' H' H2, xs[n]? = some x → Pv v n σ' H' → Ex H' H2 → tu { D with nx := Pv v (n + 1), ct := Pv v (n + 1), bk := tz D } ((σ'.set i (some (.int (n : Int)))).set j (some (.int x))) H2)
    (hd : ∀ v σ' H', Pv v xs.length σ' H' → tz D σ' H') : tSeq (tFor (iEnumK true K ta) (gTup K 2 (gCons (gName i) (gCons (gName j) gNil))) tu) tz D σ H := sr_enumT (D := { D with nx := tz D }) h Pv h0 hl hs hd
/-- [e for i in range(n)], ints -/
theorem el_rngI {n : Nat} {vs : List Nat} (h : EvRs ta σ H [vI (n : Int)]) (f : Nat → Int) (hn : n ≤ 50000) (hv : ∀ x, wipe ((wipe σ vs).set j (some x)) vs = wipe σ vs)
    (he : ∀ i, i < n → ∀ H1, Ex H H1 → EvR te ((wipe σ vs).set j (some (.int (i : Int)))) H1 (vI (f i))) : EvL (tLc (iRng1 ta) (gName j) tYes te vs) σ H (((List.range n).map f).map V.int) := by
  have ha : EvA ta σ H [.int (n : Int)] := fun H1 e Q q => h H1 e _ fun us H2 e2 ⟨v, _, h1, hv, h3⟩ => by
    have h3' : _ = [] := h3
    have hv' : v = .int (n : Int) := hv
    subst h3' hv' h1
    exact q H2 e2
  have z := el_comp (vs := vs) (g := gName j) (tt := tYes) (te := te) (wk_rng1 ha (by omega)) (fun _ => true) (fun i => .int (f i)) (by omega) (fun i x H1 H2 hi e y R q => by
    obtain ⟨rfl, rfl⟩ := y
    refine q _ _ (hv _) (Ex.refl _) et_yes fun _ => ?_
    exact (he i (by omega) _ e).ev)
  rw [given_all] at z
  have el : (List.range (n : Int).toNat).map (fun i => V.int (f i)) = ((List.range n).map f).map V.int := by
    rw [Int.toNat_natCast, List.map_map]
    rfl
  rw [el] at z
  exact z
end
end Kt
namespace K0
open PySem PySem.Spec PyProof.Rows L2 Kt M
open Evl (Ex Ev EvL EvU EvT EvA EvO ex_l ex_t sq_of st_of sz_of sz_lt fresh_back)
theorem vP_upd {K : PySem.W.Frag} {H : Hp} {l : Addr} {xs ys : List V} {ns : List Int} {v : V} (h : (vP K ns).R v H) (hl : H l = some (.lst xs)) : (vP K ns).R v (upd H l (.lst ys)) := by
  obtain ⟨a, ha, hs⟩ := h
  refine ⟨a, ha, ?_⟩
  rcases hs with (h | ⟨o, h⟩) | h
  · refine .inl (.inl ?_)
    rw [upd_ne]
    · exact h
    · intro e
      rw [e, hl] at h
      cases h
  · refine .inl (.inr ⟨o, ?_⟩)
    rw [upd_ne]
    · exact h
    · intro e
      rw [e, hl] at h
      cases h
  · exact .inr h
/-! ### the law's own reckoning -/
theorem co_set {l : List Int} {k : Nat} (h : k < l.length) (x : Int) : co (l.set k x) = co l + ⟨cst (x - l[k])⟩ * Xp k := by
  ext i
  rw [PS.add_c, cst_c]
  show _ = _ + _ * (if i = k then (1 : Int) else 0)
  by_cases hi : i < l.length
  · rw [co_near (by rw [List.length_set]; exact hi), co_near hi, List.getElem_set]
    by_cases e : k = i
    · subst e
      rw [if_pos rfl, if_pos rfl]
      omega
    · rw [if_neg e, if_neg (Ne.symm e)]
      omega
  · rw [co_far (by rw [List.length_set]; omega), co_far (by omega), if_neg (by omega)]
    omega
theorem co_take {xs : List Int} {n : Nat} {x : Int} (h : xs[n]? = some x) : co (xs.take (n + 1)) = co (xs.take n) + ⟨cst x⟩ * Xp n := by
  obtain ⟨hn, rfl⟩ := List.getElem?_eq_some_iff.mp h
  ext i
  rw [PS.add_c, cst_c]
  show _ = _ + _ * (if i = n then (1 : Int) else 0)
  by_cases hi : i < n
  · rw [co_near (by rw [List.length_take]; omega), co_near (by rw [List.length_take]; omega), List.getElem_take, List.getElem_take, if_neg (by omega)]
    omega
  · rw [co_far (xs := xs.take n) (by rw [List.length_take]; omega)]
    by_cases e : i = n
    · subst e
      rw [co_near (by rw [List.length_take]; omega), List.getElem_take, if_pos rfl]
      omega
    · rw [co_far (by rw [List.length_take]; omega), if_neg e]
      omega
theorem Xp_add (i j : Nat) : Xp (i + j) = Xp i * Xp j := by
  rw [Xp_mul]
  ext k
  show (if k = i + j then (1 : Int) else 0) = if k < i then 0 else if k - i = j then 1 else 0
  split <;> split <;> (try split) <;> omega
theorem co_zeros (n : Nat) : co (List.replicate n 0) = 0 := by
  ext k
  show _ = cst 0 k
  rw [PS.cst0]
  by_cases h : k < n
  · rw [co_near (by rw [List.length_replicate]; exact h), List.getElem_replicate]
  · rw [co_far (by rw [List.length_replicate]; omega)]
theorem cst_mul2 (x y : Int) : (⟨cst (x * y)⟩ : PS) = ⟨cst x⟩ * ⟨cst y⟩ := by
  ext k
  rw [cst_c]
  cases k with
  | zero => rfl
  | succ k =>
    show (0 : Int) = x * 0
    omega
theorem cst0_mul (f : PS) : (⟨cst 0⟩ : PS) * f = 0 := by
  have : (⟨cst 0⟩ : PS) = 0 := rfl
  rw [this]
  grind
/-- a product from any list of its numbers -/
theorem prod_of {p : Int} {xs ys fs : List Int} (h : co fs = co xs * co ys) : trim (fs.map (· % p)) = prod p xs ys := by
  unfold prod
  apply trim_ext
  ext k
  rw [co_mod_c, co_mod_c, h, co_conv]
section
variable {P : Program} {w : World} {K : PySem.W.Frag} {mg : Str → Option Value} {base : Heap}
def sp__law_po_cut (K : PySem.W.Frag) : Sp := Con (G := List Int) (fun ns => ns.length ≤ 40000) (fun ns => [vL K ns]) (fun ns => vP K (trim ns))
def sp__law_po_sum (K : PySem.W.Frag) : Sp := Con (G := GA) (fun g => 0 < g.p ∧ g.xs.length ≤ 1000 ∧ g.ys.length ≤ 1000 ∧ Small g.xs ∧ Small g.ys) (fun g => [vI g.p, vP K g.xs, vP K g.ys, vI g.f]) (fun g => vP K (addScaled g.p g.xs g.ys g.f))
def sp__law_po_times (K : PySem.W.Frag) : Sp := Con (G := GS) (fun g => 0 < g.p ∧ g.ns.length ≤ 40000 ∧ Small g.ns) (fun g => [vI g.p, vP K g.ns, vI g.f]) (fun g => vP K (trim (g.ns.map fun n => g.f * n % g.p)))
def sp__law_po_product (K : PySem.W.Frag) : Sp := Con (G := GQ) (fun g => 0 < g.p ∧ Small g.xs ∧ g.xs.length ≤ 10000 ∧ g.ys.length ≤ 10000) (fun g => [vI g.p, vP K g.xs, vP K g.ys]) (fun g => vP K (prod g.p g.xs g.ys))
def sp__law_po_slope (K : PySem.W.Frag) : Sp := Con (G := GP) (fun g => 0 < g.p ∧ g.xs.length ≤ 1000 ∧ Small g.xs) (fun g => [vI g.p, vP K g.xs]) (fun g => vP K (slopeOf g.p g.xs))
def sp__law_po_power (K : PySem.W.Frag) : Sp := Con (G := GW) (fun g => 2 ≤ g.p ∧ g.p ≤ 10 ∧ g.xs.length ≤ 100 ∧ g.n ≤ 90) (fun g => [vI g.p, vP K g.xs, vI (g.n : Int)]) (fun g => vP K (pw g.p g.xs g.n))
def sp__law_po_at (K : PySem.W.Frag) : Sp := Con (G := GAt) (fun g => 2 ≤ g.p ∧ g.p ≤ 10 ∧ g.xs.length ≤ 1000) (fun g => [vI g.p, vP K g.xs, vI g.n]) (fun g => vI (polyAt g.p g.n 0 g.xs.reverse))
end
end K0
namespace K0
open PySem PySem.Spec PyProof.Rows L2 Kt M
open Evl (Ex Ev EvL EvU EvT EvA EvO ex_l ex_t sq_of st_of sz_of sz_lt fresh_back given)
theorem pw_len (p : Int) (xs : List Int) : ∀ n, (pw p xs n).length ≤ 1 + n * xs.length
  | 0 => by simp [pw]
  | n + 1 => by
    have h1 := pw_len p xs n
    have h2 := prod_len p (pw p xs n) xs
    rw [pw, Nat.succ_mul]
    omega
theorem scale_map {p : Int} {ns : List Int} {f : Int} (hr : Red p ns) (ht : trim ns = ns) : scale p ns f = trim (ns.map fun n => f * n % p) := by
  unfold scale
  split
  next e =>
    subst e
    have z : ns.map (fun n => 1 * n % p) = ns := by
      refine (List.map_congr_left fun n hn => ?_).trans (List.map_id ns)
      have := hr n hn
      rw [Int.one_mul, Int.emod_eq_of_lt this.1 this.2]
      rfl
    rw [z, ht]
  next => rfl
theorem first_inv : ∀ p ∈ ([2, 3, 5, 7] : List Int), ∀ k : Fin 7, 0 < (k.val : Int) → (k.val : Int) < p → ((List.range (p - 1).toNat).filter fun i : Nat => decide ((1 + (i : Int)) * k.val % p = 1))[0]?.map (fun i : Nat => 1 + (i : Int)) = some (inv p k.val) := by decide
section
variable {P : Program} {w : World} {K : PySem.W.Frag} {mg : Str → Option Value} {base : Heap}
def sp__law_po_inverse (_ : PySem.W.Frag) : Sp := Con (G := G2) (fun g => Pr g.p ∧ 0 < g.n ∧ g.n < g.p) (fun g => [vI g.p, vI g.n]) (fun g => vI (inv g.p g.n))
def sp__law_po_monic (K : PySem.W.Frag) : Sp := Con (G := GP) (fun g => Pr g.p ∧ Red g.p g.xs ∧ trim g.xs = g.xs ∧ g.xs.length ≤ 1000) (fun g => [vI g.p, vP K g.xs]) (fun g => vP K (makeMonic g.p g.xs))
end
end K0
namespace Kt
open PySem PySem.Spec PyProof.Rows L2
open Evl (Ex Ev EvL EvU EvT EvA EvO ex_l ex_t sq_of st_of sz_of sz_lt fresh_back given)
section
variable {K : PySem.W.Frag} {σ : L2.St} {H : Hp} {te tf : TE} {D : Ends} {tz : TS} {i j : Nat} {x : Int} {ns : List Int}
theorem qr_parLI (h : EvL te σ H (ns.map V.int)) (h2 : EvR tf σ H (vI x)) (k : ∀ p H1, H p = none → Ex H H1 → H1 p = some (.lst (ns.map V.int)) → tz D ((σ.set i (some (.ref p))).set j (some (.int x))) H1) : tSeq (tPar i j (tCons te (tCons tf tNil))) tz D σ H :=
  h H (Ex.refl H) _ fun p H1 hp e1 h1 => h2 H1 e1 _ fun v H2 e2 hv => by
    have hv' : v = .int x := hv
    subst hv'
    exact ⟨.ref p, .int x, rfl, k p H2 hp (e1.trans e2) (e2 _ _ h1)⟩
end
end Kt
namespace K0
open PySem PySem.Spec PyProof.Rows L2 Kt M
open Evl (Ex Ev EvL EvU EvT EvA EvO ex_l ex_t sq_of st_of sz_of sz_lt fresh_back given)
theorem top_kill {p u lead : Int} (hu : u * lead % p = 1) (x : Int) : (x - x * u % p * lead) % p = 0 := by
  rw [Int.sub_emod, Int.mul_emod, Int.emod_emod, ← Int.mul_emod, Int.mul_assoc, Int.mul_emod, hu]
  simp
theorem trim_low {rs : List Int} {L : Nat} (h : ∀ k, L ≤ k → (co rs).c k = 0) : (trim rs).length ≤ L := by
  refine Nat.le_of_not_lt fun hlt => ?_
  have hne : trim rs ≠ [] := fun z => by
    rw [z] at hlt
    cases hlt
  refine trim_last (trim_trim rs) hne ?_
  rw [lastD_co hne, co_trim]
  exact h _ (by omega)
theorem Red.set {p : Int} {rs : List Int} (h : Red p rs) {k : Nat} {x : Int} (hx : 0 ≤ x ∧ x < p) : Red p (rs.set k x) := fun n hn => by
  rcases List.mem_or_eq_of_mem_set hn with h1 | h1
  · exact h n h1
  · rw [h1]
    exact hx
theorem red_at0 {p : Int} (hp : 0 < p) {rs : List Int} (h : Red p rs) {k : Nat} (hz : (co rs).c k % p = 0) : (co rs).c k = 0 := by
  have := h.co hp k
  rwa [Int.emod_eq_of_lt this.1 this.2] at hz
/-- one turn of the law's division -/
theorem turn_top {p u : Int} (hp : 0 < p) {ys rs rs2 : List Int} {s : Nat} (hne : ys ≠ []) (hu : u * ys.getLastD 0 % p = 1) (hr2 : Red p rs2) (hz : ∀ k, s + ys.length ≤ k → (co rs).c k = 0)
    (h : MEq p (co rs) (co rs2 + ⟨cst ((co rs).c (s + ys.length - 1) * u % p)⟩ * Xp s * co ys)) : ∀ k, s + ys.length - 1 ≤ k → (co rs2).c k = 0 := by
  intro k hk
  have hl := List.length_pos_iff.mpr hne
  apply red_at0 hp hr2
  have hc := h.c k
  rw [show (⟨cst ((co rs).c (s + ys.length - 1) * u % p)⟩ : PS) * Xp s * co ys = ⟨cst ((co rs).c (s + ys.length - 1) * u % p)⟩ * (Xp s * co ys) by grind, PS.add_c, cst_c, Xp_c] at hc
  have e : (sh s (co ys)).c k = (co ys).c (k - s) := by
    show (if k < s then 0 else (co ys).c (k - s)) = _
    rw [if_neg (by omega)]
  rw [e] at hc
  by_cases h1 : k = s + ys.length - 1
  · subst h1
    rw [lastD_co hne] at hu
    rw [show s + ys.length - 1 - s = ys.length - 1 by omega] at hc
    have z := top_kill hu ((co rs).c (s + ys.length - 1))
    have z2 : (co rs2).c (s + ys.length - 1) % p = ((co rs).c (s + ys.length - 1) - (co rs).c (s + ys.length - 1) * u % p * (co ys).c (ys.length - 1)) % p := by
      rw [Int.sub_emod, hc, ← Int.sub_emod]
      congr 1
      omega
    rw [z2, z]
  · rw [hz k (by omega), co_far (xs := ys) (by omega), Int.mul_zero, Int.add_zero] at hc
    rw [← hc]
    rfl
section
variable {P : Program} {w : World} {K : PySem.W.Frag} {mg : Str → Option Value} {base : Heap}
def DivPre2 (g : GQ) : Prop := Pr g.p ∧ Red g.p g.xs ∧ Red g.p g.ys ∧ trim g.ys = g.ys ∧ g.ys ≠ [] ∧ g.xs.length ≤ 1000 ∧ g.ys.length ≤ 1000
def sp__law_po_division (K : PySem.W.Frag) : Sp := Con (G := GQ) DivPre2 (fun g => [vI g.p, vP K g.xs, vP K g.ys]) (fun g => vT K [vP K (divide g.p g.xs g.ys).1, vP K (divide g.p g.xs g.ys).2])
end
end K0
namespace K0
open PySem PySem.Spec PyProof.Rows L2 Kt M
open Evl (Ex Ev EvL EvU EvT EvA EvO ex_l ex_t sq_of st_of sz_of sz_lt fresh_back given)
def lawIter (p : Int) : Nat → List Int → List Int → List Int
  | 0, xs, _ => makeMonic p xs
  | n + 1, xs, ys => if ys = [] then makeMonic p xs else lawIter p n ys (divide p xs ys).2
theorem lawIter_more (p : Int) : ∀ (n m : Nat) (xs ys : List Int), ys.length < n → ys.length < m → lawIter p n xs ys = lawIter p m xs ys
  | 0, _, _, _, h, _ => by omega
  | _ + 1, 0, _, _, _, h => by omega
  | n + 1, m + 1, xs, ys, h1, h2 => by
    rw [lawIter, lawIter]
    by_cases hy : ys = []
    · rw [if_pos hy, if_pos hy]
    · rw [if_neg hy, if_neg hy]
      have := divide_len2 p xs hy
      rw [lawIter_more p n m ys (divide p xs ys).2 (by omega) (by omega)]
theorem monic_one {p : Int} (hp : Pr p) {ys : List Int} (hr : Red p ys) (ht : trim ys = ys) (h1 : ys.length = 1) : makeMonic p ys = [1] := by
  have hle := hp.le
  have hne : ys ≠ [] := fun z => by
    rw [z] at h1
    cases h1
  have ml := monic_len (Inv.mk' hp hr ht hne)
  have mr := scale_red (by omega : 0 < p) hr (inv p (ys.getLastD 0))
  rw [← makeMonic_eq hp] at ml mr
  rw [h1] at ml
  obtain ⟨l1, l2⟩ := ml
  match hm : makeMonic p ys with
  | [] =>
    rw [hm] at l1
    cases l1
  | [c] =>
    rw [hm] at l2 mr
    have l2' : c % p = 1 := l2
    have := mr c List.mem_cons_self
    rw [Int.emod_eq_of_lt this.1 this.2] at l2'
    rw [l2']
  | c :: d :: r =>
    rw [hm] at l1
    simp at l1
theorem comIter_law {p : Int} (hp : Pr p) : ∀ (n : Nat) (xs ys : List Int), ys.length < n → Red p xs → Red p ys → trim ys = ys → comIter p n xs ys = lawIter p n xs ys
  | 0, _, _, h, _, _, _ => by omega
  | n + 1, xs, ys, h, rx, ry, ty => by
    have hle := hp.le
    rw [comIter, lawIter]
    by_cases hy : ys = []
    · rw [if_pos hy, if_pos hy]
    · rw [if_neg hy, if_neg hy]
      have hlt := divide_len2 p xs hy
      by_cases h1 : ys.length = 1
      · rw [if_pos h1]
        have hz : (divide p xs ys).2 = [] := List.eq_nil_of_length_eq_zero (by omega)
        rw [hz]
        cases n with
        | zero => omega
        | succ n =>
          rw [lawIter, if_pos rfl, monic_one hp ry ty h1]
      · rw [if_neg h1]
        exact comIter_law hp n ys _ (by omega) ry (divide_red (by omega) ys rx).2 (divide_trim p xs ys).2
section
variable {P : Program} {w : World} {K : PySem.W.Frag} {mg : Str → Option Value} {base : Heap}
def sp__law_po_common (K : PySem.W.Frag) : Sp := Con (G := GQ) (fun g => Pr g.p ∧ Red g.p g.xs ∧ Red g.p g.ys ∧ trim g.xs = g.xs ∧ trim g.ys = g.ys ∧ g.xs.length ≤ 1000 ∧ g.ys.length ≤ 1000) (fun g => [vI g.p, vP K g.xs, vP K g.ys]) (fun g => vP K (common g.p g.xs g.ys))
end
end K0
namespace K0
open M
/-! ### what a paper is worth -/
def Po (f : PS) : Prop := ∃ l : List Int, f = co l
theorem Po.of (l : List Int) : Po (co l) := ⟨l, rfl⟩
theorem Po.mul {f g : PS} : Po f → Po g → Po (f * g) := fun ⟨a, ha⟩ ⟨b, hb⟩ => ⟨conv a b, by rw [co_conv, ha, hb]⟩
theorem Po.add {f g : PS} : Po f → Po g → Po (f + g) := fun ⟨a, ha⟩ ⟨b, hb⟩ => ⟨addL a b, by rw [co_addL, ha, hb]⟩
theorem Po.cst (n : Int) : Po ⟨cst n⟩ := ⟨[n], by
  rw [co_cons, co_nil]
  grind⟩
theorem Po.neg {f : PS} (h : Po f) : Po (-f) := by
  have z := (Po.cst (-1)).mul h
  have e : (⟨M.cst (-1)⟩ : PS) * f = -f := by
    ext k
    rw [cst_c]
    show -1 * f.c k = -f.c k
    omega
  rw [e] at z
  exact z
theorem Po.sub {f g : PS} (h : Po f) (h2 : Po g) : Po (f - g) := by
  have z := h.add h2.neg
  have e : f + -g = f - g := by grind
  rw [e] at z
  exact z
theorem Po.zero : Po 0 := ⟨[], co_nil.symm⟩
theorem Po.one : Po 1 := ⟨[1], co_one.symm⟩
/-- a division that goes out -/
theorem exact_div {p : Int} (hp : 0 < p) {xs ys : List Int} {T : PS} (hx : Red p xs) (hy : Inv p ys) (hT : Po T) (h : MEq p (co xs) (T * co ys)) : MEq p (co xs) (co (divide p xs ys).1 * co ys) := by
  obtain ⟨t, rfl⟩ := hT
  have hd := co_divide hp hx hy
  have hl := List.length_pos_iff.mpr hy.1
  have z := div_uniq (q := (divide p xs ys).1) (r := (divide p xs ys).2) (q2 := t) (r2 := []) hy (divide_len2 p xs hy.1) (by rw [List.length_nil]; exact hl) (hd.symm.trans (h.trans (.of (by rw [co_nil]; grind))))
  obtain ⟨a, ha⟩ := h
  obtain ⟨b, hb⟩ := z.1
  exact ⟨a - b * co ys, by grind⟩
/-- the last row of Euclid's walk divides both -/
theorem tr_div {p : Int} (hp : Pr p) : ∀ (n : Nat) (old new left right : List Int), new.length < n → Red p old → Red p new → trim new = new →
    ∃ a b : PS, Po a ∧ Po b ∧ MEq p (co old) (a * co (trIter p n old new left right).1) ∧ MEq p (co new) (b * co (trIter p n old new left right).1)
  | 0, _, _, _, _, h, _, _, _ => by omega
  | n + 1, old, new, left, right, h, ro, rn, tn => by
    have hle := hp.le
    rw [trIter]
    by_cases hy : new = []
    · rw [if_pos hy]
      refine ⟨1, 0, Po.one, Po.zero, .of (by grind), .of ?_⟩
      rw [hy, co_nil]
      grind
    · rw [if_neg hy]
      have hi := Inv.mk' hp rn tn hy
      have hlt := divide_len2 p old hy
      obtain ⟨a, b, pa, pb, ha, hb⟩ := tr_div hp n new (divide p old new).2 right (addScaled p left (prod p (divide p old new).1 right) (-1)) (by omega) rn (divide_red (by omega) new ro).2 (divide_trim p old new).2
      refine ⟨co (divide p old new).1 * a + b, a, ((Po.of _).mul pa).add pb, pa, ?_, ha⟩
      refine (co_divide (by omega) ro hi).trans ?_
      obtain ⟨x, hx⟩ := ha
      obtain ⟨y, hy2⟩ := hb
      generalize (trIter p n new (divide p old new).2 right (addScaled p left (prod p (divide p old new).1 right) (-1))).1 = g at hx hy2
      exact ⟨co (divide p old new).1 * x + y, by grind⟩
theorem tr_bez {p : Int} (hp : Pr p) (xs ys : List Int) : ∀ (n : Nat) (old new left right : List Int), new.length < n → Red p old → Red p new → trim new = new →
    (∃ t, Po t ∧ MEq p (co left * co xs + t * co ys) (co old)) → (∃ t, Po t ∧ MEq p (co right * co xs + t * co ys) (co new)) →
    ∃ t, Po t ∧ MEq p (co (trIter p n old new left right).2 * co xs + t * co ys) (co (trIter p n old new left right).1)
  | 0, _, _, _, _, h, _, _, _, _, _ => by omega
  | n + 1, old, new, left, right, h, ro, rn, tn, h1, h2 => by
    have hle := hp.le
    rw [trIter]
    by_cases hy : new = []
    · rw [if_pos hy]
      exact h1
    · rw [if_neg hy]
      have hi := Inv.mk' hp rn tn hy
      have hlt := divide_len2 p old hy
      refine tr_bez hp xs ys n new _ right _ (by omega) rn (divide_red (by omega) new ro).2 (divide_trim p old new).2 h2 ?_
      obtain ⟨t, pt, a, ha⟩ := h1
      obtain ⟨s, ps, b, hb⟩ := h2
      obtain ⟨c, hc⟩ := co_divide (by omega : 0 < p) ro hi
      obtain ⟨d, hd⟩ := co_addScaled (p := p) left (prod p (divide p old new).1 right) (-1)
      obtain ⟨e, he⟩ := co_prod (p := p) (divide p old new).1 right
      refine ⟨t - co (divide p old new).1 * s, pt.sub ((Po.of _).mul ps), ?_⟩
      have em : (⟨cst (-1)⟩ : PS) = -1 := by
        ext k
        cases k <;> rfl
      rw [em] at hd
      generalize addScaled p left (prod p (divide p old new).1 right) (-1) = A at hd ⊢
      generalize prod p (divide p old new).1 right = B at hd he
      refine ⟨a + d * co xs - e * co xs - co (divide p old new).1 * b + c, ?_⟩
      grind
theorem tr_monic {p : Int} : ∀ (n : Nat) (old new left right : List Int), makeMonic p (trIter p n old new left right).1 = lawIter p n old new
  | 0, _, _, _, _ => rfl
  | n + 1, old, new, left, right => by
    rw [trIter, lawIter]
    by_cases hy : new = []
    · rw [if_pos hy, if_pos hy]
    · rw [if_neg hy, if_neg hy]
      exact tr_monic n _ _ _ _
theorem tr_red {p : Int} (hp : Pr p) (N M : Nat) : ∀ (n : Nat) (old new left right : List Int), new.length < n → TrI p N M old new left right → TrI p N M (trIter p n old new left right).1 [] (trIter p n old new left right).2 [] ∨ ∃ r, TrI p N M (trIter p n old new left right).1 [] (trIter p n old new left right).2 r
  | 0, _, _, _, _, h, _ => by omega
  | n + 1, old, new, left, right, h, hT => by
    rw [trIter]
    by_cases hy : new = []
    · rw [if_pos hy]
      subst hy
      exact .inr ⟨right, hT⟩
    · rw [if_neg hy]
      have hlt := divide_len2 p old hy
      exact tr_red hp N M n _ _ _ _ (by omega) (hT.step hp hy)
/-- what the law asks of a paper -/
structure PaperOk (p : Int) (xs ys : List Int) (t : T3) : Prop where
  c : t.c = common p xs ys
  rc : Red p t.c
  tc : trim t.c = t.c
  ra : Red p t.a
  ta : trim t.a = t.a
  rb : Red p t.b
  tb : trim t.b = t.b
  made : addScaled p (prod p t.a xs) (prod p t.b ys) 1 = t.c
  e1 : xs = [] → t.a = []
  e2 : ys = [] → t.b = []
  len : xs ≠ [] → ys ≠ [] → t.a.length + t.c.length ≤ ys.length
  la : t.a.length ≤ 1 + ys.length
  lb : t.b.length ≤ xs.length + 2 * ys.length + 2
  lc : t.c.length ≤ xs.length + ys.length + 1
theorem divide_nil {p : Int} {ys : List Int} (h : ys ≠ []) : divide p [] ys = ([], []) := by
  have hl := List.length_pos_iff.mpr h
  unfold divide
  rw [show ([] : List Int).length + 1 - ys.length = 0 by rw [List.length_nil]; omega]
  rfl
theorem trI_nil_left {p : Int} {ys : List Int} (h : ys ≠ []) : (trIter p (ys.length + 1) [] ys [1] []).2 = [] := by
  have hl := List.length_pos_iff.mpr h
  rw [trIter, if_neg h, divide_nil h]
  match hn : ys.length with
  | 0 => omega
  | n + 1 =>
    rw [trIter, if_pos rfl]
theorem paper_ok {p : Int} (hp : Pr p) {xs ys : List Int} (rx : Red p xs) (ry : Red p ys) (tx : trim xs = xs) (ty : trim ys = ys) (lx : xs.length ≤ 400) (ly : ys.length ≤ 400) : PaperOk p xs ys (triple p xs ys) := by
  have hle := hp.le
  have hp0 : 0 < p := by omega
  have hone : ∀ f : PS, (⟨cst 1⟩ : PS) * f = f := fun f => by
    have : (⟨cst 1⟩ : PS) = 1 := rfl
    rw [this]
    grind
  by_cases hy : ys = []
  · subst hy
    have hc : common p xs [] = makeMonic p xs := by
      unfold common
      rw [comIter, if_pos rfl]
    have et : triple p xs [] = ⟨makeMonic p xs, if xs = [] then [] else [inv p (xs.getLastD 0)], []⟩ := by rw [triple, if_pos rfl]
    rw [et]
    have mr := scale_red hp0 rx (inv p (xs.getLastD 0))
    have mt := scale_trim p tx (inv p (xs.getLastD 0))
    have mc := co_scaled (p := p) xs (inv p (xs.getLastD 0))
    have ml := scale_len p xs (inv p (xs.getLastD 0))
    rw [← makeMonic_eq hp] at mr mt mc ml
    by_cases hx : xs = []
    · subst hx
      have e0 : makeMonic p [] = [] := rfl
      refine ⟨hc.symm, mr, mt, fun n hn => by simp at hn, rfl, fun n hn => by simp at hn, rfl, ?_, fun _ => by simp, fun _ => rfl, fun h => absurd rfl h, by simp, by simp, by simp [e0]⟩
      show addScaled p (prod p (if ([] : List Int) = [] then [] else [inv p (([] : List Int).getLastD 0)]) []) (prod p [] []) 1 = []
      rw [if_pos rfl, prod_nil hp0]
      rfl
    · have hi := Inv.mk' hp rx tx hx
      rw [if_neg hx]
      have hb := inv_bd (n := xs.getLastD 0) hp0
      have hu := hi.2
      generalize inv p (xs.getLastD 0) = u at *
      have hup : u ≠ p := fun z => by
        rw [z, Int.mul_emod_right] at hu
        cases hu
      have hu0 : u ≠ 0 := fun z => by
        rw [z, Int.zero_mul] at hu
        cases hu
      have ru : Red p [u] := fun n hn => by
        obtain rfl := List.mem_singleton.mp hn
        omega
      refine ⟨hc.symm, mr, mt, ru, trim_self (by simpa using hu0), fun n hn => by simp at hn, rfl, ?_, fun h => absurd h hx, fun _ => rfl, fun _ h => absurd rfl h, by simp, by simp, by dsimp only; omega⟩
      refine canon hp0 (addScaled_red hp0 _ _ _) mr (addScaled_trim _ _ _ _) mt ?_
      refine (co_addScaled _ _ _).trans (.trans ?_ mc.symm)
      obtain ⟨a, ha⟩ := co_prod (p := p) [u] xs
      obtain ⟨b, hb⟩ := co_prod (p := p) [] []
      have eu : co [u] = ⟨cst u⟩ := by
        rw [co_cons, co_nil]
        grind
      rw [co_nil] at hb
      rw [eu] at ha
      rw [hone]
      exact ⟨a + b, by grind⟩
  · have hT0 : TrI p 801 ys.length xs ys [1] [] := ⟨rx, ry, red_one hle.1, fun n hn => by simp at hn, tx, ty, rfl, rfl, by simp; omega, by simp; omega, fun _ => hy, Nat.le_refl _, fun z => absurd z hy⟩
    have hT1 : ∃ r, TrI p 801 ys.length (trIter p (ys.length + 1) xs ys [1] []).1 [] (trIter p (ys.length + 1) xs ys [1] []).2 r := by
      rcases tr_red hp 801 ys.length (ys.length + 1) xs ys [1] [] (by omega) hT0 with h | h
      · exact ⟨_, h⟩
      · exact h
    obtain ⟨r, hT⟩ := hT1
    obtain ⟨a, b, pa, pb, ha, hb⟩ := tr_div hp (ys.length + 1) xs ys [1] [] (by omega) rx ry ty
    obtain ⟨t, pt, hbz⟩ := tr_bez hp xs ys (ys.length + 1) xs ys [1] [] (by omega) rx ry ty ⟨0, Po.zero, .of (by rw [co_one]; grind)⟩ ⟨1, Po.one, .of (by rw [co_nil]; grind)⟩
    have hmon := tr_monic (p := p) (ys.length + 1) xs ys [1] []
    have hcom : common p xs ys = lawIter p (ys.length + 1) xs ys := comIter_law hp _ _ _ (by omega) rx ry ty
    have hleft : xs = [] → (trIter p (ys.length + 1) xs ys [1] []).2 = [] := fun h => by
      subst h
      exact trI_nil_left hy
    rw [triple, if_neg hy]
    simp only
    generalize (trIter p (ys.length + 1) xs ys [1] []).1 = g at *
    generalize (trIter p (ys.length + 1) xs ys [1] []).2 = left at *
    have hgn : g ≠ [] := fun z => hT.ne z rfl
    have hgi := Inv.mk' hp hT.r1 hT.t1 hgn
    have ml := monic_len hgi
    have mr := scale_red hp0 hT.r1 (inv p (g.getLastD 0))
    have mt := scale_trim p hT.t1 (inv p (g.getLastD 0))
    have mc := co_scaled (p := p) g (inv p (g.getLastD 0))
    have cr := scale_red hp0 hT.r3 (inv p (g.getLastD 0))
    have ct := scale_trim p hT.t3 (inv p (g.getLastD 0))
    have cc := co_scaled (p := p) left (inv p (g.getLastD 0))
    have cl := scale_len p left (inv p (g.getLastD 0))
    have hu := hgi.2
    rw [makeMonic_eq hp, ← hcom] at hmon
    have hlM := hT.lM.2 rfl
    have hN := hT.l2
    have hlu : MEq p (⟨cst (g.getLastD 0)⟩ * ⟨cst (inv p (g.getLastD 0))⟩) 1 := by
      rw [← cst_mul2, Int.mul_comm]
      refine .ofc fun k => ?_
      cases k with
      | zero =>
        show inv p (g.getLastD 0) * g.getLastD 0 % p = 1 % p
        rw [hu, Int.emod_eq_of_lt (by decide) (by omega)]
      | succ k => rfl
    generalize inv p (g.getLastD 0) = u at *
    generalize g.getLastD 0 = ld at hlu hu
    have hg : MEq p (co g) (⟨cst ld⟩ * co (scale p g u)) :=
      (MEq.of (by grind : co g = 1 * co g)).trans ((hlu.symm.mul (.refl (co g))).trans ((MEq.of (by grind)).trans ((MEq.refl (⟨cst ld⟩ : PS)).mul mc.symm)))
    have mne : scale p g u ≠ [] := fun z => by
      have := List.length_pos_iff.mpr hgn
      rw [z] at ml
      simp at ml
      done
    have mi := Inv.mk' hp mr mt mne
    rw [quotientOf_eq hp ry ty, quotientOf_eq hp (addScaled_red hp0 _ _ _) (addScaled_trim _ _ _ _)]
    have hxa : MEq p (co xs) (a * ⟨cst ld⟩ * co (scale p g u)) := ha.trans (((MEq.refl a).mul hg).trans (.of (by grind)))
    have hyb : MEq p (co ys) (b * ⟨cst ld⟩ * co (scale p g u)) := hb.trans (((MEq.refl b).mul hg).trans (.of (by grind)))
    have hyq := exact_div hp0 ry mi (pb.mul (Po.cst ld)) hyb
    have qn := divide_ne hp0 ry ty mi (by omega)
    have qr := (divide_red hp0 (scale p g u) ry).1
    have qt := (divide_trim p ys (scale p g u)).1
    have ql := divide_len1 p ys (scale p g u)
    have hgl := List.length_pos_iff.mpr hgn
    generalize (divide p ys (scale p g u)).1 = yq at *
    have qi := Inv.mk' hp qr qt qn
    have hd := co_divide hp0 cr qi
    have fl := divide_len2 p (scale p left u) qn
    have fr := (divide_red hp0 yq cr).2
    have ft := (divide_trim p (scale p left u) yq).2
    have fnil : left = [] → (divide p (scale p left u) yq).2 = [] := fun h => by
      subst h
      have : scale p [] u = [] := by
        unfold scale
        split <;> rfl
      rw [this, divide_nil qn]
    generalize (divide p (scale p left u) yq).2 = first at *
    generalize (divide p (scale p left u) yq).1 = k at *
    generalize scale p left u = lw at *
    generalize scale p g u = c at *
    have h1 : MEq p (co first) (⟨cst u⟩ * co left - co k * co yq) := (MEq.of (by grind : co first = (co k * co yq + co first) - co k * co yq)).trans ((hd.symm.trans cc).sub (.refl _))
    have h2 : MEq p (co left * co xs) (co g - t * co ys) := (MEq.of (by grind : co left * co xs = (co left * co xs + t * co ys) - t * co ys)).trans (hbz.sub (.refl _))
    have h3 : MEq p (co yq * co xs) (a * ⟨cst ld⟩ * co ys) := ((MEq.refl (co yq)).mul hxa).trans ((MEq.of (by grind : co yq * (a * ⟨cst ld⟩ * co c) = a * ⟨cst ld⟩ * (co yq * co c))).trans ((MEq.refl (a * ⟨cst ld⟩)).mul hyq.symm))
    have h4 : MEq p (co first * co xs) (co c - (⟨cst u⟩ * t + co k * (a * ⟨cst ld⟩)) * co ys) := by
      refine (h1.mul (.refl (co xs))).trans ?_
      refine (MEq.of (by grind : (⟨cst u⟩ * co left - co k * co yq) * co xs = ⟨cst u⟩ * (co left * co xs) - co k * (co yq * co xs))).trans ?_
      refine (((MEq.refl (⟨cst u⟩ : PS)).mul h2).sub ((MEq.refl (co k)).mul h3)).trans ?_
      refine (MEq.of (by grind : ⟨cst u⟩ * (co g - t * co ys) - co k * (a * ⟨cst ld⟩ * co ys) = ⟨cst u⟩ * co g - (⟨cst u⟩ * t + co k * (a * ⟨cst ld⟩)) * co ys)).trans ?_
      exact mc.symm.sub (.refl _)
    have em : (⟨cst (-1)⟩ : PS) = -1 := by
      ext k
      cases k <;> rfl
    have hmis : MEq p (co (addScaled p c (prod p first xs) (-1))) ((⟨cst u⟩ * t + co k * (a * ⟨cst ld⟩)) * co ys) := by
      refine (co_addScaled _ _ _).trans ?_
      rw [em]
      refine ((MEq.refl (co c)).add ((MEq.refl (-1 : PS)).mul ((co_prod _ _).trans h4))).trans (.of (by grind))
    have hyi := Inv.mk' hp ry ty hy
    have sr := (divide_red hp0 ys (addScaled_red hp0 c (prod p first xs) (-1))).1
    have st := (divide_trim p (addScaled p c (prod p first xs) (-1)) ys).1
    have sl := divide_len1 p (addScaled p c (prod p first xs) (-1)) ys
    have sl2 := addScaled_len p c (prod p first xs) (-1)
    have sl3 := prod_len p first xs
    have hex := exact_div hp0 (addScaled_red hp0 c (prod p first xs) (-1)) hyi (((Po.cst u).mul pt).add ((Po.of k).mul (pa.mul (Po.cst ld)))) hmis
    have hcs : MEq p (co (addScaled p c (prod p first xs) (-1))) (co c - co first * co xs) := by
      refine (co_addScaled _ _ _).trans ?_
      rw [em]
      refine ((MEq.refl (co c)).add ((MEq.refl (-1 : PS)).mul (co_prod _ _))).trans (.of (by grind))
    generalize (divide p (addScaled p c (prod p first xs) (-1)) ys).1 = second at *
    refine ⟨hmon, mr, mt, fr, ft, sr, st, ?_, fun h => fnil (hleft h), fun h => absurd h hy, fun _ _ => by dsimp only; omega, by dsimp only; omega, by dsimp only; omega, by dsimp only; omega⟩
    refine canon hp0 (addScaled_red hp0 _ _ _) mr (addScaled_trim _ _ _ _) mt ?_
    refine (co_addScaled _ _ _).trans ?_
    rw [hone]
    refine ((co_prod first xs).add (co_prod second ys)).trans ?_
    refine ((MEq.refl (co first * co xs)).add (hex.symm.trans hcs)).trans (.of (by grind))
end K0
namespace Kt
open PySem PySem.Spec PyProof.Rows L2
open Evl (Ex Ev EvL EvU EvT EvA EvO ex_l ex_t sq_of st_of sz_of sz_lt fresh_back given)
/-- data of a depth that == may walk -/
def Tame (ds : List PyData) : Prop := ∀ d ∈ ds, d.canLay0 = true ∧ d.depth ≤ 60
theorem tame_lay : ∀ {ds : List PyData}, Tame ds → PyData.canLayAll0 ds = true ∧ PyData.depthAll ds ≤ 60
  | [], _ => ⟨rfl, by decide⟩
  | d :: ds, h => by
    have h1 := h d List.mem_cons_self
    have h2 := tame_lay (ds := ds) fun x hx => h x (List.mem_cons_of_mem _ hx)
    constructor
    · rw [PyData.canLayAll0, h1.1, h2.1]
      rfl
    · rw [PyData.depthAll]
      omega
theorem shaped_list {ds : List PyData} (h : Tame ds) : SeqAt.shaped (.list ds) = true := by
  have z := tame_lay h
  unfold SeqAt.shaped
  rw [PyData.canLay0, z.1, PyData.depth, decide_eq_true (by omega)]
  rfl
theorem shaped_tuple {ds : List PyData} (h : Tame ds) : SeqAt.shaped (.tuple ds) = true := by
  have z := tame_lay h
  unfold SeqAt.shaped
  rw [PyData.canLay0, z.1, PyData.depth, decide_eq_true (by omega)]
  rfl
theorem Tame.filter {ds : List PyData} (h : Tame ds) (g : PyData → Bool) : Tame (ds.filter g) := fun d hd => h d (List.mem_filter.mp hd).1
theorem tame_ints (ns : List Int) : Tame (ns.map PyData.int) := fun d hd => by
  obtain ⟨n, _, rfl⟩ := List.mem_map.mp hd
  refine ⟨rfl, ?_⟩
  rw [PyData.depth]
  decide
theorem eqv_nil (ds : List PyData) : PyData.eqv (.list ds) (.list []) = ds.isEmpty := by
  rw [PyData.eqv]
  cases ds <;> rfl
theorem range_getD (ds : List PyData) : (List.range ds.length).map (fun i => ds.getD i .none) = ds := by
  apply List.ext_getElem
  · simp
  · intro i h1 h2
    rw [List.getElem_map, List.getElem_range, List.getD_eq_getElem?_getD, List.getElem?_eq_getElem h2]
    rfl
section
variable {K : PySem.W.Frag} {σ : L2.St} {H : Hp} {te tf : TE} {tt : TT} {D : Ends} {tz : TS} {i j k : Nat} {r1 r2 r3 : VR}
theorem dpa_pick {xs : List V} {ds : List PyData} (hd : DpAll K H xs ds) : ∀ {is : List Nat}, (∀ i ∈ is, i < ds.length) → DpAll K H (is.map fun i => xs.getD i .non) (is.map fun i => ds.getD i .none)
  | [], _ => .nil
  | i :: is, h => by
    have hi := h i List.mem_cons_self
    have hl := Dpa_len hd
    have hx : xs[i]? = some xs[i] := List.getElem?_eq_getElem (by omega)
    obtain ⟨d, h1, h2⟩ := Dpa_get hd hx
    refine .cons ?_ (dpa_pick hd fun x hx => h x (List.mem_cons_of_mem _ hx))
    show Dp K H (xs.getD i V.non) (ds.getD i PyData.none)
    rw [List.getD_eq_getElem?_getD, List.getD_eq_getElem?_getD, hx, h1]
    exact h2
/-- [x for x in data if test] -/
theorem er_filtD {wi : TI} {vs : List Nat} {xs : List V} {ds : List PyData} (hd : DpAll K H xs ds) (hw : Wk wi σ H xs.length (YAt xs)) (g : PyData → Bool) (hn : ds.length ≤ 50000) (hv : ∀ x, wipe ((wipe σ vs).set j (some x)) vs = wipe σ vs) (hj : ∀ x, ((wipe σ vs).set j (some x))[j]? = some (some x))
    (ht : ∀ x d H1, d ∈ ds → Ex H H1 → (vD K d).R x H1 → EvT tt ((wipe σ vs).set j (some x)) H1 (g d)) : EvR (tLc wi (gName j) tt (tVar j) vs) σ H (vD K (.list (ds.filter g))) := by
  have hlen := Dpa_len hd
  have z := el_comp (vs := vs) (g := gName j) (tt := tt) (te := tVar j) hw (fun i => g (ds.getD i .none)) (fun i => xs.getD i .non) (by omega) (fun i x H1 H2 hi e y R q => by
    obtain ⟨rfl, hx⟩ := y
    obtain ⟨d, h1, h2⟩ := Dpa_get hd hx
    have eg : ds.getD i .none = d := by rw [List.getD_eq_getElem?_getD, h1] <;> rfl
    have ex : xs.getD i .non = x := by rw [List.getD_eq_getElem?_getD, hx] <;> rfl
    refine q _ _ (hv _) (Ex.refl _) ?_ fun _ => ?_
    · rw [eg]
      exact ht x d _ (List.mem_of_getElem? h1) e (dp_ex e h2)
    · rw [ex]
      exact Evl.ev_var (hj x))
  have hp : DpAll K H (given xs.length (fun i => g (ds.getD i .none)) fun i => xs.getD i .non) (ds.filter g) := by
    unfold given
    have h2 := dpa_pick hd (is := (List.range xs.length).filter fun i => g (ds.getD i .none)) fun i hi => by
      have := List.mem_range.mp (List.mem_filter.mp hi).1
      omega
    have e : ((List.range xs.length).filter fun i => g (ds.getD i .none)).map (fun i => ds.getD i .none) = ds.filter g := by
      have e2 := List.filter_map (f := fun i => ds.getD i .none) (p := g) (l := List.range ds.length)
      rw [range_getD] at e2
      rw [e2, hlen]
      rfl
    rw [e] at h2
    exact h2
  intro H1 e Q q
  exact z H1 e Q fun p H2 hp1 e2 h2 => q (.ref p) H2 e2 (Dp.lst (sq_of h2) (dpa_ex (e.trans e2) hp))
theorem evr_lenT {rr : List V → Hp → VK → Prop} {rs : List VR} (hrr : rr = fun xs H Q => ∃ p ys, xs = [.ref p] ∧ (SqL K H p ys ∨ SqT K H p ys) ∧ Q (.int ys.length) H) (h : EvR te σ H (vT K rs)) : EvR (tCB rr (tCons te tNil)) σ H (vI (rs.length : Int)) := fun H1 e Q q => h H1 e _ fun v H2 e2 ⟨a, xs, ha, hs, hal⟩ => by
  subst hrr ha
  refine ⟨a, xs, rfl, .inr hs, ?_⟩
  rw [hal.len]
  exact q _ H2 e2 rfl
/-- data in three parts -/
theorem qr_un3 (h : EvR te σ H (vT K [r1, r2, r3])) (kk : ∀ u v w H1, Ex H H1 → r1.R u H1 → r2.R v H1 → r3.R w H1 → tz D (((σ.set i (some u)).set j (some v)).set k (some w)) H1) : tSeq (tAsg te (gTup K 3 (gCons (gName i) (gCons (gName j) (gCons (gName k) gNil))))) tz D σ H :=
  h H (Ex.refl H) _ fun x H1 e ⟨a, xs, ha, hs, ⟨u, _, h1, hu, ⟨v, _, h2, hv, ⟨w, _, h3, hw, h4⟩⟩⟩⟩ => by
    have h4' : _ = [] := h4
    subst h4' h3 h2 h1
    exact ⟨a, _, ha, hs, rfl, u, _, rfl, v, _, rfl, w, _, rfl, rfl, kk u v w H1 e hu hv hw⟩
theorem Alls_D : ∀ {rows : List (List Int)} {xs : List V}, Alls (rows.map (vP K)) xs H → DpAll K H xs (rows.map dP)
  | [], _, h => by
    have h' : _ = [] := h
    rw [h']
    exact .nil
  | r :: rs, _, ⟨v, ws, h1, h2, h3⟩ => by
    rw [h1]
    exact .cons (vP_D h2) (Alls_D h3)
theorem vT_D {rows : List (List Int)} {v : V} (h : (vT K (rows.map (vP K))).R v H) : (vD K (.tuple (rows.map dP))).R v H := by
  obtain ⟨a, xs, rfl, hs, hal⟩ := h
  exact .tup hs (Alls_D hal)
theorem tame_rows (rows : List (List Int)) : Tame (rows.map dP) := fun d hd => by
  obtain ⟨ns, _, rfl⟩ := List.mem_map.mp hd
  refine ⟨?_, ?_⟩
  · unfold dP
    rw [PyData.canLay0, lay_ints]
  · unfold dP
    rw [PyData.depth, depth_ints]
    decide
end
end Kt
namespace K0
open PySem PySem.Spec PyProof.Rows L2 Kt M
open Evl (Ex Ev EvL EvU EvT EvA EvO ex_l ex_t sq_of st_of sz_of sz_lt fresh_back given)
def OV.Ok : OV → Prop
  | .d (.tuple ds) => Tame ds
  | _ => True
def isIn (p : Int) : PyData → Bool
  | .int n => decide (0 ≤ n) && decide (n < p)
  | _ => false
theorem all_ints : ∀ {ds : List PyData}, ds.filter (fun d => isB d || !isIB d) = [] → ∃ ns : List Int, ds = ns.map PyData.int
  | [], _ => ⟨[], rfl⟩
  | d :: ds, h => by
    rw [List.filter_cons] at h
    split at h
    · cases h
    · next hd =>
      obtain ⟨ns, rfl⟩ := all_ints h
      cases d with
      | int i => exact ⟨i :: ns, rfl⟩
      | none => exact absurd rfl hd
      | bool b => exact absurd rfl hd
      | str z => exact absurd rfl hd
      | list l => exact absurd rfl hd
      | tuple l => exact absurd rfl hd
      | dict l => exact absurd rfl hd
theorem not_ints {p : Int} {ds : List PyData} (h : ds.filter (fun d => isB d || !isIB d) ≠ []) : (ds.map fun d => isWithin d 0 (p - 1)).all id = false := by
  cases hc : (ds.map fun d => isWithin d 0 (p - 1)).all id with
  | false => rfl
  | true =>
    obtain ⟨ns, rfl, _⟩ := ints_of hc
    refine absurd ?_ h
    rw [List.filter_eq_nil_iff]
    intro d hd
    obtain ⟨n, _, rfl⟩ := List.mem_map.mp hd
    exact Bool.false_ne_true
theorem in_within {p : Int} (hp : p ≤ 10) (ns : List Int) : ((ns.map PyData.int).map fun d => isWithin d 0 (p - 1)).all id = ((ns.map PyData.int).filter fun d => !isIn p d).isEmpty := by
  induction ns with
  | nil => rfl
  | cons n ns ih =>
    rw [List.map_cons, List.map_cons, List.all_cons, ih, List.filter_cons]
    have e : isWithin (.int n) 0 (p - 1) = isIn p (.int n) := by
      show (decide ((if n < 0 then -n else n) < 10 ^ 60) && (decide (0 ≤ n) && decide (n ≤ p - 1))) = (decide (0 ≤ n) && decide (n < p))
      by_cases h0 : 0 ≤ n
      · by_cases h1 : n < p
        · rw [if_neg (by omega), decide_eq_true (by omega), decide_eq_true h0, decide_eq_true (by omega), decide_eq_true h1]
          rfl
        · rw [decide_eq_false h1, decide_eq_false (show ¬ n ≤ p - 1 by omega), Bool.and_false, Bool.and_false]
      · rw [decide_eq_false h0, Bool.false_and, Bool.false_and, Bool.and_false]
    show (isWithin (.int n) 0 (p - 1) && _) = _
    rw [e]
    cases isIn p (.int n) <;> rfl
structure GR where
  p : Int
  xs : List Int
  ys : List Int
  t : T3
section
variable {P : Program} {w : World} {K : PySem.W.Frag} {mg : Str → Option Value} {base : Heap}
def sp__law_is_poly_here (K : PySem.W.Frag) : Sp := Con (G := GO) (fun g => g.p ≤ 10 ∧ g.o.Ok) (fun g => [vI g.p, vO K g.o]) (fun g => vB (hpf g.p g.o))
def sp__law_is_paper_right (K : PySem.W.Frag) : Sp := Con (G := GR) (fun g => Pr g.p ∧ PolyOk g.p g.xs ∧ PolyOk g.p g.ys ∧ PaperOk g.p g.xs g.ys g.t) (fun g => [vI g.p, vP K g.xs, vP K g.ys, vT K [vP K g.t.c, vP K g.t.a, vP K g.t.b]]) (fun _ => vB true)
def sp__law_quotients_right (K : PySem.W.Frag) : Sp := Con (G := GQ) (fun g => Pr g.p ∧ PolyOk g.p g.xs ∧ PolyOk g.p g.ys) (fun g => [vI g.p, vP K g.xs, vP K g.ys]) (fun _ => vB true)
end
end K0
namespace Kt
open PySem PySem.Spec PyProof.Rows L2
open Evl (Ex Ev EvL EvU EvT EvA EvO ex_l ex_t sq_of st_of sz_of sz_lt fresh_back given)
section
variable {K : PySem.W.Frag} {σ : L2.St} {H H' H'' : Hp} {te tf : TE} {l : Addr} {ns : List Int} {v : V} {b : Bool}
theorem evr_int1b {rr : List V → Hp → VK → Prop} (hrr : rr = fun xs H Q => (∃ i, xs = [.int i] ∧ Q (.int i) H) ∨ ∃ k, xs = [.bl k] ∧ Q (.int (if k then 1 else 0)) H) (h : EvR te σ H (vB b)) : EvR (tCB rr (tCons te tNil)) σ H (vI (if b = true then 1 else 0)) := fun H1 e Q q => h H1 e _ fun v H2 e2 hv => by
  have hv' : v = .bl b := hv
  subst hrr hv'
  exact .inr ⟨b, rfl, q _ H2 e2 rfl⟩
/-- the bag at l: three ints -/
def Bag (l : Addr) (H : Hp) : Prop := ∃ b0 b1 b2 : Int, H l = some (.lst [.int b0, .int b1, .int b2])
/-- all but what stands at l is kept -/
def ExB (l : Addr) (H H' : Hp) : Prop := ∀ a o, a ≠ l → H a = some o → H' a = some o
theorem ExB.refl : ExB l H H := fun _ _ _ h => h
theorem ExB.trans (h : ExB l H H') (h2 : ExB l H' H'') : ExB l H H'' := fun a o n e => h2 a o n (h a o n e)
theorem ExB.of (h : Ex H H') : ExB l H H' := fun a o _ e => h a o e
theorem ExB.upd {o : HO} (h : ExB l H H') : ExB l H (upd H' l o) := fun a o' n e => by
  rw [upd_ne n]
  exact h a o' n e
theorem vP_exB (h : (vP K ns).R v H) (hb : Bag l H) (e : ExB l H H') : (vP K ns).R v H' := by
  obtain ⟨a, ha, hs⟩ := h
  obtain ⟨b0, b1, b2, hl⟩ := hb
  refine ⟨a, ha, ?_⟩
  rcases hs with (h | ⟨o, h⟩) | h
  · refine .inl (.inl (e _ _ ?_ h))
    intro z
    rw [z, hl] at h
    cases h
  · refine .inl (.inr ⟨o, e _ _ ?_ h⟩)
    intro z
    rw [z, hl] at h
    cases h
  · exact .inr h
theorem Bag.ex (h : Bag l H) (e : Ex H H') : Bag l H' := by
  obtain ⟨b0, b1, b2, hl⟩ := h
  exact ⟨b0, b1, b2, e _ _ hl⟩
end
end Kt
namespace K0
open PySem PySem.Spec PyProof.Rows L2 Kt M
open Evl (Ex Ev EvL EvU EvT EvA EvO ex_l ex_t sq_of st_of sz_of sz_lt fresh_back given)
section
variable {P : Program} {w : World} {K : PySem.W.Frag} {mg : Str → Option Value} {base : Heap}
def sp__law_bag (K : PySem.W.Frag) : Sp := fun vs H Q _ => ∃ (ns : List Int) (spot : Nat) (v : V), vs = [v, .int (spot : Int)] ∧ (vL K ns).R v H ∧ spot ≤ 1000 ∧ ∀ p H', H p = none → Ex H H' → Bag p H' → Q (.ref p) H'
def sp__law_grab (_ : PySem.W.Frag) : Sp := fun vs H Q _ => ∃ (l : Addr) (total : Int), vs = [.ref l, .int total] ∧ Bag l H ∧ 0 < total ∧ total.natAbs < 2 ^ 250 ∧ ∀ r H', 0 ≤ r → r < total → ExB l H H' → Bag l H' → Q (.int r) H'
def sp__law_one_of (_ : PySem.W.Frag) : Sp := fun vs H Q _ => ∃ (l a : Addr) (ns : List Int), vs = [.ref l, .ref a] ∧ a ≠ l ∧ Bag l H ∧ H a = some (.lst (ns.map V.int)) ∧ ns ≠ [] ∧ ns.length ≤ 1000 ∧ ∀ n H', n ∈ ns → ExB l H H' → Bag l H' → Q (.int n) H'
abbrev s__law_bag : Stmt := topS 98
abbrev N__law_bag : List Str := ["script", "spot", "cell", "great", "mixed"]
theorem sc__law_bag : FnScope N__law_bag ["script", "spot"] (defScope s__law_bag) := ⟨rfl, rfl, rfl, by decide +kernel, rfl, by decide +kernel, by decide +kernel⟩
theorem ok__law_bag {f : Addr} {fd : FuncData} (F : Fun K "_law_bag" "_law_bag" s__law_bag f fd) (B : Bis mg)   : FnOk P w K mg base CX0 1 f fd ["script", "spot"] (sp__law_bag K) := by
  refine F.ok sc__law_bag (fun vs H Q E h => ?_) (fun cdv A outer s H vs Q E hr h => ?_)
  · obtain ⟨_, _, _, rfl, _⟩ := h
    rfl
  · obtain ⟨ns, spot, v_script, rfl, h_script, hspot, q⟩ := h
    refine ⟨_, (pss_cons (ps_set (i := 2) sc__law_bag.nd rfl (Or.inl rfl) (pe_ifExp (pt_cmpR op_lt (pv 1) (pe_callB call_len_seq (by rfl) (B "len" (by decide +kernel)) (by decide +kernel) (pa_cons (pv 0) pa_nil)) (nomark _)) (pe_ix (r := rIxL K) ix_list (pv 0) (pv 1) (fun _ _ => rfl)) (pe_op op_add (pe_op op_mul pe_int (pv 1)) pe_int)))
      (pss_cons (ps_set (i := 3) sc__law_bag.nd rfl (Or.inl rfl) (pe_op op_mod (pe_callTy call_int1 (by rfl) (B "int" (by decide +kernel)) (by decide +kernel) (pa_cons (pe_callB call_abs (by rfl) (B "abs" (by decide +kernel)) (by decide +kernel) (pa_cons (pv 2) pa_nil)) pa_nil)) (pe_op op_mulW (pe_op op_pow pe_int pe_int) (pe_op op_pow pe_int pe_int))))
      (pss_cons (ps_set (i := 4) sc__law_bag.nd rfl (Or.inl rfl) (pe_op op_add (pe_op op_add (pe_op op_add (pe_op op_mul (pe_op op_mod (pv 3) pe_int) pe_int) (pe_op op_mul pe_int (pv 1))) (pe_op op_mul pe_int (pe_callTy call_int1 (by rfl) (B "int" (by decide +kernel)) (by decide +kernel) (pa_cons (pe_cmpR op_lt (pv 2) pe_int (nomark _)) pa_nil)))) pe_int))
      (pss_one (ps_ret (pe_lst (pa_cons (pe_callB (call_max2 rfl) (by rfl) (B "max" (by decide +kernel)) (by decide +kernel) (pa_cons pe_int (pa_cons (pe_op op_sub (pv 3) (pe_op op_pow pe_int pe_int)) pa_nil))) (pa_cons (pe_op op_mod (pe_callTy call_int1 (by rfl) (B "int" (by decide +kernel)) (by decide +kernel) (pa_cons (pv 4) pa_nil)) pe_int) (pa_cons pe_int pa_nil))))))))), ?_⟩
    refine qr_asg (r := vI (if spot < ns.length then ns.getD spot 0 else 127 * spot + 61)) (evr_if (et_r (evr_op (evr_var rfl rfl) (evr_lenR rfl (EvR.kL (evr_var rfl h_script))) op_i0)) (fun hb => ?_) (fun hb => ?_)) fun v H1 e1 hv => ?_
    · have hlt : spot < ns.length := by
        have := of_decide_eq_true hb
        omega
      rw [if_pos hlt]
      exact evr_op (evr_var rfl h_script) (evr_var rfl rfl) (op_ixLn (by rw [List.getD_eq_getElem?_getD, List.getElem?_eq_getElem hlt] <;> rfl))
    · have hlt : ¬ spot < ns.length := by
        have := of_decide_eq_false hb
        omega
      rw [if_neg hlt]
      exact evr_op (evr_op evr_c (evr_var rfl rfl) (op_i (.inl (by decide)))) evr_c op_i0
    · obtain rfl := hv
      generalize (if spot < ns.length then ns.getD spot 0 else 127 * spot + 61 : Int) = cell
      refine qr_asg (evr_op (evr_int1 rfl (evr_abs rfl (evr_var rfl rfl))) (evr_op (evr_op evr_c evr_c (op_i ⟨by decide, by decide, by decide⟩)) (evr_op evr_c evr_c (op_i ⟨by decide, by decide, by decide⟩)) (op_i ?_)) (op_i ?_)) fun v H2 e2 hv => ?_
      · exact wide_mul (a := 250) (b := 250) (by decide) (by decide) (by decide) (by decide) (by decide)
      · decide
      · obtain rfl := hv
        generalize (if cell < 0 then -cell else cell) % (10 ^ (59 : Int).toNat * 10 ^ (60 : Int).toNat) = great
        refine qr_asg (evr_op (evr_op (evr_op (evr_op (evr_op (evr_var rfl rfl) evr_c (op_i (by decide))) evr_c (op_i (.inr (by decide)))) (evr_op evr_c (evr_var rfl rfl) (op_i (.inl (by decide)))) op_i0) (evr_op evr_c (evr_int1b rfl (evr_op (evr_var rfl rfl) evr_c op_i0)) (op_i (.inl (by decide)))) op_i0) evr_c op_i0) fun v H3 e3 hv => ?_
        obtain rfl := hv
        refine Evl.s_retL (xs := [_, _, _].map V.int) (el_dispI (evrs_cons (evr_cb (evrs_cons evr_c (evrs_cons (evr_op (evr_var rfl rfl) (evr_op evr_c evr_c (op_i ⟨by decide, by decide, by decide⟩)) op_i0) evrs_nil)) (cb_max rfl)) (evrs_cons (evr_op (evr_int1 rfl (evr_var rfl rfl)) evr_c (op_i (by decide))) (evrs_cons evr_c evrs_nil))) (Nat.le_of_ble_eq_true rfl)) fun p H4 n4 e4 h4 => ?_
        exact q p H4 (fresh_back ((e1.trans e2).trans e3) n4) (((e1.trans e2).trans e3).trans e4) ⟨_, _, _, h4⟩
abbrev s__law_grab : Stmt := topS 99
abbrev N__law_grab : List Str := ["bag", "total", "found", "one", "two"]
theorem sc__law_grab : FnScope N__law_grab ["bag", "total"] (defScope s__law_grab) := ⟨rfl, rfl, rfl, by decide +kernel, rfl, by decide +kernel, by decide +kernel⟩
theorem ok__law_grab {f : Addr} {fd : FuncData} (F : Fun K "_law_grab" "_law_grab" s__law_grab f fd) (B : Bis mg)   : FnOk P w K mg base CX0 1 f fd ["bag", "total"] (sp__law_grab K) := by
  refine F.ok sc__law_grab (fun vs H Q E h => ?_) (fun cdv A outer s H vs Q E hr h => ?_)
  · obtain ⟨_, _, rfl, _⟩ := h
    rfl
  · obtain ⟨l, total, rfl, ⟨b0, b1, b2, hl⟩, ht0, htw, q⟩ := h
    refine ⟨_, (pss_cons (ps_if (pt_cmpR op_gt (pe_ix (r := rIxL K) ix_list (pv 0) pe_int (fun _ _ => rfl)) pe_int (nomark _)) (pss_cons (ps_set (i := 2) sc__law_grab.nd rfl (Or.inl rfl) (pe_op op_mod (pe_callTy call_int1 (by rfl) (B "int" (by decide +kernel)) (by decide +kernel) (pa_cons (pe_ix (r := rIxL K) ix_list (pv 0) pe_int (fun _ _ => rfl)) pa_nil)) (pv 1)))
      (pss_cons (ps_asg (pe_op op_fdivW (pe_ix (r := rIxL K) ix_list (pv 0) pe_int (fun _ _ => rfl)) (pv 1)) (pg_sub (pv 0) pe_int set_list))
      (pss_one (ps_ret (pv 2))))) pss_nil)
      (pss_cons (ps_asg (pe_op op_add (pe_ix (r := rIxL K) ix_list (pv 0) pe_int (fun _ _ => rfl)) pe_int) (pg_sub (pv 0) pe_int set_list))
      (pss_cons (ps_set (i := 3) sc__law_grab.nd rfl (Or.inl rfl) (pe_op op_mod (pe_callTy call_int1 (by rfl) (B "int" (by decide +kernel)) (by decide +kernel) (pa_cons (pe_op op_add (pe_ix (r := rIxL K) ix_list (pv 0) pe_int (fun _ _ => rfl)) (pe_op op_mul pe_int (pe_ix (r := rIxL K) ix_list (pv 0) pe_int (fun _ _ => rfl)))) pa_nil)) pe_int))
      (pss_cons (ps_set (i := 4) sc__law_grab.nd rfl (Or.inl rfl) (pe_op op_add (pe_op op_mul (pe_op op_mod (pe_callTy call_int1 (by rfl) (B "int" (by decide +kernel)) (by decide +kernel) (pa_cons (pe_op op_add (pe_op op_mul (pv 3) (pv 3)) (pe_op op_mul pe_int (pe_ix (r := rIxL K) ix_list (pv 0) pe_int (fun _ _ => rfl)))) pa_nil)) pe_int) pe_int) (pv 3)))
      (pss_one (ps_ret (pe_op op_mod (pe_callTy call_int1 (by rfl) (B "int" (by decide +kernel)) (by decide +kernel) (pa_cons (pe_op op_fdiv (pv 4) pe_int) pa_nil)) (pv 1)))))))), ?_⟩
    have ix : ∀ {H' : Hp} {a0 a1 a2 : Int} {σ' : L2.St} (k : Nat) (z : Int), σ'[0]? = some (some (.ref l)) → H' l = some (.lst ([a0, a1, a2].map V.int)) → [a0, a1, a2][k]? = some z → EvR (tOp (rIxL K) (tVar 0) (tC (.int (k : Int)))) σ' H' (vI z) := fun k z h1 h2 h3 => evr_op (evr_mut h1 h2) evr_c (op_ixLn h3)
    refine Evl.q_when (et_r (evr_op (ix 0 b0 rfl hl rfl) evr_c op_i0)) (fun hb H1 e1 => ?_) (fun hb H1 e1 => ?_)
    · refine qr_asg (evr_op (evr_int1 rfl (ix 0 b0 rfl (e1 _ _ hl) rfl)) (evr_var rfl rfl) (op_i ht0)) fun v H2 e2 hv => ?_
      obtain rfl := hv
      have hl2 : H2 l = some (.lst ([b0, b1, b2].map V.int)) := e2 _ _ (e1 _ _ hl)
      refine qr_set (n := 0) hl2 (evr_op (ix 0 b0 rfl hl2 rfl) (evr_var rfl rfl) (op_i (wide_div ht0 htw (by decide) (by decide)))) (evr_var rfl rfl) evr_c (by show 0 < 3; decide) fun H3 e3 => ?_
      refine sr_ret (evr_var (r := vI (b0 % total)) rfl rfl) fun v H4 e4 hv => ?_
      obtain rfl := hv
      exact q _ H4 (Int.emod_nonneg _ (by omega)) (Int.emod_lt_of_pos _ ht0) ((ExB.of ((e1.trans e2).trans e3)).upd.trans (ExB.of e4)) ⟨_, _, _, e4 _ _ upd_same⟩
    · have hl1 : H1 l = some (.lst ([b0, b1, b2].map V.int)) := e1 _ _ hl
      refine qr_set (n := 2) hl1 (evr_op (ix 2 b2 rfl hl1 rfl) evr_c op_i0) (evr_var rfl rfl) evr_c (by show 2 < 3; decide) fun H2 e2 => ?_
      have hl3 : (upd H2 l (.lst (([b0, b1, b2].set 2 (b2 + 1)).map V.int))) l = some (.lst ([b0, b1, b2 + 1].map V.int)) := upd_same
      have eB : ExB l H (upd H2 l (.lst (([b0, b1, b2].set 2 (b2 + 1)).map V.int))) := (ExB.of (e1.trans e2)).upd
      generalize (upd H2 l (.lst (([b0, b1, b2].set 2 (b2 + 1)).map V.int))) = H3 at hl3 eB
      refine qr_asg (evr_op (evr_int1 rfl (evr_op (ix 1 b1 rfl hl3 rfl) (evr_op evr_c (ix 2 (b2 + 1) rfl hl3 rfl) (op_i (.inl (by decide)))) op_i0)) evr_c (op_i (by decide))) fun v H4 e4 hv => ?_
      obtain rfl := hv
      have ho0 := Int.emod_nonneg (b1 + 67867979 * (b2 + 1)) (by decide : (2305843009213693951 : Int) ≠ 0)
      have ho1 := Int.emod_lt_of_pos (b1 + 67867979 * (b2 + 1)) (by decide : (0 : Int) < 2305843009213693951)
      generalize (b1 + 67867979 * (b2 + 1)) % 2305843009213693951 = one at ho0 ho1
      have hl4 := e4 _ _ hl3
      refine qr_asg (evr_op (evr_op (evr_op (evr_int1 rfl (evr_op (evr_op (evr_var rfl rfl) (evr_var rfl rfl) (op_i (.inl (by omega)))) (evr_op evr_c (ix 2 (b2 + 1) rfl hl4 rfl) (op_i (.inl (by decide)))) op_i0)) evr_c (op_i (by decide))) evr_c (op_i (.inr (by decide)))) (evr_var rfl rfl) op_i0) fun v H5 e5 hv => ?_
      obtain rfl := hv
      generalize (one * one + 101 * (b2 + 1)) % 2305843009213693921 * 4256233 + one = two
      refine sr_ret (evr_op (evr_int1 rfl (evr_op (evr_var rfl rfl) evr_c (op_i ⟨by decide, by decide⟩))) (evr_var rfl rfl) (op_i ht0)) fun v H6 e6 hv => ?_
      obtain rfl := hv
      exact q _ H6 (Int.emod_nonneg _ (by omega)) (Int.emod_lt_of_pos _ ht0) (eB.trans (ExB.of ((e4.trans e5).trans e6))) ⟨_, _, _, e6 _ _ (e5 _ _ hl4)⟩
abbrev s__law_one_of : Stmt := topS 100
abbrev N__law_one_of : List Str := ["bag", "items"]
theorem sc__law_one_of : FnScope N__law_one_of ["bag", "items"] (defScope s__law_one_of) := ⟨rfl, rfl, rfl, by decide +kernel, rfl, by decide +kernel, by decide +kernel⟩
theorem ok__law_one_of {f : Addr} {fd : FuncData} (F : Fun K "_law_one_of" "_law_one_of" s__law_one_of f fd) (B : Bis mg)  (D__law_grab : De P w K mg base "_law_grab" ["bag", "total"] 1 (sp__law_grab K)) : FnOk P w K mg base CX0 2 f fd ["bag", "items"] (sp__law_one_of K) := by
  refine F.ok sc__law_one_of (fun vs H Q E h => ?_) (fun cdv A outer s H vs Q E hr h => ?_)
  · obtain ⟨_, _, _, rfl, _⟩ := h
    rfl
  · obtain ⟨l, a, ns, rfl, hne, hb, hs, hn, hz, q⟩ := h
    refine ⟨_, (pss_one (ps_ret (pe_ix (r := rIxL K) ix_list (pv 1) (pe_call D__law_grab.ok (hr.mono (by decide)) (by rfl) D__law_grab.g D__law_grab.kp D__law_grab.b .nil pass0 (pa_cons (pv 0) (pa_cons (pe_callB call_len_seq (by rfl) (B "len" (by decide +kernel)) (by decide +kernel) (pa_cons (pv 1) pa_nil)) pa_nil))) (fun _ _ => rfl)))), ?_⟩
    have hpos := List.length_pos_iff.mpr hn
    refine ⟨.ref a, rfl, .ref l, rfl, .ref a, rfl, a, _, rfl, .inl (sq_of hs), ?_⟩
    rw [List.length_map]
    refine ⟨l, (ns.length : Int), rfl, hb, by omega, ?_, fun r H' h0 h1 eB hb' => ?_⟩
    · have : (ns.length : Int).natAbs ≤ 1000 := by omega
      exact Nat.lt_of_le_of_lt this (by decide)
    · obtain ⟨k, rfl⟩ := Int.eq_ofNat_of_zero_le h0
      have hr : k < ns.length := by omega
      exact ⟨a, _, (k : Int), .int ns[k], rfl, rfl, sq_of (eB a _ hne hs), atI_nat (by rw [List.getElem?_map, List.getElem?_eq_getElem hr] <;> rfl), q _ H' (List.getElem_mem hr) eB hb'⟩
end
end K0
namespace K0
open PySem PySem.Spec PyProof.Rows L2 Kt M
open Evl (Ex Ev EvL EvU EvT EvA EvO ex_l ex_t sq_of st_of sz_of sz_lt fresh_back given)
section
variable {P : Program} {w : World} {K : PySem.W.Frag} {mg : Str → Option Value} {base : Heap}
def sp__law_poly_drawn (K : PySem.W.Frag) : Sp := fun vs H Q _ => ∃ (l : Addr) (p : Int) (most : Nat), vs = [.ref l, .int p, .int (most : Int)] ∧ Bag l H ∧ 0 < p ∧ p ≤ 10 ∧ most ≤ 100 ∧ ∀ ns v H', Red p ns → trim ns = ns → ns.length ≤ most + 1 → ExB l H H' → Bag l H' → (vP K ns).R v H' → Q v H'
end
end K0
namespace Kt
open PySem PySem.Spec PyProof.Rows L2
open Evl (Ex Ev EvL EvU EvT EvA EvO ex_l ex_t sq_of st_of sz_of sz_lt fresh_back given)
section
variable {K : PySem.W.Frag} {σ : L2.St} {H H' : Hp} {te tf : TE} {ta tk : TA} {l : Addr} {P P' : Int → Prop} {n : Nat} {x : Int} {D : Ends} {tz : TS} {i : Nat}
/-- an int of P comes; the bag may change -/
def EvB (l : Addr) (te : TE) (σ : L2.St) (P : Int → Prop) : Prop := ∀ H1, Bag l H1 → ∀ Q : VK, (∀ n H2, P n → ExB l H1 H2 → Bag l H2 → Q (.int n) H2) → te σ H1 Q
def EvBs (l : Addr) (ta : TA) (σ : L2.St) (n : Nat) (P : Int → Prop) : Prop := ∀ H1, Bag l H1 → ∀ Q : List V → Hp → Prop, (∀ (ns : List Int) H2, ns.length = n → (∀ m ∈ ns, P m) → ExB l H1 H2 → Bag l H2 → Q (ns.map V.int) H2) → ta σ H1 Q
theorem EvB.imp (h : EvB l te σ P) (k : ∀ n, P n → P' n) : EvB l te σ P' := fun H1 hb Q q => h H1 hb Q fun n H2 hp => q n H2 (k n hp)
theorem evb_r (h : ∀ H1, EvR te σ H1 (vI x)) : EvB l te σ (fun n => n = x) := fun H1 hb Q q => h H1 H1 (Ex.refl H1) Q fun v H2 e2 hv => by
  have hv' : v = .int x := hv
  subst hv'
  exact q x H2 rfl (ExB.of e2) (hb.ex e2)
theorem evb_sub (h : ∀ H1, EvR te σ H1 (vI x)) (h2 : EvB l tf σ P) : EvB l (tOp (rI0 fun i j => .int (i - j)) te tf) σ (fun n => ∃ m, P m ∧ n = x - m) := fun H1 hb Q q => h H1 H1 (Ex.refl H1) _ fun v H2 e2 hv => by
  have hv' : v = .int x := hv
  subst hv'
  exact h2 H2 (hb.ex e2) _ fun m H3 hm e3 b3 => ⟨x, m, rfl, rfl, q _ H3 ⟨m, hm, rfl⟩ ((ExB.of e2).trans e3) b3⟩
theorem evbs_nil : EvBs l tNil σ 0 P := fun H1 hb Q q => q [] H1 rfl (fun m hm => by simp at hm) ExB.refl hb
theorem evbs_cons (h : EvB l te σ P) (h2 : EvBs l ta σ n P) : EvBs l (tCons te ta) σ (n + 1) P := fun H1 hb Q q => h H1 hb _ fun m H2 hm e2 b2 => h2 H2 b2 _ fun ns H3 hl hP e3 b3 => by
  refine q (m :: ns) H3 (by rw [List.length_cons, hl]) (fun k hk => ?_) (e2.trans e3) b3
  rcases List.mem_cons.mp hk with rfl | hk
  · exact hm
  · exact hP k hk
theorem qb_asg (h : EvB l te σ P) (hb : Bag l H) (k : ∀ n H1, P n → ExB l H H1 → Bag l H1 → tz D (σ.set i (some (.int n))) H1) : tSeq (tAsg te (gName i)) tz D σ H := h H hb _ fun n H1 hp e b => k n H1 hp e b
theorem Alls.append : ∀ {rs rk : List VR} {vs zs : List V}, Alls rs vs H → Alls rk zs H → Alls (rs ++ rk) (vs ++ zs) H
  | [], _, _, _, h, h2 => by
    have h' : _ = [] := h
    rw [h']
    exact h2
  | r :: rs, _, _, _, ⟨v, ws, h1, h3, h4⟩, h2 => by
    rw [h1]
    exact ⟨v, _, rfl, h3, Alls.append h4 h2⟩
/-- a call that is told a keyword too -/
theorem evr_callN {G : Type} {pre : G → Prop} {args : G → List VR} {res : G → VR} {E : XK} {n m : Nat} {rs rk : List VR} (g : G) (hp : pre g) (h : EvRs ta σ H rs) (hk : EvRs tk σ H rk) (hn : rs.length = n) (hm : rk.length = m) (ha : args g = rs ++ rk) : EvR (tCallN n m (Con pre args res) (fun vs zs => vs ++ zs) E ta tk) σ H (res g) := fun H1 e Q q =>
  h H1 e _ fun vs H2 e2 hvs => hk H2 (e.trans e2) _ fun zs H3 e3 hzs => ⟨by rw [hvs.len]; exact hn, by rw [hzs.len]; exact hm, g, hp, by
    rw [ha]
    exact (hvs.mono e3).append hzs, fun v H4 e4 hv => q v H4 ((e2.trans e3).trans e4) hv⟩
/-- a call whose last arguments stand as defaults -/
theorem evr_callD {G : Type} {pre : G → Prop} {args : G → List VR} {res : G → VR} {E : XK} {dvs : List V} {rs rk : List VR} (g : G) (hp : pre g) (h : EvRs ta σ H rs) (hk : ∀ H', Alls rk dvs H') (ha : args g = rs ++ rk) : EvR (tCall (Con pre args res) dvs E ta) σ H (res g) := fun H1 e Q q =>
  h H1 e _ fun vs H2 e2 hvs => ⟨g, hp, by
    rw [ha]
    exact hvs.append (hk H2), fun v H3 e3 hv => q v H3 (e2.trans e3) hv⟩
end
end Kt
namespace K0
open PySem PySem.Spec PyProof.Rows L2 Kt M
open Evl (Ex Ev EvL EvU EvT EvA EvO ex_l ex_t sq_of st_of sz_of sz_lt fresh_back given)
theorem evb_grab {K : PySem.W.Frag} {σ : L2.St} {te : TE} {l : Addr} {t : Int} {E : XK} (h0 : σ[0]? = some (some (.ref l))) (h : ∀ H1, EvR te σ H1 (vI t)) (ht : 0 < t) (hw : t.natAbs < 2 ^ 250) : EvB l (tCall (sp__law_grab K) [] E (tCons (tVar 0) (tCons te tNil))) σ (fun n => 0 ≤ n ∧ n < t) := fun H1 hb Q q =>
  ⟨.ref l, h0, h H1 H1 (Ex.refl H1) _ fun v H2 e2 hv => by
    have hv' : v = .int t := hv
    subst hv'
    exact ⟨l, t, rfl, hb.ex e2, ht, hw, fun r H3 g0 g1 e3 b3 => q r H3 ⟨g0, g1⟩ ((ExB.of e2).trans e3) b3⟩⟩
theorem evb_oneof {K : PySem.W.Frag} {σ : L2.St} {ta : TA} {l : Addr} {n : Nat} {P : Int → Prop} {E : XK} (h0 : σ[0]? = some (some (.ref l))) (h : EvBs l ta σ n P) (hn : 0 < n ∧ n ≤ 1000) : EvB l (tCall (sp__law_one_of K) [] E (tCons (tVar 0) (tCons (tLst ta) tNil))) σ P := fun H1 hb Q q =>
  ⟨.ref l, h0, h H1 hb _ fun ns H2 hl hP e2 b2 => by
    refine ⟨sz_of (by rw [List.length_map]; omega), fun p hp => ?_⟩
    have hpl : p ≠ l := fun z => by
      obtain ⟨b0, b1, bb, h⟩ := b2
      rw [z, h] at hp
      cases hp
    have b3 : Bag l (upd H2 p (.lst (ns.map V.int))) := by
      obtain ⟨b0, b1, bb, h⟩ := b2
      exact ⟨b0, b1, bb, by rw [upd_ne (Ne.symm hpl)]; exact h⟩
    refine ⟨l, p, ns, rfl, hpl, b3, upd_same, ?_, by omega, fun m H3 hm e3 b4 => q m H3 (hP m hm) (e2.trans ((ExB.of (Ex.new hp)).trans e3)) b4⟩
    intro z
    rw [z] at hl
    simp at hl
    omega⟩
end K0
namespace Kt
open PySem PySem.Spec PyProof.Rows L2
open Evl (Ex Ev EvL EvU EvT EvA EvO ex_l ex_t sq_of st_of sz_of sz_lt fresh_back given)
def reprB (b : Bool) : Str := if b then "True" else "False"
def rReprB : List V → Hp → VK → Prop := fun xs H Q => ∃ b, xs = [.bl b] ∧ Q (.str (reprB b)) H
theorem call_repr_bool {X : Cx} : CallR X (.builtin "repr") rReprB := by
  intro pins s σ H xs us Q I r h
  obtain ⟨b, rfl, q⟩ := h
  obtain ⟨u, rfl, rfl⟩ := vals1 r
  exact PySem.P.repr_of_bool ⟨.str _, H, I.tok _, ⟨_, rfl⟩, q⟩
section
variable {K : PySem.W.Frag} {σ : L2.St} {H H' : Hp} {te tf tl tk : TE} {ta : TA} {tt : TT} {rs os rk : List VR} {r : VR} {j : Nat} {vs : List Nat} {b : Bool} {ns : List Int} {D : Ends} {tz : TS}
theorem evr_reprB (h : EvR te σ H (vB b)) : EvR (tCB rReprB (tCons te tNil)) σ H (vS (reprB b)) := fun H1 e Q q => h H1 e _ fun v H2 e2 hv => by
  have hv' : v = .bl b := hv
  subst hv'
  exact ⟨b, rfl, q _ H2 e2 rfl⟩
/-- a new list of such things -/
def EvM (te : TE) (σ : L2.St) (H : Hp) (rs : List VR) : Prop := ∀ H1, Ex H H1 → ∀ Q : VK, (∀ p xs H2, H1 p = none → Ex H1 H2 → H2 p = some (.lst xs) → Alls rs xs H2 → Q (.ref p) H2) → te σ H1 Q
theorem EvM.ls (h : EvM te σ H rs) : EvR te σ H (vLs K rs) := fun H1 e Q q => h H1 e Q fun p xs H2 _ e2 h2 ha => q (.ref p) H2 e2 ⟨p, xs, rfl, sq_of h2, ha⟩
theorem em_disp (h : EvRs ta σ H rs) (hl : rs.length ≤ 100000) : EvM (tLst ta) σ H rs := fun H1 e Q q =>
  h H1 e _ fun vs H2 e2 hvs => ⟨sz_of (by rw [hvs.len]; exact hl), fun p hp => q p vs _ (fresh_back e2 hp) (e2.trans (Ex.new hp)) upd_same (hvs.mono (Ex.new hp))⟩
theorem em_cat (h : EvM te σ H rs) (h2 : EvM tk σ H rk) (hz : rs.length + rk.length ≤ 100000) : EvM (tOp rCat te tk) σ H (rs ++ rk) := fun H1 e Q q =>
  h H1 e _ fun p xs H2 hp e2 hp2 ha => h2 H2 (e.trans e2) _ fun p' ys H3 hp' e3 hp3 hb => by
    refine ⟨p, p', _, _, rfl, rfl, e3 _ _ hp2, hp3, sz_of (by rw [ha.len, hb.len]; exact hz), fun l hl => q l _ _ (fresh_back (e2.trans e3) hl) ((e2.trans e3).trans (Ex.new hl)) upd_same ?_⟩
    exact (((ha.mono e3).append hb).mono (Ex.new hl))
theorem Alls.one : ∀ {rs : List VR} {xs : List V} {i : Nat} {x : V} {H : Hp}, Alls rs xs H → xs[i]? = some x → ∃ r : VR, rs[i]? = some r ∧ r.R x H
  | [], _, _, _, _, h, hx => by
    have h' : _ = [] := h
    rw [h'] at hx
    simp at hx
  | r :: rs, _, 0, x, _, ⟨v, ws, h1, h2, h3⟩, hx => by
    subst h1
    obtain rfl := Option.some.inj hx
    exact ⟨r, rfl, h2⟩
  | r :: rs, _, i + 1, x, _, ⟨v, ws, h1, h2, h3⟩, hx => by
    subst h1
    obtain ⟨r', h4, h5⟩ := Alls.one h3 hx
    exact ⟨r', h4, h5⟩
theorem Alls.snoc {r : VR} {vs : List V} {v : V} {H : Hp} (h : Alls rs vs H) (hv : r.R v H) : Alls (rs ++ [r]) (vs ++ [v]) H := Alls.append h ⟨_, [], rfl, hv, rfl⟩
/-- what holds of a value whatever a list holds -/
def Stab (r : VR) : Prop := ∀ (v : V) (H : Hp) (l : Addr) (xs ys : List V), r.R v H → H l = some (.lst xs) → r.R v (upd H l (.lst ys))
theorem Alls.stab : ∀ {rs : List VR} {vs : List V} {H : Hp} {l : Addr} {xs ys : List V}, (∀ r ∈ rs, Stab r) → Alls rs vs H → H l = some (.lst xs) → Alls rs vs (upd H l (.lst ys))
  | [], _, _, _, _, _, _, h, _ => h
  | r :: rs, _, _, _, _, _, hs, ⟨v, ws, h1, h2, h3⟩, hl => ⟨v, ws, h1, hs r List.mem_cons_self _ _ _ _ _ h2 hl, Alls.stab (fun x hx => hs x (List.mem_cons_of_mem _ hx)) h3 hl⟩
theorem stab_I {x : Int} : Stab (vI x) := fun _ _ _ _ _ h _ => h
theorem stab_P {ns : List Int} : Stab (vP K ns) := fun _ _ _ _ _ h hl => K0.vP_upd h hl
/-- [e for x in things], of a walk that gives the i-th of xs -/
theorem em_comp {wi : TI} {xs : List V} (hw : Wk wi σ H xs.length (YAt xs)) (hal : Alls rs xs H) (hlen : os.length = rs.length) (hz : rs.length ≤ 50000) (hv : ∀ x, wipe ((wipe σ vs).set j (some x)) vs = wipe σ vs)
    (hst : ∀ o ∈ os, Stab o) (he : ∀ (i : Nat) (r o : VR) (x : V) (H1 : Hp), rs[i]? = some r → os[i]? = some o → Ex H H1 → r.R x H1 → EvR te ((wipe σ vs).set j (some x)) H1 o) : EvM (tLc wi (gName j) tYes te vs) σ H os := fun H0 e Q q =>
  hw H0 e _ fun J H1 G e1 w hG Dd hD => by
    have hxl := hal.len
    refine lc_it w (fun i H' => H1 Dd = none ∧ Ex H1 H' ∧ ∃ acc, H' Dd = some (.lst acc) ∧ Alls (os.take i) acc H') ⟨hD, Ex.new hD, [], upd_same, rfl⟩ (fun i H' _ p => hG H' p.2.1) (fun i x Ha Hb hi p y => ?_) (fun H' p => ?_)
    · obtain ⟨p1, p2, acc, p3, p4⟩ := p
      obtain ⟨rfl, hx⟩ := y
      refine ⟨hv x, ?_⟩
      unfold tYes
      dsimp only
      rw [if_pos rfl]
      obtain ⟨r, hr, hrx⟩ := Alls.one hal hx
      have hio : i < os.length := by omega
      have ho : os[i]? = some os[i] := List.getElem?_eq_getElem hio
      have eH : Ex H Hb := (e.trans e1).trans p2
      refine he i r _ x Hb hr ho eH (r.st eH hrx) Hb (Ex.refl Hb) _ fun v H4 e4 hv4 => ?_
      refine ⟨acc, e4 _ _ p3, sz_lt (by have := p4.len; rw [List.length_take] at this; omega), p1, Ex.mut (p2.trans e4) p1, acc ++ [v], upd_same, ?_⟩
      rw [List.take_add_one, ho]
      refine Alls.stab (fun o ho' => hst o ?_) ((p4.mono e4).snoc hv4) (e4 _ _ p3)
      rcases List.mem_append.mp ho' with h | h
      · exact List.mem_of_mem_take h
      · obtain rfl := List.mem_singleton.mp h
        exact List.getElem_mem hio
    · obtain ⟨p1, p2, acc, p3, p4⟩ := p
      rw [hxl, ← hlen, List.take_length] at p4
      exact q Dd acc H' (fresh_back e1 p1) (e1.trans p2) p3 p4
end
end Kt
namespace Kt
open PySem PySem.Spec PyProof.Rows L2
/-! ### try with several clauses, some of which name the exception -/
/-- one clause: its class, and what its suite does; with a name: the slot -/
structure Cl where
  c : Value
  at_ : Option Nat
  ts : Addr → Value → Option Addr → TS
/-- how the ends of a clause's suite are read: a name is gone behind it -/
def Cl.ends (q : Cl) (D : Ends) : Ends := match q.at_ with
  | none => D
  | some i => { nx := fun σ H => D.nx (σ.set i none) H, rt := D.rt, bk := fun σ H => D.bk (σ.set i none) H, ct := fun σ H => D.ct (σ.set i none) H }
def Cl.start (q : Cl) (a : Addr) (σ : L2.St) : L2.St := match q.at_ with
  | none => σ
  | some i => σ.set i (some (.ref a))
def wCl (K : PySem.W.Frag) (Wout : WX) (D : Ends) : List Cl → WX
  | [] => Wout
  | q :: r => fun cls d σ H => ∃ b, PySem.W.exmOne K cls q.c = some b ∧ (b = true → ∀ a, H a = none → q.ts a cls d (q.ends D) (q.start a σ) H) ∧ (b = false → wCl K Wout D r cls d σ H)
section
variable (X : Cx)
/-- a suite that is run while the exception at a is held -/
def SuOk (ts : Addr → Value → Option Addr → TS) (su : List Stmt) : Prop := ∀ (a : Addr) (o : Obj) (cls : Value) (d : Option Addr) (pn : List (Addr × Obj)), Zc cls d o → (∃ vs, o.data = .fields vs) → PSs (X.suite a ((a, o) :: pn)) su (ts a cls d)
inductive ClsOk : List ExceptHandler → List Cl → Prop
  | nil : ClsOk [] []
  | plain {x : Str} {c : Value} {ts : Addr → Value → Option Addr → TS} {s0 : Stmt} {su : List Stmt} {np hp : Pos} {hs : List ExceptHandler} {qs : List Cl} : Names X x c → SuOk X ts (s0 :: su) → ClsOk hs qs →
      ClsOk (.ExceptHandler (some (.Name x np)) none (s0 :: su) hp :: hs) (⟨c, none, ts⟩ :: qs)
  | named {x n : Str} {i : Nat} {c : Value} {ts : Addr → Value → Option Addr → TS} {s0 : Stmt} {su : List Stmt} {np hp : Pos} {hs : List ExceptHandler} {qs : List Cl} : X.N.Nodup → X.N[i]? = some n → X.env.kindOf n = some .local → Names X x c → SuOk X ts (s0 :: su) → ClsOk hs qs →
      ClsOk (.ExceptHandler (some (.Name x np)) (some n) (s0 :: su) hp :: hs) (⟨c, some i, ts⟩ :: qs)
end
/-- the exception at a has come to our clauses -/
structure Here (X : Cx) (pins : List (Addr × Obj)) (σ : L2.St) (H : Hp) (a : Addr) (cls : Value) (d : Option Addr) (B : Heap) (sI t : Shared) : Prop where
  i0 : L2.Inv X pins σ H sI
  keep : ∀ (b : Addr) (o : Obj), sI.heap.get? b = some o → ¬ b ∈ frs X.stack → B.get? b = some o
  fly : PySem.HandSPX.FlyingZ B (X.env :: X.outer) a (Zc cls d) t.heap
  up : sI.heap.UpToSlots t.heap
  os : t.os = sI.os
  bare : AllBare t.gens
  na : H a = none
section
variable {X : Cx} {pins : List (Addr × Obj)} {σ : L2.St} {H : Hp} {a : Addr} {cls : Value} {d : Option Addr} {B : Heap} {sI t : Shared}
theorem Here.inv (h : Here X pins σ H a cls d B sI t) : L2.Inv X pins σ H t := h.i0.landed h.keep h.fly.1 h.up h.os h.bare
theorem Here.far (h : Here X pins σ H a cls d B sI t) : a ∉ frs (X.env :: X.outer) := fun hm => by
  obtain ⟨o, vs, ho, _, hd⟩ := h.fly.there
  obtain ⟨_, o2, e2, hn⟩ := h.fly.2.2.1.mem hm
  rw [ho] at e2
  obtain rfl := Option.some.inj e2
  exact hn _ hd
theorem Here.notL (h : Here X pins σ H a cls d B sI t) (hf : X.env.frame = some X.env.locals) : a ≠ X.env.locals := fun z =>
  h.far (List.mem_filterMap.mpr ⟨X.env, List.mem_cons_self, by rw [hf, z]⟩)
theorem Here.notF (h : Here X pins σ H a cls d B sI t) : a ∉ X.fs := fun hm => by
  obtain ⟨v, hv, q⟩ := List.mem_filterMap.mp hm
  exact h.far (List.mem_filterMap.mpr ⟨v, List.mem_cons_of_mem _ hv, q⟩)
/-- the heap may change in slots alone -/
theorem Here.again (h : Here X pins σ H a cls d B sI t) {g : Heap} (f : PySem.HandSPX.FlyingZ B (X.env :: X.outer) a (Zc cls d) g) (u : t.heap.UpToSlots g) : Here X pins σ H a cls d B sI { t with heap := g } :=
  ⟨h.i0, h.keep, f, h.up.trans u, h.os, h.bare, h.na⟩
/-- no clause is left -/
theorem Here.leave (h : Here X pins σ H a cls d B sI t) {Wout : WX} {D : Ends} (hs : X.stack = X.env :: X.outer) (hf : X.env.frame = some X.env.locals) (tk : Takes X Wout) (w : Wout cls d σ H) :
    wpAny (model X.prog X.w) X.A (handleBy (.ref a) X.env []) (SP X pins D) X.xe t := by
  refine wpAny_handleBy_nil ?_
  have f := h.fly
  obtain ⟨_, _, _, oe, vs, T, oT, ts', he, hz, hd, h1, hr⟩ := id f
  unfold PySem.passOn
  refine wpAny_bind (wpAny_field he hd h1 ?_)
  have nn : ¬ ((Value.ref T == Value.none) = true) := by simp
  rw [if_neg nn]
  have last : wpAny (model X.prog X.w) X.A (setFlight (.ref a) X.env.frame) (fun _ s2 => wpAny (model X.prog X.w) X.A (throw (.ref a) : Sem Flow) (SP X pins D) X.xe s2) X.xe t := by
    rw [hf]
    refine PySem.HandSPX.setFlight_upZ f fun g hg ug => wpAny_throw (tk _ _ ⟨a, B, sI, pins, σ, H, cls, d, rfl, h.i0, h.keep, h.up.trans ug, .inr (.inr ?_), h.na, h.os, h.bare, w⟩)
    rw [hs]
    exact hg
  first
    | exact wpAny_bind (wpAny_pure (wpAny_bind last))
    | exact wpAny_bind last
/-- a clause is looked at -/
theorem Here.test (h : Here X pins σ H a cls d B sI t) (hf : X.env.frame = some X.env.locals) {x : Str} {c : Value} (hc : Names X x c) {b : Bool} (hb : PySem.W.exmOne X.K cls c = some b) {np : Pos} {Q : Bool → Shared → Prop} {E1 E2 : Value → Shared → Prop} (q : Q b t) :
    wpAny (model X.prog X.w) (X.A.mark (some (.ref a))) (eval (.Name x np) X.env) (fun v s2 => wpAny (model X.prog X.w) (X.A.mark (some (.ref a))) (excMatches (.ref a) v) Q E1 s2) E2 t := by
  obtain ⟨o, vs, ho, hz, hd⟩ := h.fly.there
  have S := h.inv.suite ho hd h.na (h.notL hf) h.notF
  have lt : PySem.W.Looks (model X.prog X.w) t.heap (typeOf (.ref a)) cls := fun A Q E s k q => wpAny_typeOf_ref (k _ _ ho) (by rw [hz.1]; exact q)
  have lm := PySem.W.exm_one (M := model X.prog X.w) h.inv.kIn lt hb
  have fin : wpAny (model X.prog X.w) (X.A.mark (some (.ref a))) (excMatches (.ref a) c) Q E1 t := lm.here q
  obtain ⟨hg, hdb, hm | ⟨hm, hv, hn⟩⟩ := hc
  · exact ld_glob (X := X.suite a ((a, o) :: (X.pn ++ pins))) S hg hm fin hdb
  · exact ld_blt (X := X.suite a ((a, o) :: (X.pn ++ pins))) S hg hm hv fin hn hdb
theorem Here.clauses {Wout : WX} {D : Ends} (hs : X.stack = X.env :: X.outer) (hf : X.env.frame = some X.env.locals) (ok : X.Ok) (tk : Takes X Wout) :
    ∀ {hds : List ExceptHandler} {qs : List Cl}, ClsOk X hds qs → Here X pins σ H a cls d B sI t → wCl X.K Wout D qs cls d σ H → wpAny (model X.prog X.w) X.A (handleBy (.ref a) X.env hds) (SP X pins D) X.xe t := by
  intro hds qs hk h
  have ne : (Value.ref a) ≠ byPass := by intro q; cases q
  induction hk with
  | nil => exact fun w => h.leave hs hf tk w
  | @plain x c ts s0 su np hp hs2 qs2 hc hsu r ih =>
    rintro ⟨b, hb, hy, hn⟩
    refine wpAny_handleBy_cons (codeAny_handlers_test (h.test hf hc hb ?_)) ne
    cases b with
    | false => exact ih (hn rfl)
    | true =>
      refine codeAny_handlers_suite (PySem.HandSPX.lands_againZ h.fly fun g fg ug => ?_)
      have h2 := h.again fg ug
      obtain ⟨o, vs, ho, hz, hd⟩ := h2.fly.there
      have S := h2.inv.suite ho hd h2.na (h2.notL hf) h2.notF
      refine wpAny_mono ((hsu a o cls d (X.pn ++ pins) hz ⟨_, hd⟩).run [] _ _ H _ S (hy rfl a h.na)) (fun f s6 z => ?_) (fun _ _ z => False.elim z)
      cases f with
      | next => exact let ⟨_, _, S6, q6⟩ := z; ⟨_, _, S6.unsuite ok, q6⟩
      | brk => exact let ⟨_, _, S6, q6⟩ := z; ⟨_, _, S6.unsuite ok, q6⟩
      | cont => exact let ⟨_, _, S6, q6⟩ := z; ⟨_, _, S6.unsuite ok, q6⟩
      | ret u => exact let ⟨_, _, _, S6, r6, q6⟩ := z; ⟨_, _, _, S6.unsuite ok, r6, q6⟩
  | @named x n i c ts s0 su np hp hs2 qs2 hN hi hl hc hsu r ih =>
    rintro ⟨b, hb, hy, hn⟩
    refine wpAny_handleBy_cons (codeAny_handlers_test (h.test hf hc hb ?_)) ne
    cases b with
    | false => exact ih (hn rfl)
    | true =>
      refine codeAny_handlers_suite_as (PySem.HandSPX.lands_againZ h.fly fun g fg ug => ?_)
      have h2 := h.again fg ug
      obtain ⟨o, vs, ho, hz, hd⟩ := h2.fly.there
      have S := h2.inv.suite ho hd h2.na (h2.notL hf) h2.notF
      refine store_ok (X := X.suite a ((a, o) :: (X.pn ++ pins))) (v := .ref a) S hN hi (.inl hl) rfl (fun s5 S5 => ?_) (.inr hl)
      refine wpAny_mono ((hsu a o cls d (X.pn ++ pins) hz ⟨_, hd⟩).run [] s5 _ H _ S5 (hy rfl a h.na)) (fun f s6 z => ?_) (fun _ _ z => False.elim z)
      cases f with
      | next => exact let ⟨_, _, S6, q6⟩ := z; gone_ok (S6.unsuite ok) hN hi hl fun s7 J7 => ⟨_, _, J7, q6⟩
      | brk => exact let ⟨_, _, S6, q6⟩ := z; gone_ok (S6.unsuite ok) hN hi hl fun s7 J7 => ⟨_, _, J7, q6⟩
      | cont => exact let ⟨_, _, S6, q6⟩ := z; gone_ok (S6.unsuite ok) hN hi hl fun s7 J7 => ⟨_, _, J7, q6⟩
      | ret u => exact let ⟨_, _, _, S6, r6, q6⟩ := z; gone_ok (S6.unsuite ok) hN hi hl fun s7 J7 => ⟨_, _, _, J7, r6, q6⟩
end
section
variable {X : Cx} {body : List Stmt} {h0 : ExceptHandler} {hds : List ExceptHandler} {qs : List Cl} {pos : Pos} {tb : WX → TS} {Wout : WX}
/-- try: body / except A: .. / except B as e: .. -/
theorem ps_try_cl (hs : X.stack = X.env :: X.outer) (hf : X.env.frame = some X.env.locals) (tk : Takes X Wout)
    (hb : ∀ (W : WX) (pn : List (Addr × Obj)) (xe : Value → Shared → Prop), Takes (X.tr pn xe) W → PassesOwn (model X.prog X.w) X.A X.env xe → PSs (X.tr pn xe) body (tb W))
    (hk : ClsOk X (h0 :: hds) qs) : PS X (.Try body (h0 :: hds) [] [] pos) (fun D σ H => tb (wCl X.K Wout D qs) D σ H) := by
  refine ⟨fun pins s σ H D I h => wpAny_Try_except ?_⟩
  have ok := I.ok
  have hfr : X.A.frames = some (X.env :: X.outer) := by rw [ok.frames, hs]
  refine wpAny_mono ((hb (wCl X.K Wout D qs) (X.pn ++ pins) (fun v s1 => wpAny (model X.prog X.w) X.A (noteFrame v X.env) (fun _ s2 => wpAny (model X.prog X.w) X.A (setFlight v none) (fun _ s3 =>
    wpAny (model X.prog X.w) X.A (handleBy v X.env (h0 :: hds)) (SP X pins D) X.xe s3) X.xe s2) X.xe s1) (fun v s1 z => ?_) PassesOwn.looking).run [] s σ H D (I.toTry _) h) (fun f s1 z => ?_) (fun v s1 z => z)
  · obtain ⟨a, B, sI, pins2, σ2, H2, cls, d, rfl, J, nb, up, sky, na, os, ag, w⟩ := z
    rw [show (X.tr (X.pn ++ pins) (fun v s1 => wpAny (model X.prog X.w) X.A (noteFrame v X.env) (fun _ s2 => wpAny (model X.prog X.w) X.A (setFlight v none) (fun _ s3 => wpAny (model X.prog X.w) X.A (handleBy v X.env (h0 :: hds)) (SP X pins D) X.xe s3) X.xe s2) X.xe s1)).stack = X.env :: X.outer from hs] at sky
    refine Sky.land Zc.steady hfr hf sky fun g fg ug => ?_
    exact Here.clauses hs hf ok tk hk ⟨J.ofTry ok, nb, fg, up.trans ug, os, ag, na⟩ w
  · cases f with
    | next => exact let ⟨_, _, J, q⟩ := z; wpAny_execs_nil ⟨_, _, J.ofTry ok, q⟩
    | brk => exact let ⟨_, _, J, q⟩ := z; ⟨_, _, J.ofTry ok, q⟩
    | cont => exact let ⟨_, _, J, q⟩ := z; ⟨_, _, J.ofTry ok, q⟩
    | ret u => exact let ⟨_, _, _, J, r, q⟩ := z; ⟨_, _, _, J.ofTry ok, r, q⟩
end
end Kt
namespace PySem
namespace KtX
open PySem.W PySem.Calls PyProof.Rows PySem.HandSPX
open Builtin Builtin.ObjectAttr
/-! ### own exception classes over any built-in one -/
/-- own classes, then the tail t -/
def over (t : List Value) : List Value → Bool
  | .ref c :: r => over t r
  | l => l == t
theorem over_is {t : List Value} : ∀ {l : List Value}, over t l = true → (∃ c r, l = .ref c :: r ∧ over t r = true) ∨ l = t := fun {l} e => by
  unfold over at e
  split at e
  · exact .inl ⟨_, _, rfl, e⟩
  · exact .inr (beq_iff_eq.mp e)
theorem over_pass {t : List Value} (self : Value) (ht : refuseLoop self "__setattr__" t = pure ()) : ∀ {l : List Value}, over t l = true → refuseLoop self "__setattr__" l = pure ()
  | [], e => by
    rcases over_is e with ⟨c, r, z, _⟩ | z
    · cases z
    · rw [z]
      exact ht
  | a :: m, e => by
    rcases over_is e with ⟨c, r, z, h⟩ | z
    · obtain ⟨rfl, rfl⟩ := List.cons.inj z
      rw [refuseLoop_ref]
      exact over_pass self ht h
    · rw [z]
      exact ht
theorem over_has {t : List Value} (T : String) : ∀ {l : List Value}, over t l = true → l.contains (.type T) = t.contains (.type T)
  | [], e => by
    rcases over_is e with ⟨c, r, z, _⟩ | z
    · cases z
    · rw [z]
  | a :: m, e => by
    rcases over_is e with ⟨c, r, z, h⟩ | z
    · obtain ⟨rfl, rfl⟩ := List.cons.inj z
      rw [List.contains_cons, over_has T h]
      rfl
    · rw [z]
section
variable {prog : Program} {w : World} {A : Around} {E : Value → Shared → Prop} {R : Result → Shared → Prop} {hp : Heap} {g : Array GenState} {dr : Drawn} {tk0 : Nat} {os : OsState}
/-- the first field of such an exception -/
theorem put_first {K : W.Frag} {B : String} {bmB : List Value} (SB : StoreFacts B bmB "object.__setattr__" "object") {name : Str} {tk : Tok} {v : Value} {x C : Addr} {fv : Array Value} {cd : ClassData}
    (X : K.In hp) (hx : hp.get? x = some { cls := .ref C, data := .fields fv }) (hcd : W.clsIn K C = some cd) (ov : over bmB cd.mro = true) (nt : bmB ≠ []) (hh : cd.hasDict = true) (ha : W.findIn K (.ref C) name = some none)
    (fin : ∀ h2 tk2 dx, (∀ b o, b ≠ x → hp.get? b = some o → h2.get? b = some o) → hp.objs.size ≤ dx → dx ≠ x → h2.get? x = some { cls := .ref C, dict := some dx, data := .fields fv } →
      h2.Ns1 dx (fun y => if y = name then some v else none) → R (.ok (.ret .none)) ⟨h2, g, dr, tk2, os⟩) :
    codeAny (model prog w) A (.call (.builtin "object.__setattr__") ⟨[.ref x, .str name tk, v], []⟩) R ⟨hp, g, dr, tk0, os⟩ := by
  have J : W.InstAt hp x { cls := .ref C, data := .fields fv } C none := ⟨hx, rfl, rfl, trivial⟩
  have SO := F.store_object
  have mne : cd.mro.isEmpty = false := by
    cases hm : cd.mro with
    | cons _ _ => rfl
    | nil =>
      rw [hm] at ov
      rcases over_is ov with ⟨_, _, z, _⟩ | z
      · cases z
      · exact absurd z.symm nt
  have obj : cd.mro.contains (.type "object") = true := (over_has "object" ov).trans SB.hasOwner
  have far : x ≠ hp.objs.size := Nat.ne_of_lt (Heap.lt_size hx)
  have isO : W.Looks (model prog w) hp (isInstance (.ref x) (.type "object")) true := J.type.andThen (W.looks_mroIn X (by unfold W.mroIn; rw [hcd, Option.bind_some, if_neg (by rw [mne]; decide), obj]))
  refine codeAny_call_builtin SO.slot.plain SO.entry (@W.check_slot (model prog w) _ _ ⟨hp, g, dr, tk0, os⟩ "object.__setattr__" "object" "__setattr__" (.ref x) [.str name tk, v] [] _ SO.kind SO.split isO (SO.args (.ref x) (.str name tk) v) ?_)
  have m1 : W.Looks (model prog w) hp (mroOf (.ref C)) cd.mro := (W.looks_clsIn X hcd).andThen .now
  have m2 : W.Looks (model prog w) hp (storeTaker? none) none := .now
  have m3 : W.Looks (model prog w) hp (classData C) cd := W.looks_clsIn X hcd
  rw [W.osa_eq, refuse_eq]
  refine wpAny_bind (wpAny_bind (J.type.at (wpAny_bind (m1.at ?_))))
  rw [over_pass _ (SB.passes _) ov]
  refine wpAny_pure (wpAny_bind (J.type.at (wpAny_bind ((W.looks_findIn X ha).at (wpAny_bind (m2.at ?_))))))
  show wpAny _ _ (storeInOwnDict (.ref x) (.ref C) (.str name tk) name v false) _ _ _
  obtain ⟨nm, bs, mro, ns, qn, hd, sn, sb, ab, col, del⟩ := cd
  dsimp only at hh
  subst hh
  unfold storeInOwnDict ownDictForStores
  repeat (first | with_reducible refine store_in_new ?_ ?_ | with_reducible refine wpAny_loadPart_at hx ?_ | with_reducible refine m3.at ?_ | wp_step)
  · exact ⟨_, #[], _, (Heap.get?_update_ne _ _ _ _ far.symm).trans (Heap.get?_push_at rfl rfl), rfl, fun e he => absurd he (by simp), fun _ => rfl⟩
  · intro h2 tk2 hn hs
    have hx1 : (hp.push { cls := .type "dict", data := .dict #[] }).get? x = some { cls := .ref C, data := .fields fv } := Heap.get?_push_of_some _ hx
    refine fin h2 tk2 hp.objs.size (fun b o hb ho => ?_) (Nat.le_refl _) far.symm ?_ hn
    · have nb : b ≠ hp.objs.size := Nat.ne_of_lt (Heap.lt_size ho)
      rw [hs.2 b nb]
      exact (Heap.get?_update_ne _ _ _ _ hb).trans (Heap.get?_push_of_some _ ho)
    · rw [hs.2 x far]
      exact Heap.get?_update_self _ hx1 rfl
end
end KtX
end PySem
namespace Kt
open PySem PySem.Spec PyProof.Rows L2
/-- what the written part says of an own exception class over the built-in one B -/
structure ExG (K : PySem.W.Frag) (C : Addr) (B newId initId : String) (bmB : List Value) : Prop where
  fb : ExcBaseFacts B newId initId bmB
  sb : StoreFacts B bmB "object.__setattr__" "object"
  cls : ∃ nm q N bs bm sn sub ab col dd k0 k1 k2 k3 k5, K.lookup C = some (excClassObj nm q C N bs bm true sn sub ab col dd k0 k1 k2 k3 k5 newId) ∧ PySem.KtX.over bmB bm = true
  sa : PySem.W.findIn K (.ref C) "__setattr__" = some (some (.builtin "object.__setattr__"))
  ex : PySem.W.subIn K (.ref C) (.type "BaseException") = some true
  ty : PySem.W.typeIn K (.ref C) = some (.type "type")
  kp : PySem.W.keepIn K (.ref C) = true
section
variable {X : Cx} {pins : List (Addr × Obj)} {σ : L2.St} {H : Hp} {s : Shared} {a C : Addr} {f : Str} {y : V} {u : Value} {A : Around} {B newId initId : String} {bmB : List Value}
/-- self.f = y, the first field of a new exception -/
theorem put_new {Q : Unit → Shared → Prop} {E : Value → Shared → Prop} (T : ExG X.K C B newId initId bmB) (I : L2.Inv X pins σ H s) (e : H a = some (exo a C none)) (hno : PySem.W.findIn X.K (.ref C) f = some none) (ry : L2.RelV y u)
    (fin : ∀ dx s2, H dx = none → dx ≠ a → L2.Inv X pins σ (upd (upd H dx (exd dx [(f, y)])) a (exo a C (some dx))) s2 → Q () s2) : wpAny (model X.prog X.w) A (setAttr (.ref a) f u) Q E s := by
  obtain ⟨nm, q, N, bs, bm, sn, sub, ab, col, dd, k0, k1, k2, k3, k5, lk, ov⟩ := T.cls
  have hcl : PySem.W.clsIn X.K C = some { name := nm, bases := bs, mro := .ref C :: bm, ns := N, qualname := q, hasDict := true, slotNames := sn, subclasses := sub, abstract := ab, collection := col, hasDel := false } := by
    unfold PySem.W.clsIn
    rw [lk]
  have tne : bmB ≠ [] := fun z => by
    have := T.fb.hasB
    rw [z] at this
    cases this
  obtain ⟨t1, ho⟩ := exo_at I.hok e
  obtain ⟨hp, g, dr, tk0, os⟩ := s
  refine PySem.W.set_plain I.kIn (ox := { cls := .ref C, dict := none, data := .fields #[.ref t1, .none, .none, .none, .bool false, .none] }) (od := none) ⟨ho, rfl, rfl, trivial⟩ T.sa ?_
  refine PySem.KtX.put_first T.sb I.kIn ho hcl (show PySem.KtX.over bmB (.ref C :: bm) = true from ov) tne rfl hno fun h2 tk2 dx kp dn dne hx hn => ?_
  have fre : H dx = none := I.hok.fresh dn
  have old : ∀ {b : Addr} {o : Obj}, hp.get? b = some o → b ≠ dx := fun z => Nat.ne_of_lt (Nat.lt_of_lt_of_le (Heap.lt_size z) dn)
  have nota : ∀ {b : Addr}, H b = none → b ≠ a := fun n z => by
    rw [z, e] at n
    cases n
  have U : Un X.fs [] H (upd (upd H dx (exd dx [(f, y)])) a (exo a C (some dx))) hp h2 := {
    keep := fun b o z n _ _ => kp b o (nota n) z
    slot := fun b o z n _ _ => ⟨o.slots, kp b o (nota n) z⟩
    free := fun b o z n _ => by
      rw [upd_ne (nota n), upd_ne (old z)]
      exact n
    there := fun b o z _ => by
      by_cases hb : b = a
      · rw [hb]
        exact ⟨_, hx⟩
      · exact ⟨o, kp b o hb z⟩
    tups := fun b xs z => by
      rw [upd_ne (at_ne e z exo_tup), upd_ne (ne_of_none z fre)]
      exact z
    frzs := fun b o v z => by
      rw [upd_ne (at_ne e z exo_frz), upd_ne (ne_of_none z fre)]
      exact z
    tbls := fun b ps z => ⟨#[], by
      rw [upd_ne (at_ne e z exo_tbl), upd_ne (ne_of_none z fre), z]
      simp⟩ }
  refine fin dx _ fre dne (I.un (t' := tk2) U fun b o z => ?_)
  by_cases hb : b = a
  · rw [hb, upd_same] at z
    obtain rfl := Option.some.inj z
    rw [hb]
    exact exo_ok hx
  rw [upd_ne hb] at z
  by_cases hd : b = dx
  · rw [hd, upd_same] at z
    obtain rfl := Option.some.inj z
    rw [hd]
    exact exd_ok hn (relO_put (fs := []) ry fun _ => True.intro)
  rw [upd_ne hd] at z
  refine (I.hok b o z).stay (fun c v hc w => kp c v ?_ w) (fun c hc => ?_) (fun c xs hc => ?_)
  · rcases hc with hc | hc
    · rw [hc]
      exact hb
    · exact at_ne e hc exo_own
  · rw [upd_ne (at_ne e hc exo_own), upd_ne (ne_of_none hc fre)]
    exact hc
  · rw [upd_ne (at_ne e hc exo_tup), upd_ne (ne_of_none hc fre)]
    exact hc
end
/-- the reading of self.f = e in such an __init__ -/
def tPut (K : PySem.W.Frag) (B newId initId : String) (bmB : List Value) (f : Str) (to te : TE) : TS := fun D σ H => te σ H fun y H1 => to σ H1 fun x H2 => ∃ a C : Addr, x = .ref a ∧ ExG K C B newId initId bmB ∧ PySem.W.findIn K (.ref C) f = some none ∧ H2 a = some (exo a C none) ∧
  ∀ dx, H2 dx = none → dx ≠ a → D.nx σ (upd (upd H2 dx (exd dx [(f, y)])) a (exo a C (some dx)))
section
variable {X : Cx} {o e : Expr} {es : List Expr} {to te : TE} {ta : TA} {f : Str} {p p' pos : Pos} {B newId initId : String} {bmB : List Value}
theorem ps_put (ho : PE X o to) (he : PE X e te) (hs : swapsWith e (some (.Attribute o f p')) pos.line X.env = pure false := by rfl) : PS X (.Assign [.Attribute o f p'] e pos) (tPut X.K B newId initId bmB f to te) := by
  refine ⟨fun pins s σ H D I h => plainObj_wpAny_Assign_Attribute ?_ hs⟩
  refine thn (he.run pins s σ H _ I h) fun v s1 ⟨y, H1, I1, r1, q1⟩ => thn (ho.run pins s1 σ H1 _ I1 q1) fun u s2 ⟨x, H2, I2, r2, a, C, ex, T, hno, ea, q⟩ => ?_
  obtain rfl : x = .ref a := ex
  obtain rfl : u = Value.ref a := r2
  exact put_new T I2 ea hno r1 fun dx s3 n ne J => ⟨σ, _, J, q dx n ne⟩
/-- C(e, ..) behind raise: C's own __init__ keeps sp -/
theorem pmk_g {CX : CXT} {x : Str} {C fI : Addr} {k : Nat} {fd : FuncData} {ps : List Str} {sp : Sp} {ds : List Value} {dvs : List V} (T : ExG X.K C B newId initId bmB) (iC : PySem.W.findIn X.K (.ref C) "__init__" = some (some (.ref fI)))
    (tI : PySem.W.typeIn X.K (.ref fI) = some (.type "function")) (F1 : FnOk X.prog X.w X.K X.mg X.base CX k fI fd ps sp) (hr : Room (k + 1) X.A) (hb : Binds X.K fd ps ds) (hd : Vals dvs ds) (hx : Passes CX X (fun _ _ _ => False)) (hg : Gl X x) (hm : X.mg x = some (.ref C))
    (ha : PA X (e :: es) ta) (hdb : (x == ("__debug__" : Str)) = false := by decide) (he : starEach (e :: es) X.env = (false, eval e X.env) :: starEach es X.env := by rfl) (hpl : (backTo pos (starEach es X.env)).any (·.1) = false := by rfl) :
    PMk X (.Call (.Name x p) (e :: es) [] pos) (tMkO C sp dvs ta) := by
  intro pins s σ H Q I h
  obtain ⟨nm, q, N, bs, bm, sn, sub, ab, col, dd, k0, k1, k2, k3, k5, lk, ov⟩ := T.cls
  refine wpAny_Call_Name_kw (ld_glob I hg hm ?_ hdb)
  refine PySem.W.callWith_K (h₀ := X.base) I.ok.mod.kin T.kp (thn (ha.run pos pins s σ H _ I h) fun us s1 ⟨vs, H1, I1, r1, hz, q1⟩ => ⟨I1.kIn, ?_⟩) he hpl
  show wpAny _ _ (call (.ref C) us) _ _ _
  obtain ⟨hp, g, dr, tk, os⟩ := s1
  have far : hp.objs.size ≤ hp.objs.size + 1 := Nat.le_succ _
  have q2 := q1 (hp.objs.size + 1) (I1.hok.fresh far)
  have kk : ∀ b o, hp.get? b = some o → ((hp.push (PySem.W.kdv_tup us)).push (PySem.HandSPX.excO C hp.objs.size)).get? b = some o := fun b o z => Heap.get?_push_of_some _ (Heap.get?_push_of_some _ z)
  have it : ((hp.push (PySem.W.kdv_tup us)).push (PySem.HandSPX.excO C hp.objs.size)).get? (hp.objs.size + 1) = some (PySem.HandSPX.excO C hp.objs.size) := by heap_get
  have I2 := I1.laid (t' := tk) (a := hp.objs.size + 1) (o := exo (hp.objs.size + 1) C none) (h' := (hp.push (PySem.W.kdv_tup us)).push (PySem.HandSPX.excO C hp.objs.size)) kk far (exo_ok it)
  have r2 : Vals (V.ref (hp.objs.size + 1) :: (vs ++ dvs)) (Value.ref (hp.objs.size + 1) :: (us ++ ds)) := .cons rfl (r1.append hd)
  have hl : (Value.ref (hp.objs.size + 1) :: us ++ ds).length = ps.length := by
    have z := r2.length
    rw [F1.len _ _ _ _ q2] at z
    exact z.symm
  have few : us.length ≤ sizeLine := by
    rw [← Paired.length r1, sizeLine_eq]
    omega
  refine wpAny_call (PySem.HandSPX.call_own T.fb (fun Y => PySem.KtX.over_has Y ov) (I1.kIn _ _ lk) (PySem.W.looks_findIn I1.kIn iC) (fun self => PySem.W.bind_fn I1.kIn self tI) few ?_)
  refine codeAny_mono (F1.run _ X.stack _ _ ⟨Value.ref (hp.objs.size + 1) :: us, []⟩ (Value.ref (hp.objs.size + 1) :: (us ++ ds)) _ _ (fun _ _ _ => False) (hr.make C us []) (I2.env0.make C us []) (hb _ (Value.ref (hp.objs.size + 1) :: us) I2.kIn hl) r2 q2) fun r s2 z => ?_
  cases r with
  | error v => exact hx pins σ _ _ v s2 I2 z
  | ok fl =>
    cases fl with
    | ret u =>
      obtain ⟨v, H2, o2, b2, u2, k2, rv, ev, d, fs, ea, ed, hd1, q3⟩ := z
      subst ev
      obtain ⟨h2, g2, d2, t2, os2⟩ := s2
      exact ⟨rv, mk_end (raises_own T.ex T.ty) I1 far kk u2 k2 o2 b2 ea ed hd1 q3⟩
    | next => exact False.elim z
    | brk => exact False.elim z
    | cont => exact False.elim z
end
end Kt
namespace Kt
open PySem PySem.Spec PyProof.Rows L2
open Evl (Ex Ev EvL EvU EvT EvA EvO ex_l ex_t sq_of st_of sz_of sz_lt fresh_back given)
/-- what is shown for the moment may stand below: a run is judged for each such state alone -/
theorem guards_any {M : Model} {A : Around} {c : Code} {R : Result → Shared → Prop} {s : Shared} (h : ∀ g, codeAny M { A with guards := some g } c R s) : codeAny M A c R s := fun Γ p hc hΓ =>
  h (guardsOf Γ.below) Γ p hc ⟨hΓ.1, hΓ.2.1, hΓ.2.2.1, fun g hg => Option.some.inj hg, hΓ.2.2.2.2⟩
/-- texts of scalars -/
def scText : V → Str
  | .non => "None"
  | .bl b => if b then "True" else "False"
  | .int i => toString i
  | .str x => reprText x
  | _ => ""
def ScOk : V → Prop
  | .non => True
  | .bl _ => True
  | .int i => i.natAbs.log2 < 1920
  | .str x => (reprText x).length ≤ sizeLine
  | _ => False
def under (g : List Code) (a : Addr) : Bool := g.any fun c => tupGuardF (.ref a) (c, default)
/-- the text of a tuple of scalars at a: a few dots where it is being shown -/
def tupSay (g : List Code) (a : Addr) (xs : List V) : Str := if under g a then "(...)" else tupleText (xs.map scText)
/-- v's text, told of the state of what is being shown -/
inductive Say (g : List Code) (K : PySem.W.Frag) (H : Hp) : V → Str → Prop
  | sc {v : V} : ScOk v → Say g K H v (scText v)
  | tup {a : Addr} {xs : List V} : SqT K H a xs → (∀ x ∈ xs, ScOk x) → (tupleText (xs.map scText)).length ≤ sizeLine → Say g K H (.ref a) (tupSay g a xs)
  | nil {a : Addr} : SqL K H a [] → Say g K H (.ref a) "[]"
theorem reprAll_sc {prog : Program} {w : World} : ∀ {xs : List V} {us : List Value}, Vals xs us → (∀ x ∈ xs, ScOk x) → ReprAll prog w us (xs.map scText)
  | _, _, .nil, _ => .nil
  | x :: xs, _, .cons r t, h => by
    refine .cons ?_ (reprAll_sc t fun y hy => h y (.tail _ hy))
    have hx := h x (.head _)
    cases x with
    | non => cases r; exact .none
    | bl b => cases r; exact .bool b
    | int i => obtain ⟨t, rfl⟩ := r; exact .int t hx
    | str y => obtain ⟨t, rfl⟩ := r; exact .str y t hx
    | _ => exact hx.elim
section
variable {prog : Program} {w : World} {A : Around} {E : Value → Shared → Prop} {s : Shared} {a : Addr} {o : Obj} {items : Array Value} {n : Nat} {ts : List Str} {g : List Code}
theorem call_tuple_say {Q : Value → Shared → Prop} (hTy : s.TypeIs (.ref a) "tuple") (hg : A.guards = some g)
    (ha : s.heap.get? a = some o) (hd : o.data = .seq items n) (hT : ReprAll prog w items.toList ts)
    (hQ : ∀ u tk, Q (.str (if under g a then "(...)" else tupleText ts) u) { s with toks := tk }) (hsz : (tupleText ts).length ≤ sizeLine) :
    wpAny (model prog w) A (call (.builtin "tuple.__repr__") [.ref a]) Q E s := by
  cases hu : under g a with
  | false =>
    rw [hu] at hQ
    have z := List.any_eq_false.mp hu
    exact call_tuple_repr hTy hg (fun c hc => by have := z c hc; simpa using this) ha hd hT (fun u tk => hQ u tk) hsz
  | true =>
    rw [hu] at hQ
    refine wpAny_call (codeAny_call_builtin_own (Code.quiet_builtin _ (by decide +kernel)) F.entry_tuple_repr (F.slot_tuple_repr.check _ _ _ _ _ _ _ _ hTy (F.args_tuple_repr_1 _) ?_))
    show wpOwn _ _ _ (Builtin.tupleReprAt 0 ⟨[.ref a], []⟩) _ _ _
    rw [tuple_repr_tree, tupleReprUnderWay_eq]
    refine wpOwn_bind (wpOwn_stackTailAny hg (tupGuardF_off _) (tupGuardF_pos _) ?_)
    rw [show (g.any fun c => tupGuardF (.ref a) (c, default)) = true from hu]
    refine wpOwn_of_wpAny (wpAny_bind (wpAny_rule ?_))
    exact fun Γ p hΓ => hQ _ _
end
section
variable {X : Cx}
/-- repr(v) -/
theorem call_say {g : List Code} (hg : X.A.guards = some g) (hu : X.A.units + 64 < cLine) : CallR X (.builtin "repr") (fun vs H Q => ∃ v t, vs = [v] ∧ Say g X.K H v t ∧ Q (.str t) H) := by
  intro pins s σ H xs us Q I r h
  obtain ⟨v, t, rfl, hs, q⟩ := h
  obtain ⟨u, rfl, ru⟩ := vals1 r
  cases hs with
  | sc hv =>
    cases v with
    | non =>
      cases ru
      exact PySem.P.repr_of_none ⟨.str _, H, I.tok _, ⟨_, rfl⟩, q⟩
    | bl b =>
      cases ru
      exact PySem.P.repr_of_bool ⟨.str _, H, I.tok _, ⟨_, rfl⟩, q⟩
    | int i =>
      obtain ⟨t, rfl⟩ := ru
      exact PySem.P.repr_of_int hv ⟨.str _, H, I.tok _, ⟨_, rfl⟩, q⟩
    | str x =>
      obtain ⟨t, rfl⟩ := ru
      exact PySem.P.repr_of_str ⟨.str _, H, I.tok _, ⟨_, rfl⟩, q⟩ hv
    | _ => exact hv.elim
  | @tup a xs hq hx hz =>
    cases ru
    obtain ⟨its, rv, ⟨o, e, hc, n, hd⟩, _⟩ := I.tuple hq
    have hTy : s.TypeIs (.ref a) "tuple" := ⟨_, e, hc⟩
    refine call_repr_slot (by omega) hTy F.slot_tuple_repr (call_tuple_say hTy hg e hd (reprAll_sc rv hx) (fun u tk => ⟨_, _, rfl, .str _, H, I.tok _, ⟨_, rfl⟩, q⟩) hz)
  | @nil a hq =>
    cases ru
    obtain ⟨its, rv, ⟨o, n, e, hc, _, hd⟩, _⟩ := I.list hq
    cases rv
    have hTy : s.TypeIs (.ref a) "list" := ⟨_, e, hc⟩
    exact call_repr_slot (by omega) hTy F.slot_list_repr.toG (call_list_repr_empty hTy e hd ⟨_, _, rfl, .str _, H, I.tok _, ⟨_, rfl⟩, q⟩)
end
end Kt
namespace K0
open PySem PySem.Spec PyProof.Rows L2 Kt M LamX
open Evl (Ex Ev EvL EvU EvT EvA EvO ex_l ex_t sq_of st_of sz_of sz_lt fresh_back given)
/-! ## _law_met -/
/-- what the classes of the clauses are to one another -/
structure MetK (K : PySem.W.Frag) (CP CF CO CN : Addr) : Prop where
  pp : PySem.W.exmOne K (.ref CP) (.ref CP) = some true
  pf : PySem.W.exmOne K (.ref CP) (.ref CF) = some false
  ff : PySem.W.exmOne K (.ref CF) (.ref CF) = some true
  op : PySem.W.exmOne K (.ref CO) (.ref CP) = some false
  of : PySem.W.exmOne K (.ref CO) (.ref CF) = some false
  oo : PySem.W.exmOne K (.ref CO) (.ref CO) = some true
  np : PySem.W.exmOne K (.ref CN) (.ref CP) = some false
  nf : PySem.W.exmOne K (.ref CN) (.ref CF) = some false
  no : PySem.W.exmOne K (.ref CN) (.ref CO) = some false
  nn : PySem.W.exmOne K (.ref CN) (.ref CN) = some true
  xf : XfC K CN
  gv : PySem.W.findIn K (.ref CN) "given" = some none
abbrev s__law_met : Stmt := topS 101
abbrev N__law_met : List Str := ["call", "error"]
theorem sc__law_met : FnScope N__law_met ["call"] (defScope s__law_met) := ⟨rfl, rfl, rfl, by decide +kernel, rfl, by decide +kernel, by decide +kernel⟩
def tup2 (x y : Str) (H : Hp) (Q : VK) : Prop := ∀ p, H p = none → Q (.ref p) (upd H p (.tup [.str x, .str y]))
def tup1 (x : Str) (H : Hp) (Q : VK) : Prop := ([V.str x] : List V).length ≤ sizeLine ∧ ∀ p, H p = none → Q (.ref p) (upd H p (.tup [.str x]))
def tup3 (x y z : Str) (H : Hp) (Q : VK) : Prop := ∀ p, H p = none → Q (.ref p) (upd H p (.tup [.str x, .str y, .str z]))
/-- what the law makes of an exception -/
def metE (g : List Code) (K : PySem.W.Frag) (CP CF CO CN : Addr) (Q : VK) : XK := fun cls d H =>
  (cls = .ref CP ∧ tup2 "refused" "poly" H Q) ∨ (cls = .ref CF ∧ tup2 "refused" "function" H Q) ∨ (cls = .ref CO ∧ tup2 "refused" "operation" H Q) ∨
    (cls = .ref CN ∧ ∃ dd v t, d = some dd ∧ H dd = some (.xd [("given", v)]) ∧ Say g K H v t ∧ tup3 "refused" "number" t H Q)
def TTmet (g : List Code) (K : PySem.W.Frag) (CP CF CO CN : Addr) : (XK → Hp → VK → Prop) → Hp → VK → Prop := fun tl H Q =>
  tl (metE g K CP CF CO CN Q) H (fun _ H' => tup1 "fine" H' Q)
section
variable {X : Cx} {CP CF CO CN : Addr} {g : List Code}
theorem met_gives {gA : Addr} {cdg : Value} {q : Str} (hg : X.A.guards = some g) (hu : X.A.units + 100 < cLine) (B : Bis X.mg) (M : MetK X.K CP CF CO CN)
    (mP : X.mg "InvalidPoly" = some (.ref CP)) (mF : X.mg "InvalidFunction" = some (.ref CF)) (mO : X.mg "InvalidOperation" = some (.ref CO)) (mN : X.mg "InvalidNumber" = some (.ref CN)) :
    GivesTo X N__law_met "_law_met" (defScope s__law_met) gA cdg (defBody s__law_met) "call" q (TTmet g X.K CP CF CO CN) := by
  intro f c' s H Q tl act hc h
  let Z := (cxOf C8.CX0 X.prog X.w X.K X.mg X.base N__law_met "_law_met" (defScope s__law_met) gA cdg X.A X.stack s H C8.E0).nox
  have k2 : ∀ (x y : Str), x.length ≤ 100 → ([V.str x, V.str y] : List V).length ≤ sizeLine := fun _ _ _ => by show 2 ≤ sizeLine; rw [sizeLine_eq]; omega
  refine ⟨_, pss_cons (ps_try_cl (X := Z)
      (tb := fun W D σ H => ∃ Ech : XK, (∀ cls d (σ' : L2.St) H', σ'.length = 2 → Ech cls d H' → W cls d σ' H') ∧ σ[0]? = some (some (.ref f)) ∧ H c' = some (CodeO c' q) ∧ tl Ech H (fun _ H' => D.nx σ H'))
      rfl rfl LamX.takes0 (fun W pn xe tk _ => ?_)
      (.plain ⟨rfl, rfl, .inl mF⟩ (fun a o cls d pn _ _ => pss_one (ps_ret (pe_tup (pa_cons pe_str (pa_cons pe_str pa_nil)))))
      (.plain ⟨rfl, rfl, .inl mP⟩ (fun a o cls d pn _ _ => pss_one (ps_ret (pe_tup (pa_cons pe_str (pa_cons pe_str pa_nil)))))
      (.plain ⟨rfl, rfl, .inl mO⟩ (fun a o cls d pn _ _ => pss_one (ps_ret (pe_tup (pa_cons pe_str (pa_cons pe_str pa_nil)))))
      (.named (i := 1) sc__law_met.nd rfl rfl ⟨rfl, rfl, .inl mN⟩ (fun a o cls d pn hz hf => pss_one (ps_ret (pe_tup (pa_cons pe_str (pa_cons pe_str (pa_cons
        (pe_callB (id := "repr") (r := fun vs H Q => ∃ v t, vs = [v] ∧ Say g X.K H v t ∧ Q (.str t) H) (call_say (X := Z.suite a ((a, o) :: pn)) (g := g) hg (show X.A.units + 3 + 64 < cLine by omega)) (by rfl) (B "repr" (by decide +kernel)) (by decide +kernel) (pa_cons (pe_xf M.xf M.gv hz hf (pv 1)) pa_nil)) pa_nil)))))) .nil)))))
      (pss_one (ps_ret (pe_tup (pa_cons pe_str pa_nil)))), ?_⟩
  · refine ⟨fun pins s' σ H' D I h' => ?_⟩
    obtain ⟨Ech, hW, h1, h2, h3⟩ := h'
    have tk2 : Takes (Z.tr pn xe) (fun cls d σ' H' => σ'.length = 2 → W cls d σ' H') := fun e s2 z => by
      obtain ⟨a, B, sI, pins2, σ2, H2, cls, d, rfl, J, nb, up, sky, na, os, ag, w⟩ := z
      exact tk _ _ ⟨a, B, sI, pins2, σ2, H2, cls, d, rfl, J, nb, up, sky, na, os, ag, w J.len⟩
    exact (pss_one (ps_expr (act _ pn xe Ech _ _ tk2 fun cls d σ2 H2 e hl => hW cls d σ2 H2 hl e))).run pins s' σ H' D I ⟨h1, h2, h3⟩
  · have z2 : ∀ (x y : Str), ([V.str x, V.str y] : List V).length ≤ sizeLine := fun x y => by show 2 ≤ sizeLine; rw [sizeLine_eq]; omega
    have z3 : ∀ (x y z : Str), ([V.str x, V.str y, V.str z] : List V).length ≤ sizeLine := fun x y z => by show 3 ≤ sizeLine; rw [sizeLine_eq]; omega
    refine ⟨metE g X.K CP CF CO CN Q, fun cls d σ' H' hlen e => ?_, rfl, hc, h⟩
    rcases e with ⟨rfl, e⟩ | ⟨rfl, e⟩ | ⟨rfl, e⟩ | ⟨rfl, dd, v, t, rfl, hdd, hs, e⟩
    · exact ⟨false, M.pf, nofun, fun _ => ⟨true, M.pp, fun _ a _ => ⟨z2 _ _, e⟩, nofun⟩⟩
    · exact ⟨true, M.ff, fun _ a _ => ⟨z2 _ _, e⟩, nofun⟩
    · exact ⟨false, M.of, nofun, fun _ => ⟨false, M.op, nofun, fun _ => ⟨true, M.oo, fun _ a _ => ⟨z2 _ _, e⟩, nofun⟩⟩⟩
    · refine ⟨false, M.nf, nofun, fun _ => ⟨false, M.np, nofun, fun _ => ⟨false, M.no, nofun, fun _ => ⟨true, M.nn, fun _ a _ => ?_, nofun⟩⟩⟩⟩
      have hl : (σ'.set 1 (some (V.ref a)))[1]? = some (some (V.ref a)) := by
        match σ', hlen with
        | [_, _], _ => rfl
      exact ⟨_, hl, rfl, rfl, dd, _, v, rfl, hdd, rfl, v, t, rfl, hs, z3 _ _ _, e⟩
end
end K0
namespace Kt
open PySem PySem.Spec PyProof.Rows L2
open Evl (Ex Ev EvL EvU EvT EvA EvO ex_l ex_t sq_of st_of sz_of sz_lt fresh_back given)
section
variable {K : PySem.W.Frag} {σ : L2.St} {H H' : Hp} {te tf tl to : TE} {ta : TA} {t u : TT} {rs os rk : List VR} {r : VR} {j : Nat} {vs : List Nat} {b c : Bool} {ns : List Int} {D : Ends} {tz tu : TS} {l : Addr}
abbrev rLenK (K : PySem.W.Frag) : List V → Hp → VK → Prop := fun xs H Q => ∃ p ys, xs = [V.ref p] ∧ (SqL K H p ys ∨ SqT K H p ys) ∧ Q (.int ys.length) H
/-- a list of which the test keeps nothing -/
theorem er_none {wi : TI} {xs : List V} (hw : Wk wi σ H xs.length (YAt xs)) (hal : Alls rs xs H) (hz : rs.length ≤ 50000) (hv : ∀ x, wipe ((wipe σ vs).set j (some x)) vs = wipe σ vs)
    (ht : ∀ (r : VR) (x : V) (H1 : Hp), r ∈ rs → Ex H H1 → r.R x H1 → EvT t ((wipe σ vs).set j (some x)) H1 false) : EvR (tLc wi (gName j) t te vs) σ H (vL K []) := by
  have z := el_comp (vs := vs) (g := gName j) (tt := t) (te := te) hw (fun _ => false) (fun _ => .non) (by rw [hal.len]; omega) (fun i x H1 H2 hi e y R q => by
    obtain ⟨rfl, hx⟩ := y
    obtain ⟨r, hr, hrx⟩ := Alls.one hal hx
    exact q _ _ (hv _) (Ex.refl _) (ht r x _ (List.mem_of_getElem? hr) e (r.st e hrx)) fun h => by cases h)
  have e : given xs.length (fun _ => false) (fun _ => V.non) = ([] : List Int).map V.int := by
    unfold given
    rw [List.filter_eq_nil_iff.mpr fun _ _ => Bool.false_ne_true]
    rfl
  rw [e] at z
  exact evr_ofL z
theorem Alls_dpa : ∀ {ds : List PyData} {xs : List V}, Alls (ds.map (vD K)) xs H → DpAll K H xs ds
  | [], _, h => by
    have h' : _ = [] := h
    rw [h']
    exact .nil
  | d :: ds, _, ⟨v, ws, h1, h2, h3⟩ => by
    rw [h1]
    exact .cons h2 (Alls_dpa h3)
theorem evr_dispD {ds : List PyData} (h : EvRs ta σ H (ds.map (vD K))) (hl : ds.length ≤ 100000) : EvR (tTup ta) σ H (vD K (.tuple ds)) := by
  have z := evr_dispT (K := K) h (by rw [List.length_map]; exact hl)
  refine z.to fun v H e hv => ?_
  obtain ⟨a, xs, rfl, hs, hal⟩ := hv
  exact Dp.tup hs (Alls_dpa hal)
theorem evr_dict : EvR tDNewK σ H (K0.vO K .dict) := fun H1 e Q q p hp => q (.ref p) _ (Ex.new hp) ⟨p, rfl, upd_same⟩
theorem evr_ixLs {i : Nat} (h : EvR te σ H (vLs K rs)) (hi : EvR to σ H (vI (i : Int))) (hr : rs[i]? = some r) : EvR (tOp (rIxL K) te to) σ H r := fun H1 e Q q =>
  h H1 e _ fun v H2 e2 ⟨a, xs, ha, hs, hal⟩ => hi H2 (e.trans e2) _ fun u H3 e3 hu => by
    obtain ⟨x, hx, rx⟩ := Alls.get hal hr
    have hu' : u = .int (i : Int) := hu
    subst ha hu'
    exact ⟨a, xs, _, x, rfl, rfl, ex_l e3 hs, atI_nat hx, q x H3 (e2.trans e3) (r.st e3 rx)⟩
theorem EvM.ints (h : EvM te σ H (ns.map vI)) : EvR te σ H (vL K ns) := fun H1 e Q q => h H1 e Q fun p xs H2 _ e2 h2 ha => q (.ref p) H2 e2 ⟨p, rfl, by
  rw [← ha.ints]
  exact sq_of h2⟩
theorem evr_max2 {x y : Int} {rr : List V → Hp → VK → Prop} (hrr : rr = rMax K) (h : EvR te σ H (vL K [x, y])) : EvR (tCB rr (tCons te tNil)) σ H (vI (max x y)) := fun H1 e Q q => h H1 e _ fun v H2 e2 ⟨a, ha, hs⟩ => by
  subst ha hrr
  refine ⟨a, [x, y], rfl, hs, by simp, fun m hm hle => ?_⟩
  have h1 := hle x List.mem_cons_self
  have h2 := hle y (List.mem_cons_of_mem _ List.mem_cons_self)
  have e : m = max x y := by
    simp only [List.mem_cons, List.not_mem_nil, or_false] at hm
    rcases hm with rfl | rfl <;> omega
  rw [e]
  exact q _ H2 e2 rfl
theorem em_catV {i : Nat} {p : Addr} {xs : List V} (hv : σ[i]? = some (some (.ref p))) (hp : H p = some (.lst xs)) (hal : Alls rs xs H) (h2 : EvM te σ H rk) (hz : rs.length + rk.length ≤ 100000) : EvM (tOp rCat (tVar i) te) σ H (rs ++ rk) := fun H1 e Q q =>
  ⟨.ref p, hv, h2 H1 e _ fun p' ys H2 hp' e2 hp2 hb => by
    refine ⟨p, p', _, _, rfl, rfl, e2 _ _ (e _ _ hp), hp2, sz_of (by rw [hal.len, hb.len]; exact hz), fun l hl => q l _ _ (fresh_back e2 hl) (e2.trans (Ex.new hl)) upd_same ?_⟩
    exact (((hal.mono (e.trans e2)).append hb).mono (Ex.new hl))⟩
theorem qr_asgM {i : Nat} (h : EvM te σ H rs) (k : ∀ p xs H1, H p = none → Ex H H1 → H1 p = some (.lst xs) → Alls rs xs H1 → tz D (σ.set i (some (.ref p))) H1) : tSeq (tAsg te (gName i)) tz D σ H := h H (Ex.refl H) _ fun p xs H1 hp e h1 ha => k p xs H1 hp e h1 ha
/-- a test that may change the bag -/
def EvTB (l : Addr) (t : TT) (σ : L2.St) (H : Hp) (c : Bool) : Prop := ∀ Q : Bool → Hp → Prop, (∀ H1, ExB l H H1 → Bag l H1 → Q c H1) → t σ H Q
theorem qb_when (h : EvTB l t σ H false) (k : ∀ H1, ExB l H H1 → Bag l H1 → tz D σ H1) : tSeq (tIfS t tu tNext) tz D σ H := h _ fun H1 e b => iteF (k H1 e b)
theorem sb_when (h : EvTB l t σ H false) (k : ∀ H1, ExB l H H1 → Bag l H1 → D.nx σ H1) : tIfS t tu tNext D σ H := h _ fun H1 e b => iteF (k H1 e b)
theorem etb_or (h : EvTB l t σ H false) (h2 : ∀ H1, ExB l H H1 → Bag l H1 → EvTB l u σ H1 false) : EvTB l (tOr t u) σ H false := fun Q q => h _ fun H1 e b => iteF (h2 H1 e b Q fun H2 e2 b2 => q H2 (e.trans e2) b2)
theorem etb_of (h : EvT t σ H c) (b : Bag l H) : EvTB l t σ H c := fun Q q => h H (Ex.refl H) Q fun H1 e => q H1 (ExB.of e) (b.ex e)
end
end Kt
namespace Kt
open PySem PySem.Spec PySem.Calls PyProof.Rows L2 PySem.W
def hexT (a : Int) : Str := ⟨((Nat.toDigits 16 a.natAbs).map Char.toNat).toArray⟩
open Builtin Builtin.Str Builtin.Int Builtin.Float
def fmtX : FormatSpec := { align := 62, type := some 120 }
theorem parse_x : parseFormatSpec (PySem.Str.ofString "x").cps.toList "int" 62 = .ok fmtX := by rfl
theorem field_x {a : Int} (h0 : 0 ≤ a) : intField' fmtX (decide (a < 0)) [] ((Nat.toDigits 16 a.natAbs).map fun c => (if (120 : Nat) == 88 then c.toUpper else c).toNat) [] 4 = hexT a := by
  have hl := tDigits_len_ge 16 a.natAbs
  have he : ((Nat.toDigits 16 a.natAbs).map Char.toNat).isEmpty = false := by
    cases h : Nat.toDigits 16 a.natAbs with
    | nil =>
      rw [h] at hl
      simp at hl
    | cons c r => rfl
  rw [decide_eq_false (by omega)]
  show intField' fmtX false [] ((Nat.toDigits 16 a.natAbs).map Char.toNat) [] 4 = ⟨((Nat.toDigits 16 a.natAbs).map Char.toNat).toArray⟩
  generalize (Nat.toDigits 16 a.natAbs).map Char.toNat = ds at he
  unfold intField' fmtX
  simp [he]
  try omega
theorem meets_x {a : Int} {t : Tok} (h0 : 0 ≤ a) (hz : (hexT a).length ≤ sizeLine) : ∀ u, Meets («int.__format__» ⟨[.int a t, .str (PySem.Str.ofString "x") u], []⟩) (fun _ R s => ∀ t' k, R (.ok (.ret (.str (hexT a) t'))) { s with toks := k }) := by
  intro _
  apply KPc.meets_of
  intro _ _ _ _ _ _ hQ
  unfold Builtin.«int.__format__»
  refine wpAny_bind (wpAny_of_eq (a := (_, _)) rfl ?_)
  refine wpAny_bind (wpAny_of_eq (a := _) rfl ?_)
  kxf_if
  refine wpAny_bind (wpAny_typeNameOf (T := "str") (typeIs_str _ _ _) (by decide) fun _ => ?_)
  refine wpAny_bind (wpAny_of_eq (a := some _) rfl ?_)
  dsimp only
  rw [if_neg (by decide), if_neg (by decide)]
  refine wpAny_bind (wpAny_typeNameOfCut_int ?_)
  simp only [parse_x]
  rw [if_pos (by decide)]
  show wpAny _ _ (retStr _) _ _ _
  refine KXf.ret_text (T := hexT a) ?_ ?_ hQ
  · exact field_x h0
  · exact Nat.le_trans (Nat.le_of_eq (congrArg Str.length (field_x h0))) hz
end Kt
namespace Kt
open PySem PySem.Spec PySem.Calls PyProof.Rows L2 PySem.W
open Evl (Ex Ev EvL EvU EvT EvA EvO ex_l ex_t sq_of st_of sz_of sz_lt fresh_back given)
def tFmtX (te : TE) : TE := fun σ H Q => te σ H fun x H1 => ∃ i : Int, x = .int i ∧ 0 ≤ i ∧ (hexT i).length ≤ sizeLine ∧ Q (.str (hexT i)) H1
/-- {e:x}, an int from 0 -/
theorem pe_fmtX {X : Cx} {e spec : Expr} {te : TE} {pos : Pos} (he : PE X e te) (hs : PE X spec (tC (.str (PySem.Str.ofString "x")))) : PE X (.FormattedValue e (-1) (some spec) pos) (tFmtX te) := by
  refine ⟨fun pins s σ H Q I h => ?_⟩
  refine wpAny_FormattedValue_spec (thn (he.run pins s σ H _ I h) fun v s1 hv => ?_)
  obtain ⟨x, H1, I1, r1, i, rfl, h0, hz, q⟩ := hv
  obtain ⟨t, rfl⟩ := r1
  refine thn (hs.run pins s1 σ H1 (fun y H2 => y = .str (PySem.Str.ofString "x") ∧ H2 = H1) I1 ⟨rfl, rfl⟩) fun u s2 hu => ?_
  obtain ⟨y, H2, I2, r2, rfl, rfl⟩ := hu
  obtain ⟨t2, rfl⟩ := r2
  refine ⟨_, t2, rfl, ?_⟩
  exact KXf.field_int rfl (by decide) (by decide) (meets_x h0 hz) fun t' k => ⟨.str (hexT i), H2, I2.tok _, ⟨_, rfl⟩, q⟩
theorem evr_fmtX {σ : L2.St} {H : Hp} {te : TE} {i : Int} (h : EvR te σ H (vI i)) (h0 : 0 ≤ i) (hz : (hexT i).length ≤ sizeLine) : EvR (tFmtX te) σ H (vS (hexT i)) := fun H1 e Q q => h H1 e _ fun v H2 e2 hv => ⟨i, hv, h0, hz, q _ H2 e2 rfl⟩
end Kt
namespace Mh
open L2.Hx
/-! ### a whole number in base 16, by its signs -/
def hexL (n : Nat) : List Nat := (Nat.toDigits 16 n).map Char.toNat
theorem digit_hv : ∀ d : Nat, d < 16 → hv (Nat.digitChar d).toNat = d := by decide
theorem digit_is : ∀ d : Nat, d < 16 → IsHex (Nat.digitChar d).toNat := by unfold IsHex; decide
theorem fold_hex : ∀ (l : List Nat) (a : Nat), l.foldl (fun a c => a * 16 + hv c) a = a * 16 ^ l.length + hexNum l
  | [], a => by simp [hexNum]
  | c :: l, a => by
    have h1 : hexNum (c :: l) = (0 * 16 + hv c) * 16 ^ l.length + hexNum l := fold_hex l (0 * 16 + hv c)
    rw [List.foldl_cons, fold_hex l (a * 16 + hv c), h1, List.length_cons, Nat.pow_succ]
    grind
theorem hexNum_app (a b : List Nat) : hexNum (a ++ b) = hexNum a * 16 ^ b.length + hexNum b := by
  show (a ++ b).foldl (fun a c => a * 16 + hv c) 0 = _
  rw [List.foldl_append, fold_hex b]
  rfl
theorem hex_snoc (n : Nat) (h : ¬ n < 16) : hexL n = hexL (n / 16) ++ [(Nat.digitChar (n % 16)).toNat] := by
  have hm : n % 16 < 16 := Nat.mod_lt n (by decide)
  have t : Nat.toDigits 16 (n / 16) ++ Nat.toDigits 16 (n % 16) = Nat.toDigits 16 (16 * (n / 16) + n % 16) := Nat.toDigits_append_toDigits (by decide) (by omega) hm
  rw [Nat.div_add_mod] at t
  unfold hexL
  rw [← t, List.map_append, Nat.toDigits_of_lt_base hm]
  rfl
theorem hex_one {n : Nat} (h : n < 16) : hexL n = [(Nat.digitChar n).toNat] := by
  unfold hexL
  rw [Nat.toDigits_of_lt_base h]
  rfl
theorem hex_back (n : Nat) : hexNum (hexL n) = n := by
  induction n using Nat.strongRecOn with
  | _ n ih =>
    by_cases h : n < 16
    · rw [hex_one h]
      have e := digit_hv n h
      show 0 * 16 + hv (Nat.digitChar n).toNat = n
      omega
    · rw [hex_snoc n h, hexNum_app, ih (n / 16) (by omega)]
      have e := digit_hv (n % 16) (Nat.mod_lt n (by decide))
      show n / 16 * 16 ^ 1 + (0 * 16 + hv (Nat.digitChar (n % 16)).toNat) = n
      omega
theorem hex_all (n : Nat) : ∀ c ∈ hexL n, IsHex c := by
  induction n using Nat.strongRecOn with
  | _ n ih =>
    by_cases h : n < 16
    · rw [hex_one h]
      intro c hc
      obtain rfl := List.mem_singleton.mp hc
      exact digit_is n h
    · rw [hex_snoc n h]
      intro c hc
      rcases List.mem_append.mp hc with hc | hc
      · exact ih (n / 16) (by omega) c hc
      · obtain rfl := List.mem_singleton.mp hc
        exact digit_is _ (Nat.mod_lt n (by decide))
theorem hex_ne (n : Nat) : hexL n ≠ [] := by
  by_cases h : n < 16
  · rw [hex_one h]
    simp
  · rw [hex_snoc n h]
    simp
theorem hex_len : ∀ {k n : Nat}, 1 ≤ k → n < 16 ^ k → (hexL n).length ≤ k
  | 0, _, h, _ => by omega
  | k + 1, n, _, hn => by
    by_cases h : n < 16
    · rw [hex_one h]
      simp
    · rw [hex_snoc n h, List.length_append, List.length_singleton]
      have hk : 1 ≤ k := by
        cases k with
        | zero => simp at hn; omega
        | succ k => omega
      rw [Nat.pow_succ] at hn
      have := hex_len (k := k) (n := n / 16) hk (by omega)
      omega
theorem hex_zeros : ∀ (k : Nat) (l : List Nat), hexNum (List.replicate k 48 ++ l) = hexNum l
  | k, l => by
    rw [hexNum_app]
    have : ∀ k, hexNum (List.replicate k 48) = 0 := fun k => by
      induction k with
      | zero => rfl
      | succ k ih =>
        rw [List.replicate_succ, show (48 :: List.replicate k 48) = [48] ++ List.replicate k 48 from rfl, hexNum_app, ih]
        show hv 48 * _ + 0 = 0
        have : hv 48 = 0 := by decide
        rw [this]
        simp
    rw [this]
    simp
/-- the text of a number, its lanes of four signs full -/
def pad4 (n : Nat) : List Nat := List.replicate (((hexL n).length + 4 - 1) / 4 * 4 - (hexL n).length) 48 ++ hexL n
theorem pad4_len (n : Nat) : (pad4 n).length = 4 * (((hexL n).length + 4 - 1) / 4) := by
  unfold pad4
  rw [List.length_append, List.length_replicate]
  omega
theorem pad4_num (n : Nat) : hexNum (pad4 n) = n := by
  unfold pad4
  rw [hex_zeros, hex_back]
theorem pad4_all (n : Nat) : ∀ c ∈ pad4 n, IsHex c := fun c hc => by
  rcases List.mem_append.mp hc with hc | hc
  · rw [List.mem_replicate] at hc
    rw [hc.2]
    exact .inl (by decide)
  · exact hex_all n c hc
def lanesOf : Nat → List Nat → List Nat
  | 0, _ => []
  | m + 1, t => hexNum (t.drop (4 * m)) :: lanesOf m (t.take (4 * m))
theorem lanesOf_range : ∀ (m : Nat) (t : List Nat), t.length = 4 * m → lanesOf m t = (List.range m).map fun i => hexNum ((t.drop (4 * (m - 1 - i))).take 4)
  | 0, _, _ => rfl
  | m + 1, t, h => by
    rw [lanesOf, lanesOf_range m (t.take (4 * m)) (by rw [List.length_take]; omega), List.range_succ_eq_map, List.map_cons, List.map_map]
    congr 1
    · rw [List.take_of_length_le (by rw [List.length_drop]; omega)]
      rfl
    · apply List.map_congr_left
      intro i hi
      have hi' := List.mem_range.mp hi
      show hexNum _ = hexNum _
      rw [List.drop_take, List.take_take, show m + 1 - 1 - (i + 1) = m - 1 - i by omega, Nat.min_eq_left (by omega)]
theorem lanesOf_len : ∀ (m : Nat) (t : List Nat), (lanesOf m t).length = m
  | 0, _ => rfl
  | m + 1, t => by rw [lanesOf, List.length_cons, lanesOf_len]
theorem hexNum_lt : ∀ {l : List Nat}, (∀ c ∈ l, IsHex c) → hexNum l < 16 ^ l.length := by
  intro l
  induction l with
  | nil => intro _; decide
  | cons c l ih =>
    intro h
    have h1 := hv_lt (h c List.mem_cons_self)
    have h2 := ih fun d hd => h d (List.mem_cons_of_mem _ hd)
    rw [show c :: l = [c] ++ l from rfl, hexNum_app, List.length_append, List.length_singleton, Nat.pow_add]
    have h3 : hexNum [c] = hv c := by show 0 * 16 + hv c = hv c; omega
    rw [h3]
    have : (hv c + 1) * 16 ^ l.length ≤ 16 * 16 ^ l.length := Nat.mul_le_mul_right _ h1
    rw [Nat.add_mul] at this
    omega
theorem lanesOf_lt : ∀ (m : Nat) (t : List Nat), t.length = 4 * m → (∀ c ∈ t, IsHex c) → ∀ n ∈ lanesOf m t, n < 65536
  | 0, _, _, _, n, hn => by simp [lanesOf] at hn
  | m + 1, t, h, ht, n, hn => by
    rw [lanesOf] at hn
    rcases List.mem_cons.mp hn with rfl | hn
    · have := hexNum_lt (l := t.drop (4 * m)) fun c hc => ht c (List.mem_of_mem_drop hc)
      rw [List.length_drop, show t.length - 4 * m = 4 by omega] at this
      exact this
    · exact lanesOf_lt m (t.take (4 * m)) (by rw [List.length_take]; omega) (fun c hc => ht c (List.mem_of_mem_take hc)) n hn
/-- the signs of a digit's lane -/
def laneL (n : Nat) : List Nat := [48, 48, 48, 48 + n]
theorem laneL_all : ∀ n, n ≤ 6 → ∀ c ∈ laneL n, IsHex c := by
  intro n hn c hc
  unfold laneL at hc
  simp at hc
  left
  omega
theorem laneL_num : ∀ n, n ≤ 6 → hexNum (laneL n) = n
  | 0, _ => by decide
  | 1, _ => by decide
  | 2, _ => by decide
  | 3, _ => by decide
  | 4, _ => by decide
  | 5, _ => by decide
  | 6, _ => by decide
  | n + 7, h => by omega
end Mh
namespace Kt
open PySem PySem.Spec PyProof.Rows L2
open Evl (Ex Ev EvL EvU EvT EvA EvO ex_l ex_t sq_of st_of sz_of sz_lt fresh_back given)
section
variable {K : PySem.W.Frag} {σ : L2.St} {H H' : Hp} {te tf tl to tn th : TE} {ta : TA} {D : Ends} {tz tu : TS} {g : TG} {wi : TI} {n : Nat} {Y : Nat → Hp → V → Hp → Prop} {j : Nat} {vs : List Nat}
theorem ea3 {lo hi c : Int} (h : EvRs ta σ H [vI lo, vI hi, vI c]) : EvA ta σ H [.int lo, .int hi, .int c] := fun H1 e Q q => h H1 e _ fun us H2 e2 ⟨v, _, h1, hv, ⟨v2, _, h2, hv2, ⟨v3, _, h3, hv3, h4⟩⟩⟩ => by
  have h4' : _ = [] := h4
  have e1 : v = .int lo := hv
  have e2' : v2 = .int hi := hv2
  have e3 : v3 = .int c := hv3
  subst h4' e1 e2' e3 h3 h2 h1
  exact q H2 e2
/-- for i in range(lo, hi, c) -/
theorem sr_forR3 {lo hi c : Int} (h : EvRs ta σ H [vI lo, vI hi, vI c]) (hn : RgC lo hi c n) (Pv : Nat → L2.St → Hp → Prop) (h0 : ∀ H1, Ex H H1 → Pv 0 σ H1)
    (hs : ∀ i σ' H', i < n → Pv i σ' H' → tu { D with nx := Pv (i + 1), ct := Pv (i + 1), bk := D.nx } (σ'.set j (some (.int (lo + (i : Nat) * c)))) H') (hd : ∀ σ' H', Pv n σ' H' → D.nx σ' H') : tFor (iRng3 ta) (gName j) tu D σ H :=
  ea3 h H (Ex.refl H) _ fun H1 e => ⟨lo, hi, c, n, rfl, hn, for_it walk_rangeC Pv (h0 H1 e) (fun _ _ _ _ _ => trivial) (fun i x σ' H' H2 hi p y => by
    obtain ⟨rfl, rfl⟩ := y
    exact hs i σ' _ hi p) hd⟩
/-- [e for x in ..] over ints, any plain values -/
theorem el_mapV {ns : List Int} (hw : Wk wi σ H (ns.map V.int).length (YAt (ns.map V.int))) (f : Int → V) (hn : ns.length ≤ 50000) (hv : ∀ x, wipe ((wipe σ vs).set j (some x)) vs = wipe σ vs)
    (he : ∀ x ∈ ns, ∀ H1, Ex H H1 → Ev te ((wipe σ vs).set j (some (.int x))) H1 (f x)) : EvL (tLc wi (gName j) tYes te vs) σ H (ns.map f) := by
  have z := el_comp (vs := vs) (g := gName j) (tt := tYes) (te := te) hw (fun _ => true) (fun i => f (ns.getD i 0)) (by rw [List.length_map]; exact hn) (fun i x H1 H2 hi e y R q => by
    obtain ⟨rfl, hx⟩ := y
    rw [List.length_map] at hi
    have hxi : ns[i]? = some ns[i] := List.getElem?_eq_getElem hi
    rw [List.getElem?_map, hxi] at hx
    have ex : V.int ns[i] = x := Option.some.inj hx
    subst ex
    have eg : ns.getD i 0 = ns[i] := by simp [List.getD, hxi]
    refine q _ _ (hv _) (Ex.refl _) et_yes fun _ => ?_
    show Ev te _ _ (f (ns.getD i 0))
    rw [eg]
    exact he _ (List.getElem_mem hi) _ e)
  rw [given_all] at z
  have el : (List.range (ns.map V.int).length).map (fun i => f (ns.getD i 0)) = ns.map f := by
    apply List.ext_getElem
    · simp
    · intro i h1 h2
      simp at h1 h2 ⊢
      simp [h1]
  rw [el] at z
  exact z
/-- [e for i in range(lo, hi, c)], ints -/
theorem el_rng3 {lo hi c : Int} (h : EvRs ta σ H [vI lo, vI hi, vI c]) (hr : RgC lo hi c n) (f : Nat → Int) (hn : n ≤ 50000) (hv : ∀ x, wipe ((wipe σ vs).set j (some x)) vs = wipe σ vs)
    (he : ∀ i, i < n → ∀ H1, Ex H H1 → EvR te ((wipe σ vs).set j (some (.int (lo + (i : Nat) * c)))) H1 (vI (f i))) : EvL (tLc (iRng3 ta) (gName j) tYes te vs) σ H (((List.range n).map f).map V.int) := by
  have ha : EvA ta σ H [.int lo, .int hi, .int c] := fun H1 e Q q => h H1 e _ fun us H2 e2 ⟨v, _, h1, hv, ⟨v2, _, h2, hv2, ⟨v3, _, h3, hv3, h4⟩⟩⟩ => by
    have h4' : _ = [] := h4
    have e1 : v = .int lo := hv
    have e2' : v2 = .int hi := hv2
    have e3 : v3 = .int c := hv3
    subst h4' e1 e2' e3 h3 h2 h1
    exact q H2 e2
  have z := el_comp (vs := vs) (g := gName j) (tt := tYes) (te := te) (wk_rng3 ha hr) (fun _ => true) (fun i => .int (f i)) hn (fun i x H1 H2 hi e y R q => by
    obtain ⟨rfl, rfl⟩ := y
    exact q _ _ (hv _) (Ex.refl _) et_yes fun _ => (he i hi _ e).ev)
  rw [given_all] at z
  rw [List.map_map]
  exact z
/-- range(0, m, c) of one step -/
theorem rg_one {m c : Int} (h0 : 0 < m) (h1 : m ≤ c) (hc : c ≤ 1000) : RgC 0 m c 1 := by
  have hs : Builtin.Range.rangeSize 0 m c = 1 := by
    unfold Builtin.Range.rangeSize
    rw [if_pos (by omega), if_pos (by omega), Int.sub_zero, Int.ediv_eq_zero_of_lt (by omega) (by omega)]
    rfl
  refine ⟨by omega, by omega, ?_, hs⟩
  unfold Builtin.Range.small
  rw [hs]
  simp only [Builtin.Range.rangeFitsLong, Bool.and_eq_true, Bool.or_eq_true, decide_eq_true_eq, beq_iff_eq, show c > 0 by omega, if_true]
  omega
/-- range(4 m - 4, -1, -4) -/
theorem rg_down4 {m : Nat} (hm : 1 ≤ m) (hm2 : m ≤ 1000) : RgC (4 * (m : Int) - 4) (-1) (-4) m := by
  have hs : Builtin.Range.rangeSize (4 * (m : Int) - 4) (-1) (-4) = m := by
    unfold Builtin.Range.rangeSize
    rw [if_neg (by decide), if_pos (by omega)]
    show (4 * (m : Int) - 4 - -1 - 1) / 4 + 1 = m
    omega
  refine ⟨by decide, by decide, ?_, hs⟩
  unfold Builtin.Range.small
  rw [hs]
  simp only [Builtin.Range.rangeFitsLong, Bool.and_eq_true, Bool.or_eq_true, decide_eq_true_eq, beq_iff_eq, show ¬ ((-4 : Int) > 0) by decide, if_false]
  omega
/-! ### texts -/
theorem evr_intHex {l : List Nat} (h : EvR te σ H (vS (SX.S l))) (hne : l ≠ []) (hl : l.length ≤ 640) (hx : ∀ c ∈ l, Hx.IsHex c) : EvR (tCB rIntHex (tCons te (tCons (tC (.int 16)) tNil))) σ H (vI ((Hx.hexNum l : Nat) : Int)) := fun H1 e Q q => h H1 e _ fun v H2 e2 hv => by
  have hv' : v = .str (SX.S l) := hv
  subst hv'
  exact ⟨l, rfl, hne, hl, hx, q _ H2 e2 rfl⟩
theorem evr_join {a : Str} {ys : List Str} {r : V → List V → Hp → VK → Prop} (hr : r = fun x xs H Q => ∃ a p, ∃ ys : List Str, x = .str a ∧ xs = [.ref p] ∧ (SqL K H p (ys.map V.str) ∨ SqT K H p (ys.map V.str)) ∧ (ys.map (·.length)).sum + ys.length * a.length ≤ 16777216 ∧ Q (.str (Txt.join a ys)) H)
    (h : EvL te σ H (ys.map V.str)) (hz : (ys.map (·.length)).sum + ys.length * a.length ≤ 16777216) : EvR (tBM K "str" r (tC (.str a)) (tCons te tNil)) σ H (vS (Txt.join a ys)) := fun H1 e Q q => by
  subst hr
  refine ⟨rfl, h H1 e _ fun p H2 _ e2 hp => ?_⟩
  exact ⟨a, p, ys, rfl, rfl, .inl (sq_of hp), hz, q _ H2 e2 rfl⟩
theorem evr_zfill {a : Str} {i : Int} {r : V → List V → Hp → VK → Prop} (hr : r = fun x xs H Q => ∃ (a : Str) (i : Int), x = .str a ∧ xs = [.int i] ∧ PadOk i = true ∧ Q (.str (Txt.zfill a i)) H)
    (h : EvR te σ H (vS a)) (h2 : EvR tf σ H (vI i)) (hp : PadOk i = true) : EvR (tBM K "str" r te (tCons tf tNil)) σ H (vS (Txt.zfill a i)) := fun H1 e Q q => h H1 e _ fun v H2 e2 hv => by
  have hv' : v = .str a := hv
  subst hv' hr
  refine ⟨rfl, h2 H2 (e.trans e2) _ fun w H3 e3 hw => ?_⟩
  have hw' : w = .int i := hw
  subst hw'
  exact ⟨a, i, rfl, rfl, hp, q _ H3 (e2.trans e3) rfl⟩
theorem evr_lenS {z : Str} {r : List V → Hp → VK → Prop} (hr : r = fun xs H Q => ∃ z, xs = [.str z] ∧ z.length ≤ sizeLine ∧ Q (.int z.length) H) (h : EvR te σ H (vS z)) (hz : z.length ≤ sizeLine) : EvR (tCB r (tCons te tNil)) σ H (vI z.length) := fun H1 e Q q => h H1 e _ fun v H2 e2 hv => by
  have hv' : v = .str z := hv
  subst hv' hr
  exact ⟨z, rfl, hz, q _ H2 e2 rfl⟩
theorem evr_slS {z : Str} {lo hi : Option Int} {tlo thi : TO} (h : EvR te σ H (vS z)) (hl : EvO tlo σ H lo) (hu : EvO thi σ H hi) (hz : z.length ≤ sizeLine) : EvR (tSl rSlS te tlo thi) σ H (vS (cutS z lo hi)) := fun H1 e Q q =>
  h H1 e _ fun v H2 e2 hv => hl H2 (e.trans e2) _ fun H3 e3 => hu H3 ((e.trans e2).trans e3) _ fun H4 e4 => by
    have hv' : v = .str z := hv
    subst hv'
    exact ⟨z, rfl, hz, q _ H4 ((e2.trans e3).trans e4) rfl⟩
theorem zfill_hex {l : List Nat} {m : Nat} (hl : l ≠ []) (hx : ∀ c ∈ l, Hx.IsHex c) : Txt.zfill (SX.S l) (m : Int) = SX.S (List.replicate (m - l.length) 48 ++ l) := by
  unfold Txt.zfill
  rw [SX.S_len]
  split
  next h => rw [show m - l.length = 0 by omega]; rfl
  next h =>
    rw [Int.toNat_natCast]
    unfold PySem.zfilled
    cases l with
    | nil => exact absurd rfl hl
    | cons c l =>
      have hc := hx c List.mem_cons_self
      have h43 : c ≠ 43 ∧ c ≠ 45 := by
        unfold Hx.IsHex at hc
        omega
      show (match some c with | some 43 | some 45 => _ | _ => _) = _
      split
      next h => exact absurd (Option.some.inj h) h43.1
      next h => exact absurd (Option.some.inj h) h43.2
      next =>
        unfold PySem.Builtin.Str.padded
        apply TL.ext_tl
        simp [TL.tl]
theorem cutS_lane {t : List Nat} {a : Nat} (h : a + 4 ≤ t.length) : cutS (SX.S t) (some (a : Int)) (some ((a + 4 : Nat) : Int)) = SX.S ((t.drop a).take 4) := by
  unfold cutS
  rw [SX.S_len, HT.sIx_nat, HT.sIx_nat, Nat.min_eq_left (by omega), Nat.min_eq_left (by omega), Nat.add_sub_cancel_left]
end
end Kt
namespace K0
open M
/-! ### rows modulo p as a ring -/
def meqS (p : Int) : Setoid PS := ⟨MEq p, ⟨.refl, .symm, .trans⟩⟩
def QP (p : Int) : Type := Quotient (meqS p)
namespace QP
variable {p : Int}
def E (f : PS) : QP p := Quotient.mk (meqS p) f
theorem sound {f g : PS} (h : MEq p f g) : (E f : QP p) = E g := Quotient.sound h
theorem exact {f g : PS} (h : (E f : QP p) = E g) : MEq p f g := Quotient.exact h
theorem rep (x : QP p) : ∃ f, x = E f := let ⟨f, h⟩ := Quotient.exists_rep x; ⟨f, h.symm⟩
instance : Add (QP p) := ⟨Quotient.lift₂ (fun f g => E (f + g)) fun _ _ _ _ h1 h2 => sound (MEq.add h1 h2)⟩
instance : Mul (QP p) := ⟨Quotient.lift₂ (fun f g => E (f * g)) fun _ _ _ _ h1 h2 => sound (MEq.mul h1 h2)⟩
instance : Sub (QP p) := ⟨Quotient.lift₂ (fun f g => E (f - g)) fun _ _ _ _ h1 h2 => sound (MEq.sub h1 h2)⟩
instance : Neg (QP p) := ⟨Quotient.lift (fun f => E (-f)) fun _ _ ⟨h, e⟩ => sound ⟨-h, by grind⟩⟩
instance : NatCast (QP p) := ⟨fun n => E ⟨cst n⟩⟩
instance : IntCast (QP p) := ⟨fun n => E ⟨cst n⟩⟩
instance (n : Nat) : OfNat (QP p) n := ⟨E ⟨cst n⟩⟩
def pow (x : QP p) : Nat → QP p
  | 0 => 1
  | n + 1 => pow x n * x
instance : HPow (QP p) Nat (QP p) := ⟨pow⟩
instance : SMul Nat (QP p) := ⟨fun n x => E ⟨cst n⟩ * x⟩
instance : SMul Int (QP p) := ⟨fun n x => E ⟨cst n⟩ * x⟩
theorem add_E (f g : PS) : (E f : QP p) + E g = E (f + g) := rfl
theorem mul_E (f g : PS) : (E f : QP p) * E g = E (f * g) := rfl
theorem sub_E (f g : PS) : (E f : QP p) - E g = E (f - g) := rfl
theorem neg_E (f : PS) : -(E f : QP p) = E (-f) := rfl
theorem zero_E : (0 : QP p) = E 0 := rfl
theorem one_E : (1 : QP p) = E 1 := rfl
instance : Lean.Grind.CommRing (QP p) where
  nsmul := ⟨fun n f => n • f⟩
  zsmul := ⟨fun n f => n • f⟩
  npow := ⟨pow⟩
  add_zero x := by
    obtain ⟨f, rfl⟩ := rep x
    exact congrArg E (by grind : f + 0 = f)
  add_comm x y := by
    obtain ⟨f, rfl⟩ := rep x
    obtain ⟨g, rfl⟩ := rep y
    exact congrArg E (by grind : f + g = g + f)
  add_assoc x y z := by
    obtain ⟨f, rfl⟩ := rep x
    obtain ⟨g, rfl⟩ := rep y
    obtain ⟨h, rfl⟩ := rep z
    exact congrArg E (by grind : f + g + h = f + (g + h))
  mul_assoc x y z := by
    obtain ⟨f, rfl⟩ := rep x
    obtain ⟨g, rfl⟩ := rep y
    obtain ⟨h, rfl⟩ := rep z
    exact congrArg E (by grind : f * g * h = f * (g * h))
  mul_one x := by
    obtain ⟨f, rfl⟩ := rep x
    exact congrArg E (by grind : f * 1 = f)
  one_mul x := by
    obtain ⟨f, rfl⟩ := rep x
    exact congrArg E (by grind : 1 * f = f)
  left_distrib x y z := by
    obtain ⟨f, rfl⟩ := rep x
    obtain ⟨g, rfl⟩ := rep y
    obtain ⟨h, rfl⟩ := rep z
    exact congrArg E (by grind : f * (g + h) = f * g + f * h)
  right_distrib x y z := by
    obtain ⟨f, rfl⟩ := rep x
    obtain ⟨g, rfl⟩ := rep y
    obtain ⟨h, rfl⟩ := rep z
    exact congrArg E (by grind : (f + g) * h = f * h + g * h)
  zero_mul x := by
    obtain ⟨f, rfl⟩ := rep x
    exact congrArg E (by grind : 0 * f = 0)
  mul_zero x := by
    obtain ⟨f, rfl⟩ := rep x
    exact congrArg E (by grind : f * 0 = 0)
  neg_add_cancel x := by
    obtain ⟨f, rfl⟩ := rep x
    exact congrArg E (by grind : -f + f = 0)
  sub_eq_add_neg x y := by
    obtain ⟨f, rfl⟩ := rep x
    obtain ⟨g, rfl⟩ := rep y
    exact congrArg E (by grind : f - g = f + -g)
  mul_comm x y := by
    obtain ⟨f, rfl⟩ := rep x
    obtain ⟨g, rfl⟩ := rep y
    exact congrArg E (by grind : f * g = g * f)
  pow_zero x := rfl
  pow_succ x n := rfl
  ofNat_succ n := by
    show (E ⟨cst ((n + 1 : Nat) : Int)⟩ : QP p) = E (⟨cst (n : Int)⟩ + ⟨cst 1⟩)
    rw [← PS.cst_add]
    rfl
  nsmul_eq_natCast_mul n x := rfl
  intCast_ofNat n := rfl
  intCast_neg n := by
    show (E ⟨cst (-n)⟩ : QP p) = E (-⟨cst n⟩)
    congr 1
    ext k
    cases k <;> simp [cst]
  neg_zsmul n x := by
    obtain ⟨f, rfl⟩ := rep x
    show (E (⟨cst (-n)⟩ * f) : QP p) = E (-(⟨cst n⟩ * f))
    congr 1
    have : (⟨cst (-n)⟩ : PS) = -⟨cst n⟩ := by
      ext k
      cases k <;> simp [cst]
    rw [this]
    grind
  zsmul_natCast_eq_nsmul n x := rfl
end QP
example {p : Int} (a b c : QP p) (h : a * b = 1) (h2 : c * a = a * a) : c = a := by grind
/-! ### polynomials modulo p -/
open QP
variable {p : Int}
structure Pl (p : Int) (xs : List Int) : Prop where
  r : Red p xs
  t : trim xs = xs
def e (p : Int) (xs : List Int) : QP p := E (co xs)
def kc (p n : Int) : QP p := E ⟨cst n⟩
theorem e_prod (xs ys : List Int) : e p (prod p xs ys) = e p xs * e p ys := sound (co_prod xs ys)
theorem e_add (xs ys : List Int) (f : Int) : e p (addScaled p xs ys f) = e p xs + kc p f * e p ys := sound (co_addScaled xs ys f)
theorem e_scale (xs : List Int) (f : Int) : e p (scale p xs f) = kc p f * e p xs := sound (co_scaled xs f)
theorem e_nil : e p [] = 0 := congrArg E co_nil
theorem e_one : e p [1] = 1 := congrArg E co_one
theorem kc_one : kc p 1 = 1 := rfl
theorem kc_neg : kc p (-1) = -1 := by
  show E ⟨cst (-1)⟩ = E (-1)
  congr 1
  ext k
  cases k <;> rfl
theorem kc_mul (a b : Int) : kc p a * kc p b = kc p (a * b) := by
  show E (⟨cst a⟩ * ⟨cst b⟩) = E ⟨cst (a * b)⟩
  congr 1
  ext k
  rw [cst_c]
  cases k with
  | zero => rfl
  | succ k => exact Int.mul_zero a
theorem kc_mod (hp : 0 < p) (a : Int) : kc p (a % p) = kc p a := sound (.ofc fun k => by
  cases k with
  | zero => exact Int.emod_emod_of_dvd a (Int.dvd_refl p)
  | succ k => rfl)
theorem e_inj (hp : 0 < p) {xs ys : List Int} (hx : Pl p xs) (hy : Pl p ys) (h : e p xs = e p ys) : xs = ys := canon hp hx.r hy.r hx.t hy.t (exact h)
/-- of finitely many numbers -/
def Fi (x : QP p) : Prop := ∃ l : List Int, x = e p l
theorem Fi.of (l : List Int) : Fi (e p l) := ⟨l, rfl⟩
theorem Fi.po {f : PS} (h : Po f) : Fi (E f : QP p) := let ⟨l, h⟩ := h; ⟨l, by rw [h]; rfl⟩
theorem Fi.mul {x y : QP p} : Fi x → Fi y → Fi (x * y) := fun ⟨a, ha⟩ ⟨b, hb⟩ => ⟨prod p a b, by rw [e_prod, ha, hb]⟩
theorem Fi.add {x y : QP p} : Fi x → Fi y → Fi (x + y) := fun ⟨a, ha⟩ ⟨b, hb⟩ => ⟨addScaled p a b 1, by rw [e_add, ha, hb, kc_one]; grind⟩
theorem Fi.sub {x y : QP p} : Fi x → Fi y → Fi (x - y) := fun ⟨a, ha⟩ ⟨b, hb⟩ => ⟨addScaled p a b (-1), by rw [e_add, ha, hb, kc_neg]; grind⟩
theorem Fi.kc (n : Int) : Fi (K0.kc p n) := ⟨[n], by
  show E ⟨cst n⟩ = E (co [n])
  congr 1
  ext k
  cases k <;> rfl⟩
theorem Fi.zero : Fi (0 : QP p) := ⟨[], e_nil.symm⟩
theorem Fi.one : Fi (1 : QP p) := ⟨[1], e_one.symm⟩
/-- as a polynomial -/
theorem Fi.pl (hp : 0 < p) {x : QP p} (h : Fi x) : ∃ l, Pl p l ∧ x = e p l := by
  obtain ⟨l, rfl⟩ := h
  refine ⟨trim (l.map (· % p)), ⟨(red_mod hp l).trim, trim_trim _⟩, sound ?_⟩
  rw [co_trim]
  exact (co_mod l).symm
theorem Pl.inv (hp : Pr p) {ys : List Int} (h : Pl p ys) (hne : ys ≠ []) : Inv p ys := Inv.mk' hp h.r h.t hne
theorem Pl.one (hp : Pr p) : Pl p [1] := ⟨red_one hp.le.1, rfl⟩
theorem Pl.nil : Pl p [] := ⟨fun n hn => by simp at hn, rfl⟩
theorem Pl.prod (hp : 0 < p) (xs ys : List Int) : Pl p (prod p xs ys) := ⟨prod_red hp _ _, prod_trim _ _ _⟩
theorem Pl.add (hp : 0 < p) (xs ys : List Int) (f : Int) : Pl p (addScaled p xs ys f) := ⟨addScaled_red hp _ _ _, addScaled_trim _ _ _ _⟩
theorem Pl.scale (hp : 0 < p) {xs : List Int} (h : Pl p xs) (f : Int) : Pl p (scale p xs f) := ⟨scale_red hp h.r f, scale_trim p h.t f⟩
theorem Pl.div1 (hp : 0 < p) {xs : List Int} (h : Pl p xs) (ys : List Int) : Pl p (divide p xs ys).1 := ⟨(divide_red hp ys h.r).1, (divide_trim p xs ys).1⟩
theorem Pl.div2 (hp : 0 < p) {xs : List Int} (h : Pl p xs) (ys : List Int) : Pl p (divide p xs ys).2 := ⟨(divide_red hp ys h.r).2, (divide_trim p xs ys).2⟩
theorem e_zero (hp : 0 < p) {xs : List Int} (h : Pl p xs) (hz : e p xs = 0) : xs = [] := e_inj hp h .nil (by rw [hz, e_nil])
/-- no zero divisors -/
theorem cancel (hp : Pr p) {x y : QP p} {ys : List Int} (hx : Fi x) (hy : Fi y) (h : Pl p ys) (hne : ys ≠ []) (hm : x * e p ys = y * e p ys) : x = y := by
  have hp0 : 0 < p := by have := hp.le; omega
  obtain ⟨a, rfl⟩ := hx
  obtain ⟨b, rfl⟩ := hy
  have hl := List.length_pos_iff.mpr hne
  have hm' : MEq p (co a * co ys) (co b * co ys) := exact hm
  refine sound (div_uniq (h.inv hp hne) (r := []) (r2 := []) (q := a) (q2 := b) hl hl ?_).1
  rw [co_nil]
  obtain ⟨z, hz⟩ := hm'
  exact ⟨z, by grind⟩
theorem mul_ne (hp : Pr p) {xs ys : List Int} (hx : Pl p xs) (hy : Pl p ys) (nx : xs ≠ []) (ny : ys ≠ []) : e p xs * e p ys ≠ 0 := fun hz => by
  have hp0 : 0 < p := by have := hp.le; omega
  have := cancel hp (x := e p xs) (y := 0) (.of _) .zero hy ny (by rw [hz]; grind)
  exact nx (e_zero hp0 hx this)
/-- a division that goes out -/
theorem div_out (hp : Pr p) {xs ys : List Int} {T : QP p} (hx : Pl p xs) (hy : Pl p ys) (ny : ys ≠ []) (hT : Fi T) (h : e p xs = T * e p ys) : e p (divide p xs ys).1 = T ∧ (divide p xs ys).2 = [] := by
  have hp0 : 0 < p := by have := hp.le; omega
  obtain ⟨t, rfl⟩ := hT
  have hd := co_divide hp0 hx.r (hy.inv hp ny)
  have hl := List.length_pos_iff.mpr ny
  have z := div_uniq (q := (divide p xs ys).1) (r := (divide p xs ys).2) (q2 := t) (r2 := []) (hy.inv hp ny) (divide_len2 p xs ny) (by rw [List.length_nil]; exact hl) (hd.symm.trans ((exact h).trans (.of (by rw [co_nil]; grind))))
  refine ⟨sound z.1, e_zero hp0 (hx.div2 hp0 ys) ?_⟩
  exact (sound z.2).trans e_nil
/-- degrees add up -/
theorem len_mul (hp : Pr p) {xs ys zs : List Int} (hx : Pl p xs) (hy : Pl p ys) (hz : Pl p zs) (nx : xs ≠ []) (ny : ys ≠ []) (h : e p zs = e p xs * e p ys) : zs.length + 1 = xs.length + ys.length := by
  have hp0 : 0 < p := by have := hp.le; omega
  have hd := div_out hp hz hy ny (.of xs) h
  have e1 : (divide p zs ys).1 = xs := e_inj hp0 (hz.div1 hp0 ys) hx hd.1
  have l1 := divide_len1 p zs ys
  rw [e1] at l1
  have lx := List.length_pos_iff.mpr nx
  have e2 : prod p xs ys = zs := e_inj hp0 (.prod hp0 xs ys) hz (by rw [e_prod, h])
  have l2 := prod_len1 hp0 xs ys
  rw [e2] at l2
  have ly := List.length_pos_iff.mpr ny
  omega
end K0
namespace K0
open M QP
variable {p : Int}
/-! ### common divisors in the ring -/
theorem tr_pl (hp : 0 < p) : ∀ (n : Nat) (old new left right : List Int), Pl p old → Pl p new → Pl p (trIter p n old new left right).1
  | 0, _, _, _, _, h, _ => h
  | n + 1, old, new, left, right, h, h2 => by
    rw [trIter]
    by_cases hy : new = []
    · rw [if_pos hy]
      exact h
    · rw [if_neg hy]
      exact tr_pl hp n _ _ _ _ h2 (h.div2 hp new)
/-- monic -/
def Mo (xs : List Int) : Prop := xs ≠ [] ∧ xs.getLastD 0 = 1
theorem Mo.one : Mo [1] := ⟨by simp, rfl⟩
structure Com (p : Int) (xs ys g : List Int) : Prop where
  pl : Pl p g
  zero : xs = [] → ys = [] → g = []
  mo : xs ≠ [] ∨ ys ≠ [] → Mo g
  dv : ∃ a b : QP p, Fi a ∧ Fi b ∧ e p xs = a * e p g ∧ e p ys = b * e p g
  bz : ∃ u v : QP p, Fi u ∧ Fi v ∧ u * e p xs + v * e p ys = e p g
theorem last_range {xs : List Int} (h : Pl p xs) (hne : xs ≠ []) : 0 < xs.getLastD 0 ∧ xs.getLastD 0 < p := by
  have h1 := trim_last h.t hne
  have h2 := h.r (xs.getLastD 0) (by
    rw [List.getLastD_eq_getLast?, List.getLast?_eq_some_getLast hne]
    exact List.getLast_mem hne)
  omega
theorem kc_inv (hp : Pr p) {n : Int} (h0 : 0 < n) (h1 : n < p) : kc p (inv p n) * kc p n = 1 := by
  have hle := hp.le
  rw [kc_mul, ← kc_mod (by omega), inv_pr hp h0 h1]
  rfl
theorem com_ok (hp : Pr p) {xs ys : List Int} (hx : Pl p xs) (hy : Pl p ys) (lx : xs.length ≤ 400) (ly : ys.length ≤ 400) : Com p xs ys (common p xs ys) := by
  have hle := hp.le
  have hp0 : 0 < p := by omega
  have P := paper_ok hp hx.r hy.r hx.t hy.t lx ly
  have hpl : Pl p (common p xs ys) := ⟨P.c ▸ P.rc, P.c ▸ P.tc⟩
  have hold := tr_pl hp0 (ys.length + 1) xs ys [1] [] hx hy
  obtain ⟨a, b, pa, pb, ha, hb⟩ := tr_div hp (ys.length + 1) xs ys [1] [] (by omega) hx.r hy.r hy.t
  have hg : common p xs ys = makeMonic p (trIter p (ys.length + 1) xs ys [1] []).1 := by
    rw [tr_monic]
    exact comIter_law hp _ _ _ (by omega) hx.r hy.r hy.t
  have qa : e p xs = E a * e p (trIter p (ys.length + 1) xs ys [1] []).1 := sound ha
  have qb : e p ys = E b * e p (trIter p (ys.length + 1) xs ys [1] []).1 := sound hb
  generalize (trIter p (ys.length + 1) xs ys [1] []).1 = old at hold ha hb hg qa qb
  rw [makeMonic_eq hp] at hg
  have bz : ∃ u v : QP p, Fi u ∧ Fi v ∧ u * e p xs + v * e p ys = e p (common p xs ys) := by
    refine ⟨e p (triple p xs ys).a, e p (triple p xs ys).b, .of _, .of _, ?_⟩
    rw [← P.c, ← P.made, e_add, e_prod, e_prod, kc_one]
    grind
  by_cases ho : old = []
  · subst ho
    have zx : xs = [] := e_zero hp0 hx (by rw [qa, e_nil]; grind)
    have zy : ys = [] := e_zero hp0 hy (by rw [qb, e_nil]; grind)
    have zg : common p xs ys = [] := by
      rw [hg]
      exact e_zero hp0 (Pl.scale hp0 .nil _) (by rw [e_scale, e_nil]; grind)
    refine ⟨hpl, fun _ _ => zg, fun h => ?_, ⟨0, 0, .zero, .zero, ?_, ?_⟩, bz⟩
    · rcases h with h | h
      · exact absurd zx h
      · exact absurd zy h
    · rw [zx, e_nil]
      grind
    · rw [zy, e_nil]
      grind
  · obtain ⟨r0, r1⟩ := last_range hold ho
    have ki := kc_inv hp r0 r1
    have eg : e p (common p xs ys) = kc p (inv p (old.getLastD 0)) * e p old := by rw [hg, e_scale]
    have ml := monic_len (hold.inv hp ho)
    rw [← hg] at ml
    have gne : common p xs ys ≠ [] := fun z => by
      rw [z] at ml
      have := List.length_pos_iff.mpr ho
      simp at ml
    have gl := last_range hpl gne
    have gm : Mo (common p xs ys) := ⟨gne, by
      have := ml.2
      rw [Int.emod_eq_of_lt (Int.le_of_lt gl.1) gl.2] at this
      exact this⟩
    refine ⟨hpl, fun zx zy => ?_, fun _ => gm, ⟨E a * kc p (old.getLastD 0), E b * kc p (old.getLastD 0), (Fi.po pa).mul (.kc _), (Fi.po pb).mul (.kc _), ?_, ?_⟩, bz⟩
    · exfalso
      obtain ⟨u, v, _, _, huv⟩ := bz
      have ex : e p xs = 0 := by rw [zx, e_nil]
      have ey : e p ys = 0 := by rw [zy, e_nil]
      rw [ex, ey] at huv
      exact gne (e_zero hp0 hpl (by rw [← huv]; grind))
    · rw [eg, qa]
      grind
    · rw [eg, qb]
      grind
/-! ### without a common divisor -/
def Cop (x y : QP p) : Prop := ∃ u v : QP p, Fi u ∧ Fi v ∧ u * x + v * y = 1
theorem Cop.symm {x y : QP p} : Cop x y → Cop y x := fun ⟨u, v, hu, hv, h⟩ => ⟨v, u, hv, hu, by grind⟩
theorem Cop.one {x : QP p} : Cop x 1 := ⟨0, 1, .zero, .one, by grind⟩
theorem Cop.mul {x y z : QP p} (fx : Fi x) (fy : Fi y) (fz : Fi z) : Cop x y → Cop x z → Cop x (y * z) := fun ⟨u, v, hu, hv, h⟩ ⟨u2, v2, hu2, hv2, h2⟩ =>
  ⟨u * u2 * x + u * v2 * z + v * y * u2, v * v2, (((hu.mul hu2).mul fx).add ((hu.mul hv2).mul fz)).add ((hv.mul fy).mul hu2), hv.mul hv2, by
    have : (u * x + v * y) * (u2 * x + v2 * z) = 1 := by rw [h, h2]; grind
    grind⟩
theorem Cop.part {x y k : QP p} (fk : Fi k) : Cop (x * k) y → Cop x y := fun ⟨u, v, hu, hv, h⟩ => ⟨u * k, v, hu.mul fk, hv, by grind⟩
theorem Cop.plus {x y t : QP p} (ft : Fi t) : Cop x y → Cop (x + y * t) y := fun ⟨u, v, hu, hv, h⟩ => ⟨u, v - u * t, hu, hv.sub (hu.mul ft), by grind⟩
/-! ### functions in lowest terms -/
structure NF (p : Int) (f : List Int × List Int) : Prop where
  t : Pl p f.1
  b : Pl p f.2
  mo : Mo f.2
  cop : Cop (e p f.1) (e p f.2)
theorem NF.nb {f : List Int × List Int} (h : NF p f) : f.2 ≠ [] := h.mo.1
theorem mo_uniq (hp : Pr p) {b c : List Int} {T S : QP p} (hb : Pl p b) (hc : Pl p c) (mb : Mo b) (mc : Mo c) (fT : Fi T) (fS : Fi S) (h1 : e p c = T * e p b) (h2 : e p b = S * e p c) : b = c := by
  have hp0 : 0 < p := by have := hp.le; omega
  obtain ⟨t, pt, rfl⟩ := fT.pl hp0
  obtain ⟨s, ps, rfl⟩ := fS.pl hp0
  have tn : t ≠ [] := fun z => mc.1 (e_zero hp0 hc (by rw [h1, z, e_nil]; grind))
  have sn : s ≠ [] := fun z => mb.1 (e_zero hp0 hb (by rw [h2, z, e_nil]; grind))
  have l1 := len_mul hp pt hb hc tn mb.1 h1
  have l2 := len_mul hp ps hc hb sn mc.1 h2
  have lt := List.length_pos_iff.mpr tn
  have ls := List.length_pos_iff.mpr sn
  have l3 : t.length = 1 := by omega
  have l4 : c.length = b.length := by omega
  match ht : t, l3 with
  | [n], _ =>
    have rn := pt.r n List.mem_cons_self
    have hm : MEq p (co c) (co [n] * co b) := exact h1
    have hk := hm.c (c.length - 1)
    have ec : co [n] = ⟨cst n⟩ := by
      ext k
      cases k <;> rfl
    rw [ec, cst_c, ← lastD_co mc.1, l4, ← lastD_co mb.1, mc.2, mb.2, Int.mul_one, Int.emod_eq_of_lt rn.1 rn.2, Int.emod_eq_of_lt (by decide) (by have := hp.le; omega)] at hk
    refine e_inj hp0 hb hc ?_
    rw [h1, ← hk, e_one]
    grind
/-- a function is told by its quotient -/
theorem nf_uniq (hp : Pr p) {f g : List Int × List Int} (hf : NF p f) (hg : NF p g) (h : e p f.1 * e p g.2 = e p g.1 * e p f.2) : f = g := by
  have hp0 : 0 < p := by have := hp.le; omega
  obtain ⟨u, v, fu, fv, h1⟩ := hf.cop
  obtain ⟨u2, v2, fu2, fv2, h2⟩ := hg.cop
  have eb : f.2 = g.2 := mo_uniq hp hf.b hg.b hf.mo hg.mo (T := u * e p g.1 + v * e p g.2) (S := u2 * e p f.1 + v2 * e p f.2) ((fu.mul (.of _)).add (fv.mul (.of _))) ((fu2.mul (.of _)).add (fv2.mul (.of _))) (by grind) (by grind)
  have et : f.1 = g.1 := by
    refine e_inj hp0 hf.t hg.t (cancel hp (.of _) (.of _) hf.b hf.nb ?_)
    rw [← eb] at h
    exact h
  exact Prod.ext et eb
/-- f is the quotient of x and y -/
def Re (f : List Int × List Int) (x y : QP p) : Prop := e p f.1 * y = x * e p f.2
theorem Re.self (f : List Int × List Int) : Re f (e p f.1) (e p f.2) := rfl
/-- of no zero divisor -/
def Nz (y : QP p) : Prop := ∃ l, Pl p l ∧ l ≠ [] ∧ y = e p l
theorem Nz.of {l : List Int} (h : Pl p l) (hn : l ≠ []) : Nz (e p l) := ⟨l, h, hn, rfl⟩
theorem Nz.fi {y : QP p} : Nz y → Fi y := fun ⟨l, _, _, h⟩ => ⟨l, h⟩
theorem Nz.mul (hp : Pr p) {x y : QP p} : Nz x → Nz y → Nz (x * y) := fun ⟨a, ha, na, ea⟩ ⟨b, hb, nb, eb⟩ => by
  have hp0 : 0 < p := by have := hp.le; omega
  refine ⟨prod p a b, .prod hp0 a b, fun z => ?_, by rw [e_prod, ea, eb]⟩
  have := e_prod (p := p) a b
  rw [z, e_nil] at this
  exact mul_ne hp ha hb na nb this.symm
theorem Nz.one (hp : Pr p) : Nz (1 : QP p) := ⟨[1], .one hp, by simp, e_one.symm⟩
theorem Nz.cancel (hp : Pr p) {x y z : QP p} (hz : Nz z) (hx : Fi x) (hy : Fi y) (h : x * z = y * z) : x = y := by
  obtain ⟨l, hl, hn, rfl⟩ := hz
  exact K0.cancel hp hx hy hl hn h
theorem re_uniq (hp : Pr p) {f g : List Int × List Int} {x y x2 y2 : QP p} (hf : NF p f) (hg : NF p g) (h1 : Re f x y) (h2 : Re g x2 y2) (ny : Nz y) (ny2 : Nz y2) (h : x * y2 = x2 * y) : f = g := by
  refine nf_uniq hp hf hg (Nz.cancel hp (ny.mul hp ny2) ((Fi.of _).mul (.of _)) ((Fi.of _).mul (.of _)) ?_)
  unfold Re at h1 h2
  grind
end K0
namespace K0
open M QP
variable {p : Int}
/-! ### what the quotient of two polynomials is in lowest terms -/
def nf (p : Int) (t b : List Int) : List Int × List Int :=
  if t = [] then ([], [1]) else
    (scale p (divide p t (common p t b)).1 (inv p ((divide p b (common p t b)).1.getLastD 0)), scale p (divide p b (common p t b)).1 (inv p ((divide p b (common p t b)).1.getLastD 0)))
theorem NF.zero (hp : Pr p) : NF p ([], [1]) := ⟨.nil, .one hp, .one, by rw [e_one]; exact .one⟩
/-- shortened by a divisor that takes all in common, a monic top left as it is -/
theorem short_ok (hp : Pr p) {t b g : List Int} (ht : Pl p t) (hb : Pl p b) (nb : b ≠ []) (C : Com p t b g) :
    ∃ X Y : QP p, Fi X ∧ Fi Y ∧ e p (divide p t g).1 = X ∧ e p (divide p b g).1 = Y ∧ e p t = X * e p g ∧ e p b = Y * e p g ∧ Cop X Y ∧ g ≠ [] ∧ (divide p b g).1 ≠ [] := by
  have hp0 : 0 < p := by have := hp.le; omega
  obtain ⟨a, c, fa, fc, ha, hc⟩ := C.dv
  have gm := C.mo (.inr nb)
  obtain ⟨u, v, fu, fv, hu⟩ := C.bz
  have da := div_out hp ht C.pl gm.1 fa ha
  have dc := div_out hp hb C.pl gm.1 fc hc
  refine ⟨a, c, fa, fc, da.1, dc.1, ha, hc, ⟨u, v, fu, fv, ?_⟩, gm.1, fun z => ?_⟩
  · refine cancel hp ((fu.mul fa).add (fv.mul fc)) .one C.pl gm.1 ?_
    grind
  · have : c = 0 := by rw [← dc.1, z, e_nil]
    exact nb (e_zero hp0 hb (by rw [hc, this]; grind))
theorem scale_last (hp : Pr p) {xs : List Int} (hx : Pl p xs) (nx : xs ≠ []) : Mo (scale p xs (inv p (xs.getLastD 0))) := by
  have hp0 : 0 < p := by have := hp.le; omega
  have ml := monic_len (hx.inv hp nx)
  have hs := hx.scale hp0 (inv p (xs.getLastD 0))
  have ne : scale p xs (inv p (xs.getLastD 0)) ≠ [] := fun z => by
    rw [z] at ml
    have := List.length_pos_iff.mpr nx
    simp at ml
  have gl := last_range hs ne
  refine ⟨ne, ?_⟩
  have := ml.2
  rw [Int.emod_eq_of_lt (Int.le_of_lt gl.1) gl.2] at this
  exact this
theorem nf_ok (hp : Pr p) {t b : List Int} (ht : Pl p t) (hb : Pl p b) (nb : b ≠ []) (lt : t.length ≤ 400) (lb : b.length ≤ 400) : NF p (nf p t b) ∧ Re (nf p t b) (e p t) (e p b) := by
  have hp0 : 0 < p := by have := hp.le; omega
  unfold nf
  by_cases hz : t = []
  · rw [if_pos hz]
    refine ⟨.zero hp, ?_⟩
    show e p [] * e p b = e p t * e p [1]
    rw [hz, e_nil]
    grind
  · rw [if_neg hz]
    have C := com_ok hp ht hb lt lb
    obtain ⟨X, Y, fX, fY, eX, eY, tX, bY, cop, gne, ne⟩ := short_ok hp ht hb nb C
    have pX := ht.div1 hp0 (common p t b)
    have pY := hb.div1 hp0 (common p t b)
    generalize (divide p t (common p t b)).1 = x at *
    generalize (divide p b (common p t b)).1 = y at *
    obtain ⟨r0, r1⟩ := last_range pY ne
    have ki := kc_inv hp r0 r1
    refine ⟨⟨pX.scale hp0 _, pY.scale hp0 _, scale_last hp pY ne, ?_⟩, ?_⟩
    · show Cop (e p (scale p x _)) (e p (scale p y _))
      rw [e_scale, e_scale, eX, eY]
      obtain ⟨u, v, fu, fv, h⟩ := cop
      exact ⟨u * kc p (y.getLastD 0), v * kc p (y.getLastD 0), fu.mul (.kc _), fv.mul (.kc _), by grind⟩
    · show e p (scale p x _) * e p b = e p t * e p (scale p y _)
      rw [e_scale, e_scale, eX, eY, tX, bY]
      grind
theorem nf_is (hp : Pr p) {t b : List Int} {f : List Int × List Int} (ht : Pl p t) (hb : Pl p b) (nb : b ≠ []) (lt : t.length ≤ 400) (lb : b.length ≤ 400) (hf : NF p f) (h : Re f (e p t) (e p b)) : f = nf p t b := by
  have N := nf_ok hp ht hb nb lt lb
  exact re_uniq hp hf N.1 h N.2 (.of hb nb) (.of hb nb) rfl
theorem divide_len1' (p : Int) {xs ys : List Int} (h : ys ≠ []) : (divide p xs ys).1.length ≤ xs.length := by
  have := divide_len1 p xs ys
  have := List.length_pos_iff.mpr h
  omega
theorem nf_len (hp : Pr p) {t b : List Int} (ht : Pl p t) (hb : Pl p b) (nb : b ≠ []) (lt : t.length ≤ 400) (lb : b.length ≤ 400) : (nf p t b).1.length ≤ t.length ∧ (nf p t b).2.length ≤ b.length := by
  have hl := List.length_pos_iff.mpr nb
  unfold nf
  by_cases hz : t = []
  · rw [if_pos hz]
    exact ⟨Nat.zero_le _, hl⟩
  · rw [if_neg hz]
    have C := com_ok hp ht hb lt lb
    have g1 := (C.mo (.inr nb)).1
    exact ⟨Nat.le_trans (scale_len _ _ _) (divide_len1' p g1), Nat.le_trans (scale_len _ _ _) (divide_len1' p g1)⟩
theorem nf_self (hp : Pr p) {f : List Int × List Int} (hf : NF p f) (l1 : f.1.length ≤ 400) (l2 : f.2.length ≤ 400) : nf p f.1 f.2 = f := (nf_is hp hf.t hf.b hf.nb l1 l2 hf (Re.self f)).symm
/-! ### the package's ways -/
/-- top and bottom over their common divisor, by the bottom's last number -/
def lowest (p : Int) (t b : List Int) : List Int × List Int := (scale p (quotientOf p t (common p t b)) (inv p (b.getLastD 0)), scale p (quotientOf p b (common p t b)) (inv p (b.getLastD 0)))
theorem last_mul (hp : Pr p) {x g b : List Int} (hx : Pl p x) (hg : Pl p g) (hb : Pl p b) (mg : Mo g) (nx : x ≠ []) (nb : b ≠ []) (h : e p b = e p x * e p g) : x.getLastD 0 = b.getLastD 0 := by
  have hp0 : 0 < p := by have := hp.le; omega
  have l := len_mul hp hx hg hb nx mg.1 h
  have hm : MEq p (co b) (co x * co g) := exact h
  have hk := hm.c (b.length - 1)
  have lx := List.length_pos_iff.mpr nx
  have lg := List.length_pos_iff.mpr mg.1
  rw [← lastD_co nb, PS.mul_c, show b.length - 1 = (x.length - 1) + (g.length - 1) by omega, mulc_top (p := p) (m := g.length - 1) (g := (co g).c) (fun j hj => co_far (by omega)) (x.length - 1) (co x).c (fun i hi => by rw [co_far (by omega)]; rfl), ← lastD_co nx, ← lastD_co mg.1, mg.2, Int.mul_one] at hk
  have r1 := last_range hx nx
  have r2 := last_range hb nb
  rw [Int.emod_eq_of_lt (by omega) r1.2, Int.emod_eq_of_lt (by omega) r2.2] at hk
  exact hk.symm
theorem lowest_ok (hp : Pr p) {t b : List Int} (ht : Pl p t) (hb : Pl p b) (nb : b ≠ []) (lt : t.length ≤ 400) (lb : b.length ≤ 400) : lowest p t b = nf p t b := by
  have hp0 : 0 < p := by have := hp.le; omega
  have C := com_ok hp ht hb lt lb
  obtain ⟨X, Y, fX, fY, eX, eY, tX, bY, cop, gne, ne⟩ := short_ok hp ht hb nb C
  unfold lowest
  rw [quotientOf_eq hp ht.r ht.t, quotientOf_eq hp hb.r hb.t]
  have pX := ht.div1 hp0 (common p t b)
  have pY := hb.div1 hp0 (common p t b)
  have hl := last_mul hp pY C.pl hb (C.mo (.inr nb)) ne nb (by rw [eY]; exact bY)
  rw [← hl]
  refine nf_is hp ht hb nb lt lb ?_ ?_
  · obtain ⟨r0, r1⟩ := last_range pY ne
    have ki := kc_inv hp r0 r1
    refine ⟨pX.scale hp0 _, pY.scale hp0 _, scale_last hp pY ne, ?_⟩
    show Cop (e p (scale p _ _)) (e p (scale p _ _))
    rw [e_scale, e_scale, eX, eY]
    obtain ⟨u, v, fu, fv, h⟩ := cop
    exact ⟨u * kc p ((divide p b (common p t b)).1.getLastD 0), v * kc p ((divide p b (common p t b)).1.getLastD 0), fu.mul (.kc _), fv.mul (.kc _), by grind⟩
  · show e p (scale p _ _) * e p b = e p t * e p (scale p _ _)
    rw [e_scale, e_scale, eX, eY, tX, bY]
    grind
theorem mo_div (hp : Pr p) {b g : List Int} (hb : Pl p b) (hg : Pl p g) (mb : Mo b) (mg : Mo g) {Y : QP p} (fY : Fi Y) (h : e p b = Y * e p g) : Mo (divide p b g).1 := by
  have hp0 : 0 < p := by have := hp.le; omega
  have d := div_out hp hb hg mg.1 fY h
  have ne : (divide p b g).1 ≠ [] := fun z => by
    have : Y = 0 := by rw [← d.1, z, e_nil]
    exact mb.1 (e_zero hp0 hb (by rw [h, this]; grind))
  refine ⟨ne, ?_⟩
  rw [last_mul hp (hb.div1 hp0 g) hg hb mg ne mb.1 (by rw [d.1]; exact h)]
  exact mb.2
theorem mo_prod (hp : Pr p) {a b : List Int} (ha : Pl p a) (hb : Pl p b) (ma : Mo a) (mb : Mo b) : Mo (prod p a b) := by
  have hp0 : 0 < p := by have := hp.le; omega
  have ne : prod p a b ≠ [] := fun z => by
    have := e_prod (p := p) a b
    rw [z, e_nil] at this
    exact mul_ne hp ha hb ma.1 mb.1 this.symm
  refine ⟨ne, ?_⟩
  rw [← last_mul hp ha hb (.prod hp0 a b) mb ma.1 ne (e_prod a b)]
  exact ma.2
/-- a quotient whose common divisors all divide c, shortened -/
def shorten (p : Int) (t b c : List Int) : List Int × List Int := (quotientOf p t (common p t c), quotientOf p b (common p t c))
theorem shorten_ok (hp : Pr p) {t b c : List Int} {R : QP p} (ht : Pl p t) (hb : Pl p b) (hc : Pl p c) (mb : Mo b) (mc : Mo c) (lt : t.length ≤ 400) (lb : b.length ≤ 400) (lc : c.length ≤ 400) (fR : Fi R) (hR : e p b = R * e p c) (cop : Cop (e p t) R) : shorten p t b c = nf p t b := by
  have hp0 : 0 < p := by have := hp.le; omega
  have C := com_ok hp ht hc lt lc
  obtain ⟨X, Y, fX, fY, eX, eY, tX, cY, cop2, gne, ne⟩ := short_ok hp ht hc mc.1 C
  have gm := C.mo (.inr mc.1)
  have hbg : e p b = (R * Y) * e p (common p t c) := by rw [hR, cY]; grind
  have db := div_out hp hb C.pl gne (fR.mul fY) hbg
  unfold shorten
  rw [quotientOf_eq hp ht.r ht.t, quotientOf_eq hp hb.r hb.t]
  refine nf_is hp ht hb mb.1 lt lb ⟨ht.div1 hp0 _, hb.div1 hp0 _, mo_div hp hb C.pl mb gm (fR.mul fY) hbg, ?_⟩ ?_
  · show Cop (e p (divide p t _).1) (e p (divide p b _).1)
    rw [eX, db.1]
    refine Cop.mul fX fR fY ?_ cop2
    rw [tX] at cop
    exact cop.part (.of _)
  · show e p (divide p t _).1 * e p b = e p t * e p (divide p b _).1
    rw [eX, db.1, tX, hbg]
    grind
end K0
namespace K0
open M QP
variable {p : Int}
/-! ### sums, products, quotients, powers of functions -/
def fAdd (p : Int) (F G : List Int × List Int) (f : Int) : List Int × List Int := nf p (addScaled p (prod p F.1 G.2) (prod p G.1 F.2) f) (prod p F.2 G.2)
def fMul (p : Int) (F G : List Int × List Int) : List Int × List Int := nf p (prod p F.1 G.1) (prod p F.2 G.2)
def fBack (p : Int) (F : List Int × List Int) : List Int × List Int := nf p F.2 F.1
def fPow (p : Int) (F : List Int × List Int) : Nat → List Int × List Int
  | 0 => ([1], [1])
  | n + 1 => fMul p (fPow p F n) F
/-- lengths that all ways bear -/
def Le (m : Nat) (F : List Int × List Int) : Prop := F.1.length ≤ m ∧ F.2.length ≤ m
theorem Le.mono {m n : Nat} {F : List Int × List Int} (h : Le m F) (hn : m ≤ n) : Le n F := ⟨Nat.le_trans h.1 hn, Nat.le_trans h.2 hn⟩
theorem prod_ne (hp : Pr p) {a b : List Int} (ha : Pl p a) (hb : Pl p b) (na : a ≠ []) (nb : b ≠ []) : prod p a b ≠ [] := fun z => by
  have := e_prod (p := p) a b
  rw [z, e_nil] at this
  exact mul_ne hp ha hb na nb this.symm
theorem nf_le (hp : Pr p) {t b : List Int} {m : Nat} (ht : Pl p t) (hb : Pl p b) (nb : b ≠ []) (h : Le m (t, b)) (hm : m ≤ 400) : Le m (nf p t b) := by
  have := nf_len hp ht hb nb (Nat.le_trans h.1 hm) (Nat.le_trans h.2 hm)
  exact ⟨Nat.le_trans this.1 h.1, Nat.le_trans this.2 h.2⟩
theorem fAdd_ok (hp : Pr p) {F G : List Int × List Int} {m n : Nat} (hF : NF p F) (hG : NF p G) (lF : Le m F) (lG : Le n G) (hm : m + n ≤ 400) (f : Int) : NF p (fAdd p F G f) ∧ Re (fAdd p F G f) (e p F.1 * e p G.2 + kc p f * (e p G.1 * e p F.2)) (e p F.2 * e p G.2) ∧ Le (m + n) (fAdd p F G f) := by
  have hp0 : 0 < p := by have := hp.le; omega
  have l1 := prod_len p F.1 G.2
  have l2 := prod_len p G.1 F.2
  have l3 := prod_len p F.2 G.2
  have l4 := addScaled_len p (prod p F.1 G.2) (prod p G.1 F.2) f
  have := lF.1
  have := lF.2
  have := lG.1
  have := lG.2
  have L : Le (m + n) (addScaled p (prod p F.1 G.2) (prod p G.1 F.2) f, prod p F.2 G.2) := ⟨by show (addScaled _ _ _ _).length ≤ _; omega, by show (prod _ _ _).length ≤ _; omega⟩
  have N := nf_ok hp (t := addScaled p (prod p F.1 G.2) (prod p G.1 F.2) f) (b := prod p F.2 G.2) (.add hp0 _ _ _) (.prod hp0 _ _) (prod_ne hp hF.b hG.b hF.nb hG.nb) (Nat.le_trans L.1 hm) (Nat.le_trans L.2 hm)
  refine ⟨N.1, ?_, nf_le hp (.add hp0 _ _ _) (.prod hp0 _ _) (prod_ne hp hF.b hG.b hF.nb hG.nb) L hm⟩
  have h := N.2
  rw [e_add, e_prod, e_prod, e_prod] at h
  exact h
theorem fMul_ok (hp : Pr p) {F G : List Int × List Int} {m n : Nat} (hF : NF p F) (hG : NF p G) (lF : Le m F) (lG : Le n G) (hm : m + n ≤ 400) : NF p (fMul p F G) ∧ Re (fMul p F G) (e p F.1 * e p G.1) (e p F.2 * e p G.2) ∧ Le (m + n) (fMul p F G) := by
  have hp0 : 0 < p := by have := hp.le; omega
  have l1 := prod_len p F.1 G.1
  have l3 := prod_len p F.2 G.2
  have := lF.1
  have := lF.2
  have := lG.1
  have := lG.2
  have L : Le (m + n) (prod p F.1 G.1, prod p F.2 G.2) := ⟨by show (prod _ _ _).length ≤ _; omega, by show (prod _ _ _).length ≤ _; omega⟩
  have N := nf_ok hp (t := prod p F.1 G.1) (b := prod p F.2 G.2) (.prod hp0 _ _) (.prod hp0 _ _) (prod_ne hp hF.b hG.b hF.nb hG.nb) (Nat.le_trans L.1 hm) (Nat.le_trans L.2 hm)
  refine ⟨N.1, ?_, nf_le hp (.prod hp0 _ _) (.prod hp0 _ _) (prod_ne hp hF.b hG.b hF.nb hG.nb) L hm⟩
  have h := N.2
  rw [e_prod, e_prod] at h
  exact h
theorem fBack_ok (hp : Pr p) {F : List Int × List Int} {m : Nat} (hF : NF p F) (nz : F.1 ≠ []) (lF : Le m F) (hm : m ≤ 400) : NF p (fBack p F) ∧ Re (fBack p F) (e p F.2) (e p F.1) ∧ Le m (fBack p F) := by
  have N := nf_ok hp hF.b hF.t nz (Nat.le_trans lF.2 hm) (Nat.le_trans lF.1 hm)
  exact ⟨N.1, N.2, nf_le hp hF.b hF.t nz ⟨lF.2, lF.1⟩ hm⟩
/-- the package's sum -/
def gAdd (p : Int) (F G : List Int × List Int) (f : Int) : List Int × List Int :=
  shorten p (addScaled p (prod p F.1 (quotientOf p G.2 (if G.2 = F.2 then F.2 else common p F.2 G.2))) (prod p G.1 (quotientOf p F.2 (if G.2 = F.2 then F.2 else common p F.2 G.2))) f)
    (prod p F.2 (quotientOf p G.2 (if G.2 = F.2 then F.2 else common p F.2 G.2))) (if G.2 = F.2 then F.2 else common p F.2 G.2)
theorem quot_len (hp : Pr p) {xs ys : List Int} (hx : Pl p xs) (ny : ys ≠ []) : (quotientOf p xs ys).length ≤ xs.length := by
  rw [quotientOf_eq hp hx.r hx.t]
  exact divide_len1' p ny
theorem com_len (hp : Pr p) {xs ys g : List Int} (hx : Pl p xs) (nx : xs ≠ []) (C : Com p xs ys g) : g.length ≤ xs.length := by
  have hp0 : 0 < p := by have := hp.le; omega
  obtain ⟨a, b, fa, fb, ha, hb⟩ := C.dv
  obtain ⟨l, pl, rfl⟩ := fa.pl hp0
  have gm := C.mo (.inl nx)
  have nl : l ≠ [] := fun z => nx (e_zero hp0 hx (by rw [ha, z, e_nil]; grind))
  have := len_mul hp pl C.pl hx nl gm.1 ha
  have := List.length_pos_iff.mpr nl
  omega
theorem gAdd_ok (hp : Pr p) {F G : List Int × List Int} {m n : Nat} (hF : NF p F) (hG : NF p G) (lF : Le m F) (lG : Le n G) (hm : m + n ≤ 400) {f : Int} (hf : kc p f * kc p f = 1) : gAdd p F G f = fAdd p F G f := by
  have hp0 : 0 < p := by have := hp.le; omega
  have A := fAdd_ok hp hF hG lF lG hm f
  have h1 := lF.1
  have h2 := lF.2
  have h3 := lG.1
  have h4 := lG.2
  -- the divisor taken out
  have hc : ∃ c : List Int, (if G.2 = F.2 then F.2 else common p F.2 G.2) = c ∧ Pl p c ∧ Mo c ∧ c.length ≤ m ∧ ∃ L R : QP p, Fi L ∧ Fi R ∧ e p F.2 = L * e p c ∧ e p G.2 = R * e p c ∧ Cop L R := by
    refine ⟨_, rfl, ?_⟩
    by_cases he : G.2 = F.2
    · rw [if_pos he]
      exact ⟨hF.b, hF.mo, h2, 1, 1, .one, .one, by grind, by rw [he]; grind, .one⟩
    · rw [if_neg he]
      have C := com_ok hp hF.b hG.b (by omega) (by omega)
      obtain ⟨a, b, fa, fb, ha, hb⟩ := C.dv
      have gm := C.mo (.inl hF.nb)
      obtain ⟨u, v, fu, fv, hu⟩ := C.bz
      have hl := com_len hp hF.b hF.nb C
      refine ⟨C.pl, gm, by omega, a, b, fa, fb, ha, hb, u, v, fu, fv, cancel hp ((fu.mul fa).add (fv.mul fb)) .one C.pl gm.1 ?_⟩
      rw [ha, hb] at hu
      grind
  obtain ⟨c, ec, pc, mc, lc, L, R, fL, fR, hL, hR, cop⟩ := hc
  unfold gAdd
  rw [ec]
  have dl := div_out hp hF.b pc mc.1 fL hL
  have dr := div_out hp hG.b pc mc.1 fR hR
  have ql : e p (quotientOf p F.2 c) = L := by rw [quotientOf_eq hp hF.b.r hF.b.t]; exact dl.1
  have qr : e p (quotientOf p G.2 c) = R := by rw [quotientOf_eq hp hG.b.r hG.b.t]; exact dr.1
  have mr : Mo (quotientOf p G.2 c) := by rw [quotientOf_eq hp hG.b.r hG.b.t]; exact mo_div hp hG.b pc hG.mo mc fR hR
  have pr : Pl p (quotientOf p G.2 c) := by rw [quotientOf_eq hp hG.b.r hG.b.t]; exact hG.b.div1 hp0 c
  have len1 := quot_len hp hG.b mc.1
  have len2 := quot_len hp hF.b mc.1
  have len3 := prod_len p F.1 (quotientOf p G.2 c)
  have len4 := prod_len p G.1 (quotientOf p F.2 c)
  have len5 := prod_len p F.2 (quotientOf p G.2 c)
  have len6 := addScaled_len p (prod p F.1 (quotientOf p G.2 c)) (prod p G.1 (quotientOf p F.2 c)) f
  have et : e p (addScaled p (prod p F.1 (quotientOf p G.2 c)) (prod p G.1 (quotientOf p F.2 c)) f) = e p F.1 * R + kc p f * (e p G.1 * L) := by rw [e_add, e_prod, e_prod, ql, qr]
  have eb : e p (prod p F.2 (quotientOf p G.2 c)) = (L * R) * e p c := by rw [e_prod, qr, hL]; grind
  have cF : Cop (e p F.1) L := by
    have := hF.cop
    rw [hL] at this
    exact (this.symm.part (.of c)).symm
  have cG : Cop (e p G.1) R := by
    have := hG.cop
    rw [hR] at this
    exact (this.symm.part (.of c)).symm
  have cT : Cop (e p F.1 * R + kc p f * (e p G.1 * L)) (L * R) := by
    refine Cop.mul (((Fi.of _).mul fR).add ((Fi.kc f).mul ((Fi.of _).mul fL))) fL fR ?_ ?_
    · have h : Cop (e p F.1 * R) L := (Cop.mul fL (.of _) fR cF.symm cop).symm
      have z := h.plus (t := kc p f * e p G.1) ((Fi.kc f).mul (.of _))
      have ez : e p F.1 * R + L * (kc p f * e p G.1) = e p F.1 * R + kc p f * (e p G.1 * L) := by grind
      rw [ez] at z
      exact z
    · have h : Cop (e p G.1 * L) R := (Cop.mul fR (.of _) fL cG.symm cop.symm).symm
      have h2 : Cop (kc p f * (e p G.1 * L)) R := by
        obtain ⟨u, v, fu, fv, hu⟩ := h
        exact ⟨u * kc p f, v, fu.mul (.kc f), fv, by grind⟩
      have z := h2.plus (t := e p F.1) (.of _)
      have ez : kc p f * (e p G.1 * L) + R * e p F.1 = e p F.1 * R + kc p f * (e p G.1 * L) := by grind
      rw [ez] at z
      exact z
  have pb : Pl p (prod p F.2 (quotientOf p G.2 c)) := .prod hp0 _ _
  have mb := mo_prod hp hF.b pr hF.mo mr
  rw [shorten_ok hp (.add hp0 _ _ _) pb pc mb mc (by omega) (by omega) (by omega) (fL.mul fR) eb (by rw [et]; exact cT)]
  have N := nf_ok hp (t := addScaled p (prod p F.1 (quotientOf p G.2 c)) (prod p G.1 (quotientOf p F.2 c)) f) (b := prod p F.2 (quotientOf p G.2 c)) (.add hp0 _ _ _) pb mb.1 (by omega) (by omega)
  refine re_uniq hp N.1 A.1 N.2 A.2.1 (.of pb mb.1) ((Nz.of hF.b hF.nb).mul hp (.of hG.b hG.nb)) ?_
  rw [et, eb, hL, hR]
  grind
/-- the package's product -/
def gMul (p : Int) (F G : List Int × List Int) : List Int × List Int :=
  (prod p (quotientOf p F.1 (common p F.1 G.2)) (quotientOf p G.1 (common p G.1 F.2)), prod p (quotientOf p F.2 (common p G.1 F.2)) (quotientOf p G.2 (common p F.1 G.2)))
theorem gMul_ok (hp : Pr p) {F G : List Int × List Int} {m n : Nat} (hF : NF p F) (hG : NF p G) (lF : Le m F) (lG : Le n G) (hm : m + n ≤ 400) : gMul p F G = fMul p F G := by
  have hp0 : 0 < p := by have := hp.le; omega
  have A := fMul_ok hp hF hG lF lG hm
  have h1 := lF.1
  have h2 := lF.2
  have h3 := lG.1
  have h4 := lG.2
  have C1 := com_ok hp hF.t hG.b (by omega) (by omega)
  have C2 := com_ok hp hG.t hF.b (by omega) (by omega)
  obtain ⟨a, d, fa, fd, ea, ed, hta, hbd, cop1, n1, _⟩ := short_ok hp hF.t hG.b hG.nb C1
  obtain ⟨c, b, fc, fb, ec, eb, htc, hbb, cop2, n2, _⟩ := short_ok hp hG.t hF.b hF.nb C2
  have m1 := C1.mo (.inr hG.nb)
  have m2 := C2.mo (.inr hF.nb)
  unfold gMul
  rw [quotientOf_eq hp hF.t.r hF.t.t, quotientOf_eq hp hG.t.r hG.t.t, quotientOf_eq hp hF.b.r hF.b.t, quotientOf_eq hp hG.b.r hG.b.t]
  have mb := mo_div hp hF.b C2.pl hF.mo m2 fb hbb
  have md := mo_div hp hG.b C1.pl hG.mo m1 fd hbd
  have pb := hF.b.div1 hp0 (common p G.1 F.2)
  have pd := hG.b.div1 hp0 (common p F.1 G.2)
  have cF := hF.cop
  have cG := hG.cop
  rw [hta, hbb] at cF
  rw [htc, hbd] at cG
  have cab : Cop a b := ((cF.part (.of _)).symm.part (.of _)).symm
  have ccd : Cop c d := ((cG.part (.of _)).symm.part (.of _)).symm
  have N : NF p (prod p (divide p F.1 (common p F.1 G.2)).1 (divide p G.1 (common p G.1 F.2)).1, prod p (divide p F.2 (common p G.1 F.2)).1 (divide p G.2 (common p F.1 G.2)).1) := by
    refine ⟨.prod hp0 _ _, .prod hp0 _ _, mo_prod hp pb pd mb md, ?_⟩
    show Cop (e p (prod p _ _)) (e p (prod p _ _))
    rw [e_prod, e_prod, ea, ec, eb, ed]
    exact (Cop.mul (fb.mul fd) fa fc (Cop.mul fa fb fd cab cop1).symm (Cop.mul fc fb fd cop2 ccd).symm).symm
  refine re_uniq hp N A.1 (x := a * c) (y := b * d) ?_ A.2.1 ?_ ((Nz.of hF.b hF.nb).mul hp (.of hG.b hG.nb)) ?_
  · show e p (prod p _ _) * (b * d) = a * c * e p (prod p _ _)
    rw [e_prod, e_prod, ea, ec, eb, ed]
  · have z := (Nz.of pb mb.1).mul hp (Nz.of pd md.1)
    rw [eb, ed] at z
    exact z
  · rw [hta, htc, hbb, hbd]
    grind
/-- the package's way to turn round -/
def gBack (p : Int) (F : List Int × List Int) : List Int × List Int := (scale p F.2 (inv p (F.1.getLastD 0)), scale p F.1 (inv p (F.1.getLastD 0)))
theorem gBack_ok (hp : Pr p) {F : List Int × List Int} {m : Nat} (hF : NF p F) (nz : F.1 ≠ []) (lF : Le m F) (hm : m ≤ 400) : gBack p F = fBack p F := by
  have hp0 : 0 < p := by have := hp.le; omega
  obtain ⟨r0, r1⟩ := last_range hF.t nz
  have ki := kc_inv hp r0 r1
  refine nf_is hp hF.b hF.t nz (Nat.le_trans lF.2 hm) (Nat.le_trans lF.1 hm) ⟨hF.b.scale hp0 _, hF.t.scale hp0 _, scale_last hp hF.t nz, ?_⟩ ?_
  · show Cop (e p (scale p _ _)) (e p (scale p _ _))
    rw [e_scale, e_scale]
    obtain ⟨u, v, fu, fv, h⟩ := hF.cop
    exact ⟨v * kc p (F.1.getLastD 0), u * kc p (F.1.getLastD 0), fv.mul (.kc _), fu.mul (.kc _), by grind⟩
  · show e p (scale p _ _) * e p F.1 = e p F.2 * e p (scale p _ _)
    rw [e_scale, e_scale]
    grind
theorem kc_sub1 (hp : Pr p) : kc p (p - 1) = -1 := by
  have hp0 : 0 < p := by have := hp.le; omega
  rw [← kc_mod hp0, show (p - 1) % p = (-1) % p by rw [show p - 1 = -1 + p by omega, Int.add_emod_right], kc_mod hp0, kc_neg]
/-- the opposite -/
theorem gNeg_ok (hp : Pr p) {F : List Int × List Int} {m : Nat} (hF : NF p F) (lF : Le m F) (hm : 1 + m ≤ 400) : (scale p F.1 (p - 1), F.2) = fAdd p ([], [1]) F (-1) := by
  have hp0 : 0 < p := by have := hp.le; omega
  have A := fAdd_ok hp (NF.zero hp) hF (m := 1) ⟨by simp, by simp⟩ lF hm (-1)
  refine re_uniq hp ⟨hF.t.scale hp0 _, hF.b, hF.mo, ?_⟩ A.1 (x := -1 * e p F.1) (y := e p F.2) ?_ A.2.1 (.of hF.b hF.nb) ((Nz.of (.one hp) (by simp)).mul hp (.of hF.b hF.nb)) ?_
  · show Cop (e p (scale p _ _)) (e p F.2)
    rw [e_scale, kc_sub1 hp]
    obtain ⟨u, v, fu, fv, h⟩ := hF.cop
    exact ⟨0 - u, v, Fi.zero.sub fu, fv, by grind⟩
  · show e p (scale p _ _) * e p F.2 = -1 * e p F.1 * e p F.2
    rw [e_scale, kc_sub1 hp]
  · show -1 * e p F.1 * (e p [1] * e p F.2) = (e p [] * e p F.2 + kc p (-1) * (e p F.1 * e p [1])) * e p F.2
    rw [e_one, e_nil, kc_neg]
    grind
end K0
namespace K0
open M QP
variable {p : Int}
/-! ### powers -/
theorem pw_pl (hp : Pr p) {xs : List Int} (n : Nat) : Pl p (pw p xs n) := ⟨pw_red hp.le.1 xs n, pw_trim p xs n⟩
theorem pw_len1 (hp : Pr p) {xs : List Int} : ∀ n, (pw p xs n).length ≤ 1 + n * xs.length
  | 0 => by simp [pw]
  | n + 1 => by
    have := pw_len1 hp (xs := xs) n
    have := prod_len p (pw p xs n) xs
    rw [pw, Nat.succ_mul]
    omega
theorem pw_mo (hp : Pr p) {xs : List Int} (hx : Pl p xs) (mx : Mo xs) : ∀ n, Mo (pw p xs n)
  | 0 => .one
  | n + 1 => mo_prod hp (pw_pl hp n) hx (pw_mo hp hx mx n) mx
theorem cop_pw {x : QP p} (fx : Fi x) {b : List Int} (h : Cop x (e p b)) : ∀ n, Cop x (e p (pw p b n))
  | 0 => by
    show Cop x (e p [1])
    rw [e_one]
    exact .one
  | n + 1 => by
    show Cop x (e p (prod p (pw p b n) b))
    rw [e_prod]
    exact Cop.mul fx (.of _) (.of _) (cop_pw fx h n) h
theorem gPow_nf (hp : Pr p) {F : List Int × List Int} (hF : NF p F) (n : Nat) : NF p (pw p F.1 n, pw p F.2 n) :=
  ⟨pw_pl hp n, pw_pl hp n, pw_mo hp hF.b hF.mo n, cop_pw (.of _) (cop_pw (.of _) hF.cop.symm n).symm n⟩
theorem gPow_ok (hp : Pr p) {F : List Int × List Int} {m : Nat} (hF : NF p F) (lF : Le m F) : ∀ n, 1 + n * m ≤ 400 → (pw p F.1 n, pw p F.2 n) = fPow p F n
  | 0, _ => rfl
  | n + 1, h => by
    rw [Nat.succ_mul] at h
    have ih := gPow_ok hp hF lF n (by omega)
    have hn := gPow_nf hp hF n
    have hn1 := gPow_nf hp hF (n + 1)
    have l1 := pw_len1 hp (xs := F.1) n
    have l2 := pw_len1 hp (xs := F.2) n
    have b1 : n * F.1.length ≤ n * m := Nat.mul_le_mul_left _ lF.1
    have b2 : n * F.2.length ≤ n * m := Nat.mul_le_mul_left _ lF.2
    have A := fMul_ok hp hn hF (m := 1 + n * m) (n := m) ⟨by show (pw p F.1 n).length ≤ _; omega, by show (pw p F.2 n).length ≤ _; omega⟩ lF (by omega)
    rw [fPow, ← ih]
    refine re_uniq hp hn1 A.1 (x := e p (pw p F.1 n) * e p F.1) (y := e p (pw p F.2 n) * e p F.2) ?_ A.2.1 ((Nz.of hn.b hn.nb).mul hp (.of hF.b hF.nb)) ((Nz.of hn.b hn.nb).mul hp (.of hF.b hF.nb)) rfl
    show e p (prod p (pw p F.1 n) F.1) * _ = _ * e p (prod p (pw p F.2 n) F.2)
    rw [e_prod, e_prod]
theorem fPow_le (hp : Pr p) {F : List Int × List Int} {m : Nat} (hF : NF p F) (lF : Le m F) (n : Nat) (h : 1 + n * m ≤ 400) : NF p (fPow p F n) ∧ Le (1 + n * m) (fPow p F n) := by
  rw [← gPow_ok hp hF lF n h]
  have l1 := pw_len1 hp (xs := F.1) n
  have l2 := pw_len1 hp (xs := F.2) n
  have b1 : n * F.1.length ≤ n * m := Nat.mul_le_mul_left _ lF.1
  have b2 : n * F.2.length ≤ n * m := Nat.mul_le_mul_left _ lF.2
  exact ⟨gPow_nf hp hF n, by show (pw p F.1 n).length ≤ _; omega, by show (pw p F.2 n).length ≤ _; omega⟩
/-! ### the field's laws -/
/-- a function of the length m that is x / y -/
structure Fn (p : Int) (m : Nat) (F : List Int × List Int) (x y : QP p) : Prop where
  nf : NF p F
  le : Le m F
  re : Re F x y
  nz : Nz y
  fx : Fi x
theorem Fn.self {F : List Int × List Int} {m : Nat} (h : NF p F) (l : Le m F) : Fn p m F (e p F.1) (e p F.2) := ⟨h, l, rfl, .of h.b h.nb, .of _⟩
theorem Fn.add (hp : Pr p) {F G : List Int × List Int} {m n : Nat} {x y x2 y2 : QP p} (hF : Fn p m F x y) (hG : Fn p n G x2 y2) (hm : m + n ≤ 400) (f : Int) : Fn p (m + n) (fAdd p F G f) (x * y2 + kc p f * (x2 * y)) (y * y2) := by
  have A := fAdd_ok hp hF.nf hG.nf hF.le hG.le hm f
  refine ⟨A.1, A.2.2, ?_, hF.nz.mul hp hG.nz, (hF.fx.mul hG.nz.fi).add ((Fi.kc f).mul (hG.fx.mul hF.nz.fi))⟩
  have z := A.2.1
  have a := hF.re
  have b := hG.re
  unfold Re at z a b ⊢
  refine Nz.cancel hp ((Nz.of hF.nf.b hF.nf.nb).mul hp (.of hG.nf.b hG.nf.nb)) ((Fi.of _).mul (hF.nz.fi.mul hG.nz.fi)) (((hF.fx.mul hG.nz.fi).add ((Fi.kc f).mul (hG.fx.mul hF.nz.fi))).mul (.of _)) ?_
  grind
theorem Fn.mul (hp : Pr p) {F G : List Int × List Int} {m n : Nat} {x y x2 y2 : QP p} (hF : Fn p m F x y) (hG : Fn p n G x2 y2) (hm : m + n ≤ 400) : Fn p (m + n) (fMul p F G) (x * x2) (y * y2) := by
  have A := fMul_ok hp hF.nf hG.nf hF.le hG.le hm
  refine ⟨A.1, A.2.2, ?_, hF.nz.mul hp hG.nz, hF.fx.mul hG.fx⟩
  have z := A.2.1
  have a := hF.re
  have b := hG.re
  unfold Re at z a b ⊢
  refine Nz.cancel hp ((Nz.of hF.nf.b hF.nf.nb).mul hp (.of hG.nf.b hG.nf.nb)) ((Fi.of _).mul (hF.nz.fi.mul hG.nz.fi)) ((hF.fx.mul hG.fx).mul (.of _)) ?_
  grind
theorem Fn.top (hp : Pr p) {F : List Int × List Int} {m : Nat} {x y : QP p} (hF : Fn p m F x y) (nz : F.1 ≠ []) : Nz x := by
  have hp0 : 0 < p := by have := hp.le; omega
  obtain ⟨l, pl, rfl⟩ := hF.fx.pl hp0
  refine ⟨l, pl, fun z => ?_, rfl⟩
  have h := hF.re
  unfold Re at h
  rw [z, e_nil] at h
  obtain ⟨d, hd, nd, ed⟩ := hF.nz
  rw [ed] at h
  exact mul_ne hp hF.nf.t hd nz nd (by rw [h]; grind)
theorem Fn.back (hp : Pr p) {F : List Int × List Int} {m : Nat} {x y : QP p} (hF : Fn p m F x y) (nz : F.1 ≠ []) (hm : m ≤ 400) : Fn p m (fBack p F) y x := by
  have A := fBack_ok hp hF.nf nz hF.le hm
  have nx := hF.top hp nz
  refine ⟨A.1, A.2.2, ?_, nx, hF.nz.fi⟩
  have z := A.2.1
  have a := hF.re
  unfold Re at z a ⊢
  refine Nz.cancel hp ((Nz.of hF.nf.b hF.nf.nb).mul hp (.of hF.nf.t nz)) ((Fi.of _).mul nx.fi) (hF.nz.fi.mul (.of _)) ?_
  grind
theorem Fn.eq (hp : Pr p) {F G : List Int × List Int} {m n : Nat} {x y x2 y2 : QP p} (hF : Fn p m F x y) (hG : Fn p n G x2 y2) (h : x * y2 = x2 * y) : F = G := re_uniq hp hF.nf hG.nf hF.re hG.re hF.nz hG.nz h
section
variable {F G H : List Int × List Int} {m : Nat}
theorem f_assoc (hp : Pr p) (hF : NF p F) (hG : NF p G) (hH : NF p H) (lF : Le m F) (lG : Le m G) (lH : Le m H) (hm : m + m + m ≤ 400) : fAdd p (fAdd p F G 1) H 1 = fAdd p F (fAdd p G H 1) 1 :=
  Fn.eq hp (((Fn.self hF lF).add hp (Fn.self hG lG) (by omega) 1).add hp (Fn.self hH lH) (by omega) 1) ((Fn.self hF lF).add hp ((Fn.self hG lG).add hp (Fn.self hH lH) (by omega) 1) (by omega) 1) (by rw [kc_one]; grind)
theorem f_comm (hp : Pr p) (hF : NF p F) (hG : NF p G) (lF : Le m F) (lG : Le m G) (hm : m + m ≤ 400) : fAdd p F G 1 = fAdd p G F 1 :=
  Fn.eq hp ((Fn.self hF lF).add hp (Fn.self hG lG) (by omega) 1) ((Fn.self hG lG).add hp (Fn.self hF lF) (by omega) 1) (by rw [kc_one]; grind)
theorem f_massoc (hp : Pr p) (hF : NF p F) (hG : NF p G) (hH : NF p H) (lF : Le m F) (lG : Le m G) (lH : Le m H) (hm : m + m + m ≤ 400) : fMul p (fMul p F G) H = fMul p F (fMul p G H) :=
  Fn.eq hp (((Fn.self hF lF).mul hp (Fn.self hG lG) (by omega)).mul hp (Fn.self hH lH) (by omega)) ((Fn.self hF lF).mul hp ((Fn.self hG lG).mul hp (Fn.self hH lH) (by omega)) (by omega)) (by grind)
theorem f_mcomm (hp : Pr p) (hF : NF p F) (hG : NF p G) (lF : Le m F) (lG : Le m G) (hm : m + m ≤ 400) : fMul p F G = fMul p G F :=
  Fn.eq hp ((Fn.self hF lF).mul hp (Fn.self hG lG) (by omega)) ((Fn.self hG lG).mul hp (Fn.self hF lF) (by omega)) (by grind)
theorem f_distr (hp : Pr p) (hF : NF p F) (hG : NF p G) (hH : NF p H) (lF : Le m F) (lG : Le m G) (lH : Le m H) (hm : m + m + (m + m) ≤ 400) : fMul p (fAdd p F G 1) H = fAdd p (fMul p F H) (fMul p G H) 1 :=
  Fn.eq hp (((Fn.self hF lF).add hp (Fn.self hG lG) (by omega) 1).mul hp (Fn.self hH lH) (by omega)) (((Fn.self hF lF).mul hp (Fn.self hH lH) (by omega)).add hp ((Fn.self hG lG).mul hp (Fn.self hH lH) (by omega)) (by omega) 1) (by rw [kc_one]; grind)
theorem f_over (hp : Pr p) (hF : NF p F) (hG : NF p G) (nz : G.1 ≠ []) (lF : Le m F) (lG : Le m G) (hm : m + m + m ≤ 400) : fMul p (fMul p F (fBack p G)) G = F :=
  Fn.eq hp (((Fn.self hF lF).mul hp ((Fn.self hG lG).back hp nz (by omega)) (by omega)).mul hp (Fn.self hG lG) (by omega)) (Fn.self hF lF) (by grind)
theorem f_less (hp : Pr p) (hF : NF p F) (lF : Le m F) (hm : m + m ≤ 400) : fAdd p F F (-1) = ([], [1]) :=
  Fn.eq hp ((Fn.self hF lF).add hp (Fn.self hF lF) (by omega) (-1)) (Fn.self (m := 1) (NF.zero hp) ⟨by simp, by simp⟩) (by
    show (e p F.1 * e p F.2 + kc p (-1) * (e p F.1 * e p F.2)) * e p [1] = e p [] * _
    rw [kc_neg, e_nil]
    grind)
end
end K0
namespace Kt
open PySem PySem.Spec PyProof.Rows L2
open Evl (Ex Ev EvL EvU EvT EvA EvO ex_l ex_t sq_of st_of sz_of sz_lt fresh_back given)
/-! ### own operators -/
/-- C's own method under a special name -/
structure OwnM (K : PySem.W.Frag) (C : Addr) (m : Str) (f : Addr) : Prop where
  at_ : PySem.W.findIn K (.ref C) m = some (some (.ref f))
  fn : PySem.W.isFn K (.ref f) = true
def rOwn2 (C : Addr) (sp : Sp) (E : XK) : R2 := fun x y H Q => ∃ a dx fs b dy gs, x = .ref a ∧ y = .ref b ∧ H a = some (.ins C dx fs) ∧ H b = some (.ins C dy gs) ∧ sp [.ref a, .ref b] H Q E
def rOwn1 (C : Addr) (sp : Sp) (E : XK) : V → Hp → VK → Prop := fun x H Q => ∃ a dx fs, x = .ref a ∧ H a = some (.ins C dx fs) ∧ sp [.ref a] H Q E
theorem back_of {X : Cx} {pins : List (Addr × Obj)} {σ : L2.St} {Q : VK} {v : Value} {s' : Shared} (h : EP X pins σ Q v s') : PySem.W.CmpBack (EP X pins σ Q) v s' := by
  have hne : v ≠ .notImplemented := fun e => by
    obtain ⟨z, H', I', rz, q⟩ := h
    subst e
    cases z <;> simp [L2.RelV] at rz
  cases v <;> first | exact h | exact absurd rfl hne
section
variable {X : Cx} {CX : CXT} {k : Nat} {C f : Addr} {fd : FuncData} {ps : List Str} {sp : Sp} {E : XK}
/-- a + b .., both of one own class -/
theorem op_own {op : Operator} (c : OwnM X.K C (PySem.dunder op.info.2) f) (hc : PySem.W.selfFirst X.K C = true) (F : FnOk X.prog X.w X.K X.mg X.base CX k f fd ps sp) (hr : Room k X.A) (hb : Binds X.K fd ps []) (hx : Passes CX X E) :
    OpR X (binaryOp op) (rOwn2 C sp E) := by
  intro pins s σ H x y v u Q I rx ry h
  obtain ⟨a, dx, fs, b, dy, gs, rfl, rfl, ha, hb', hsp⟩ := h
  obtain rfl : v = .ref a := rx
  obtain rfl : u = .ref b := ry
  obtain ⟨mA, O, _, _, _, _⟩ := ins_get I.hok ha
  obtain ⟨od, J, _⟩ := O.look
  obtain ⟨mB, O2, _, _, _, _⟩ := ins_get I.hok hb'
  obtain ⟨od2, J2, _⟩ := O2.look
  obtain ⟨m, Fr⟩ := I.fr
  refine PySem.W.binop_K Fr I.ok.mod.kin J J2.type hc c.at_ c.fn ?_
  exact wpAny_mono (run_fn (vs := [V.ref a, V.ref b]) (us := [Value.ref a, Value.ref b]) F hr hb .nil hx I (.cons rfl (.cons rfl .nil)) hsp) (fun v s' hv => back_of hv) fun _ _ e => e
/-- -a -/
theorem un_own (c : OwnM X.K C "__neg__" f) (F : FnOk X.prog X.w X.K X.mg X.base CX k f fd ps sp) (hr : Room k X.A) (hb : Binds X.K fd ps []) (hx : Passes CX X E) : UnR X (unaryOp .USub) (rOwn1 C sp E) := by
  intro pins s σ H x v Q I rx h
  obtain ⟨a, dx, fs, rfl, ha, hsp⟩ := h
  obtain rfl : v = .ref a := rx
  obtain ⟨mA, O, _, _, _, _⟩ := ins_get I.hok ha
  obtain ⟨od, J, _⟩ := O.look
  obtain ⟨m, Fr⟩ := I.fr
  exact PySem.W.ksp_neg Fr I.ok.mod.kin J c.at_ c.fn (run_fn (vs := [V.ref a]) (us := [Value.ref a]) F hr hb .nil hx I (.cons rfl .nil) hsp)
/-- a's truth by its own __bool__ -/
theorem tru_own (c : OwnM X.K C "__bool__" f) (F : FnOk X.prog X.w X.K X.mg X.base CX k f fd ps sp) (hr : Room k X.A) (hb : Binds X.K fd ps []) (hx : Passes CX X E) :
    TruR X (fun x H Q => ∃ a dx fs, x = .ref a ∧ H a = some (.ins C dx fs) ∧ sp [.ref a] H (fun v H' => ∃ b, v = .bl b ∧ Q b H') E) := by
  intro pins s σ H x v Q I rx h
  obtain ⟨a, dx, fs, rfl, ha, hsp⟩ := h
  obtain rfl : v = .ref a := rx
  obtain ⟨mA, O, _, _, _, _⟩ := ins_get I.hok ha
  obtain ⟨od, J, _⟩ := O.look
  obtain ⟨m, Fr⟩ := I.fr
  refine PySem.W.truthy_K Fr I.ok.mod.kin J c.at_ c.fn (wpAny_mono (run_fn (vs := [V.ref a]) (us := [Value.ref a]) F hr hb .nil hx I (.cons rfl .nil) hsp) (fun v s' hv => ?_) fun _ _ e => e)
  obtain ⟨z, H', I', rz, b, rfl, q⟩ := hv
  obtain rfl : v = .bool b := rz
  exact ⟨H', I', q⟩
/-- a == b, both of one own class -/
theorem eq_own (c : OwnM X.K C "__eq__" f) (hn : PySem.W.notFirst X.K C (.ref C) = true) (hu : X.A.units < cLine) (F : FnOk X.prog X.w X.K X.mg X.base CX k f fd ps sp) (hr : Room k X.A) (hb : Binds X.K fd ps []) (hx : Passes CX X E) :
    OpR X (compareOp .Eq) (rOwn2 C sp E) := by
  intro pins s σ H x y v u Q I rx ry h
  obtain ⟨a, dx, fs, b, dy, gs, rfl, rfl, ha, hb', hsp⟩ := h
  obtain rfl : v = .ref a := rx
  obtain rfl : u = .ref b := ry
  obtain ⟨mA, O, _, _, _, _⟩ := ins_get I.hok ha
  obtain ⟨od, J, _⟩ := O.look
  obtain ⟨mB, O2, _, _, _, _⟩ := ins_get I.hok hb'
  obtain ⟨od2, J2, _⟩ := O2.look
  obtain ⟨m, Fr⟩ := I.fr
  refine PySem.W.cmp_ofEq ?_
  refine PySem.W.cmp_K (op := .Eq) hu Fr I.ok.mod.kin J J2.type hn c.at_ c.fn ?_
  exact wpAny_mono (run_fn (vs := [V.ref a, V.ref b]) (us := [Value.ref a, Value.ref b]) F hr hb .nil hx I (.cons rfl (.cons rfl .nil)) hsp) (fun v s' hv => back_of hv) fun _ _ e => e
end
end Kt
namespace Kt
open PySem PySem.Spec PySem.Calls PyProof.Rows L2
section
variable {X : Cx} {CX : CXT} {k : Nat} {C f : Addr} {fd : FuncData} {ps : List Str} {sp : Sp} {E : XK}
/-- the callee runs deeper in, within a builtin -/
theorem run_deep {A' : Around} {pins : List (Addr × Obj)} {σ : L2.St} {H : Hp} {s : Shared} {Q : VK} {us : List Value} {vs : List V} (F : FnOk X.prog X.w X.K X.mg X.base CX k f fd ps sp) (hr : Room k A') (he : Env0 X.prog X.w X.K X.mg X.base A' X.stack s H) (hb : Binds X.K fd ps []) (hx : Passes CX X E)
    (I : Inv X pins σ H s) (r : Vals vs us) (h : sp vs H Q E) : wpAny (model X.prog X.w) A' (call (.ref f) us) (EP X pins σ Q) X.xe s := by
  have hl : (us ++ []).length = ps.length := by
    rw [List.append_nil, ← r.length]
    exact F.len _ _ _ _ h
  have hbs := hb s us I.kIn hl
  rw [List.append_nil] at hbs
  refine wpAny_call (codeAny_mono (F.run A' X.stack s H ⟨us, []⟩ us vs Q E hr he hbs r h) fun res s' hq => ?_)
  cases res with
  | error e => exact hx pins σ H s e s' I hq
  | ok fl =>
    cases fl with
    | ret u => exact I.after hq
    | next => exact False.elim hq
    | brk => exact False.elim hq
    | cont => exact False.elim hq
end
theorem bool_in {prog : Program} {w : World} {v : Value} : MeetsIn prog w (Builtin.«bool.__new__» ⟨[.type "bool", v], []⟩) (fun A R s => wpAny (model prog w) A.in1 (truthy v) (fun b s' => R (.ok (.ret (.bool b))) s') (fun e s' => R (.error e) s') s) := by
  intro A R s h
  obtain ⟨hp, g, d, tk, os⟩ := s
  have f1 := F.conv_sub_bool
  repeat (any_goals (first | (refine wpAny_bind (m := truthy v) (wpAny_mono h (fun b s' hb => ?_) fun _ _ e => e)) | wp_step))
  all_goals first | exact hb | exact wpAny_pure hb
theorem str_in {prog : Program} {w : World} {v : Value} : MeetsIn prog w (Builtin.«str.__new__» ⟨[.type "str", v], []⟩) (fun A R s => wpAny (model prog w) A.in1 (Builtin.Str.strOf v) (fun r s' => R (.ok (.ret r)) s') (fun e s' => R (.error e) s') s) := by
  intro B R s h
  rw [str_new_tree v]
  refine wpAny_bind (wpAny_pure (wpAny_bind (wpAny_of_eq isSubtype_str_str (wpAny_bind (wpAny_mono h (fun r s' hr => wpAny_pure hr) fun _ _ e => e)))))
theorem strOf_own {M : Model} {A : Around} {E : Value → Shared → Prop} {s : Shared} {K : PySem.W.Frag} {a C f : Addr} {ox : Obj} {od : Option Obj} {Q : Value → Shared → Prop} (hu : A.units < cLine) (X : K.In s.heap) (J : PySem.W.InstAt s.heap a ox C od) (c : OwnM K C "__str__" f)
    (h : wpAny M A (call (.ref f) [.ref a]) (fun r s' => ∃ x t, r = .str x t ∧ Q r s') E s) : wpAny M A (Builtin.Str.strOf (.ref a)) Q E s := by
  unfold Builtin.Str.strOf
  simp only [show Builtin.Str.isExactStr (.ref a) = false from rfl]
  refine wpAny_bind (m := cRoomFor _ _) (wpAny_cRoomFor hu ?_)
  refine wpAny_bind (m := callSpecial? (.ref a) (Str.ofString "__str__")) (PySem.W.special_fn X J c.at_ (beq_iff_eq.mp c.fn) (wpAny_mono h (fun r s' hr => ?_) fun _ _ e => e))
  obtain ⟨x, t, rfl, q⟩ := hr
  exact wpAny_pure q
section
variable {X : Cx} {CX : CXT} {k : Nat} {C f : Addr} {fd : FuncData} {ps : List Str} {sp : Sp} {E : XK}
/-- bool(a), by its own __bool__ -/
theorem call_boolO (c : OwnM X.K C "__bool__" f) (G : FnOk X.prog X.w X.K X.mg X.base CX k f fd ps sp) (hr : Room (k + 2) X.A) (hb : Binds X.K fd ps []) (hx : Passes CX X E) :
    CallR X (.type "bool") (fun xs H Q => ∃ a dx fs, xs = [.ref a] ∧ H a = some (.ins C dx fs) ∧ sp [.ref a] H (fun v H' => ∃ b, v = .bl b ∧ Q (.bl b) H') E) := by
  intro pins s σ H xs us Q I r h
  obtain ⟨a, dx, fs, rfl, ha, hsp⟩ := h
  obtain rfl := Vals.ref1 r
  obtain ⟨mA, O, _, _, _, _⟩ := ins_get I.hok ha
  obtain ⟨od, J, _⟩ := O.look
  obtain ⟨m, Fr⟩ := I.fr
  refine callType_newIn PySem.F.called_bool PySem.F.newNe_bool (PySem.F.typeCall_bool_1 _) (PySem.F.newCall_bool_1 _) (fun obj => PySem.F.args_object_init_2 obj _) PySem.F.entry_bool_new bool_in ?_
  refine PySem.W.truthy_K Fr I.ok.mod.kin J c.at_ c.fn (wpAny_mono (run_deep (vs := [V.ref a]) (us := [Value.ref a]) G hr.in1.in1 I.env0.in1.in1 hb hx I (.cons rfl .nil) hsp) (fun v s' hv => ?_) fun _ _ e => e)
  obtain ⟨z, H', I', rz, b, rfl, q⟩ := hv
  obtain rfl : v = .bool b := rz
  exact ⟨rfl, .bl b, H', I', rfl, q⟩
/-- str(a), by its own __str__ -/
theorem call_strO (c : OwnM X.K C "__str__" f) (G : FnOk X.prog X.w X.K X.mg X.base CX k f fd ps sp) (hr : Room (k + 2) X.A) (hb : Binds X.K fd ps []) (hx : Passes CX X E) :
    CallR X (.type "str") (fun xs H Q => ∃ a dx fs, xs = [.ref a] ∧ H a = some (.ins C dx fs) ∧ sp [.ref a] H (fun v H' => ∃ z, v = .str z ∧ Q (.str z) H') E) := by
  intro pins s σ H xs us Q I r h
  obtain ⟨a, dx, fs, rfl, ha, hsp⟩ := h
  obtain rfl := Vals.ref1 r
  obtain ⟨mA, O, _, _, _, _⟩ := ins_get I.hok ha
  obtain ⟨od, J, _⟩ := O.look
  refine callType_newIn PySem.F.called_str (by decide) (PySem.F.typeCall_str_1 _) (PySem.F.newCall_str_1 _) (fun obj => PySem.F.args_object_init_2 obj _) PySem.F.entry_str_new str_in ?_
  refine strOf_own (by have := hr.un; show X.A.units + 1 + 1 < cLine; omega) I.kIn J c (wpAny_mono (run_deep (vs := [V.ref a]) (us := [Value.ref a]) G hr.in1.in1 I.env0.in1.in1 hb hx I (.cons rfl .nil) hsp) (fun v s' hv => ?_) fun _ _ e => e)
  obtain ⟨z, H', I', rz, y, rfl, q⟩ := hv
  obtain ⟨t, rfl⟩ := rz
  exact ⟨y, t, rfl, typeIs_str _ _ _, .str y, H', I', ⟨t, rfl⟩, q⟩
end
end Kt
namespace Kt
open PySem PySem.Spec PySem.Calls PyProof.Rows L2
/-- != of an own class with __eq__ alone -/
theorem ne_body {prog : Program} {w : World} {A : Around} {E : Value → Shared → Prop} {s : Shared} {K : PySem.W.Frag} {a b C f : Addr} {ox : Obj} {od : Option Obj} {Q : PySem.Fin → Shared → Prop} (hu : A.units < cLine) (X : K.In s.heap) (J : PySem.W.InstAt s.heap a ox C od) (c : OwnM K C "__eq__" f)
    (h : wpAny (model prog w) A (call (.ref f) [.ref a, .ref b]) (fun v s' => ∃ r, v = .bool r ∧ Q (.done (.ret (.bool (!r)))) s') E s) : wpAny (model prog w) A (Builtin.«object.__ne__» ⟨[.ref a, .ref b], []⟩) Q E s := by
  unfold Builtin.«object.__ne__»
  repeat (first
    | with_reducible refine wpAny_cRoomFor hu ?_
    | (refine wpAny_bind (m := callSpecialIfBound? (.ref a) (Str.ofString "__eq__") [.ref b]) (PySem.W.ifBound_K X J c.at_ c.fn (wpAny_mono h (fun r s' hr => by
        obtain ⟨z, rfl, hq⟩ := hr
        repeat (first | exact hq | exact wpAny_pure hq | exact wpAny_truthy_bool hq | (refine wpAny_bind (m := truthy (.bool _)) (wpAny_truthy_bool ?_)) | wp_step)) fun _ _ e => e)))
    | wp_step)
/-- the class has no __ne__ of its own -/
structure NoNe (K : PySem.W.Frag) (C : Addr) : Prop where
  at_ : PySem.W.findIn K (.ref C) "__ne__" = some (some (.builtin "object.__ne__"))
  sub : PySem.W.subIn K (.ref C) (.type "object") = some true
theorem ne_try {prog : Program} {w : World} {A : Around} {E : Value → Shared → Prop} {s : Shared} {K : PySem.W.Frag} {a b C f : Addr} {ox : Obj} {od : Option Obj} {Q : Option Value → Shared → Prop} (hu : A.units + 1 < cLine) (X : K.In s.heap) (J : PySem.W.InstAt s.heap a ox C od) (n : NoNe K C) (c : OwnM K C "__eq__" f)
    (h : wpAny (model prog w) A.in1 (call (.ref f) [.ref a, .ref b]) (fun v s' => ∃ r, v = .bool r ∧ Q (some (.bool (!r))) s') E s) : wpAny (model prog w) A (tryCompare (.ref a) "__ne__" (.ref b)) Q E s := by
  have hc : wpAny (model prog w) A (call (.builtin "object.__ne__") [.ref a, .ref b]) (fun v s' => ∃ r, v = .bool r ∧ Q (some (.bool r)) s') E s := by
    refine wpAny_call (codeAny_call_builtin PySem.F.cmp_object.ne.plain PySem.F.cmpEntry_ne (PySem.W.check_slot PySem.F.cmpKind_ne PySem.F.cmpSplit_ne (J.type.andThen (PySem.W.looks_subIn X n.sub)) (PySem.F.cmpArgs_ne _ _) (ne_body (A := A.in1) hu X J c (wpAny_mono h (fun v s' hv => ?_) fun _ _ e => e))))
    obtain ⟨r, rfl, q⟩ := hv
    exact ⟨r, rfl, !r, rfl, q⟩
  have L1 : PySem.W.Looks (model prog w) s.heap (typeLookup (.ref C) "__ne__") (some (.builtin "object.__ne__")) := PySem.W.looks_findIn X n.at_
  simp only [tryCompare, callSpecialIfBound?, bindSpecialIfBound?]
  refine wpAny_bind (wpAny_holding (wpAny_bind (wpAny_bind ?_)))
  unfold specialOf
  refine wpAny_bind (J.type.here (L1.here ?_))
  simp only [PySem.F.cmp_object.ne.bind]
  have fin : wpAny (model prog w) A (call (.builtin "object.__ne__") ([.ref a] ++ [.ref b]) >>= fun v => pure (some v)) (fun v s' => ∃ r, v = some (.bool r) ∧ Q (some (.bool r)) s') E s := wpAny_bind (wpAny_mono hc (fun v s' ⟨r, e, q⟩ => wpAny_pure ⟨r, by rw [e], q⟩) fun _ _ e => e)
  refine wpAny_bind (wpAny_askSetting (wpAny_ite ?_))
  split
  · refine wpAny_pure (wpAny_mono fin (fun v s' hv => ?_) fun _ _ e => e)
    obtain ⟨r, rfl, q⟩ := hv
    exact wpAny_pure q
  · refine wpAny_pure (wpAny_mono fin (fun v s' hv => ?_) fun _ _ e => e)
    obtain ⟨r, rfl, q⟩ := hv
    exact wpAny_pure q
section
variable {X : Cx} {CX : CXT} {k : Nat} {C f : Addr} {fd : FuncData} {ps : List Str} {sp : Sp} {E : XK}
/-- what a != b asks: __eq__ gives a truth value -/
def rOwnNe (C : Addr) (sp : Sp) (E : XK) : R2 := fun x y H Q => ∃ a dx fs b dy gs, x = .ref a ∧ y = .ref b ∧ H a = some (.ins C dx fs) ∧ H b = some (.ins C dy gs) ∧ sp [.ref a, .ref b] H (fun v H' => ∃ r, v = .bl r ∧ Q (.bl (!r)) H') E
/-- a != b, both of one own class with __eq__ alone -/
theorem ne_own (c : OwnM X.K C "__eq__" f) (n : NoNe X.K C) (G : FnOk X.prog X.w X.K X.mg X.base CX k f fd ps sp) (hr : Room (k + 1) X.A) (hb : Binds X.K fd ps []) (hx : Passes CX X E) :
    OpR X (compareOp .NotEq) (rOwnNe C sp E) := by
  intro pins s σ H x y v u Q I rx ry h
  obtain ⟨a, dx, fs, b, dy, gs, rfl, rfl, ha, hb', hsp⟩ := h
  obtain rfl : v = .ref a := rx
  obtain rfl : u = .ref b := ry
  obtain ⟨mA, O, _, _, _, _⟩ := ins_get I.hok ha
  obtain ⟨od, J, _⟩ := O.look
  obtain ⟨mB, O2, _, _, _, _⟩ := ins_get I.hok hb'
  obtain ⟨od2, J2, _⟩ := O2.look
  have hu := hr.un
  have z : wpAny (model X.prog X.w) X.A (tryCompare (.ref a) "__ne__" (.ref b)) (fun r s' => ∃ v, r = some v ∧ EP X pins σ Q v s') X.xe s := by
    refine ne_try (by omega) I.kIn J n c (wpAny_mono (run_deep (vs := [V.ref a, V.ref b]) (us := [Value.ref a, Value.ref b]) G hr.in1 I.env0.in1 hb hx I (.cons rfl (.cons rfl .nil)) hsp) (fun v s' hv => ?_) fun _ _ e => e)
    obtain ⟨z, H', I', rz, r, rfl, q⟩ := hv
    obtain rfl : v = .bool r := rz
    exact ⟨r, rfl, _, rfl, .bl (!r), H', I', rfl, q⟩
  refine PySem.W.cmp_ofNotEq ?_
  unfold richCompare
  simp only [oneThing_ref]
  refine wpAny_holding (wpAny_bind (wpAny_cRoomFor (by omega) ?_))
  rw [cmpInfo_NotEq]
  dsimp only
  refine wpAny_bind (J.type.here (wpAny_bind (J2.type.here ?_)))
  simp only [bne_self_eq_false, Bool.false_eq_true, if_false]
  refine wpAny_bind (wpAny_pure ?_)
  simp only [Bool.false_eq_true, if_false]
  refine wpAny_bind (wpAny_mono z (fun r s' hr' => ?_) fun _ _ e => e)
  obtain ⟨v, rfl, q⟩ := hr'
  exact wpAny_pure q
/-- a ** n .., an int on the right -/
def rOwnI (C : Addr) (sp : Sp) (E : XK) : R2 := fun x y H Q => ∃ a dx fs n, x = .ref a ∧ y = .int n ∧ H a = some (.ins C dx fs) ∧ sp [.ref a, .int n] H Q E
/-- what the class and int must have for that -/
structure OwnI (K : PySem.W.Frag) (C : Addr) (op : Operator) : Prop where
  first : PySem.W.selfFirst K C = true
  right : PySem.W.findIn K (.ref C) (dunderR op.info.2) = some none
  sub : PySem.W.subIn K (.type "int") (.ref C) = some false
  l : ∃ fo, PySem.W.findIn K (.type "int") (PySem.dunder op.info.2) = some fo
  r : ∃ ro, PySem.W.findIn K (.type "int") (dunderR op.info.2) = some ro
theorem op_ownI {op : Operator} (c : OwnM X.K C (PySem.dunder op.info.2) f) (o : OwnI X.K C op) (G : FnOk X.prog X.w X.K X.mg X.base CX k f fd ps sp) (hr : Room k X.A) (hb : Binds X.K fd ps []) (hx : Passes CX X E) :
    OpR X (binaryOp op) (rOwnI C sp E) := by
  intro pins s σ H x y v u Q I rx ry h
  obtain ⟨a, dx, fs, n, rfl, rfl, ha, hsp⟩ := h
  obtain rfl : v = .ref a := rx
  obtain ⟨tk, rfl⟩ := ry
  obtain ⟨mA, O, _, _, _, _⟩ := ins_get I.hok ha
  obtain ⟨od, J, _⟩ := O.look
  obtain ⟨m, Fr⟩ := I.fr
  obtain ⟨fo, h1⟩ := o.l
  obtain ⟨ro, h2⟩ := o.r
  refine PySem.W.ksp_binT (T := "int") Fr I.ok.mod.kin J rfl o.first c.at_ c.fn o.right (.inl rfl) h1 h2 o.sub ?_
  exact wpAny_mono (run_fn (vs := [V.ref a, V.int n]) (us := [Value.ref a, Value.int n tk]) G hr hb .nil hx I (.cons rfl (.cons ⟨tk, rfl⟩ .nil)) hsp) (fun v s' hv => back_of hv) fun _ _ e => e
end
end Kt
namespace Kt
open PySem PySem.Spec PyProof.Rows L2
open Evl (Ex Ev EvL EvU EvT EvA EvO ex_l ex_t sq_of st_of sz_of sz_lt fresh_back given)
section
variable {K : PySem.W.Frag} {σ : L2.St} {H H' : Hp} {te tf tl to : TE} {ta : TA}
theorem evr_dispLD {ds : List PyData} (h : EvRs ta σ H (ds.map (vD K))) (hl : ds.length ≤ 100000) : EvR (tLst ta) σ H (vD K (.list ds)) := by
  have z := (em_disp h (by rw [List.length_map]; exact hl)).ls (K := K)
  refine z.to fun v H e hv => ?_
  obtain ⟨a, xs, rfl, hs, hal⟩ := hv
  exact Dp.lst hs (Alls_dpa hal)
theorem ea_of {n : Int} (h : EvRs ta σ H [vI n]) : EvA ta σ H [.int n] := fun H1 e Q q => h H1 e _ fun us H2 e2 ⟨v, _, h1, hv, h3⟩ => by
  have h3' : _ = [] := h3
  have hv' : v = .int n := hv
  subst h3' hv' h1
  exact q H2 e2
theorem cb_min {i j : Int} {rr : List V → Hp → VK → Prop} (hrr : rr = fun xs H Q => ∃ i j, xs = [.int i, .int j] ∧ Q (.int (if j < i then j else i)) H) : CallV rr [vI i, vI j] (vI (if j < i then j else i)) H := fun vs H1 _ ⟨v, ws, h1, hv, ⟨w', ws', h2, hw, h3⟩⟩ Q q => by
  subst hrr
  have hv' : v = .int i := hv
  have hw' : w' = .int j := hw
  have h3' : ws' = [] := h3
  subst hv' hw' h3' h2
  exact ⟨i, j, h1, q _ H1 (Ex.refl H1) rfl⟩
theorem EvR.pD {ns : List Int} (h : EvR te σ H (vP K ns)) : EvR te σ H (vD K (dP ns)) := h.to fun v H e hv => vP_D hv
end
end Kt
namespace K0
open PySem PySem.Spec PyProof.Rows L2 Kt M
open Evl (Ex Ev EvL EvU EvT EvA EvO ex_l ex_t sq_of st_of sz_of sz_lt fresh_back given)
theorem cut_co {fs ys : List Int} {x : Int} {m : Nat} (h : m + ys.length ≤ fs.length) : co (fs.take m ++ List.zipWith (fun n y => n + x * y) ((fs.drop m).take ys.length) ys ++ fs.drop (m + ys.length)) = co fs + ⟨cst x⟩ * (Xp m * co ys) := by
  have l1 : (fs.take m).length = m := by
    rw [List.length_take]
    omega
  have l2 : (List.zipWith (fun n y => n + x * y) ((fs.drop m).take ys.length) ys).length = ys.length := by
    rw [List.length_zipWith, List.length_take, List.length_drop]
    omega
  have l3 : (fs.take m ++ List.zipWith (fun n y => n + x * y) ((fs.drop m).take ys.length) ys).length = m + ys.length := by rw [List.length_append, l1, l2]
  have l4 : (fs.take m ++ List.zipWith (fun n y => n + x * y) ((fs.drop m).take ys.length) ys ++ fs.drop (m + ys.length)).length = fs.length := by
    rw [List.length_append, l3, List.length_drop]
    omega
  ext k
  rw [PS.add_c, cst_c, Xp_c]
  show _ = _ + x * (if k < m then 0 else (co ys).c (k - m))
  by_cases h1 : k < fs.length
  · rw [co_near (by omega), co_near h1]
    by_cases h2 : k < m
    · rw [if_pos h2, List.getElem_append_left (by omega), List.getElem_append_left (by omega), List.getElem_take]
      omega
    · rw [if_neg h2]
      by_cases h3 : k < m + ys.length
      · rw [List.getElem_append_left (by omega), List.getElem_append_right (by omega), List.getElem_zipWith, co_near (by omega)]
        simp only [l1, List.getElem_take, List.getElem_drop, Nat.add_sub_cancel' (by omega : m ≤ k)]
      · rw [List.getElem_append_right (by omega), co_far (by omega)]
        simp only [l3, List.getElem_drop, Nat.add_sub_cancel' (by omega : m + ys.length ≤ k)]
        omega
  · rw [co_far (by omega), co_far (xs := fs) (by omega)]
    by_cases h2 : k < m
    · rw [if_pos h2]
      omega
    · rw [if_neg h2, co_far (by omega)]
      omega
theorem cutI_mid {fs : List Int} {m n : Nat} (h : m + n ≤ fs.length) : cutI fs (some (m : Int)) (some ((m + n : Nat) : Int)) = (fs.drop m).take n := by
  unfold cutI
  rw [HT.sIx_nat, HT.sIx_nat, Nat.min_eq_left (by omega), Nat.min_eq_left (by omega), Nat.add_sub_cancel_left]
section
variable {P : Program} {w : World} {K : PySem.W.Frag} {mg : Str → Option Value} {base : Heap}
abbrev s_multiply_short : Stmt := topS 17
abbrev N_multiply_short : List Str := ["prime", "one", "other", "out", "place", "factor", "stop", "_", "number", "further"]
theorem sc_multiply_short : FnScope N_multiply_short ["prime", "one", "other"] (defScope s_multiply_short) := ⟨rfl, rfl, rfl, by decide +kernel, rfl, by decide +kernel, by decide +kernel⟩
theorem ok_multiply_short {f : Addr} {fd : FuncData} (F : Fun K "multiply_short" "multiply_short" s_multiply_short f fd) (B : Bis mg)  (D_trimmed : De P w K mg base "trimmed" ["numbers"] 1 (sp_trimmed K)) : FnOk P w K mg base CX0 2 f fd ["prime", "one", "other"] (sp_multiply_short K) := by
  refine F.ok sc_multiply_short (fun vs H Q E h => ?_) (fun cdv A outer s H vs Q E hr h => ?_)
  · obtain ⟨g, _, ha, _⟩ := h
    exact ha.len
  · obtain ⟨⟨prime, one, other⟩, ⟨hm, h5, hlo⟩, ⟨_, _, rfl, rfl, ⟨v_one, _, rfl, h_one, ⟨v_other, _, rfl, h_other, rfl⟩⟩⟩, q⟩ := h
    dsimp only at *
    refine ⟨_, (pss_cons (ps_setLc (i := 3) (own := [("_", 7)]) (g := (gName 7)) (tt := tYes) rfl sc_multiply_short.nd rfl rfl (sw_true rfl rfl rfl (by decide +kernel)) (pi_range1 (by rfl) (B "range" (by decide +kernel)) (pa_cons (pe_op op_add (pe_callB call_len_seq (by rfl) (B "len" (by decide +kernel)) (by decide +kernel) (pa_cons (pv 1) pa_nil)) (pe_callB call_len_seq (by rfl) (B "len" (by decide +kernel)) (by decide +kernel) (pa_cons (pv 2) pa_nil))) pa_nil)) (blkOk_by (own := [("_", 7)]) (N := N_multiply_short) (sc := defScope s_multiply_short) (by decide +kernel)) (fun _ _ _ _ _ => (pg_name (i := 7) sc_multiply_short.nd rfl (Or.inl rfl))) (fun _ _ _ _ _ => pts_nil) (fun _ _ _ _ _ => pe_int))
      (pss_cons (ps_for PassesOwn.never rfl (pi_enumK true (by rfl) (B "enumerate" (by decide +kernel)) (pa_cons (pv 1) pa_nil)) (pg_tup rfl (pgs_cons (pg_name (i := 4) sc_multiply_short.nd rfl (Or.inl rfl)) (pgs_cons (pg_name (i := 5) sc_multiply_short.nd rfl (Or.inr rfl)) pgs_nil))) (pss_one (ps_if (pt_truth (pv 5) (by intro _; rfl)) (pss_cons (ps_set (i := 6) sc_multiply_short.nd rfl (Or.inl rfl) (pe_op op_add (pv 4) (pe_callB call_len_seq (by rfl) (B "len" (by decide +kernel)) (by decide +kernel) (pa_cons (pv 2) pa_nil))))
      (pss_one (ps_asg (pe_lc (own := [("number", 8), ("further", 9)]) (g := (gTup K 2 (gCons (gName 8) (gCons (gName 9) gNil)))) (tt := tYes) rfl sc_multiply_short.nd (pi_zipK false true (by rfl) (B "zip" (by decide +kernel)) (pa_cons (pe_slice sl_list (pv 3) (po_some (pv 4)) (po_some (pv 6))) (pa_cons (pv 2) pa_nil))) (blkOk_by (own := [("number", 8), ("further", 9)]) (N := N_multiply_short) (sc := defScope s_multiply_short) (by decide +kernel)) (fun _ _ _ _ _ => (pg_tup rfl (pgs_cons (pg_name (i := 8) sc_multiply_short.nd rfl (Or.inl rfl)) (pgs_cons (pg_name (i := 9) sc_multiply_short.nd rfl (Or.inl rfl)) pgs_nil)))) (fun _ _ _ _ _ => pts_nil) (fun _ _ _ _ _ => (pe_op op_add (pv 8) (pe_op op_mul (pv 5) (pv 9))))) (pg_cut (pv 3) (po_some (pv 4)) (po_some (pv 6)))))) pss_nil)))
      (pss_one (ps_ret (pe_call D_trimmed.ok (hr.mono (by decide)) (by rfl) D_trimmed.g D_trimmed.kp D_trimmed.b .nil pass0 (pa_cons (pe_lc (own := [("number", 8)]) (g := (gName 8)) (tt := tYes) rfl sc_multiply_short.nd (pi_list (pv 3)) (blkOk_by (own := [("number", 8)]) (N := N_multiply_short) (sc := defScope s_multiply_short) (by decide +kernel)) (fun _ _ _ _ _ => (pg_name (i := 8) sc_multiply_short.nd rfl (Or.inl rfl))) (fun _ _ _ _ _ => pts_nil) (fun _ _ _ _ _ => (pe_op op_mod (pv 8) (pv 0)))) pa_nil)))))), ?_⟩
    have hp2 := hm.p0
    have hp10 := hm.p1
    have hly := hm.ly
    have rx := hm.rx
    dsimp only at hp2 hp10 hly rx
    have hp0 : 0 < prime := by omega
    refine Evl.q_asgL (xs := (List.replicate (one.length + other.length) 0).map V.int) ?_ fun l H1 n1 e1 hA => ?_
    · rw [show List.replicate (one.length + other.length) (0 : Int) = (List.range (one.length + other.length)).map (fun _ => 0) by rw [List.map_const', List.length_range]]
      exact el_rngI (n := one.length + other.length) (evrs_cons (EvR.eqI (evr_op (evr_lenR rfl (EvR.kP (evr_var rfl h_one))) (evr_lenR rfl (EvR.kP (evr_var rfl h_other))) op_i0) (by omega)) evrs_nil) (fun _ => 0) (by omega) (fun x => rfl) fun i hi H1 e1 => evr_c
    · refine qr_enumT (evrs_cons (evr_var rfl ((vP K one).st e1 h_one)) evrs_nil) (fun v i σ' H' => (vP K one).R v H' ∧ Ex H H' ∧ ∃ fs x4 x5 x6, σ' = [some (.int prime), some v_one, some v_other, some (.ref l), x4, x5, x6, none, none, none] ∧ H' l = some (.lst (fs.map V.int)) ∧ fs.length = one.length + other.length ∧ co fs = co (one.take i) * co other) ?_ (fun v i σ' H' p => p.1) ?_ ?_
      · intro v H2 e2 hv
        refine ⟨hv, e1.trans e2, _, none, none, none, rfl, e2 _ _ hA, by rw [List.length_replicate], ?_⟩
        rw [co_zeros, List.take_zero, co_nil]
        grind
      · rintro v n x σ' H' H2 hx ⟨hv, e', fs, x4, x5, x6, rfl, hfs, hlen, hco⟩ e2
        obtain ⟨hn, hxn⟩ := List.getElem?_eq_some_iff.mp hx
        have hsx := rx x (hxn ▸ List.getElem_mem hn)
        have e02 := e'.trans e2
        have hfs2 := e2 _ _ hfs
        refine Evl.s_when (et_truI (evr_var rfl rfl)) (fun hb H3 e3 => ?_) (fun hb H3 e3 => ?_)
        · refine qr_asg (r := vI ((n + other.length : Nat) : Int)) ((evr_op (evr_var rfl rfl) (evr_lenR rfl (EvR.kP (evr_var rfl ((vP K other).st (e02.trans e3) h_other)))) op_i0).eqI (by omega)) fun v6 H4 e4 hv6 => ?_
          obtain rfl := hv6
          have e34 := e3.trans e4
          have hfs4 := e34 _ _ hfs2
          refine sr_cut (ns := fs) (ms := List.zipWith (fun a y => a + x * y) ((fs.drop n).take other.length) other) (lo := some (n : Int)) (hi := some ((n + other.length : Nat) : Int)) hfs4 (fun H1 e1 => Evl.ev_var rfl) (fun H1 e1 => eo_some (evr_var rfl rfl)) (fun H1 e1 => eo_some (evr_var rfl rfl)) ?_ ?_ fun H5 e5 => ?_
          · refine er_zipN (wk_zipK (evrs_cons (EvR.kL ?_) (evrs_cons (EvR.kP (evr_var rfl ((vP K other).st (e02.trans e34) h_other))) evrs_nil))) (fun a y => a + x * y) (by rw [List.length_take, List.length_drop]; omega) (fun x y => rfl) ?_
            · rw [← cutI_mid (by omega)]
              exact evr_slL (evr_mut rfl hfs4) (eo_some (evr_var rfl rfl)) (eo_some (evr_var rfl rfl))
            · intro a ha y hy H6 e6
              exact evr_op (evr_var rfl rfl) (evr_op (evr_var rfl rfl) (evr_var rfl rfl) (op_i (.inl (by omega)))) op_i0
          · rw [List.length_zipWith, List.length_take, List.length_drop]
            omega
          · have ec1 : cutA (some (n : Int)) fs.length = n := by
              unfold cutA
              rw [HT.sIx_nat]
              omega
            have ec2 : cutC (some (n : Int)) (some ((n + other.length : Nat) : Int)) fs.length = n + other.length := by
              unfold cutC
              rw [HT.sIx_nat, HT.sIx_nat]
              omega
            rw [ec1, ec2]
            refine ⟨vP_upd ((vP K one).st ((e2.trans e34).trans e5) hv) (e5 _ _ hfs4), Ex.mut ((e02.trans e34).trans e5) n1, _, _, _, _, rfl, upd_same, ?_, ?_⟩
            · rw [List.length_append, List.length_append, List.length_take, List.length_zipWith, List.length_take, List.length_drop, List.length_drop]
              omega
            · rw [cut_co (by omega), hco, co_take hx]
              grind
        · have hx0 : x = 0 := by simpa using hb
          refine ⟨(vP K one).st (e2.trans e3) hv, e02.trans e3, fs, _, _, x6, rfl, e3 _ _ hfs2, hlen, ?_⟩
          rw [co_take hx, hco, hx0]
          have := cst0_mul (Xp n)
          grind
      · rintro v σ' H' ⟨hv, e', fs, x4, x5, x6, rfl, hfs, hlen, hco⟩
        rw [List.take_length] at hco
        rw [← prod_of hco] at q
        refine sr_ret (evr_call (fs.map (· % prime)) (by rw [List.length_map]; omega) (evrs_cons (er_mapI (wk_listR (evr_mut rfl hfs)) (· % prime) (by omega) (fun x => rfl) ?_) evrs_nil)) fun v H3 e3 hv => q v H3 (e'.trans e3) hv
        intro x hx H1 e1
        exact evr_op (evr_var rfl rfl) (evr_var rfl rfl) (op_i hp0)
end
end K0
namespace K0
open M
/-! ### rows as numbers in a base -/
def val (B : Int) : List Int → Int
  | [] => 0
  | x :: xs => x + B * val B xs
theorem val_addL (B : Int) : ∀ a b : List Int, val B (addL a b) = val B a + val B b
  | [], b => by simp [addL, val]
  | x :: a, [] => by simp [addL, val]
  | x :: a, y :: b => by
    rw [addL, val, val, val, val_addL B a b]
    grind
theorem val_scale (B x : Int) : ∀ a : List Int, val B (a.map (x * ·)) = x * val B a
  | [] => by simp [val]
  | y :: a => by
    rw [List.map_cons, val, val, val_scale B x a]
    grind
theorem val_conv (B : Int) : ∀ a b : List Int, val B (conv a b) = val B a * val B b
  | [], b => by simp [conv, val]
  | x :: a, b => by
    rw [conv, val_addL, val_scale, val, val, val_conv B a b]
    grind
def Dig (B : Int) (l : List Int) : Prop := ∀ n ∈ l, 0 ≤ n ∧ n < B
theorem val_zero {B : Int} (hB : 0 < B) : ∀ {a : List Int}, Dig B a → val B a = 0 → co a = 0
  | [], _, _ => co_nil
  | x :: a, h, hv => by
    have hx := h x List.mem_cons_self
    have ha : Dig B a := fun n hn => h n (List.mem_cons_of_mem _ hn)
    rw [val] at hv
    have hm : x % B = 0 := by
      have : (x + B * val B a) % B = 0 := by rw [hv]; rfl
      rwa [Int.add_mul_emod_self_left] at this
    rw [Int.emod_eq_of_lt hx.1 hx.2] at hm
    subst hm
    have hz : val B a = 0 := by
      have h2 : B * val B a = 0 := by omega
      rcases Int.mul_eq_zero.mp h2 with h3 | h3
      · omega
      · exact h3
    have := val_zero hB ha hz
    ext k
    cases k with
    | zero => rfl
    | succ k =>
      rw [co_consS, this]
      show cst 0 k = cst 0 (k + 1)
      rw [PS.cst0, PS.cst0]
/-- rows of digits are told apart by their numbers -/
theorem val_inj {B : Int} (hB : 0 < B) : ∀ {a b : List Int}, Dig B a → Dig B b → val B a = val B b → co a = co b
  | [], b, _, hb, h => by rw [co_nil, val_zero hB hb h.symm]
  | x :: a, [], ha, _, h => by rw [co_nil, val_zero hB ha h]
  | x :: a, y :: b, ha, hb, h => by
    have hx := ha x List.mem_cons_self
    have hy := hb y List.mem_cons_self
    rw [val, val] at h
    have hm : x % B = y % B := by
      have : (x + B * val B a) % B = (y + B * val B b) % B := by rw [h]
      rwa [Int.add_mul_emod_self_left, Int.add_mul_emod_self_left] at this
    rw [Int.emod_eq_of_lt hx.1 hx.2, Int.emod_eq_of_lt hy.1 hy.2] at hm
    subst hm
    have hz : val B a = val B b := by
      have h2 : B * val B a = B * val B b := by omega
      exact Int.eq_of_mul_eq_mul_left (by omega) h2
    have := val_inj hB (fun n hn => ha n (List.mem_cons_of_mem _ hn)) (fun n hn => hb n (List.mem_cons_of_mem _ hn)) hz
    ext k
    cases k with
    | zero => rfl
    | succ k => rw [co_consS, co_consS, this]
theorem addL_bd {c d : Int} (hc : 0 ≤ c) (hd : 0 ≤ d) : ∀ {a b : List Int}, (∀ n ∈ a, 0 ≤ n ∧ n ≤ c) → (∀ n ∈ b, 0 ≤ n ∧ n ≤ d) → ∀ n ∈ addL a b, 0 ≤ n ∧ n ≤ c + d
  | [], b, _, hb, n, hn => by
    have := hb n (by simpa [addL] using hn)
    omega
  | x :: a, [], ha, _, n, hn => by
    have := ha n (by simpa [addL] using hn)
    omega
  | x :: a, y :: b, ha, hb, n, hn => by
    rw [addL] at hn
    rcases List.mem_cons.mp hn with rfl | hn
    · have h1 := ha x List.mem_cons_self
      have h2 := hb y List.mem_cons_self
      omega
    · exact addL_bd hc hd (fun n hn => ha n (List.mem_cons_of_mem _ hn)) (fun n hn => hb n (List.mem_cons_of_mem _ hn)) n hn
theorem conv_bd {c : Int} (hc : 0 ≤ c) : ∀ {a b : List Int}, (∀ n ∈ a, 0 ≤ n ∧ n ≤ c) → (∀ n ∈ b, 0 ≤ n ∧ n ≤ c) → ∀ n ∈ conv a b, 0 ≤ n ∧ n ≤ (a.length : Int) * (c * c)
  | [], b, _, _, n, hn => by simp [conv] at hn
  | x :: a, b, ha, hb, n, hn => by
    have hx := ha x List.mem_cons_self
    have ih := conv_bd hc (a := a) (fun n hn => ha n (List.mem_cons_of_mem _ hn)) hb
    have hcc : 0 ≤ c * c := Int.mul_nonneg hc hc
    have hl : 0 ≤ (a.length : Int) * (c * c) := Int.mul_nonneg (by omega) hcc
    rw [conv] at hn
    have z := addL_bd hcc hl (a := b.map (x * ·)) (b := 0 :: conv a b) (fun m hm => by
      obtain ⟨y, hy, rfl⟩ := List.mem_map.mp hm
      have h1 := hb y hy
      exact ⟨Int.mul_nonneg hx.1 h1.1, Int.mul_le_mul hx.2 h1.2 h1.1 hc⟩) (fun m hm => by
      rcases List.mem_cons.mp hm with rfl | hm
      · omega
      · exact ih m hm) n hn
    rw [List.length_cons]
    have e : ((a.length + 1 : Nat) : Int) * (c * c) = c * c + (a.length : Int) * (c * c) := by
      rw [show ((a.length + 1 : Nat) : Int) = (a.length : Int) + 1 by omega, Int.add_mul]
      omega
    omega
/-- lanes of 65536: the product of two numbers is the row's product -/
theorem lanes_prod {a b ds : List Int} (ha : Red 10 a) (hb : Red 10 b) (hl : a.length ≤ 90) (hd : Dig 65536 ds) (h : val 65536 ds = val 65536 a * val 65536 b) : co ds = co a * co b := by
  rw [← co_conv]
  refine val_inj (by decide) hd (fun n hn => ?_) (by rw [h, val_conv])
  have z := conv_bd (c := 9) (by decide) (fun n hn => by have := ha n hn; omega) (fun n hn => by have := hb n hn; omega) n hn
  omega
end K0
/-! ## rows in blocks -/
namespace K0
open PySem PySem.Spec PyProof.Rows L2 Kt M
theorem co_app : ∀ (xs ys : List Int), co (xs ++ ys) = co xs + Xp xs.length * co ys
  | [], ys => by
    show co ys = co [] + Xp 0 * co ys
    rw [co_nil, Xp0]
    grind
  | x :: xs, ys => by
    show co (x :: (xs ++ ys)) = co (x :: xs) + Xp (xs.length + 1) * co ys
    rw [co_cons, co_cons, co_app xs ys, Xp_succ xs.length]
    generalize Xp xs.length = a
    generalize Xp 1 = b
    grind
theorem co_split (xs : List Int) (a b : Nat) (h : a ≤ xs.length) : co (xs.take (a + b)) = co (xs.take a) + Xp a * co ((xs.drop a).take b) := by
  have e : xs.take (a + b) = xs.take a ++ (xs.drop a).take b := by rw [List.take_add]
  rw [e, co_app, List.length_take, Nat.min_eq_left h]
theorem co_zip : ∀ (xs ys : List Int), xs.length = ys.length → co (List.zipWith (fun a b => a + b) xs ys) = co xs + co ys
  | [], [], _ => by
    show co [] = co [] + co []
    rw [co_nil]
    grind
  | x :: xs, y :: ys, h => by
    show co ((x + y) :: List.zipWith (fun a b => a + b) xs ys) = _
    rw [co_cons, co_cons, co_cons, co_zip xs ys (by simpa using h)]
    have : (⟨cst (x + y)⟩ : PS) = ⟨cst x⟩ + ⟨cst y⟩ := PS.cst_add x y
    rw [this]
    grind
/-- a block added in the middle -/
theorem co_mid {fs ls : List Int} {lo : Nat} (h : lo + ls.length ≤ fs.length) : co (fs.take lo ++ List.zipWith (fun a b => a + b) ((fs.drop lo).take ls.length) ls ++ fs.drop (lo + ls.length)) = co fs + Xp lo * co ls := by
  have l1 : ((fs.drop lo).take ls.length).length = ls.length := by
    rw [List.length_take, List.length_drop]
    omega
  have e : fs = fs.take lo ++ (fs.drop lo).take ls.length ++ fs.drop (lo + ls.length) := by
    rw [← List.take_add, List.take_append_drop]
  have e2 := congrArg co e
  rw [co_app, co_app] at e2
  rw [co_app, co_app, co_zip _ _ l1]
  have n1 : (fs.take lo ++ List.zipWith (fun a b => a + b) ((fs.drop lo).take ls.length) ls).length = (fs.take lo ++ (fs.drop lo).take ls.length).length := by
    rw [List.length_append, List.length_append, List.length_zipWith, l1]
    omega
  have n2 : (fs.take lo).length = lo := by
    rw [List.length_take]
    omega
  rw [n1, n2]
  rw [n2] at e2
  rw [e2]
  grind
/-- the blocks of a row -/
def blk (ns : List Int) (k : Nat) : List Int := (ns.drop (90 * k)).take 90
def blks (n : Nat) : Nat := (n + 89) / 90
theorem blk_len (ns : List Int) (k : Nat) : (blk ns k).length = min 90 (ns.length - 90 * k) := by
  unfold blk
  rw [List.length_take, List.length_drop]
theorem blk_ne {ns : List Int} {k : Nat} (h : k < blks ns.length) : blk ns k ≠ [] := fun z => by
  have := blk_len ns k
  rw [z] at this
  unfold blks at h
  simp at this
  omega
theorem blk_sub {ns : List Int} {k : Nat} {x : Int} (h : x ∈ blk ns k) : x ∈ ns := List.mem_of_mem_drop (List.mem_of_mem_take h)
theorem cut_blk {ns : List Int} {k : Nat} (h : k < blks ns.length) : cutI ns (some (0 + (k : Int) * 90)) (some (0 + (k : Int) * 90 + 90)) = blk ns k := by
  have hk : 90 * k ≤ ns.length := by
    unfold blks at h
    omega
  rw [show (0 + (k : Int) * 90) = ((90 * k : Nat) : Int) by omega, show (((90 * k : Nat) : Int) + 90) = ((90 * k + 90 : Nat) : Int) by omega]
  unfold cutI blk
  rw [HT.sIx_nat, HT.sIx_nat, Nat.min_eq_left hk]
  by_cases h2 : 90 * k + 90 ≤ ns.length
  · rw [Nat.min_eq_left h2]
    congr 1
    omega
  · rw [Nat.min_eq_right (by omega), List.take_of_length_le (by rw [List.length_drop]; omega), List.take_of_length_le (by rw [List.length_drop]; omega)]
theorem blks_end {ns : List Int} : ns.take (90 * blks ns.length) = ns := List.take_of_length_le (by unfold blks; omega)
theorem rg_upC {m : Nat} {c : Int} (hc : c = 90) (h0 : 0 < m) (h1 : m ≤ 1000) : RgC 0 (m : Int) c (blks m) := by
  have hs : Builtin.Range.rangeSize 0 (m : Int) c = blks m := by
    unfold Builtin.Range.rangeSize blks
    rw [if_pos (by omega), if_pos (by omega)]
    subst hc
    omega
  have hb : blks m ≤ 1000 := by
    unfold blks
    omega
  refine ⟨by omega, by omega, ?_, hs⟩
  unfold Builtin.Range.small
  rw [hs]
  simp only [Builtin.Range.rangeFitsLong, Bool.and_eq_true, Bool.or_eq_true, decide_eq_true_eq, beq_iff_eq, show c > 0 by omega, if_true]
  omega
theorem rg_up {m : Nat} (h0 : 0 < m) (h1 : m ≤ 1000) : RgC 0 (m : Int) 90 (blks m) := rg_upC rfl h0 h1
theorem vL_upd {K : PySem.W.Frag} {H : Hp} {l : Addr} {xs ys : List V} {ns : List Int} {v : V} (h : (vL K ns).R v H) (hl : H l = some (.lst xs)) (hn : xs.length ≠ ns.length) : (vL K ns).R v (upd H l (.lst ys)) := by
  obtain ⟨a, ha, hs⟩ := h
  refine ⟨a, ha, ?_⟩
  rcases hs with (h | ⟨o, h⟩) | h
  · refine .inl (.inl ?_)
    rw [upd_ne]
    · exact h
    · intro e
      rw [e, hl] at h
      have h2 := Option.some.inj h
      injection h2 with h3
      apply hn
      rw [h3, List.length_map]
  · exact .inl (.inr ⟨o, by
      rw [upd_ne]
      · exact h
      · intro e
        rw [e, hl] at h
        cases h⟩)
  · exact .inr h
end K0
namespace K0
open PySem PySem.Spec PyProof.Rows L2 Kt M
open Evl (Ex Ev EvL EvU EvT EvA EvO ex_l ex_t sq_of st_of sz_of sz_lt fresh_back given)
/-! ### long products -/
theorem val_nn {B : Int} (hB : 0 < B) : ∀ {ds : List Int}, Dig B ds → 0 ≤ val B ds
  | [], _ => Int.le_refl 0
  | x :: ds, h => by
    have h1 := h x List.mem_cons_self
    have h2 := val_nn hB (ds := ds) fun n hn => h n (List.mem_cons_of_mem _ hn)
    rw [val]
    have := Int.mul_nonneg (Int.le_of_lt hB) h2
    omega
theorem val_lt {B : Int} (hB : 0 < B) : ∀ {ds : List Int}, Dig B ds → val B ds < B ^ ds.length
  | [], _ => by simp [val]
  | x :: ds, h => by
    have h1 := h x List.mem_cons_self
    have h2 := val_lt hB (ds := ds) fun n hn => h n (List.mem_cons_of_mem _ hn)
    rw [val, List.length_cons, Int.pow_succ]
    have h3 : B * (val B ds + 1) ≤ B * B ^ ds.length := Int.mul_le_mul_of_nonneg_left h2 (Int.le_of_lt hB)
    rw [Int.mul_add, Int.mul_one] at h3
    rw [Int.mul_comm (B ^ ds.length)]
    omega
theorem mul_ltI {a b x y : Int} (ha : 0 ≤ a) (hb : 0 ≤ b) (h1 : a < x) (h2 : b < y) : a * b < x * y := by
  have h3 : a * b ≤ a * y := Int.mul_le_mul_of_nonneg_left (Int.le_of_lt h2) ha
  have h4 : (a + 1) * y ≤ x * y := Int.mul_le_mul_of_nonneg_right h1 (by omega)
  rw [Int.add_mul, Int.one_mul] at h4
  omega
/-- the lanes of a text are its number -/
theorem val_lanes : ∀ (m : Nat) (t : List Nat), t.length = 4 * m → val 65536 ((Mh.lanesOf m t).map Int.ofNat) = (Hx.hexNum t : Nat)
  | 0, t, h => by
    have : t = [] := List.eq_nil_of_length_eq_zero (by omega)
    subst this
    rfl
  | m + 1, t, h => by
    rw [Mh.lanesOf, List.map_cons, val, val_lanes m (t.take (4 * m)) (by rw [List.length_take]; omega)]
    have e : t = t.take (4 * m) ++ t.drop (4 * m) := (List.take_append_drop _ _).symm
    have e2 := Mh.hexNum_app (t.take (4 * m)) (t.drop (4 * m))
    rw [← e, List.length_drop, show t.length - 4 * m = 4 by omega] at e2
    show ((Hx.hexNum (t.drop (4 * m)) : Nat) : Int) + 65536 * ((Hx.hexNum (t.take (4 * m)) : Nat) : Int) = _
    omega
theorem lanes_dig {m : Nat} {t : List Nat} (h : t.length = 4 * m) (hx : ∀ c ∈ t, Hx.IsHex c) : Dig 65536 ((Mh.lanesOf m t).map Int.ofNat) := fun n hn => by
  obtain ⟨k, hk, rfl⟩ := List.mem_map.mp hn
  have := Mh.lanesOf_lt m t h hx k hk
  exact ⟨Int.natCast_nonneg k, by show (k : Int) < 65536; omega⟩
/-- the text of digits -/
def packL (ns : List Int) : List Nat := (ns.reverse.map fun n => Mh.laneL n.toNat).flatten
theorem packL_cons (x : Int) (ns : List Int) : packL (x :: ns) = packL ns ++ Mh.laneL x.toNat := by
  unfold packL
  rw [List.reverse_cons, List.map_append, List.flatten_append]
  simp
theorem packL_num : ∀ {ns : List Int}, (∀ n ∈ ns, 0 ≤ n ∧ n ≤ 6) → ((Hx.hexNum (packL ns) : Nat) : Int) = val 65536 ns
  | [], _ => rfl
  | x :: ns, h => by
    have hx := h x List.mem_cons_self
    have ih := packL_num (ns := ns) fun n hn => h n (List.mem_cons_of_mem _ hn)
    rw [packL_cons, Mh.hexNum_app, Mh.laneL_num x.toNat (by omega), val, ← ih]
    show (((Hx.hexNum (packL ns) * 16 ^ 4 + x.toNat : Nat)) : Int) = _
    omega
theorem packL_all : ∀ {ns : List Int}, (∀ n ∈ ns, 0 ≤ n ∧ n ≤ 6) → ∀ c ∈ packL ns, Hx.IsHex c
  | [], _, c, hc => by simp [packL] at hc
  | x :: ns, h, c, hc => by
    have hx := h x List.mem_cons_self
    rw [packL_cons] at hc
    rcases List.mem_append.mp hc with hc | hc
    · exact packL_all (ns := ns) (fun n hn => h n (List.mem_cons_of_mem _ hn)) c hc
    · exact Mh.laneL_all x.toNat (by omega) c hc
theorem packL_len : ∀ ns : List Int, (packL ns).length = 4 * ns.length
  | [] => rfl
  | x :: ns => by
    rw [packL_cons, List.length_append, packL_len ns, List.length_cons]
    show 4 * ns.length + 4 = _
    omega
/-- the tuple of texts under a name -/
def GTS (mg : Str → Option Value) (K : PySem.W.Frag) (x : Str) (zs : List Str) : Prop := ∃ a, mg x = some (.ref a) ∧ ∀ H, SqT K H a (zs.map V.str)
def lanes7 : List Str := ["0000", "0001", "0002", "0003", "0004", "0005", "0006"]
theorem lanes7_at : ∀ n : Nat, n ≤ 6 → lanes7[n]? = some (SX.S (Mh.laneL n))
  | 0, _ => by decide +kernel
  | 1, _ => by decide +kernel
  | 2, _ => by decide +kernel
  | 3, _ => by decide +kernel
  | 4, _ => by decide +kernel
  | 5, _ => by decide +kernel
  | 6, _ => by decide +kernel
  | n + 7, h => by omega
theorem lanes7_atI {n : Int} (h : 0 ≤ n ∧ n ≤ 6) : atI (lanes7.map V.str) n = some (.str (SX.S (Mh.laneL n.toNat))) := by
  obtain ⟨k, rfl⟩ := Int.eq_ofNat_of_zero_le h.1
  have hk : k ≤ 6 := by omega
  refine atI_nat ?_
  rw [List.getElem?_map, Int.toNat_natCast, lanes7_at k hk]
  rfl
theorem join_flat (ys : List (List Nat)) : Txt.join (SX.S []) (ys.map SX.S) = SX.S ys.flatten := by
  rw [SX.join_S]
  congr 1
  have : ∀ ys : List (List Nat), TL.joinL [] ys = ys.flatten := fun ys => by
    induction ys with
    | nil => rfl
    | cons p r ih =>
      cases r with
      | nil => simp [TL.joinL]
      | cons q r =>
        rw [TL.joinL, ih]
        simp
  exact this ys
/-- a row with lanes put over zeros -/
theorem co_over {ls : List Int} {n : Nat} (h : ls.length ≤ n) : co ((List.replicate n (0 : Int)).take 0 ++ List.zipWith (fun a b => a + b) (((List.replicate n (0 : Int)).drop 0).take ls.length) ls ++ (List.replicate n (0 : Int)).drop (0 + ls.length)) = co ls := by
  have e1 : List.zipWith (fun a b => a + b) (((List.replicate n (0 : Int)).drop 0).take ls.length) ls = ls := by
    rw [List.drop_zero, List.take_replicate, Nat.min_eq_left h]
    apply List.ext_getElem
    · simp
    · intro i h1 h2
      simp
  rw [e1, List.take_zero, List.nil_append, List.drop_replicate]
  ext k
  by_cases hk : k < ls.length
  · rw [co_near (by rw [List.length_append]; omega), co_near hk, List.getElem_append_left hk]
  · rw [co_far (xs := ls) (by omega)]
    by_cases h2 : k < (ls ++ List.replicate (n - (0 + ls.length)) (0 : Int)).length
    · rw [co_near h2, List.getElem_append_right (by omega), List.getElem_replicate]
    · rw [co_far (by omega)]
/-- the lanes of a product -/
def lanes (n : Nat) : List Int := (Mh.lanesOf (((Mh.hexL n).length + 4 - 1) / 4) (Mh.pad4 n)).map Int.ofNat
theorem lanes_val (n : Nat) : val 65536 (lanes n) = (n : Nat) := by
  rw [lanes, val_lanes _ _ (Mh.pad4_len n), Mh.pad4_num]
theorem lanes_digs (n : Nat) : Dig 65536 (lanes n) := lanes_dig (Mh.pad4_len n) (Mh.pad4_all n)
theorem lanes_len (n : Nat) : (lanes n).length = ((Mh.hexL n).length + 4 - 1) / 4 := by rw [lanes, List.length_map, Mh.lanesOf_len]
section
variable {P : Program} {w : World} {K : PySem.W.Frag} {mg : Str → Option Value} {base : Heap}
structure GBk where
  a : Int
  bs : List Int
  k : Nat
def sp_block_sum (K : PySem.W.Frag) : Sp := Con (G := GBk) (fun g => g.k < g.bs.length ∧ CMulW g.a (g.bs.getD g.k 0)) (fun g => [vL K [g.a], vL K g.bs, vI (g.k : Int), vI 0, vI 1]) (fun g => vI (g.a * g.bs.getD g.k 0))
def sp_packed (K : PySem.W.Frag) : Sp := Con (G := List Int) (fun ns => ns ≠ [] ∧ ns.length ≤ 90 ∧ ∀ n ∈ ns, 0 ≤ n ∧ n ≤ 6) (fun ns => [vP K ns]) (fun ns => vI (val 65536 ns))
def sp_unpacked (K : PySem.W.Frag) : Sp := Con (G := Nat) (fun n => (Mh.hexL n).length ≤ 1000) (fun n => [vI (n : Int)]) (fun n => vL K (lanes n))
def tot (a b : Int) : Nat → Int
  | 0 => 0
  | _ + 1 => a * b
abbrev s_block_sum : Stmt := topS 19
abbrev N_block_sum : List Str := ["lefts", "rights", "place", "start", "stop", "total", "low"]
theorem sc_block_sum : FnScope N_block_sum ["lefts", "rights", "place", "start", "stop"] (defScope s_block_sum) := ⟨rfl, rfl, rfl, by decide +kernel, rfl, by decide +kernel, by decide +kernel⟩
theorem at_blk {bs : List Int} {k : Nat} (h : k < bs.length) : atI (bs.map V.int) (k : Int) = some (.int (bs.getD k 0)) := by
  exact atI_nat (by rw [List.getElem?_map, List.getD_eq_getElem?_getD, List.getElem?_eq_getElem h] <;> rfl)
theorem ok_block_sum {f : Addr} {fd : FuncData} (F : Fun K "block_sum" "block_sum" s_block_sum f fd) (B : Bis mg)   : FnOk P w K mg base CX0 1 f fd ["lefts", "rights", "place", "start", "stop"] (sp_block_sum K) := by
  refine F.ok sc_block_sum (fun vs H Q E h => ?_) (fun cdv A outer s H vs Q E hr h => ?_)
  · obtain ⟨g, _, ha, _⟩ := h
    exact ha.len
  · obtain ⟨⟨a, bs, kk⟩, ⟨hk, hc⟩, ⟨v_lefts, _, rfl, h_lefts, ⟨v_rights, _, rfl, h_rights, ⟨_, _, rfl, rfl, ⟨_, _, rfl, rfl, ⟨_, _, rfl, rfl, rfl⟩⟩⟩⟩⟩, q⟩ := h
    dsimp only at *
    refine ⟨_, (pss_cons (ps_set (i := 5) sc_block_sum.nd rfl (Or.inl rfl) pe_int)
      (pss_cons (ps_for PassesOwn.never rfl (pi_range2 (by rfl) (B "range" (by decide +kernel)) (pa_cons (pv 3) (pa_cons (pv 4) pa_nil))) (pg_name (i := 6) sc_block_sum.nd rfl (Or.inl rfl)) (pss_one (ps_set (i := 5) sc_block_sum.nd rfl (Or.inl rfl) (pe_op op_add (pv 5) (pe_op op_mulW (pe_ix (r := rIxL K) ix_list (pv 0) (pv 6) (fun _ _ => rfl)) (pe_ix (r := rIxL K) ix_list (pv 1) (pe_op op_sub (pv 2) (pv 6)) (fun _ _ => rfl)))))))
      (pss_one (ps_ret (pv 5))))), ?_⟩
    have hat : atI (bs.map V.int) ((kk : Int) - (0 + ((0 : Nat) : Int))) = some (.int (bs.getD kk 0)) := by
      rw [show (kk : Int) - (0 + ((0 : Nat) : Int)) = (kk : Int) by omega]
      exact at_blk hk
    refine qr_asg evr_c fun v H1 e1 hv => ?_
    obtain rfl := hv
    refine Evl.q_forR2 (lo := 0) (n := 1) (Evl.ea_cons (Evl.ev_var rfl) (Evl.ea_cons (Evl.ev_var rfl) Evl.ea_nil)) (by omega) (fun i σ' H' => (∃ x6, σ' = [some v_lefts, some v_rights, some (.int (kk : Int)), some (.int 0), some (.int 1), some (.int (tot a (bs.getD kk 0) i)), x6]) ∧ Ex H H') (fun H2 e2 => ⟨⟨none, rfl⟩, e1.trans e2⟩) ?_ ?_
    · rintro i σ' H' hi ⟨⟨x6, rfl⟩, e'⟩
      have hi0 : i = 0 := by omega
      subst hi0
      refine sr_asg (r := vI (a * bs.getD kk 0)) (EvR.eqI (evr_op (evr_var rfl rfl) (evr_op (evr_op (evr_var rfl ((vL K [a]).st e' h_lefts)) (evr_var rfl rfl) (op_ixLi (z := .int a) rfl)) (evr_op (evr_var rfl ((vL K bs).st e' h_rights)) (evr_op (evr_var rfl rfl) (evr_var rfl rfl) op_i0) (op_ixLi (z := .int (bs.getD kk 0)) hat)) (op_i hc)) op_i0) ?_) fun v H2 e2 hv => ?_
      · show 0 + a * bs.getD kk 0 = a * bs.getD kk 0
        omega
      · obtain rfl := hv
        exact ⟨⟨_, rfl⟩, e'.trans e2⟩
    · rintro σ' H' ⟨⟨x6, rfl⟩, e'⟩
      exact sr_ret (evr_var rfl rfl) fun v H2 e2 hv => q v H2 (e'.trans e2) hv
abbrev s_packed : Stmt := topS 20
abbrev N_packed : List Str := ["numbers", "number"]
theorem sc_packed : FnScope N_packed ["numbers"] (defScope s_packed) := ⟨rfl, rfl, rfl, by decide +kernel, rfl, by decide +kernel, by decide +kernel⟩
theorem ok_packed {f : Addr} {fd : FuncData} (F : Fun K "packed" "packed" s_packed f fd) (B : Bis mg) (C_LANES : GTS mg K "LANES" lanes7)  : FnOk P w K mg base CX0 1 f fd ["numbers"] (sp_packed K) := by
  refine F.ok sc_packed (fun vs H Q E h => ?_) (fun cdv A outer s H vs Q E hr h => ?_)
  · obtain ⟨g, _, ha, _⟩ := h
    exact ha.len
  · obtain ⟨numbers, ⟨hne, hl, hd⟩, ⟨v_numbers, _, rfl, h_numbers, rfl⟩, q⟩ := h
    dsimp only at *
    obtain ⟨al, hal, hsl⟩ := C_LANES
    refine ⟨_, (pss_one (ps_ret (pe_callTy call_int_hex (by rfl) (B "int" (by decide +kernel)) (by decide +kernel) (pa_cons (pe_bm PySem.F.plainAttrs_str PySem.F.slot_str_join PySem.F.type_str_join mt_join pe_str (pa_cons (pe_lc (own := [("number", 1)]) (g := (gName 1)) (tt := tYes) rfl sc_packed.nd (pi_tup (pe_stepT (pv 0) po_none po_none (po_some (pe_un un_neg pe_int)))) (blkOk_by (own := [("number", 1)]) (N := N_packed) (sc := defScope s_packed) (by decide +kernel)) (fun _ _ _ _ _ => (pg_name (i := 1) sc_packed.nd rfl (Or.inl rfl))) (fun _ _ _ _ _ => pts_nil) (fun _ _ _ _ _ => (pe_ix (r := rIxT K) ix_tup (pe_glob (v := .ref al) rfl hal rfl) (pv 1) (fun _ _ => rfl)))) pa_nil)) (pa_cons pe_int pa_nil))))), ?_⟩
    have hrv := packL_num hd
    rw [← hrv] at q
    refine sr_ret (evr_intHex (l := packL numbers) ?_ ?_ ?_ (packL_all hd)) fun v H1 e1 hv => q v H1 e1 hv
    · have hj := join_flat (numbers.reverse.map fun n => Mh.laneL n.toNat)
      rw [List.map_map] at hj
      show EvR _ _ _ (vS (SX.S (numbers.reverse.map fun n => Mh.laneL n.toNat).flatten))
      rw [← hj]
      have er := evr_stepT (K := K) (σ := [some v_numbers, none]) (te := tVar 0) (evr_var (H := H) rfl h_numbers) eo_none eo_none (eo_some (un_negI (evr_c (v := .int 1)))) (by decide) (by decide) (by rw [pickA_rev, List.length_reverse]; omega)
      rw [pickA_rev] at er
      refine evr_join rfl (ys := numbers.reverse.map fun n => SX.S (Mh.laneL n.toNat)) ?_ ?_
      · rw [List.map_map]
        refine el_mapV (wk_tupR er) (fun n => .str (SX.S (Mh.laneL n.toNat))) (by rw [List.length_reverse]; omega) (fun x => rfl) fun x hx H1 e1 H2 e2 Q k => ?_
        exact ⟨.int x, rfl, al, _, x, _, rfl, rfl, hsl _, lanes7_atI (hd x (List.mem_reverse.mp hx)), k H2 (Ex.refl H2)⟩
      · have hs : ((numbers.reverse.map fun n => SX.S (Mh.laneL n.toNat)).map (·.length)).sum = 4 * numbers.length := by
          rw [List.map_map]
          have : ((fun (x : Str) => x.length) ∘ fun (n : Int) => SX.S (Mh.laneL n.toNat)) = fun _ => 4 := by
            funext n
            rfl
          rw [this, List.map_const', List.length_reverse]
          simp [Nat.mul_comm]
        rw [hs]
        show 4 * numbers.length + _ * 0 ≤ _
        omega
    · intro z
      have := congrArg List.length z
      rw [packL_len] at this
      have := List.length_pos_iff.mpr hne
      simp at *
      omega
    · rw [packL_len]
      omega
abbrev s_unpacked : Stmt := topS 21
abbrev N_unpacked : List Str := ["whole", "text", "many", "start"]
theorem sc_unpacked : FnScope N_unpacked ["whole"] (defScope s_unpacked) := ⟨rfl, rfl, rfl, by decide +kernel, rfl, by decide +kernel, by decide +kernel⟩
theorem ok_unpacked {f : Addr} {fd : FuncData} (F : Fun K "unpacked" "unpacked" s_unpacked f fd) (B : Bis mg) (C_LANE : GI mg "LANE" 4)  : FnOk P w K mg base CX0 1 f fd ["whole"] (sp_unpacked K) := by
  refine F.ok sc_unpacked (fun vs H Q E h => ?_) (fun cdv A outer s H vs Q E hr h => ?_)
  · obtain ⟨g, _, ha, _⟩ := h
    exact ha.len
  · obtain ⟨n, hn, ⟨_, _, rfl, rfl, rfl⟩, q⟩ := h
    dsimp only at *
    refine ⟨_, (pss_cons (ps_set (i := 1) sc_unpacked.nd rfl (Or.inr rfl) (pe_joined1 (pe_fmtX (pv 0) (pe_joined1 pe_str))))
      (pss_cons (ps_set (i := 2) sc_unpacked.nd rfl (Or.inl rfl) (pe_op op_fdiv (pe_op op_sub (pe_op op_add (pe_callB call_len_str (by rfl) (B "len" (by decide +kernel)) (by decide +kernel) (pa_cons (pv 1) pa_nil)) (pe_gi C_LANE (by rfl))) pe_int) (pe_gi C_LANE (by rfl))))
      (pss_cons (ps_set (i := 1) sc_unpacked.nd rfl (Or.inr rfl) (pe_bm PySem.F.plainAttrs_str PySem.F.slot_str_zfill PySem.F.type_str_zfill mt_zfill (pv 1) (pa_cons (pe_op op_mul (pv 2) (pe_gi C_LANE (by rfl))) pa_nil)))
      (pss_one (ps_ret (pe_lc (own := [("start", 3)]) (g := (gName 3)) (tt := tYes) rfl sc_unpacked.nd (pi_range3 (by rfl) (B "range" (by decide +kernel)) (pa_cons (pe_op op_sub (pe_callB call_len_str (by rfl) (B "len" (by decide +kernel)) (by decide +kernel) (pa_cons (pv 1) pa_nil)) (pe_gi C_LANE (by rfl))) (pa_cons (pe_un un_neg pe_int) (pa_cons (pe_un un_neg (pe_gi C_LANE (by rfl))) pa_nil)))) (blkOk_by (own := [("start", 3)]) (N := N_unpacked) (sc := defScope s_unpacked) (by decide +kernel)) (fun _ _ _ _ _ => (pg_name (i := 3) sc_unpacked.nd rfl (Or.inl rfl))) (fun _ _ _ _ _ => pts_nil) (fun _ _ _ _ _ => (pe_callTy call_int_hex (by rfl) (B "int" (by decide +kernel)) (by decide +kernel) (pa_cons (pe_slice sl_str (pv 1) (po_some (pv 3)) (po_some (pe_op op_add (pv 3) (pe_gi C_LANE (by rfl))))) (pa_cons pe_int pa_nil)))))))))), ?_⟩
    have hz : (SX.S (Mh.hexL n)).length ≤ sizeLine := by
      rw [SX.S_len]
      exact Nat.le_trans hn (by decide)
    refine qr_asg (r := vS (SX.S (Mh.hexL n))) (evr_fmtX (i := (n : Int)) (evr_var rfl rfl) (by omega) hz) fun v H1 e1 hv => ?_
    obtain rfl := hv
    generalize hm : ((Mh.hexL n).length + 4 - 1) / 4 = m
    have hh := Mh.hex_ne n
    have hpos := List.length_pos_iff.mpr hh
    have hl4 : (Mh.pad4 n).length = 4 * m := by rw [Mh.pad4_len, hm]
    refine qr_asg (r := vI (m : Int)) (EvR.eqI (evr_op (evr_op (evr_op (evr_lenS rfl (evr_var rfl rfl) hz) evr_c op_i0) evr_c op_i0) evr_c (op_i ⟨by decide, by decide⟩)) (by rw [SX.S_len]; omega)) fun v H2 e2 hv => ?_
    obtain rfl := hv
    refine qr_asg (r := vS (SX.S (Mh.pad4 n))) (EvR.to (evr_zfill (i := ((4 * m : Nat) : Int)) rfl (evr_var rfl rfl) (EvR.eqI (evr_op (evr_var rfl rfl) evr_c (op_i (.inr (by decide)))) (by omega)) ?_) fun v H' e' hv => ?_) fun v H3 e3 hv => ?_
    · have h1 : 4 * m ≤ 2000 := by omega
      unfold PadOk fitsSsize
      rw [Bool.and_eq_true]
      refine ⟨?_, ?_⟩
      · simp
        omega
      · show (!decide (((4 * m : Nat) : Int).toNat > sizeLine)) = true
        rw [Int.toNat_natCast, decide_eq_false]
        · rfl
        · have : sizeLine = 16777216 := rfl
          omega
    · rw [zfill_hex hh (Mh.hex_all n), show 4 * m = m * 4 by omega, ← hm] at hv
      exact hv
    obtain rfl := hv
    have hz4 : (SX.S (Mh.pad4 n)).length ≤ sizeLine := by
      rw [SX.S_len, hl4]
      exact Nat.le_trans (show 4 * m ≤ 2000 by omega) (by decide)
    have e03 : Ex H H3 := (e1.trans e2).trans e3
    have hls : lanes n = (List.range m).map fun i => ((Hx.hexNum (((Mh.pad4 n).drop (4 * (m - 1 - i))).take 4) : Nat) : Int) := by
      rw [lanes, hm, Mh.lanesOf_range m _ hl4, List.map_map]
      rfl
    rw [hls] at q
    refine sr_ret (evr_list (el_rng3 (n := m) (lo := 4 * (m : Int) - 4) (hi := -1) (c := -4) (evrs_cons (EvR.eqI (evr_op (evr_lenS rfl (evr_var rfl rfl) hz4) evr_c op_i0) (by rw [SX.S_len, hl4]; omega)) (evrs_cons (un_negI evr_c) (evrs_cons (un_negI evr_c) evrs_nil))) (rg_down4 (by omega) (by omega)) (fun i => ((Hx.hexNum (((Mh.pad4 n).drop (4 * (m - 1 - i))).take 4) : Nat) : Int)) (by omega) (fun x => rfl) fun i hi H4 e4 => ?_) rfl) fun v H4 e4 hv => q v H4 (e03.trans e4) hv
    have hi4 : (4 * (m : Int) - 4 + (i : Nat) * (-4)) = ((4 * (m - 1 - i) : Nat) : Int) := by omega
    have hc := cutS_lane (t := Mh.pad4 n) (a := 4 * (m - 1 - i)) (by omega)
    refine evr_intHex ?_ ?_ ?_ fun c hc => Mh.pad4_all n c (List.mem_of_mem_drop (List.mem_of_mem_take hc))
    · rw [← hc]
      exact evr_slS (evr_var rfl rfl) (eo_some ((evr_var rfl rfl).eqI hi4)) (eo_some (EvR.eqI (evr_op (evr_var rfl rfl) evr_c op_i0) (by omega))) hz4
    · intro z
      have := congrArg List.length z
      rw [List.length_take, List.length_drop, hl4, List.length_nil] at this
      omega
    · rw [List.length_take]
      omega
abbrev s_multiply_long : Stmt := topS 18
abbrev N_multiply_long : List Str := ["prime", "one", "other", "out", "lefts", "rights", "place", "first", "stop", "start", "lanes", "low", "high", "_", "number", "further"]
theorem sc_multiply_long : FnScope N_multiply_long ["prime", "one", "other"] (defScope s_multiply_long) := ⟨rfl, rfl, rfl, by decide +kernel, rfl, by decide +kernel, by decide +kernel⟩
theorem ok_multiply_long {f : Addr} {fd : FuncData} (F : Fun K "multiply_long" "multiply_long" s_multiply_long f fd) (B : Bis mg) (C_BLOCK : GI mg "BLOCK" 90) (C_MOST_SUMMED : GI mg "MOST_SUMMED" 20) (D_packed : De P w K mg base "packed" ["numbers"] 1 (sp_packed K)) (D_unpacked : De P w K mg base "unpacked" ["whole"] 1 (sp_unpacked K)) (D_block_sum : De P w K mg base "block_sum" ["lefts", "rights", "place", "start", "stop"] 1 (sp_block_sum K)) (D_trimmed : De P w K mg base "trimmed" ["numbers"] 1 (sp_trimmed K)) : FnOk P w K mg base CX0 2 f fd ["prime", "one", "other"] (sp_multiply_long K) := by
  refine F.ok sc_multiply_long (fun vs H Q E h => ?_) (fun cdv A outer s H vs Q E hr h => ?_)
  · obtain ⟨g, _, ha, _⟩ := h
    exact ha.len
  · obtain ⟨⟨prime, one, other⟩, ⟨hm, h5, hlo⟩, ⟨_, _, rfl, rfl, ⟨v_one, _, rfl, h_one, ⟨v_other, _, rfl, h_other, rfl⟩⟩⟩, q⟩ := h
    dsimp only at *
    refine ⟨_, (pss_cons (ps_setLc (i := 3) (own := [("_", 13)]) (g := (gName 13)) (tt := tYes) rfl sc_multiply_long.nd rfl rfl (sw_true rfl rfl rfl (by decide +kernel)) (pi_range1 (by rfl) (B "range" (by decide +kernel)) (pa_cons (pe_op op_add (pe_callB call_len_seq (by rfl) (B "len" (by decide +kernel)) (by decide +kernel) (pa_cons (pv 1) pa_nil)) (pe_callB call_len_seq (by rfl) (B "len" (by decide +kernel)) (by decide +kernel) (pa_cons (pv 2) pa_nil))) pa_nil)) (blkOk_by (own := [("_", 13)]) (N := N_multiply_long) (sc := defScope s_multiply_long) (by decide +kernel)) (fun _ _ _ _ _ => (pg_name (i := 13) sc_multiply_long.nd rfl (Or.inl rfl))) (fun _ _ _ _ _ => pts_nil) (fun _ _ _ _ _ => pe_int))
      (pss_cons (ps_setLc (i := 4) (own := [("start", 9)]) (g := (gName 9)) (tt := tYes) rfl sc_multiply_long.nd rfl rfl (sw_true rfl rfl rfl (by decide +kernel)) (pi_range3 (by rfl) (B "range" (by decide +kernel)) (pa_cons pe_int (pa_cons (pe_callB call_len_seq (by rfl) (B "len" (by decide +kernel)) (by decide +kernel) (pa_cons (pv 1) pa_nil)) (pa_cons (pe_gi C_BLOCK (by rfl)) pa_nil)))) (blkOk_by (own := [("start", 9)]) (N := N_multiply_long) (sc := defScope s_multiply_long) (by decide +kernel)) (fun _ _ _ _ _ => (pg_name (i := 9) sc_multiply_long.nd rfl (Or.inl rfl))) (fun _ _ _ _ _ => pts_nil) (fun _ _ _ _ _ => (pe_call D_packed.ok (hr.mono (by decide)) (by rfl) D_packed.g D_packed.kp D_packed.b .nil pass0 (pa_cons (pe_slice (r := rSlA K) sl_tupA (pv 1) (po_some (pv 9)) (po_some (pe_op op_add (pv 9) (pe_gi C_BLOCK (by rfl))))) pa_nil))))
      (pss_cons (ps_setLc (i := 5) (own := [("start", 9)]) (g := (gName 9)) (tt := tYes) rfl sc_multiply_long.nd rfl rfl (sw_true rfl rfl rfl (by decide +kernel)) (pi_range3 (by rfl) (B "range" (by decide +kernel)) (pa_cons pe_int (pa_cons (pe_callB call_len_seq (by rfl) (B "len" (by decide +kernel)) (by decide +kernel) (pa_cons (pv 2) pa_nil)) (pa_cons (pe_gi C_BLOCK (by rfl)) pa_nil)))) (blkOk_by (own := [("start", 9)]) (N := N_multiply_long) (sc := defScope s_multiply_long) (by decide +kernel)) (fun _ _ _ _ _ => (pg_name (i := 9) sc_multiply_long.nd rfl (Or.inl rfl))) (fun _ _ _ _ _ => pts_nil) (fun _ _ _ _ _ => (pe_call D_packed.ok (hr.mono (by decide)) (by rfl) D_packed.g D_packed.kp D_packed.b .nil pass0 (pa_cons (pe_slice (r := rSlA K) sl_tupA (pv 2) (po_some (pv 9)) (po_some (pe_op op_add (pv 9) (pe_gi C_BLOCK (by rfl))))) pa_nil))))
      (pss_cons (ps_for PassesOwn.never rfl (pi_range1 (by rfl) (B "range" (by decide +kernel)) (pa_cons (pe_op op_sub (pe_op op_add (pe_callB call_len_seq (by rfl) (B "len" (by decide +kernel)) (by decide +kernel) (pa_cons (pv 4) pa_nil)) (pe_callB call_len_seq (by rfl) (B "len" (by decide +kernel)) (by decide +kernel) (pa_cons (pv 5) pa_nil))) pe_int) pa_nil)) (pg_name (i := 6) sc_multiply_long.nd rfl (Or.inl rfl)) (pss_cons (ps_par (i := 7) (j := 8) (by rfl) sc_multiply_long.nd rfl rfl (by decide) rfl rfl (pa_cons (pe_callB (call_max2 rfl) (by rfl) (B "max" (by decide +kernel)) (by decide +kernel) (pa_cons pe_int (pa_cons (pe_op op_sub (pe_op op_add (pv 6) pe_int) (pe_callB call_len_seq (by rfl) (B "len" (by decide +kernel)) (by decide +kernel) (pa_cons (pv 5) pa_nil))) pa_nil))) (pa_cons (pe_callB (call_min2 rfl) (by rfl) (B "min" (by decide +kernel)) (by decide +kernel) (pa_cons (pe_op op_add (pv 6) pe_int) (pa_cons (pe_callB call_len_seq (by rfl) (B "len" (by decide +kernel)) (by decide +kernel) (pa_cons (pv 4) pa_nil)) pa_nil))) pa_nil)) (by rfl))
      (pss_one (ps_for PassesOwn.never rfl (pi_range3 (by rfl) (B "range" (by decide +kernel)) (pa_cons (pv 7) (pa_cons (pv 8) (pa_cons (pe_gi C_MOST_SUMMED (by rfl)) pa_nil)))) (pg_name (i := 9) sc_multiply_long.nd rfl (Or.inl rfl)) (pss_cons (ps_set (i := 10) sc_multiply_long.nd rfl (Or.inl rfl) (pe_call D_unpacked.ok (hr.mono (by decide)) (by rfl) D_unpacked.g D_unpacked.kp D_unpacked.b .nil pass0 (pa_cons (pe_call D_block_sum.ok (hr.mono (by decide)) (by rfl) D_block_sum.g D_block_sum.kp D_block_sum.b .nil pass0 (pa_cons (pv 4) (pa_cons (pv 5) (pa_cons (pv 6) (pa_cons (pv 9) (pa_cons (pe_callB (call_min2 rfl) (by rfl) (B "min" (by decide +kernel)) (by decide +kernel) (pa_cons (pe_op op_add (pv 9) (pe_gi C_MOST_SUMMED (by rfl))) (pa_cons (pv 8) pa_nil))) pa_nil)))))) pa_nil)))
      (pss_cons (ps_set (i := 11) sc_multiply_long.nd rfl (Or.inl rfl) (pe_op op_mul (pv 6) (pe_gi C_BLOCK (by rfl))))
      (pss_cons (ps_set (i := 12) sc_multiply_long.nd rfl (Or.inl rfl) (pe_op op_add (pv 11) (pe_callB call_len_seq (by rfl) (B "len" (by decide +kernel)) (by decide +kernel) (pa_cons (pv 10) pa_nil))))
      (pss_one (ps_asg (pe_lc (own := [("number", 14), ("further", 15)]) (g := (gTup K 2 (gCons (gName 14) (gCons (gName 15) gNil)))) (tt := tYes) rfl sc_multiply_long.nd (pi_zipK false false (by rfl) (B "zip" (by decide +kernel)) (pa_cons (pe_slice sl_list (pv 3) (po_some (pv 11)) (po_some (pv 12))) (pa_cons (pv 10) pa_nil))) (blkOk_by (own := [("number", 14), ("further", 15)]) (N := N_multiply_long) (sc := defScope s_multiply_long) (by decide +kernel)) (fun _ _ _ _ _ => (pg_tup rfl (pgs_cons (pg_name (i := 14) sc_multiply_long.nd rfl (Or.inl rfl)) (pgs_cons (pg_name (i := 15) sc_multiply_long.nd rfl (Or.inl rfl)) pgs_nil)))) (fun _ _ _ _ _ => pts_nil) (fun _ _ _ _ _ => (pe_op op_add (pv 14) (pv 15)))) (pg_cut (pv 3) (po_some (pv 11)) (po_some (pv 12))))))))))))
      (pss_one (ps_ret (pe_call D_trimmed.ok (hr.mono (by decide)) (by rfl) D_trimmed.g D_trimmed.kp D_trimmed.b .nil pass0 (pa_cons (pe_lc (own := [("number", 14)]) (g := (gName 14)) (tt := tYes) rfl sc_multiply_long.nd (pi_list (pv 3)) (blkOk_by (own := [("number", 14)]) (N := N_multiply_long) (sc := defScope s_multiply_long) (by decide +kernel)) (fun _ _ _ _ _ => (pg_name (i := 14) sc_multiply_long.nd rfl (Or.inl rfl))) (fun _ _ _ _ _ => pts_nil) (fun _ _ _ _ _ => (pe_op op_mod (pv 14) (pv 0)))) pa_nil)))))))), ?_⟩
    have hp2 := hm.p0
    have hp7 := hm.p1
    have rx := hm.rx
    have ry := hm.ry
    have lx : one.length ≤ 90 := by
      have := hm.lm
      dsimp only at this
      omega
    have ly := hm.ly
    dsimp only at hp2 hp7 rx ry lx ly
    have hp0 : 0 < prime := by omega
    have d1 : ∀ n ∈ one, 0 ≤ n ∧ n ≤ 6 := fun n hn => by
      have := rx n hn
      omega
    have d2 : ∀ n ∈ other, 0 ≤ n ∧ n ≤ 6 := fun n hn => by
      have := ry n hn
      omega
    have ne1 : one ≠ [] := List.length_pos_iff.mp (by omega)
    have ne2 : other ≠ [] := List.length_pos_iff.mp (by omega)
    have g1 : Dig 65536 one := fun n hn => by
      have := d1 n hn
      omega
    have v1 := val_nn (by decide) g1
    have w1 := val_lt (by decide) g1
    have gb : ∀ k, Dig 65536 (blk other k) := fun k n hn => by
      have := d2 n (blk_sub hn)
      omega
    have lb : ∀ k, (blk other k).length ≤ 90 := fun k => by
      rw [blk_len]
      omega
    have hcut : ∀ ns : List Int, ns.length ≤ 90 → cutI ns (some (0 + ((0 : Nat) : Int) * 90)) (some (0 + ((0 : Nat) : Int) * 90 + 90)) = ns := fun ns h => by
      rw [show (0 + ((0 : Nat) : Int) * 90) = ((0 : Nat) : Int) from rfl, show (((0 : Nat) : Int) + 90) = ((90 : Nat) : Int) from rfl]
      unfold cutI
      rw [HT.sIx_nat, HT.sIx_nat, Nat.zero_min, List.drop_zero, Nat.sub_zero, Nat.min_eq_right h, List.take_length]
    refine Evl.q_asgL (xs := (List.replicate (one.length + other.length) 0).map V.int) ?_ fun l H1 n1 e1 hA => ?_
    · rw [show List.replicate (one.length + other.length) (0 : Int) = (List.range (one.length + other.length)).map (fun _ => 0) by rw [List.map_const', List.length_range]]
      exact el_rngI (n := one.length + other.length) (evrs_cons (EvR.eqI (evr_op (evr_lenR rfl (EvR.kP (evr_var rfl h_one))) (evr_lenR rfl (EvR.kP (evr_var rfl h_other))) op_i0) (by omega)) evrs_nil) (fun _ => 0) (by omega) (fun x => rfl) fun i hi H1 e1 => evr_c
    have h_one1 := (vP K one).st e1 h_one
    have h_other1 := (vP K other).st e1 h_other
    refine qr_asg (r := vL K [val 65536 one]) (evr_list (el_rng3 (n := 1) (lo := 0) (hi := (one.length : Int)) (c := 90) (evrs_cons evr_c (evrs_cons (evr_lenR rfl (EvR.kP (evr_var rfl h_one1))) (evrs_cons evr_c evrs_nil))) (rg_one (by omega) (by omega) (by decide)) (fun _ => val 65536 one) (by decide) (fun x => rfl) fun i hi H2 e2 => ?_) rfl) fun vl H2 e2 hvl => ?_
    · have hi0 : i = 0 := by omega
      subst hi0
      refine evr_call one ⟨ne1, lx, d1⟩ (evrs_cons (EvR.to (evr_slT (lo := some (0 + ((0 : Nat) : Int) * 90)) (hi := some (0 + ((0 : Nat) : Int) * 90 + 90)) (evr_var rfl ((vP K one).st e2 h_one1)) (eo_some (evr_var rfl rfl)) (eo_some (evr_op (evr_var rfl rfl) evr_c op_i0))) fun v H' e' hv => ?_) evrs_nil)
      rw [hcut one lx] at hv
      exact hv
    have h_other2 := (vP K other).st e2 h_other1
    have hs0 : 0 < blks other.length := by
      unfold blks
      omega
    have hs3 : blks other.length ≤ 1000 := by
      unfold blks
      omega
    refine qr_asg (r := vL K ((List.range (blks other.length)).map fun k => val 65536 (blk other k))) (evr_list (el_rng3 (n := blks other.length) (lo := 0) (hi := (other.length : Int)) (c := 90) (evrs_cons evr_c (evrs_cons (evr_lenR rfl (EvR.kP (evr_var rfl h_other2))) (evrs_cons evr_c evrs_nil))) (rg_up (by omega) (by omega)) (fun k => val 65536 (blk other k)) (by omega) (fun x => rfl) fun i hi H3 e3 => ?_) rfl) fun vr H3 e3 hvr => ?_
    · refine evr_call (blk other i) ⟨blk_ne hi, lb i, fun n hn => d2 n (blk_sub hn)⟩ (evrs_cons (EvR.to (evr_slT (lo := some (0 + (i : Int) * 90)) (hi := some (0 + (i : Int) * 90 + 90)) (evr_var rfl ((vP K other).st e3 h_other2)) (eo_some (evr_var rfl rfl)) (eo_some (evr_op (evr_var rfl rfl) evr_c op_i0))) fun v H' e' hv => ?_) evrs_nil)
      rw [cut_blk hi] at hv
      exact hv
    replace hvl := (vL K [val 65536 one]).st e3 hvl
    have hA3 := e3 _ _ (e2 _ _ hA)
    have e03 : Ex H H3 := (e1.trans e2).trans e3
    generalize hvo : val 65536 one = A at *
    generalize hbs : ((List.range (blks other.length)).map fun k => val 65536 (blk other k)) = Bs at *
    have lBs : Bs.length = blks other.length := by rw [← hbs, List.length_map, List.length_range]
    have gBs : ∀ k, k < blks other.length → Bs.getD k 0 = val 65536 (blk other k) := fun k hk => by
      rw [← hbs, List.getD_eq_getElem?_getD, List.getElem?_map, List.getElem?_range hk]
      rfl
    -- what one block gives
    have step : ∀ k, k < blks other.length → ∃ N : Nat, A * Bs.getD k 0 = (N : Int) ∧ (Mh.hexL N).length ≤ 1000 ∧ (lanes N).length ≤ one.length + (blk other k).length ∧ CMulW A (Bs.getD k 0) ∧ co (lanes N) = co one * co (blk other k) := fun k hk => by
      rw [gBs k hk]
      have v2 := val_nn (by decide) (gb k)
      have w2 := val_lt (by decide) (gb k)
      have lk := lb k
      generalize hvt : val 65536 (blk other k) = B at *
      have hAB : 0 ≤ A * B := Int.mul_nonneg v1 v2
      obtain ⟨N, hN⟩ := Int.eq_ofNat_of_zero_le hAB
      have hNlt : N < 16 ^ (4 * (one.length + (blk other k).length)) := by
        have h1 : A * B < 65536 ^ one.length * 65536 ^ (blk other k).length := mul_ltI v1 v2 w1 w2
        rw [← Int.pow_add, hN] at h1
        have h2 : (65536 : Int) ^ (one.length + (blk other k).length) = ((16 ^ (4 * (one.length + (blk other k).length)) : Nat) : Int) := by
          rw [Nat.pow_mul]
          simp
        omega
      have hNlen := Mh.hex_len (k := 4 * (one.length + (blk other k).length)) (by omega) hNlt
      refine ⟨N, hN, by omega, ?_, ?_, ?_⟩
      · rw [lanes_len]
        omega
      · have k1 : ∀ {ns : List Int} {v : Int}, ns.length ≤ 90 → 0 ≤ v → v < 65536 ^ ns.length → v.natAbs < 2 ^ 1440 := fun {ns v} h h0 h1 => by
          have h2 : (65536 : Nat) ^ ns.length ≤ 65536 ^ 90 := Nat.pow_le_pow_right (by decide) h
          have h3 : (65536 : Nat) ^ 90 = 2 ^ 1440 := by decide +kernel
          have h4 : ((65536 ^ ns.length : Nat) : Int) = (65536 : Int) ^ ns.length := by simp
          have h5 : v.natAbs < 65536 ^ ns.length := by
            rw [← h4] at h1
            generalize 65536 ^ ns.length = z at h1
            omega
          exact Nat.lt_of_lt_of_le h5 (Nat.le_trans h2 (Nat.le_of_eq h3))
        exact wide_mul (k1 lx v1 w1) (k1 lk v2 w2) (by decide) (by decide) (by decide)
      · refine lanes_prod (fun n hn => ?_) (fun n hn => ?_) lx (lanes_digs N) ?_
        · have := d1 n hn
          omega
        · have := d2 n (blk_sub hn)
          omega
        · rw [lanes_val, hvo, hvt, hN]
    refine Evl.q_forR1 (n := blks other.length) (ea_of (evrs_cons (EvR.eqI (evr_op (evr_op (evr_lenR rfl (EvR.kL (evr_var rfl hvl))) (evr_lenR rfl (EvR.kL (evr_var rfl hvr))) op_i0) evr_c op_i0) (by rw [lBs]; show ((1 : Nat) : Int) + _ - 1 = _; omega)) evrs_nil)) (by omega)
      (fun i σ' H' => Ex H H' ∧ (vL K [A]).R vl H' ∧ (vL K Bs).R vr H' ∧ ∃ fs x6 x7 x8 x9 x10 x11 x12, σ' = [some (.int prime), some v_one, some v_other, some (.ref l), some vl, some vr, x6, x7, x8, x9, x10, x11, x12, none, none, none] ∧ H' l = some (.lst (fs.map V.int)) ∧ fs.length = one.length + other.length ∧ co fs = co one * co (other.take (90 * i)))
      (fun H4 e4 => ⟨e03.trans e4, (vL K [A]).st e4 hvl, (vL K Bs).st e4 hvr, _, none, none, none, none, none, none, none, rfl, e4 _ _ hA3, by rw [List.length_replicate], by rw [Nat.mul_zero, List.take_zero, co_nil, co_zeros]; grind⟩) ?_ ?_
    · rintro k σ' H4 hk ⟨e04, hvl4, hvr4, fs, x6, x7, x8, x9, x10, x11, x12, rfl, hfs, hlen, hco4⟩
      replace hk : k < blks other.length := by omega
      obtain ⟨N, hN, hNlen, hll, hCM, hco⟩ := step k hk
      have hbl := blk_len other k
      have hkl : 90 * k < other.length := by
        unfold blks at hk
        omega
      refine qr_par (r1 := vI 0) (r2 := vI 1) (evrs_cons (EvR.eqI (evr_cb (evrs_cons evr_c (evrs_cons (evr_op (evr_op (evr_var rfl rfl) evr_c op_i0) (evr_lenR rfl (EvR.kL (evr_var rfl hvr4))) op_i0) evrs_nil)) (cb_max rfl)) (by rw [lBs]; omega)) (evrs_cons (EvR.eqI (evr_cb (evrs_cons (evr_op (evr_var rfl rfl) evr_c op_i0) (evrs_cons (evr_lenR rfl (EvR.kL (evr_var rfl hvl4))) evrs_nil)) (cb_min rfl)) (by show (if ((1 : Nat) : Int) < (k : Int) + 1 then ((1 : Nat) : Int) else (k : Int) + 1) = 1; split <;> omega)) evrs_nil)) fun u v H5 e5 hu hv => ?_
      obtain rfl := hu
      obtain rfl := hv
      replace hvl4 := (vL K [A]).st e5 hvl4
      replace hvr4 := (vL K Bs).st e5 hvr4
      have hfs5 := e5 _ _ hfs
      refine sr_forR3 (n := 1) (lo := 0) (hi := 1) (c := 20) (evrs_cons (evr_var rfl rfl) (evrs_cons (evr_var rfl rfl) (evrs_cons evr_c evrs_nil))) (rg_one (by decide) (by decide) (by decide))
        (fun i σ' H' => Ex H H' ∧ (vL K [A]).R vl H' ∧ (vL K Bs).R vr H' ∧ ∃ gs x9 x10 x11 x12, σ' = [some (.int prime), some v_one, some v_other, some (.ref l), some vl, some vr, some (.int (k : Int)), some (.int 0), some (.int 1), x9, x10, x11, x12, none, none, none] ∧ H' l = some (.lst (gs.map V.int)) ∧ gs.length = one.length + other.length ∧ (i = 0 → gs = fs) ∧ (i = 1 → co gs = co one * co (other.take (90 * (k + 1)))))
        (fun H6 e6 => ⟨(e04.trans e5).trans e6, (vL K [A]).st e6 hvl4, (vL K Bs).st e6 hvr4, fs, _, _, _, _, rfl, e6 _ _ hfs5, hlen, fun _ => rfl, fun z => by omega⟩) ?_ ?_
      · rintro i σ' H6 hi ⟨e06, hvl6, hvr6, gs, x9, x10, x11, x12, rfl, hfs6, hlen6, hz6, _⟩
        have hi0 : i = 0 := by omega
        subst hi0
        obtain rfl := hz6 rfl
        refine qr_asg (r := vL K (lanes N)) (evr_call N hNlen (evrs_cons (EvR.eqI (evr_call (GBk.mk A Bs k) ⟨by show k < Bs.length; omega, hCM⟩ (evrs_cons (evr_var rfl hvl6) (evrs_cons (evr_var rfl hvr6) (evrs_cons (evr_var rfl rfl) (evrs_cons (evr_var rfl rfl) (evrs_cons (EvR.eqI (evr_cb (evrs_cons (evr_op (evr_var rfl rfl) evr_c op_i0) (evrs_cons (evr_var rfl rfl) evrs_nil)) (cb_min rfl)) rfl) evrs_nil)))))) hN) evrs_nil)) fun va H7 e7 hva => ?_
        refine qr_asg (r := vI ((90 * k : Nat) : Int)) (EvR.eqI (evr_op (evr_var rfl rfl) evr_c (op_i (.inl ⟨by omega, by omega⟩))) (by omega)) fun v H8 e8 hv => ?_
        obtain rfl := hv
        have hva8 := (vL K (lanes N)).st e8 hva
        refine qr_asg (r := vI ((90 * k + (lanes N).length : Nat) : Int)) (EvR.eqI (evr_op (evr_var rfl rfl) (evr_lenR rfl (EvR.kL (evr_var rfl hva8))) op_i0) (by omega)) fun v H9 e9 hv => ?_
        obtain rfl := hv
        have e69 : Ex H6 H9 := (e7.trans e8).trans e9
        have hva9 := (vL K (lanes N)).st e9 hva8
        have hfs9 := e69 _ _ hfs6
        have hend : 90 * k + (lanes N).length ≤ gs.length := by omega
        refine sr_cut (ns := gs) (ms := List.zipWith (fun a y => a + y) ((gs.drop (90 * k)).take (lanes N).length) (lanes N)) (lo := some ((90 * k : Nat) : Int)) (hi := some ((90 * k + (lanes N).length : Nat) : Int)) hfs9 (fun H1 e1 => Evl.ev_var rfl) (fun H1 e1 => eo_some (evr_var rfl rfl)) (fun H1 e1 => eo_some (evr_var rfl rfl)) ?_ ?_ fun H10 e10 => ?_
        · refine er_zipN (wk_zipK (evrs_cons (EvR.kL ?_) (evrs_cons (EvR.kL (evr_var rfl hva9)) evrs_nil))) (fun a y => a + y) (by rw [List.length_take, List.length_drop]; omega) (fun x y => rfl) ?_
          · rw [← cutI_mid hend]
            exact evr_slL (evr_mut rfl hfs9) (eo_some (evr_var rfl rfl)) (eo_some (evr_var rfl rfl))
          · intro a ha y hy H1 e1
            exact evr_op (evr_var rfl rfl) (evr_var rfl rfl) op_i0
        · rw [List.length_zipWith, List.length_take, List.length_drop]
          omega
        · have ec1 : cutA (some ((90 * k : Nat) : Int)) gs.length = 90 * k := by
            unfold cutA
            rw [HT.sIx_nat]
            omega
          have ec2 : cutC (some ((90 * k : Nat) : Int)) (some ((90 * k + (lanes N).length : Nat) : Int)) gs.length = 90 * k + (lanes N).length := by
            unfold cutC
            rw [HT.sIx_nat, HT.sIx_nat]
            omega
          rw [ec1, ec2]
          have ex : Ex H (upd H10 l (.lst ((gs.take (90 * k) ++ List.zipWith (fun a y => a + y) ((gs.drop (90 * k)).take (lanes N).length) (lanes N) ++ gs.drop (90 * k + (lanes N).length)).map V.int))) := Ex.mut ((e06.trans e69).trans e10) n1
          refine ⟨ex, ?_, ?_, _, _, _, _, _, rfl, upd_same, ?_, fun z => by omega, fun _ => ?_⟩
          · exact vL_upd ((vL K [A]).st (e69.trans e10) hvl6) (e10 _ _ hfs9) (by rw [List.length_map, hlen6]; show one.length + other.length ≠ 1; omega)
          · exact vL_upd ((vL K Bs).st (e69.trans e10) hvr6) (e10 _ _ hfs9) (by rw [List.length_map, hlen6, lBs]; unfold blks; omega)
          · rw [List.length_append, List.length_append, List.length_take, List.length_zipWith, List.length_take, List.length_drop, List.length_drop]
            omega
          · rw [co_mid hend, hco4, hco, show 90 * (k + 1) = 90 * k + 90 by omega, co_split other (90 * k) 90 (by omega)]
            show _ = co one * (co (other.take (90 * k)) + Xp (90 * k) * co (blk other k))
            grind
      · rintro σ' H6 ⟨e06, hvl6, hvr6, gs, x9, x10, x11, x12, rfl, hfs6, hlen6, _, hc6⟩
        exact ⟨e06, hvl6, hvr6, gs, _, _, _, _, _, _, _, rfl, hfs6, hlen6, hc6 rfl⟩
    · rintro σ' H4 ⟨e04, _, _, fs, x6, x7, x8, x9, x10, x11, x12, rfl, hfs, hlen, hc4⟩
      rw [Int.toNat_natCast, blks_end] at hc4
      have hc5 : co fs = co one * co other := hc4
      rw [← prod_of hc5] at q
      refine sr_ret (evr_call (fs.map (· % prime)) (by rw [List.length_map]; omega) (evrs_cons (er_mapI (wk_listR (evr_mut rfl hfs)) (· % prime) (by omega) (fun x => rfl) ?_) evrs_nil)) fun v H5 e5 hv => q v H5 (e04.trans e5) hv
      intro x hx H1 e1
      exact evr_op (evr_var rfl rfl) (evr_var rfl rfl) (op_i hp0)
end
end K0
namespace K0
open PySem PySem.Spec PyProof.Rows L2 Kt M
open Evl (Ex Ev EvL EvU EvT EvA EvO ex_l ex_t sq_of st_of sz_of sz_lt fresh_back given)
/-! ### values of the class Function -/
abbrev PF := List Int × List Int
def ffs (p : Int) (t b : Addr) : List (Str × V) := [("_prime", .int p), ("_top", .ref t), ("_bottom", .ref b)]
theorem n_tp : (("_top" : Str) == "_prime") = false := by decide +kernel
theorem n_bp : (("_bottom" : Str) == "_prime") = false := by decide +kernel
theorem n_bt : (("_bottom" : Str) == "_top") = false := by decide +kernel
theorem lk_p {p : Int} {t b : Addr} : (ffs p t b).lookup ("_prime" : Str) = some (.int p) := by
  unfold ffs
  simp only [List.lookup, beq_self_eq_true]
theorem lk_t {p : Int} {t b : Addr} : (ffs p t b).lookup ("_top" : Str) = some (.ref t) := by
  unfold ffs
  simp only [List.lookup, n_tp, beq_self_eq_true]
theorem lk_b {p : Int} {t b : Addr} : (ffs p t b).lookup ("_bottom" : Str) = some (.ref b) := by
  unfold ffs
  simp only [List.lookup, n_bp, n_bt, beq_self_eq_true]
theorem x_pt : ¬ (("_prime" : Str) = "_top") := by decide +kernel
theorem x_pb : ¬ (("_prime" : Str) = "_bottom") := by decide +kernel
theorem x_tb : ¬ (("_top" : Str) = "_bottom") := by decide +kernel
theorem put3 (p : Int) (t b : Addr) : putF "_bottom" (.ref b) (putF "_top" (.ref t) (putF "_prime" (.int p) [])) = ffs p t b := by
  simp only [putF, if_neg x_pt, if_neg x_pb, if_neg x_tb, ffs]
theorem putTB (p : Int) (t b t2 b2 : Addr) : putF "_bottom" (.ref b2) (putF "_top" (.ref t2) (ffs p t b)) = ffs p t2 b2 := by
  simp only [ffs, putF, if_neg x_pt, if_neg x_pb, if_neg x_tb, if_pos]
/-- a function of the program -/
def vF (K : PySem.W.Frag) (C : Addr) (p : Int) (F : PF) : VR := ⟨fun v H => ∃ a dx t b, v = .ref a ∧ H a = some (.ins C dx (ffs p t b)) ∧ SqT K H t (F.1.map V.int) ∧ SqT K H b (F.2.map V.int), fun e ⟨a, dx, t, b, h1, h2, h3, h4⟩ => ⟨a, dx, t, b, h1, e _ _ h2, ex_t e h3, ex_t e h4⟩⟩
/-- what the text has of the class -/
structure CF (K : PySem.W.Frag) (C : Addr) : Prop where
  cl : Cls K C
  nP : NoAttr K C "_prime"
  nT : NoAttr K C "_top"
  nB : NoAttr K C "_bottom"
section
variable {K : PySem.W.Frag} {C : Addr} {p q : Int} {F G : PF} {σ : L2.St} {H H' : Hp} {te tf : TE} {ta : TA} {E : XK} {GT : Type} {pre : GT → Prop} {args : GT → List VR} {res : GT → VR} {b : Bool}
theorem evr_fldP (c : CF K C) (h : EvR te σ H (vF K C p F)) : EvR (tFld K te "_prime") σ H (vI p) := fun H1 e Q k => h H1 e _ fun v H2 e2 ⟨a, dx, t, b, hv, ha, ht, hb⟩ => ⟨a, C, dx, _, _, hv, ha, c.cl, c.nP, lk_p, k _ H2 e2 rfl⟩
theorem evr_fldT (c : CF K C) (h : EvR te σ H (vF K C p F)) : EvR (tFld K te "_top") σ H (vP K F.1) := fun H1 e Q k => h H1 e _ fun v H2 e2 ⟨a, dx, t, b, hv, ha, ht, hb⟩ => ⟨a, C, dx, _, _, hv, ha, c.cl, c.nT, lk_t, k _ H2 e2 ⟨t, rfl, ht⟩⟩
theorem evr_fldB (c : CF K C) (h : EvR te σ H (vF K C p F)) : EvR (tFld K te "_bottom") σ H (vP K F.2) := fun H1 e Q k => h H1 e _ fun v H2 e2 ⟨a, dx, t, b, hv, ha, ht, hb⟩ => ⟨a, C, dx, _, _, hv, ha, c.cl, c.nB, lk_b, k _ H2 e2 ⟨b, rfl, hb⟩⟩
theorem evr_prop (g : GT) (hp : pre g) (ha : args g = [vF K C p F]) (h : EvR te σ H (vF K C p F)) : EvR (tProp C (Con pre args res) [] E te) σ H (res g) := fun H1 e Q k => h H1 e _ fun v H2 e2 hv => by
  obtain ⟨a, dx, t, b, rfl, h2, _⟩ := id hv
  exact ⟨a, dx, _, rfl, h2, g, hp, by rw [ha]; exact ⟨_, _, rfl, hv, rfl⟩, fun v H3 e3 hv3 => k v H3 (e2.trans e3) hv3⟩
theorem op_ownV (g : GT) (hp : pre g) (ha : args g = [vF K C p F, vF K C q G]) : OpV (rOwn2 C (Con pre args res) E) (vF K C p F) (vF K C q G) (res g) H := fun x y H1 e hx hy Q k => by
  obtain ⟨a, dx, t, b, rfl, h2, _⟩ := id hx
  obtain ⟨a', dx', t', b', rfl, h2', _⟩ := id hy
  exact ⟨a, dx, _, a', dx', _, rfl, rfl, h2, h2', g, hp, by rw [ha]; exact ⟨_, _, rfl, hx, _, _, rfl, hy, rfl⟩, k⟩
theorem op_ownNe (g : GT) (hp : pre g) (ha : args g = [vF K C p F, vF K C q G]) (hr : res g = vB b) : OpV (rOwnNe C (Con pre args res) E) (vF K C p F) (vF K C q G) (vB (!b)) H := fun x y H1 e hx hy Q k => by
  obtain ⟨a, dx, t, b', rfl, h2, _⟩ := id hx
  obtain ⟨a', dx', t', b', rfl, h2', _⟩ := id hy
  refine ⟨a, dx, _, a', dx', _, rfl, rfl, h2, h2', g, hp, by rw [ha]; exact ⟨_, _, rfl, hx, _, _, rfl, hy, rfl⟩, fun v H2 e2 hv => ?_⟩
  rw [hr] at hv
  exact ⟨b, hv, k _ H2 e2 rfl⟩
theorem op_ownIV {n : Int} (g : GT) (hp : pre g) (ha : args g = [vF K C p F, vI n]) : OpV (rOwnI C (Con pre args res) E) (vF K C p F) (vI n) (res g) H := fun x y H1 e hx hy Q k => by
  obtain ⟨a, dx, t, b, rfl, h2, _⟩ := id hx
  exact ⟨a, dx, _, n, rfl, hy, h2, g, hp, by
    have hy' : y = .int n := hy
    subst hy'
    rw [ha]
    exact ⟨_, _, rfl, hx, _, _, rfl, rfl, rfl⟩, k⟩
theorem evr_ownU (g : GT) (hp : pre g) (ha : args g = [vF K C p F]) (h : EvR te σ H (vF K C p F)) : EvR (tUn (rOwn1 C (Con pre args res) E) te) σ H (res g) := fun H1 e Q k => h H1 e _ fun v H2 e2 hv => by
  obtain ⟨a, dx, t, b, rfl, h2, _⟩ := id hv
  exact ⟨a, dx, _, rfl, h2, g, hp, by rw [ha]; exact ⟨_, _, rfl, hv, rfl⟩, fun v H3 e3 hv3 => k v H3 (e2.trans e3) hv3⟩
/-- what __init__ is handed and leaves -/
def sp___init__ (K : PySem.W.Frag) (C : Addr) : Sp := fun vs H Q _ => ∃ (H0 : Hp) (x dx : Addr) (p : Int) (t b : V) (xs ys : List Int), vs = [.ref x, .int p, t, b] ∧ H0 x = none ∧ Ex H0 H ∧ H x = some (.ins C dx []) ∧ Pr p ∧ PolyOk p xs ∧ PolyOk p ys ∧ ys ≠ [] ∧ (vP K xs).R t H0 ∧ (vP K ys).R b H0 ∧
  ∀ H', Ex H0 H' → (∃ ta tb, H' x = some (.ins C dx (ffs p ta tb)) ∧ SqT K H' ta ((nf p xs ys).1.map V.int) ∧ SqT K H' tb ((nf p xs ys).2.map V.int)) → Q .non H'
theorem mk_ex {H1 : Hp} {x dx : Addr} (hx : H1 x = none) (hd : H1 dx = none) (hn : dx ≠ x) {o : HO} {o2 : HO} : Ex H1 (upd (upd H1 dx o) x o2) := fun a oa ea => by
  rw [upd_ne (ne_of_none ea hx), upd_ne (ne_of_none ea hd)]
  exact ea
theorem evr_make {xs ys : List Int} (hp : Pr p) (hx : PolyOk p xs) (hy : PolyOk p ys) (ny : ys ≠ []) (h : EvRs ta σ H [vI p, vP K xs, vP K ys]) : EvR (tMake C (sp___init__ K C) [] E ta) σ H (vF K C p (nf p xs ys)) := fun H1 e Q k => h H1 e _ fun vs H2 e2 hvs => by
  obtain ⟨v1, w1, rfl, hv1, v2, w2, rfl, hv2, v3, w3, rfl, hv3, hw⟩ := hvs
  have hw' : w3 = [] := hw
  have hv1' : v1 = .int p := hv1
  subst hw' hv1'
  intro x dx nx nd hn
  refine ⟨H2, x, dx, p, v2, v3, xs, ys, rfl, nx, mk_ex nx nd hn, upd_same, hp, hx, hy, ny, hv2, hv3, fun H' e' ⟨ta, tb, h1, h2, h3⟩ => ⟨rfl, k _ H' (e2.trans e') ⟨x, dx, ta, tb, rfl, h1, h2, h3⟩⟩⟩
/-- .. a new one -/
theorem make_new {xs ys : List Int} (hp : Pr p) (hx : PolyOk p xs) (hy : PolyOk p ys) (ny : ys ≠ []) (h : EvRs ta σ H [vI p, vP K xs, vP K ys]) {Q : VK}
    (k : ∀ x dx t b H', H x = none → Ex H H' → H' x = some (.ins C dx (ffs p t b)) → Q (.ref x) H') : tMake C (sp___init__ K C) [] E ta σ H Q := h H (Ex.refl H) _ fun vs H2 e2 hvs => by
  obtain ⟨v1, w1, rfl, hv1, v2, w2, rfl, hv2, v3, w3, rfl, hv3, hw⟩ := hvs
  have hw' : w3 = [] := hw
  have hv1' : v1 = .int p := hv1
  subst hw' hv1'
  intro x dx nx nd hn
  have hx0 : H x = none := by
    cases hh : H x with
    | none => rfl
    | some o =>
      rw [e2 x o hh] at nx
      cases nx
  refine ⟨H2, x, dx, p, v2, v3, xs, ys, rfl, nx, mk_ex nx nd hn, upd_same, hp, hx, hy, ny, hv2, hv3, fun H' e' ⟨ta, tb, h1, h2, h3⟩ => ⟨rfl, k x dx ta tb H' hx0 (e2.trans e') h1⟩⟩
theorem sqT_upd {x a dx dx2 : Addr} {fs gs : List (Str × V)} {xs : List V} (hx : H x = some (.ins C dx fs)) (h : SqT K H a xs) : SqT K (upd H x (.ins C dx2 gs)) a xs := by
  rcases h with (h | ⟨o, h⟩) | h
  · exact .inl (.inl (by rw [upd_ne (ne_of h hx (by intro z; cases z))]; exact h))
  · exact .inl (.inr ⟨o, by rw [upd_ne (ne_of h hx (by intro z; cases z))]; exact h⟩)
  · exact .inr h
theorem vP_ins {x dx dx2 : Addr} {fs gs : List (Str × V)} {ns : List Int} {v : V} (hx : H x = some (.ins C dx fs)) (h : (vP K ns).R v H) : (vP K ns).R v (upd H x (.ins C dx2 gs)) := by
  obtain ⟨a, ha, hs⟩ := h
  exact ⟨a, ha, sqT_upd hx hs⟩
end
end K0
namespace K0
open PySem PySem.Spec PyProof.Rows L2 Kt M
open Evl (Ex Ev EvL EvU EvT EvA EvO ex_l ex_t sq_of st_of sz_of sz_lt fresh_back given)
/-! ### bundles: methods, properties, class methods -/
structure Dm (P : Program) (w : World) (K : PySem.W.Frag) (mg : Str → Option Value) (base : Heap) (C : Addr) (m : Str) (ps : List Str) (k : Nat) (sp : Sp) where
  f : Addr
  fd : FuncData
  ok : FnOk P w K mg base CX0 k f fd ps sp
  b : Binds K fd ps []
  own : OwnM K C m f
structure Dg (P : Program) (w : World) (K : PySem.W.Frag) (mg : Str → Option Value) (base : Heap) (C : Addr) (m : Str) (ps : List Str) (k : Nat) (sp : Sp) where
  f : Addr
  fd : FuncData
  p : Addr
  ok : FnOk P w K mg base CX0 k f fd ps sp
  b : Binds K fd ps []
  prop : PropOf K C m p f
structure Dk (P : Program) (w : World) (K : PySem.W.Frag) (mg : Str → Option Value) (base : Heap) (C : Addr) (m : Str) (ps : List Str) (k : Nat) (sp : Sp) where
  f : Addr
  fd : FuncData
  p : Addr
  mc : Value
  ok : FnOk P w K mg base CX0 k f fd ps sp
  b : Binds K fd ps []
  rd : ClX.CRead K C mc
  cm : ClX.CMet K C mc m p f
/-- what the text has of the class, with its name -/
structure CFm (K : PySem.W.Frag) (mg : Str → Option Value) (C : Addr) : Prop where
  c : CF K C
  mg : mg "Function" = some (.ref C)
  kp : PySem.W.keepIn K (.ref C) = true
  mks : PySem.W.makesIn K C = true
  ins : C8.InsC K C
  first : PySem.W.selfFirst K C = true
  notF : PySem.W.notFirst K C (.ref C) = true
  notT : PySem.W.notFirst K C (.type "tuple") = true
  nn : NoNe K C
  oi : OwnI K C .Pow
  kt : PySem.W.kitOne K (.type "tuple") (.ref C) = some false
theorem CFm.mkr {K : PySem.W.Frag} {mg : Str → Option Value} {C f : Addr} (c : CFm K mg C) (o : OwnM K C "__init__" f) : Mk K C f := ⟨c.mks, o.at_, o.fn, c.kp⟩
section
variable {K : PySem.W.Frag} {C f : Addr}
theorem own_add (o : OwnM K C "__add__" f) : OwnM K C (PySem.dunder Operator.Add.info.2) f := by
  rw [show PySem.dunder Operator.Add.info.2 = ("__add__" : Str) from by decide +kernel]
  exact o
theorem own_sub (o : OwnM K C "__sub__" f) : OwnM K C (PySem.dunder Operator.Sub.info.2) f := by
  rw [show PySem.dunder Operator.Sub.info.2 = ("__sub__" : Str) from by decide +kernel]
  exact o
theorem own_mul (o : OwnM K C "__mul__" f) : OwnM K C (PySem.dunder Operator.Mult.info.2) f := by
  rw [show PySem.dunder Operator.Mult.info.2 = ("__mul__" : Str) from by decide +kernel]
  exact o
theorem own_floordiv (o : OwnM K C "__floordiv__" f) : OwnM K C (PySem.dunder Operator.FloorDiv.info.2) f := by
  rw [show PySem.dunder Operator.FloorDiv.info.2 = ("__floordiv__" : Str) from by decide +kernel]
  exact o
theorem own_pow (o : OwnM K C "__pow__" f) : OwnM K C (PySem.dunder Operator.Pow.info.2) f := by
  rw [show PySem.dunder Operator.Pow.info.2 = ("__pow__" : Str) from by decide +kernel]
  exact o
end
section
variable {K : PySem.W.Frag} {mg : Str → Option Value} {C : Addr} {p q : Int} {F G : PF} {σ : L2.St} {H H' : Hp} {te tf : TE} {ta : TA} {ns : List Int}
theorem evr_isF (c : CFm K mg C) (h : EvR te σ H (vF K C p F)) : EvR (tCB (rIsi K) (tCons te (tCons (tC (.ref C)) tNil))) σ H (vB true) := fun H1 e1 Q q => h H1 e1 _ fun v H2 e2 hv => by
  obtain ⟨a, dx, t, b, rfl, h2, _⟩ := id hv
  exact ⟨.ref a, .ref C, .ref C, .ref C, true, rfl, .own C, .base (TyOf.ins h2 c.ins.cl c.ins.ha c.ins.hn c.ins.htk c.ins.hm), c.ins.me, q _ H2 e2 rfl⟩
theorem evr_isT {rs : List VR} (c : CFm K mg C) (h : EvR te σ H (vT K rs)) : EvR (tCB (rIsi K) (tCons te (tCons (tC (.ref C)) tNil))) σ H (vB false) := fun H1 e1 Q q => h H1 e1 _ fun v H2 e2 hv => by
  obtain ⟨a, xs, rfl, hs, _⟩ := id hv
  exact ⟨.ref a, .ref C, .type "tuple", .ref C, false, rfl, .own C, ty_sqT hs, c.kt, q _ H2 e2 rfl⟩
end
structure GF where
  p : Int
  F : PF
structure GFF where
  p : Int
  F : PF
  q : Int
  G : PF
structure GAF where
  p : Int
  F : PF
  G : PF
  f : Int
structure GTB where
  p : Int
  t : List Int
  b : List Int
structure GTBC where
  p : Int
  t : List Int
  b : List Int
  c : List Int
section
variable (K : PySem.W.Frag) (C : Addr)
def sp_F___init__ : Sp := sp___init__ K C
def sp_F_prime : Sp := Con (G := GF) (fun _ => True) (fun g => [vF K C g.p g.F]) (fun g => vI g.p)
def sp_F_top : Sp := Con (G := GF) (fun _ => True) (fun g => [vF K C g.p g.F]) (fun g => vP K g.F.1)
def sp_F_bottom : Sp := Con (G := GF) (fun _ => True) (fun g => [vF K C g.p g.F]) (fun g => vP K g.F.2)
def sp_F___bool__ : Sp := Con (G := GF) (fun _ => True) (fun g => [vF K C g.p g.F]) (fun g => vB (!g.F.1.isEmpty))
def sp_F___eq__ : Sp := Con (G := GFF) (fun _ => True) (fun g => [vF K C g.p g.F, vF K C g.q g.G]) (fun g => vB (decide (g.p = g.q) && (decide (g.F.1 = g.G.1) && decide (g.F.2 = g.G.2))))
def sp_lowest_terms : Sp := Con (G := GTB) (fun g => Pr g.p ∧ PolyOk g.p g.t ∧ PolyOk g.p g.b ∧ g.b ≠ []) (fun g => [vI g.p, vP K g.t, vP K g.b]) (fun g => vT K [vP K (nf g.p g.t g.b).1, vP K (nf g.p g.t g.b).2])
def sp_made_function : Sp := Con (G := GTB) (fun g => Pr g.p) (fun g => [vI g.p, vP K g.t, vP K g.b]) (fun g => vF K C g.p (g.t, g.b))
def sp_shortened : Sp := Con (G := GTBC) (fun g => Pr g.p ∧ Pl g.p g.t ∧ Pl g.p g.b ∧ Pl g.p g.c ∧ Mo g.b ∧ Mo g.c ∧ g.t.length ≤ 200 ∧ g.b.length ≤ 200 ∧ g.c.length ≤ 64) (fun g => [vI g.p, vP K g.t, vP K g.b, vP K g.c]) (fun g => vF K C g.p (shorten g.p g.t g.b g.c))
def sp_check_same_prime : Sp := Con (G := GAF) (fun _ => True) (fun g => [vT K [vF K C g.p g.F, vF K C g.p g.G]]) (fun _ => vN)
/-- two functions of not too great length -/
def FF (g : GAF) : Prop := Pr g.p ∧ NF g.p g.F ∧ NF g.p g.G ∧ Le 40 g.F ∧ Le 40 g.G
def sp_add_function : Sp := Con (G := GAF) (fun g => FF g ∧ (g.f = 1 ∨ g.f = -1)) (fun g => [vF K C g.p g.F, vF K C g.p g.G, vI g.f]) (fun g => vF K C g.p (fAdd g.p g.F g.G g.f))
def sp_multiply_function : Sp := Con (G := GAF) FF (fun g => [vF K C g.p g.F, vF K C g.p g.G]) (fun g => vF K C g.p (fMul g.p g.F g.G))
def sp_turned_round : Sp := Con (G := GF) (fun g => Pr g.p ∧ NF g.p g.F ∧ Le 40 g.F ∧ g.F.1 ≠ []) (fun g => [vF K C g.p g.F]) (fun g => vF K C g.p (fBack g.p g.F))
def sp_F___add__ : Sp := Con (G := GAF) FF (fun g => [vF K C g.p g.F, vF K C g.p g.G]) (fun g => vF K C g.p (fAdd g.p g.F g.G 1))
def sp_F___sub__ : Sp := Con (G := GAF) FF (fun g => [vF K C g.p g.F, vF K C g.p g.G]) (fun g => vF K C g.p (fAdd g.p g.F g.G (-1)))
def sp_F___mul__ : Sp := Con (G := GAF) FF (fun g => [vF K C g.p g.F, vF K C g.p g.G]) (fun g => vF K C g.p (fMul g.p g.F g.G))
def sp_F___floordiv__ : Sp := Con (G := GAF) (fun g => FF g ∧ g.G.1 ≠ []) (fun g => [vF K C g.p g.F, vF K C g.p g.G]) (fun g => vF K C g.p (fMul g.p g.F (fBack g.p g.G)))
def sp_F___neg__ : Sp := Con (G := GF) (fun g => Pr g.p ∧ NF g.p g.F ∧ Le 40 g.F) (fun g => [vF K C g.p g.F]) (fun g => vF K C g.p (fAdd g.p ([], [1]) g.F (-1)))
structure GFn where
  p : Int
  F : PF
  n : Nat
def sp_F___pow__ : Sp := Con (G := GFn) (fun g => Pr g.p ∧ NF g.p g.F ∧ g.n ≤ 20 ∧ ∃ m, Le m g.F ∧ g.n * (1 + m) ≤ 60) (fun g => [vF K C g.p g.F, vI (g.n : Int)]) (fun g => vF K C g.p (fPow g.p g.F g.n))
end
end K0
namespace K0
open PySem PySem.Spec PyProof.Rows L2 Kt M
open Evl (Ex Ev EvL EvU EvT EvA EvO ex_l ex_t sq_of st_of sz_of sz_lt fresh_back given)
theorem up {r : VR} {v : V} {H H' : Hp} (h : r.R v H) (e : Ex H H') : r.R v H' := r.st e h
theorem Pl.quot {p : Int} (hp : Pr p) {xs : List Int} (hx : Pl p xs) (ys : List Int) : Pl p (quotientOf p xs ys) := by
  rw [quotientOf_eq hp hx.r hx.t]
  exact hx.div1 (by have := hp.le; omega) ys
theorem Com.sym {p : Int} {xs ys g : List Int} (c : Com p xs ys g) : Com p ys xs g := ⟨c.pl, fun a b => c.zero b a, fun h => c.mo h.symm, (by obtain ⟨a, b, fa, fb, h1, h2⟩ := c.dv; exact ⟨b, a, fb, fa, h2, h1⟩), (by obtain ⟨u, v, fu, fv, h⟩ := c.bz; exact ⟨v, u, fv, fu, by rw [← h]; grind⟩)⟩
theorem Pl.sm {p : Int} (hp : Pr p) {xs : List Int} (hx : Pl p xs) : Small xs := hx.r.small (by have := hp.le; omega)
theorem dpre {p : Int} (hp : Pr p) {xs ys : List Int} (hx : Pl p xs) (hy : Pl p ys) (lx : xs.length ≤ 1000) (ly : ys.length ≤ 64) (ny : ys ≠ []) : DivPre ⟨p, xs, ys⟩ := ⟨by have := hp.le; show 0 < p; omega, by have := hp.le; show p ≤ 100000; omega, lx, ly, ny, hx.sm hp, hy.sm hp⟩
theorem cpre {p : Int} (hp : Pr p) {xs ys : List Int} (hx : Pl p xs) (hy : Pl p ys) (lx : xs.length ≤ 1000) (ly : ys.length ≤ 64) : 0 < (GQ.mk p xs ys).p ∧ (GQ.mk p xs ys).p ≤ 100000 ∧ (GQ.mk p xs ys).xs.length ≤ 1000 ∧ (GQ.mk p xs ys).ys.length ≤ 64 ∧ Small (GQ.mk p xs ys).xs ∧ Small (GQ.mk p xs ys).ys := ⟨by have := hp.le; show 0 < p; omega, by have := hp.le; show p ≤ 100000; omega, lx, ly, hx.sm hp, hy.sm hp⟩
theorem spre {p : Int} (hp : Pr p) {xs : List Int} (hx : Pl p xs) (f : Int) (lx : xs.length ≤ 1000) : 0 < (GS.mk p xs f).p ∧ (GS.mk p xs f).ns.length ≤ 40000 ∧ Small (GS.mk p xs f).ns := ⟨by have := hp.le; show 0 < p; omega, by show xs.length ≤ 40000; omega, hx.sm hp⟩
theorem mpre {p : Int} (hp : Pr p) {xs ys : List Int} (hx : Pl p xs) (hy : Pl p ys) (lx : xs.length ≤ 90) (ly : ys.length ≤ 90) : MulPre ⟨p, xs, ys⟩ := ⟨hp.le.1, hp.le7, hx.r, hy.r, hx.t, hy.t, Nat.le_trans lx (by decide), Nat.le_trans ly (by decide), .inl lx⟩
theorem q_new {K : PySem.W.Frag} {C : Addr} {p : Int} {xs ys : List Int} {ta : TA} {σ : L2.St} {H : Hp} {E : XK} {i : Nat} {tz : TS} {D : Ends} (hp : Pr p) (hx : PolyOk p xs) (hy : PolyOk p ys) (ny : ys ≠ []) (h : EvRs ta σ H [vI p, vP K xs, vP K ys])
    (k : ∀ x dx t b H', H x = none → Ex H H' → H' x = some (.ins C dx (ffs p t b)) → tz D (σ.set i (some (.ref x))) H') : tSeq (tAsg (tMake C (sp_F___init__ K C) [] E ta) (gName i)) tz D σ H := by
  show tMake C (sp___init__ K C) [] E ta σ H (fun v H1 => tz D (σ.set i (some v)) H1)
  exact make_new hp hx hy ny h k
theorem PolyOk.pl {p : Int} {xs : List Int} (h : PolyOk p xs) : Pl p xs := ⟨h.r, h.t⟩
section
variable {P : Program} {w : World} {K : PySem.W.Frag} {mg : Str → Option Value} {base : Heap} {C : Addr}
abbrev s_F_prime : Stmt := inClass (topS 54) 4
abbrev N_F_prime : List Str := ["self"]
theorem sc_F_prime : FnScope N_F_prime ["self"] (defScope s_F_prime) := ⟨rfl, rfl, rfl, by decide +kernel, rfl, by decide +kernel, by decide +kernel⟩
theorem ok_F_prime {f : Addr} {fd : FuncData} (F : Fun K "prime" "Function.prime" s_F_prime f fd) (B : Bis mg) (cf : CFm K mg C)   : FnOk P w K mg base CX0 1 f fd ["self"] (sp_F_prime K C) := by
  refine F.ok sc_F_prime (fun vs H Q E h => ?_) (fun cdv A outer s H vs Q E hr h => ?_)
  · obtain ⟨g, _, ha, _⟩ := h
    exact ha.len
  · obtain ⟨⟨p, F0⟩, hpre, ⟨v_self, _, rfl, h_self, rfl⟩, q⟩ := h
    dsimp only at *
    refine ⟨_, (pss_one (ps_ret (pe_fld (pv 0) rfl))), ?_⟩
    exact sr_ret (evr_fldP cf.c (evr_var rfl h_self)) q
abbrev s_F_top : Stmt := inClass (topS 54) 5
abbrev N_F_top : List Str := ["self"]
theorem sc_F_top : FnScope N_F_top ["self"] (defScope s_F_top) := ⟨rfl, rfl, rfl, by decide +kernel, rfl, by decide +kernel, by decide +kernel⟩
theorem ok_F_top {f : Addr} {fd : FuncData} (F : Fun K "top" "Function.top" s_F_top f fd) (B : Bis mg) (cf : CFm K mg C)   : FnOk P w K mg base CX0 1 f fd ["self"] (sp_F_top K C) := by
  refine F.ok sc_F_top (fun vs H Q E h => ?_) (fun cdv A outer s H vs Q E hr h => ?_)
  · obtain ⟨g, _, ha, _⟩ := h
    exact ha.len
  · obtain ⟨⟨p, F0⟩, hpre, ⟨v_self, _, rfl, h_self, rfl⟩, q⟩ := h
    dsimp only at *
    refine ⟨_, (pss_one (ps_ret (pe_fld (pv 0) rfl))), ?_⟩
    exact sr_ret (evr_fldT cf.c (evr_var rfl h_self)) q
abbrev s_F_bottom : Stmt := inClass (topS 54) 6
abbrev N_F_bottom : List Str := ["self"]
theorem sc_F_bottom : FnScope N_F_bottom ["self"] (defScope s_F_bottom) := ⟨rfl, rfl, rfl, by decide +kernel, rfl, by decide +kernel, by decide +kernel⟩
theorem ok_F_bottom {f : Addr} {fd : FuncData} (F : Fun K "bottom" "Function.bottom" s_F_bottom f fd) (B : Bis mg) (cf : CFm K mg C)   : FnOk P w K mg base CX0 1 f fd ["self"] (sp_F_bottom K C) := by
  refine F.ok sc_F_bottom (fun vs H Q E h => ?_) (fun cdv A outer s H vs Q E hr h => ?_)
  · obtain ⟨g, _, ha, _⟩ := h
    exact ha.len
  · obtain ⟨⟨p, F0⟩, hpre, ⟨v_self, _, rfl, h_self, rfl⟩, q⟩ := h
    dsimp only at *
    refine ⟨_, (pss_one (ps_ret (pe_fld (pv 0) rfl))), ?_⟩
    exact sr_ret (evr_fldB cf.c (evr_var rfl h_self)) q
def sp_F_degree (K : PySem.W.Frag) (C : Addr) : Sp := Con (G := GF) (fun _ => True) (fun g => [vF K C g.p g.F]) (fun g => if g.F.1 = [] then vN else vI ((g.F.1.length : Int) - (g.F.2.length : Int)))
abbrev s_F_degree : Stmt := inClass (topS 54) 7
abbrev N_F_degree : List Str := ["self"]
theorem sc_F_degree : FnScope N_F_degree ["self"] (defScope s_F_degree) := ⟨rfl, rfl, rfl, by decide +kernel, rfl, by decide +kernel, by decide +kernel⟩
theorem ok_F_degree {f : Addr} {fd : FuncData} (F : Fun K "degree" "Function.degree" s_F_degree f fd) (B : Bis mg) (cf : CFm K mg C)   : FnOk P w K mg base CX0 1 f fd ["self"] (sp_F_degree K C) := by
  refine F.ok sc_F_degree (fun vs H Q E h => ?_) (fun cdv A outer s H vs Q E hr h => ?_)
  · obtain ⟨g, _, ha, _⟩ := h
    exact ha.len
  · obtain ⟨⟨p, F0⟩, hpre, ⟨v_self, _, rfl, h_self, rfl⟩, q⟩ := h
    dsimp only at *
    refine ⟨_, (pss_cons (ps_if (pt_not (pt_truth (pe_fld (pv 0) rfl) (by intro _; rfl))) (pss_one (ps_ret pe_non)) pss_nil)
      (pss_one (ps_ret (pe_op op_sub (pe_callB call_len_seq (by rfl) (B "len" (by decide +kernel)) (by decide +kernel) (pa_cons (pe_fld (pv 0) rfl) pa_nil)) (pe_callB call_len_seq (by rfl) (B "len" (by decide +kernel)) (by decide +kernel) (pa_cons (pe_fld (pv 0) rfl) pa_nil)))))), ?_⟩
    refine Evl.q_when (Evl.et_not (et_truP (evr_fldT cf.c (evr_var rfl h_self)))) (fun hb H1 e1 => ?_) (fun hb H1 e1 => ?_)
    · have hb' : F0.1 = [] := by
        cases hF : F0.1 with
        | nil => rfl
        | cons a l => rw [hF] at hb; cases hb
      rw [if_pos hb'] at q
      exact sr_ret evr_c fun v H2 e2 hv => q v H2 (e1.trans e2) hv
    · have hb' : ¬ F0.1 = [] := fun z => by
        rw [z] at hb
        cases hb
      rw [if_neg hb'] at q
      exact sr_ret (evr_op (evr_lenR rfl (EvR.kP (evr_fldT cf.c (evr_var rfl (up h_self e1))))) (evr_lenR rfl (EvR.kP (evr_fldB cf.c (evr_var rfl (up h_self e1))))) op_i0) fun v H2 e2 hv => q v H2 (e1.trans e2) hv
abbrev s_F___eq__ : Stmt := inClass (topS 54) 19
abbrev N_F___eq__ : List Str := ["self", "other"]
theorem sc_F___eq__ : FnScope N_F___eq__ ["self", "other"] (defScope s_F___eq__) := ⟨rfl, rfl, rfl, by decide +kernel, rfl, by decide +kernel, by decide +kernel⟩
theorem ok_F___eq__ {f : Addr} {fd : FuncData} (F : Fun K "__eq__" "Function.__eq__" s_F___eq__ f fd) (B : Bis mg) (cf : CFm K mg C)   : FnOk P w K mg base CX0 1 f fd ["self", "other"] (sp_F___eq__ K C) := by
  refine F.ok sc_F___eq__ (fun vs H Q E h => ?_) (fun cdv A outer s H vs Q E hr h => ?_)
  · obtain ⟨g, _, ha, _⟩ := h
    exact ha.len
  · obtain ⟨⟨p, F0, p2, G0⟩, hpre, ⟨v_self, _, rfl, h_self, ⟨v_other, _, rfl, h_other, rfl⟩⟩, q⟩ := h
    dsimp only at *
    refine ⟨_, (pss_one (ps_ret (pe_and (pe_callB (id := "isinstance") (r := rIsi K) call_isi (by rfl) (B "isinstance" (by decide +kernel)) (by decide +kernel) (pa_cons (pv 1) (pa_cons (pe_glob (v := .ref C) (by rfl) cf.mg rfl) pa_nil))) (pe_and (pe_cmpR op_eq (pe_fld (pv 0) rfl) (pe_fld (pv 1) rfl) (nomark _)) (pe_and (pe_cmpR (r := rEqD K) (op_eqD hr.units) (pe_fld (pv 0) rfl) (pe_fld (pv 1) rfl) (nomark _)) (pe_one (pe_cmpR (r := rEqD K) (op_eqD hr.units) (pe_fld (pv 0) rfl) (pe_fld (pv 1) rfl) (nomark _)))))))), ?_⟩
    exact sr_ret (evr_and (evr_isF cf (evr_var rfl h_other)) fun _ => evr_and (evr_op (evr_fldP cf.c (evr_var rfl h_self)) (evr_fldP cf.c (evr_var rfl h_other)) (op_eqS rfl)) fun _ => evr_and (evr_op (evr_fldT cf.c (evr_var rfl h_self)) (evr_fldT cf.c (evr_var rfl h_other)) op_eqP) fun _ => evr_op (evr_fldB cf.c (evr_var rfl h_self)) (evr_fldB cf.c (evr_var rfl h_other)) op_eqP) fun v H1 e1 hv => q v H1 e1 (by
      have e : decide (V.int p = V.int p2) = decide (p = p2) := decide_eq_decide.mpr ⟨fun h => by injection h, fun h => by rw [h]⟩
      rw [e] at hv
      exact hv)
abbrev s_lowest_terms : Stmt := topS 57
abbrev N_lowest_terms : List Str := ["prime", "top", "bottom", "common", "unit"]
theorem sc_lowest_terms : FnScope N_lowest_terms ["prime", "top", "bottom"] (defScope s_lowest_terms) := ⟨rfl, rfl, rfl, by decide +kernel, rfl, by decide +kernel, by decide +kernel⟩
theorem ok_lowest_terms {f : Addr} {fd : FuncData} (F : Fun K "lowest_terms" "lowest_terms" s_lowest_terms f fd) (B : Bis mg) (cf : CFm K mg C)  (D_common_divisor : De P w K mg base "common_divisor" ["prime", "one", "other"] 5 (sp_common_divisor K)) (D_inverse : De P w K mg base "inverse" ["prime", "number"] 1 (sp_inverse K)) (D_scale : De P w K mg base "scale" ["prime", "poly", "factor"] 2 (sp_scale K)) (D_quotient_of : De P w K mg base "quotient_of" ["prime", "one", "other"] 4 (sp_quotient_of K)) : FnOk P w K mg base CX0 6 f fd ["prime", "top", "bottom"] (sp_lowest_terms K) := by
  refine F.ok sc_lowest_terms (fun vs H Q E h => ?_) (fun cdv A outer s H vs Q E hr h => ?_)
  · obtain ⟨g, _, ha, _⟩ := h
    exact ha.len
  · obtain ⟨⟨prime, top, bottom⟩, ⟨hp, ht, hbm, nb⟩, ⟨_, _, rfl, rfl, ⟨v_top, _, rfl, h_top, ⟨v_bottom, _, rfl, h_bottom, rfl⟩⟩⟩, q⟩ := h
    dsimp only at *
    refine ⟨_, (pss_cons (ps_set (i := 3) sc_lowest_terms.nd rfl (Or.inl rfl) (pe_call D_common_divisor.ok (hr.mono (by decide)) (by rfl) D_common_divisor.g D_common_divisor.kp D_common_divisor.b .nil pass0 (pa_cons (pv 0) (pa_cons (pv 1) (pa_cons (pv 2) pa_nil)))))
      (pss_cons (ps_set (i := 4) sc_lowest_terms.nd rfl (Or.inl rfl) (pe_call D_inverse.ok (hr.mono (by decide)) (by rfl) D_inverse.g D_inverse.kp D_inverse.b .nil pass0 (pa_cons (pv 0) (pa_cons (pe_ix (r := rIxT K) ix_tup (pv 2) (pe_un un_neg pe_int) (fun _ _ => rfl)) pa_nil))))
      (pss_cons (ps_set (i := 1) sc_lowest_terms.nd rfl (Or.inl rfl) (pe_call D_scale.ok (hr.mono (by decide)) (by rfl) D_scale.g D_scale.kp D_scale.b .nil pass0 (pa_cons (pv 0) (pa_cons (pe_call D_quotient_of.ok (hr.mono (by decide)) (by rfl) D_quotient_of.g D_quotient_of.kp D_quotient_of.b .nil pass0 (pa_cons (pv 0) (pa_cons (pv 1) (pa_cons (pv 3) pa_nil)))) (pa_cons (pv 4) pa_nil)))))
      (pss_one (ps_ret (pe_tup (pa_cons (pv 1) (pa_cons (pe_call D_scale.ok (hr.mono (by decide)) (by rfl) D_scale.g D_scale.kp D_scale.b .nil pass0 (pa_cons (pv 0) (pa_cons (pe_call D_quotient_of.ok (hr.mono (by decide)) (by rfl) D_quotient_of.g D_quotient_of.kp D_quotient_of.b .nil pass0 (pa_cons (pv 0) (pa_cons (pv 2) (pa_cons (pv 3) pa_nil)))) (pa_cons (pv 4) pa_nil)))) pa_nil)))))))), ?_⟩
    have h2 := hp.le
    have pt := ht.pl
    have pb := hbm.pl
    have lt := ht.l
    have lb := hbm.l
    have cm := com_ok hp pt pb (by omega) (by omega)
    have ng : common prime top bottom ≠ [] := (cm.mo (.inr nb)).1
    have lg : (common prime top bottom).length ≤ bottom.length := com_len hp pb nb cm.sym
    have l1 := quot_len hp pt ng
    have l2 := quot_len hp pb ng
    refine qr_asg (evr_call (GQ.mk prime top bottom) (cpre hp pt pb (by omega) (by omega)) (evrs_cons (evr_var rfl rfl) (evrs_cons (evr_var rfl h_top) (evrs_cons (evr_var rfl h_bottom) evrs_nil)))) fun x1 H1 e1 h1 => ?_
    refine qr_asg (evr_call (G2.mk prime (bottom.getLastD 0)) ⟨by show 0 < prime; omega, by show prime ≤ 100000; omega⟩ (evrs_cons (evr_var rfl rfl) (evrs_cons (evr_op (evr_var rfl (up h_bottom e1)) (un_negI evr_c) (op_ixP (z := .int (bottom.getLastD 0)) (by
      rw [List.getLastD_eq_getLast?, List.getLast?_eq_some_getLast nb]
      exact atI_lastI nb))) evrs_nil))) fun x2 H2 e2 h2' => ?_
    obtain rfl : x2 = .int (inv prime (bottom.getLastD 0)) := h2'
    refine qr_asg (evr_call (GS.mk prime (quotientOf prime top (common prime top bottom)) (inv prime (bottom.getLastD 0))) (spre hp (pt.quot hp _) _ (by omega)) (evrs_cons (evr_var rfl rfl) (evrs_cons (evr_call (GQ.mk prime top (common prime top bottom)) (dpre hp pt cm.pl (by omega) (by omega) ng) (evrs_cons (evr_var rfl rfl) (evrs_cons (evr_var rfl (up h_top (e1.trans e2))) (evrs_cons (evr_var rfl (up h1 e2)) evrs_nil)))) (evrs_cons (evr_var rfl rfl) evrs_nil)))) fun x3 H3 e3 h3 => ?_
    refine sr_ret (evr_dispT (K := K) (evrs_cons (evr_var rfl h3) (evrs_cons (evr_call (GS.mk prime (quotientOf prime bottom (common prime top bottom)) (inv prime (bottom.getLastD 0))) (spre hp (pb.quot hp _) _ (by omega)) (evrs_cons (evr_var rfl rfl) (evrs_cons (evr_call (GQ.mk prime bottom (common prime top bottom)) (dpre hp pb cm.pl (by omega) (by omega) ng) (evrs_cons (evr_var rfl rfl) (evrs_cons (evr_var rfl (up h_bottom ((e1.trans e2).trans e3))) (evrs_cons (evr_var rfl (up h1 (e2.trans e3))) evrs_nil)))) (evrs_cons (evr_var rfl rfl) evrs_nil)))) evrs_nil)) (Nat.le_of_ble_eq_true rfl)) fun v H4 e4 hv => q v H4 (((e1.trans e2).trans e3).trans e4) ?_
    have hl := lowest_ok hp pt pb nb (by omega) (by omega)
    rw [← hl]
    exact hv
abbrev s_F___init__ : Stmt := inClass (topS 54) 0
abbrev N_F___init__ : List Str := ["self", "prime", "top", "bottom", "lowest"]
theorem sc_F___init__ : FnScope N_F___init__ ["self", "prime", "top", "bottom"] (defScope s_F___init__) := ⟨rfl, rfl, rfl, by decide +kernel, rfl, by decide +kernel, by decide +kernel⟩
theorem ok_F___init__ {f : Addr} {fd : FuncData} (F : Fun K "__init__" "Function.__init__" s_F___init__ f fd) (B : Bis mg) (cf : CFm K mg C)  (D_check_prime : De P w K mg base "check_prime" ["prime"] 2 (sp_check_prime K)) (D_check_poly : De P w K mg base "check_poly" ["prime", "poly"] 4 (sp_check_poly K)) (D_lowest_terms : De P w K mg base "lowest_terms" ["prime", "top", "bottom"] 6 (sp_lowest_terms K)) : FnOk P w K mg base CX0 7 f fd ["self", "prime", "top", "bottom"] (sp_F___init__ K C) := by
  refine F.ok sc_F___init__ (fun vs H Q E h => ?_) (fun cdv A outer s H vs Q E hr h => ?_)
  · obtain ⟨_, _, _, _, _, _, _, _, rfl, _⟩ := h
    rfl
  · obtain ⟨H0, x, dx, p, t, b, xs, ys, rfl, hx0, e0, hx, hp, hxs, hys, ny, ht, hb, q⟩ := h
    refine ⟨_, (pss_cons (ps_expr (pe_call D_check_prime.ok (hr.mono (by decide)) (by rfl) D_check_prime.g D_check_prime.kp D_check_prime.b .nil pass0 (pa_cons (pv 1) pa_nil)))
      (pss_cons (ps_expr (pe_call D_check_poly.ok (hr.mono (by decide)) (by rfl) D_check_poly.g D_check_poly.kp D_check_poly.b .nil pass0 (pa_cons (pv 1) (pa_cons (pv 2) pa_nil))))
      (pss_cons (ps_expr (pe_call D_check_poly.ok (hr.mono (by decide)) (by rfl) D_check_poly.g D_check_poly.kp D_check_poly.b .nil pass0 (pa_cons (pv 1) (pa_cons (pv 3) pa_nil))))
      (pss_cons (ps_if (pt_not (pt_truth (pv 3) (by intro _; rfl))) (pss_one ps_never) pss_nil)
      (pss_cons (ps_set (i := 4) sc_F___init__.nd rfl (Or.inl rfl) (pe_call D_lowest_terms.ok (hr.mono (by decide)) (by rfl) D_lowest_terms.g D_lowest_terms.kp D_lowest_terms.b .nil pass0 (pa_cons (pv 1) (pa_cons (pv 2) (pa_cons (pv 3) pa_nil)))))
      (pss_cons (ps_fld (pv 0) (pv 1) rfl)
      (pss_cons (ps_fld (pv 0) (pe_ix (r := rIxT K) ix_tup (pv 4) pe_int (fun _ _ => rfl)) rfl)
      (pss_one (ps_fld (pv 0) (pe_ix (r := rIxT K) ix_tup (pv 4) pe_int (fun _ _ => rfl)) rfl))))))))), ?_⟩
    refine qr_drop (evr_call p hp (evrs_cons (evr_var rfl rfl) evrs_nil)) fun H1 e1 => ?_
    refine qr_drop (evr_call (GP.mk p xs) ⟨hp, hxs⟩ (evrs_cons (evr_var rfl rfl) (evrs_cons (evr_var rfl (up ht (e0.trans e1))) evrs_nil))) fun H2 e2 => ?_
    refine qr_drop (evr_call (GP.mk p ys) ⟨hp, hys⟩ (evrs_cons (evr_var rfl rfl) (evrs_cons (evr_var rfl (up hb ((e0.trans e1).trans e2))) evrs_nil))) fun H3 e3 => ?_
    have e03 := ((e0.trans e1).trans e2).trans e3
    refine Evl.q_when (Evl.et_not (et_truP (evr_var rfl (up hb e03)))) (fun hc H4 e4 => ?_) (fun hc H4 e4 => ?_)
    · cases ys with
      | nil => exact absurd rfl ny
      | cons a l => cases hc
    refine qr_asg (evr_call (GTB.mk p xs ys) ⟨hp, hxs, hys, ny⟩ (evrs_cons (evr_var rfl rfl) (evrs_cons (evr_var rfl (up ht (e03.trans e4))) (evrs_cons (evr_var rfl (up hb (e03.trans e4))) evrs_nil)))) fun v H5 e5 hv => ?_
    obtain ⟨a, ws, rfl, hT, w1, ws1, rfl, ⟨t1, rfl, s1⟩, w2, ws2, rfl, ⟨b1, rfl, s2⟩, hw⟩ := hv
    obtain rfl : ws2 = [] := hw
    have e05 := (e03.trans e4).trans e5
    have hx5 : H5 x = some (.ins C dx []) := e5 _ _ (e4 _ _ (e3 _ _ (e2 _ _ (e1 _ _ hx))))
    refine ⟨.int p, rfl, .ref x, rfl, x, C, dx, [], rfl, hx5, cf.c.cl, cf.c.nP, (by show 0 < 1000; decide), ?_⟩
    refine ⟨.ref a, rfl, a, _, 0, .ref t1, rfl, rfl, sqT_upd hx5 hT, rfl, .ref x, rfl, x, C, dx, _, rfl, upd_same, cf.c.cl, cf.c.nT, (by show 1 < 1000; decide), ?_⟩
    refine ⟨.ref a, rfl, a, _, 1, .ref b1, rfl, rfl, sqT_upd upd_same (sqT_upd hx5 hT), rfl, .ref x, rfl, x, C, dx, _, rfl, upd_same, cf.c.cl, cf.c.nB, (by
      simp only [putF, if_neg x_pt]
      show 2 < 1000
      decide), ?_⟩
    refine q _ (fun c o ec => ?_) ⟨t1, b1, ?_, sqT_upd upd_same (sqT_upd upd_same (sqT_upd hx5 s1)), sqT_upd upd_same (sqT_upd upd_same (sqT_upd hx5 s2))⟩
    · rw [upd_ne (ne_of_none ec hx0), upd_ne (ne_of_none ec hx0), upd_ne (ne_of_none ec hx0)]
      exact e05 _ _ ec
    · rw [upd_same, put3]
theorem okP0 {p : Int} : PolyOk p [] := ⟨fun n hn => by simp at hn, rfl, by decide⟩
theorem okP1 {p : Int} (hp : Pr p) : PolyOk p [1] := ⟨fun n hn => by
  obtain rfl := List.mem_singleton.mp hn
  have := hp.le
  omega, rfl, by decide⟩
abbrev s_made_function : Stmt := topS 55
abbrev N_made_function : List Str := ["prime", "top", "bottom", "function"]
theorem sc_made_function : FnScope N_made_function ["prime", "top", "bottom"] (defScope s_made_function) := ⟨rfl, rfl, rfl, by decide +kernel, rfl, by decide +kernel, by decide +kernel⟩
theorem ok_made_function {f : Addr} {fd : FuncData} (F : Fun K "made_function" "made_function" s_made_function f fd) (B : Bis mg) (cf : CFm K mg C)   (M___init__ : Dm P w K mg base C "__init__" ["self", "prime", "top", "bottom"] 7 (sp_F___init__ K C)) : FnOk P w K mg base CX0 9 f fd ["prime", "top", "bottom"] (sp_made_function K C) := by
  refine F.ok sc_made_function (fun vs H Q E h => ?_) (fun cdv A outer s H vs Q E hr h => ?_)
  · obtain ⟨g, _, ha, _⟩ := h
    exact ha.len
  · obtain ⟨⟨prime, top, bottom⟩, hp, ⟨_, _, rfl, rfl, ⟨v_top, _, rfl, h_top, ⟨v_bottom, _, rfl, h_bottom, rfl⟩⟩⟩, q⟩ := h
    dsimp only at *
    refine ⟨_, (pss_cons (ps_set (i := 3) sc_made_function.nd rfl (Or.inl rfl) (pe_make (cf.mkr M___init__.own) M___init__.ok (hr.mono (by decide)) (by rfl) cf.mg M___init__.b .nil pass0 (pa_cons (pv 0) (pa_cons (pe_tup pa_nil) (pa_cons (pe_tup (pa_cons pe_int pa_nil)) pa_nil)))))
      (pss_cons (ps_fld (pv 3) (pv 1) rfl)
      (pss_cons (ps_fld (pv 3) (pv 2) rfl)
      (pss_one (ps_ret (pv 3)))))), ?_⟩
    obtain ⟨t1, rfl, s1⟩ := h_top
    obtain ⟨b1, rfl, s2⟩ := h_bottom
    refine q_new hp okP0 (okP1 hp) (by simp) (evrs_cons (evr_var rfl rfl) (evrs_cons (evr_disp (ns := []) evrs_nil (by decide)) (evrs_cons (evr_disp (ns := [1]) (evrs_cons evr_c evrs_nil) (by decide)) evrs_nil))) fun x dx t0 b0 H1 nx e1 h1 => ?_
    refine ⟨.ref t1, rfl, .ref x, rfl, x, C, dx, _, rfl, h1, cf.c.cl, cf.c.nT, (by show 3 < 1000; decide), ?_⟩
    refine ⟨.ref b1, rfl, .ref x, rfl, x, C, dx, _, rfl, upd_same, cf.c.cl, cf.c.nB, (by
      simp only [ffs, putF, if_neg x_pt, if_pos]
      show 3 < 1000
      decide), ?_⟩
    refine ⟨.ref x, rfl, q _ _ (fun c o ec => ?_) ⟨x, dx, t1, b1, rfl, ?_, sqT_upd upd_same (sqT_upd h1 (ex_t e1 s1)), sqT_upd upd_same (sqT_upd h1 (ex_t e1 s2))⟩⟩
    · rw [upd_ne (ne_of_none ec nx), upd_ne (ne_of_none ec nx)]
      exact e1 _ _ ec
    · rw [upd_same, putTB]
abbrev s_shortened : Stmt := topS 58
abbrev N_shortened : List Str := ["prime", "top", "bottom", "common", "extra"]
theorem sc_shortened : FnScope N_shortened ["prime", "top", "bottom", "common"] (defScope s_shortened) := ⟨rfl, rfl, rfl, by decide +kernel, rfl, by decide +kernel, by decide +kernel⟩
theorem ok_shortened {f : Addr} {fd : FuncData} (F : Fun K "shortened" "shortened" s_shortened f fd) (B : Bis mg) (cf : CFm K mg C)  (D_common_divisor : De P w K mg base "common_divisor" ["prime", "one", "other"] 5 (sp_common_divisor K)) (D_made_function : De P w K mg base "made_function" ["prime", "top", "bottom"] 9 (sp_made_function K C)) (D_quotient_of : De P w K mg base "quotient_of" ["prime", "one", "other"] 4 (sp_quotient_of K)) : FnOk P w K mg base CX0 10 f fd ["prime", "top", "bottom", "common"] (sp_shortened K C) := by
  refine F.ok sc_shortened (fun vs H Q E h => ?_) (fun cdv A outer s H vs Q E hr h => ?_)
  · obtain ⟨g, _, ha, _⟩ := h
    exact ha.len
  · obtain ⟨⟨prime, top, bottom, cmn⟩, ⟨hp, pt, pb, pc, mb, mc, lt, lb, lc⟩, ⟨_, _, rfl, rfl, ⟨v_top, _, rfl, h_top, ⟨v_bottom, _, rfl, h_bottom, ⟨v_common, _, rfl, h_common, rfl⟩⟩⟩⟩, q⟩ := h
    dsimp only at *
    refine ⟨_, (pss_cons (ps_set (i := 4) sc_shortened.nd rfl (Or.inl rfl) (pe_call D_common_divisor.ok (hr.mono (by decide)) (by rfl) D_common_divisor.g D_common_divisor.kp D_common_divisor.b .nil pass0 (pa_cons (pv 0) (pa_cons (pv 1) (pa_cons (pv 3) pa_nil)))))
      (pss_one (ps_ret (pe_call D_made_function.ok (hr.mono (by decide)) (by rfl) D_made_function.g D_made_function.kp D_made_function.b .nil pass0 (pa_cons (pv 0) (pa_cons (pe_call D_quotient_of.ok (hr.mono (by decide)) (by rfl) D_quotient_of.g D_quotient_of.kp D_quotient_of.b .nil pass0 (pa_cons (pv 0) (pa_cons (pv 1) (pa_cons (pv 4) pa_nil)))) (pa_cons (pe_call D_quotient_of.ok (hr.mono (by decide)) (by rfl) D_quotient_of.g D_quotient_of.kp D_quotient_of.b .nil pass0 (pa_cons (pv 0) (pa_cons (pv 2) (pa_cons (pv 4) pa_nil)))) pa_nil))))))), ?_⟩
    have cm := com_ok hp pt pc (by omega) (by omega)
    have ng : common prime top cmn ≠ [] := (cm.mo (.inr mc.1)).1
    have lg : (common prime top cmn).length ≤ cmn.length := com_len hp pc mc.1 cm.sym
    refine qr_asg (evr_call (GQ.mk prime top cmn) (cpre hp pt pc (by omega) (by omega)) (evrs_cons (evr_var rfl rfl) (evrs_cons (evr_var rfl h_top) (evrs_cons (evr_var rfl h_common) evrs_nil)))) fun x1 H1 e1 h1 => ?_
    exact sr_ret (evr_call (GTB.mk prime (quotientOf prime top (common prime top cmn)) (quotientOf prime bottom (common prime top cmn))) hp (evrs_cons (evr_var rfl rfl) (evrs_cons (evr_call (GQ.mk prime top (common prime top cmn)) (dpre hp pt cm.pl (by omega) (by omega) ng) (evrs_cons (evr_var rfl rfl) (evrs_cons (evr_var rfl (up h_top e1)) (evrs_cons (evr_var rfl h1) evrs_nil)))) (evrs_cons (evr_call (GQ.mk prime bottom (common prime top cmn)) (dpre hp pb cm.pl (by omega) (by omega) ng) (evrs_cons (evr_var rfl rfl) (evrs_cons (evr_var rfl (up h_bottom e1)) (evrs_cons (evr_var rfl h1) evrs_nil)))) evrs_nil)))) fun v H2 e2 hv => q v H2 (e1.trans e2) hv
end
end K0
namespace K0
open PySem PySem.Spec PyProof.Rows L2 Kt M
open Evl (Ex Ev EvL EvU EvT EvA EvO ex_l ex_t sq_of st_of sz_of sz_lt fresh_back given)
theorem mo_quot {p : Int} (hp : Pr p) {b g : List Int} (hb : Pl p b) (pg : Pl p g) (mb : Mo b) (mg : Mo g) (h : ∃ Y : QP p, Fi Y ∧ e p b = Y * e p g) : Mo (quotientOf p b g) := by
  obtain ⟨Y, fY, h⟩ := h
  rw [quotientOf_eq hp hb.r hb.t]
  exact mo_div hp hb pg mb mg fY h
/-- what the sum takes out -/
theorem out_ok {p : Int} (hp : Pr p) {F G : PF} (hF : NF p F) (hG : NF p G) (lF : Le 40 F) (lG : Le 40 G) : ∃ c : List Int, (if G.2 = F.2 then F.2 else common p F.2 G.2) = c ∧ Pl p c ∧ Mo c ∧ c.length ≤ 40 ∧ Mo (quotientOf p G.2 c) := by
  have h2 := lF.2
  have h4 := lG.2
  refine ⟨_, rfl, ?_⟩
  by_cases he : G.2 = F.2
  · rw [if_pos he]
    exact ⟨hF.b, hF.mo, h2, mo_quot hp hG.b hF.b hG.mo hF.mo ⟨1, .one, by rw [he]; grind⟩⟩
  · rw [if_neg he]
    have C := com_ok hp hF.b hG.b (by omega) (by omega)
    have gm := C.mo (.inl hF.nb)
    have hl := com_len hp hF.b hF.nb C
    refine ⟨C.pl, gm, by omega, mo_quot hp hG.b C.pl hG.mo gm ?_⟩
    obtain ⟨a, b, fa, fb, ha, hb⟩ := C.dv
    exact ⟨b, fb, hb⟩
theorem scal_int {x y : Int} : decide (V.int x = V.int y) = decide (x = y) := decide_eq_decide.mpr ⟨fun h => by injection h, fun h => by rw [h]⟩
section
variable {X : Cx}
/-- bool(a tuple) -/
theorem call_boolT : CallR X (.type "bool") (fun xs H Q => ∃ (a : Addr) (zs : List V), xs = [.ref a] ∧ SqT X.K H a zs ∧ Q (.bl (!zs.isEmpty)) H) := by
  intro pins s σ H xs us Q I r h
  obtain ⟨a, zs, rfl, hq, q⟩ := h
  obtain rfl := Vals.ref1 r
  obtain ⟨its, rv, pl, hz⟩ := I.tuple hq
  have hl := line63
  have hlen := rv.length
  refine callType_newIn PySem.F.called_bool PySem.F.newNe_bool (PySem.F.typeCall_bool_1 _) (PySem.F.newCall_bool_1 _) (fun obj => PySem.F.args_object_init_2 obj _) PySem.F.entry_bool_new bool_in ?_
  exact truthy_tuple pl (by simp only [List.size_toArray]; omega) ⟨rfl, .bl _, H, I.tok _, rfl, by rw [isEmpty_of rv]; exact q⟩
end
section
variable {K : PySem.W.Frag} {mg : Str → Option Value} {C : Addr} {p q : Int} {F G : PF} {σ : L2.St} {H H' : Hp} {te tf : TE} {ta : TA} {ns : List Int} {b : Bool} {E : XK}
theorem evr_boolT {rr : List V → Hp → VK → Prop} (hrr : rr = fun xs H Q => ∃ (a : Addr) (zs : List V), xs = [.ref a] ∧ SqT K H a zs ∧ Q (.bl (!zs.isEmpty)) H) (h : EvR te σ H (vP K ns)) : EvR (tCB rr (tCons te tNil)) σ H (vB (!ns.isEmpty)) := fun H1 e Q k => h H1 e _ fun v H2 e2 ⟨a, ha, hs⟩ => by
  subst ha hrr
  refine ⟨a, _, rfl, hs, ?_⟩
  have ee : (!(ns.map V.int).isEmpty) = !ns.isEmpty := by cases ns <;> rfl
  rw [ee]
  exact k _ H2 e2 rfl
theorem evr_any {bs : List Bool} {r : List V → Hp → VK → Prop} (hr : r = rAny K) (h : EvL te σ H (bs.map V.bl)) : EvR (tCB r (tCons te tNil)) σ H (vB (bs.any id)) := fun H1 e Q q => h H1 e _ fun p H2 _ e2 hp => by
  subst hr
  exact ⟨p, bs, rfl, sq_of hp, q _ H2 e2 rfl⟩
/-- a function's truth -/
theorem et_F (h : EvR te σ H (vF K C p F)) : EvT (fun σ H Q => te σ H fun x H' => ∃ a dx fs, x = .ref a ∧ H' a = some (.ins C dx fs) ∧ sp_F___bool__ K C [.ref a] H' (fun v H' => ∃ b, v = .bl b ∧ Q b H') E) σ H (!F.1.isEmpty) := fun H1 e Q k => h H1 e _ fun v H2 e2 hv => by
  obtain ⟨a, dx, t, b, rfl, h2, _⟩ := id hv
  exact ⟨a, dx, _, rfl, h2, GF.mk p F, trivial, ⟨_, _, rfl, hv, rfl⟩, fun u H3 e3 hu => ⟨_, hu, k H3 (e2.trans e3)⟩⟩
end
section
variable {P : Program} {w : World} {K : PySem.W.Frag} {mg : Str → Option Value} {base : Heap} {C : Addr}
abbrev s_F___bool__ : Stmt := inClass (topS 54) 20
abbrev N_F___bool__ : List Str := ["self"]
theorem sc_F___bool__ : FnScope N_F___bool__ ["self"] (defScope s_F___bool__) := ⟨rfl, rfl, rfl, by decide +kernel, rfl, by decide +kernel, by decide +kernel⟩
theorem ok_F___bool__ {f : Addr} {fd : FuncData} (F : Fun K "__bool__" "Function.__bool__" s_F___bool__ f fd) (B : Bis mg) (cf : CFm K mg C)   : FnOk P w K mg base CX0 1 f fd ["self"] (sp_F___bool__ K C) := by
  refine F.ok sc_F___bool__ (fun vs H Q E h => ?_) (fun cdv A outer s H vs Q E hr h => ?_)
  · obtain ⟨g, _, ha, _⟩ := h
    exact ha.len
  · obtain ⟨⟨p, F0⟩, hpre, ⟨v_self, _, rfl, h_self, rfl⟩, q⟩ := h
    dsimp only at *
    refine ⟨_, (pss_one (ps_ret (pe_callTy call_boolT (by rfl) (B "bool" (by decide +kernel)) (by decide +kernel) (pa_cons (pe_fld (pv 0) rfl) pa_nil)))), ?_⟩
    exact sr_ret (evr_boolT rfl (evr_fldT cf.c (evr_var rfl h_self))) q
abbrev s_check_same_prime : Stmt := topS 70
abbrev N_check_same_prime : List Str := ["values", "value"]
theorem sc_check_same_prime : FnScope N_check_same_prime ["values"] (defScope s_check_same_prime) := ⟨rfl, rfl, rfl, by decide +kernel, rfl, by decide +kernel, by decide +kernel⟩
theorem ok_check_same_prime {f : Addr} {fd : FuncData} (F : Fun K "check_same_prime" "check_same_prime" s_check_same_prime f fd) (B : Bis mg) (cf : CFm K mg C)   (M_prime : Dg P w K mg base C "prime" ["self"] 1 (sp_F_prime K C)) : FnOk P w K mg base CX0 3 f fd ["values"] (sp_check_same_prime K C) := by
  refine F.ok sc_check_same_prime (fun vs H Q E h => ?_) (fun cdv A outer s H vs Q E hr h => ?_)
  · obtain ⟨g, _, ha, _⟩ := h
    exact ha.len
  · obtain ⟨⟨p, F0, G0, f0⟩, hpre, ⟨v_values, _, rfl, h_values, rfl⟩, q⟩ := h
    dsimp only at *
    refine ⟨_, (pss_one (ps_if (pt_val (pe_callB (id := "any") (r := rAny K) (cr_any rfl) (by rfl) (B "any" (by decide +kernel)) (by decide +kernel) (pa_cons (pe_lc (own := [("value", 1)]) (g := (gName 1)) (tt := tYes) rfl sc_check_same_prime.nd (pi_tup (pv 0)) (blkOk_by (own := [("value", 1)]) (N := N_check_same_prime) (sc := defScope s_check_same_prime) (by decide +kernel)) (fun _ _ _ _ _ => (pg_name (i := 1) sc_check_same_prime.nd rfl (Or.inl rfl))) (fun _ _ _ _ _ => pts_nil) (fun _ _ _ _ _ => (pe_cmpR op_ne (pe_prop (pv 1) cf.c.cl M_prime.prop M_prime.ok (hr.mono (by decide)) M_prime.b .nil pass0 rfl) (pe_prop (pe_ix (r := rIxT K) ix_tup (pv 0) pe_int (fun _ _ => rfl)) cf.c.cl M_prime.prop M_prime.ok (hr.mono (by decide)) M_prime.b .nil pass0 rfl) (nomark _)))) pa_nil))) (pss_one ps_never) pss_nil)), ?_⟩
    obtain ⟨a, xs, rfl, hs, v1, w1, rfl, hv1, v2, w2, rfl, hv2, hw⟩ := id h_values
    obtain rfl : w2 = [] := hw
    have hL : EvL (tLc (iTup K (tVar 0)) (gName 1) tYes (tOp rNe (tProp C (sp_F_prime K C) [] E0 (tVar 1)) (tProp C (sp_F_prime K C) [] E0 (tOp (rIxT K) (tVar 0) (tC (.int 0))))) [1]) [some (.ref a), none] H ([false, false].map V.bl) := by
      refine el_comp (vs := [1]) (g := gName 1) (tt := tYes) (wk_tup (evr_var (r := vC (.ref a)) rfl rfl).ev hs) (fun _ => true) (fun _ => .bl false) (by show 2 ≤ 50000; decide) fun i x H1 H2 hi e1 y R k => ?_
      obtain ⟨rfl, hx⟩ := y
      have hF : ∃ F', (vF K C p F').R x H2 := by
        match i, hx with
        | 0, hx => exact ⟨F0, by obtain rfl : v1 = x := Option.some.inj hx; exact up hv1 e1⟩
        | 1, hx => exact ⟨G0, by obtain rfl : v2 = x := Option.some.inj hx; exact up hv2 e1⟩
      obtain ⟨F', hF⟩ := hF
      refine k _ _ rfl (Ex.refl _) et_yes fun _ => (EvR.eqB (evr_op (evr_prop (GF.mk p F') trivial rfl (evr_var rfl hF)) (evr_prop (GF.mk p F0) trivial rfl (evr_ixT (evr_var rfl (up h_values e1)) evr_c rfl)) (op_neS rfl)) (by simp)).ev
    refine Evl.s_when (et_b (evr_any (bs := [false, false]) rfl hL)) (fun hb H1 e1 => by cases hb) (fun hb H1 e1 => q .non H1 e1 rfl)
abbrev s_add_function : Stmt := topS 59
abbrev N_add_function : List Str := ["one", "other", "factor", "prime", "common", "left", "right", "top"]
theorem sc_add_function : FnScope N_add_function ["one", "other", "factor"] (defScope s_add_function) := ⟨rfl, rfl, rfl, by decide +kernel, rfl, by decide +kernel, by decide +kernel⟩
theorem ok_add_function {f : Addr} {fd : FuncData} (F : Fun K "add_function" "add_function" s_add_function f fd) (B : Bis mg) (cf : CFm K mg C)  (D_check_same_prime : De P w K mg base "check_same_prime" ["values"] 3 (sp_check_same_prime K C)) (D_common_divisor : De P w K mg base "common_divisor" ["prime", "one", "other"] 5 (sp_common_divisor K)) (D_quotient_of : De P w K mg base "quotient_of" ["prime", "one", "other"] 4 (sp_quotient_of K)) (D_add_scaled : De P w K mg base "add_scaled" ["prime", "one", "other", "factor"] 2 (sp_add_scaled K)) (D_multiply : De P w K mg base "multiply" ["prime", "one", "other"] 4 (sp_multiply K)) (D_shortened : De P w K mg base "shortened" ["prime", "top", "bottom", "common"] 10 (sp_shortened K C)) (M_bottom : Dg P w K mg base C "bottom" ["self"] 1 (sp_F_bottom K C)) (M_prime : Dg P w K mg base C "prime" ["self"] 1 (sp_F_prime K C)) (M_top : Dg P w K mg base C "top" ["self"] 1 (sp_F_top K C)) : FnOk P w K mg base CX0 11 f fd ["one", "other", "factor"] (sp_add_function K C) := by
  refine F.ok sc_add_function (fun vs H Q E h => ?_) (fun cdv A outer s H vs Q E hr h => ?_)
  · obtain ⟨g, _, ha, _⟩ := h
    exact ha.len
  · obtain ⟨⟨p, F0, G0, f0⟩, ⟨⟨hp, hF, hG, lF, lG⟩, hf⟩, ⟨v_one, _, rfl, h_one, ⟨v_other, _, rfl, h_other, ⟨_, _, rfl, rfl, rfl⟩⟩⟩, q⟩ := h
    dsimp only at *
    refine ⟨_, (pss_cons (ps_expr (pe_call D_check_same_prime.ok (hr.mono (by decide)) (by rfl) D_check_same_prime.g D_check_same_prime.kp D_check_same_prime.b .nil pass0 (pa_cons (pe_tup (pa_cons (pv 0) (pa_cons (pv 1) pa_nil))) pa_nil)))
      (pss_cons (ps_set (i := 3) sc_add_function.nd rfl (Or.inl rfl) (pe_prop (pv 0) cf.c.cl M_prime.prop M_prime.ok (hr.mono (by decide)) M_prime.b .nil pass0 rfl))
      (pss_cons (ps_set (i := 4) sc_add_function.nd rfl (Or.inl rfl) (pe_prop (pv 0) cf.c.cl M_bottom.prop M_bottom.ok (hr.mono (by decide)) M_bottom.b .nil pass0 rfl))
      (pss_cons (ps_if (pt_cmpR (r := rNeD K) (op_neD hr.units) (pe_prop (pv 1) cf.c.cl M_bottom.prop M_bottom.ok (hr.mono (by decide)) M_bottom.b .nil pass0 rfl) (pv 4) (nomark _)) (pss_one (ps_set (i := 4) sc_add_function.nd rfl (Or.inl rfl) (pe_call D_common_divisor.ok (hr.mono (by decide)) (by rfl) D_common_divisor.g D_common_divisor.kp D_common_divisor.b .nil pass0 (pa_cons (pv 3) (pa_cons (pe_prop (pv 0) cf.c.cl M_bottom.prop M_bottom.ok (hr.mono (by decide)) M_bottom.b .nil pass0 rfl) (pa_cons (pe_prop (pv 1) cf.c.cl M_bottom.prop M_bottom.ok (hr.mono (by decide)) M_bottom.b .nil pass0 rfl) pa_nil)))))) pss_nil)
      (pss_cons (ps_set (i := 5) sc_add_function.nd rfl (Or.inl rfl) (pe_call D_quotient_of.ok (hr.mono (by decide)) (by rfl) D_quotient_of.g D_quotient_of.kp D_quotient_of.b .nil pass0 (pa_cons (pv 3) (pa_cons (pe_prop (pv 0) cf.c.cl M_bottom.prop M_bottom.ok (hr.mono (by decide)) M_bottom.b .nil pass0 rfl) (pa_cons (pv 4) pa_nil)))))
      (pss_cons (ps_set (i := 6) sc_add_function.nd rfl (Or.inl rfl) (pe_call D_quotient_of.ok (hr.mono (by decide)) (by rfl) D_quotient_of.g D_quotient_of.kp D_quotient_of.b .nil pass0 (pa_cons (pv 3) (pa_cons (pe_prop (pv 1) cf.c.cl M_bottom.prop M_bottom.ok (hr.mono (by decide)) M_bottom.b .nil pass0 rfl) (pa_cons (pv 4) pa_nil)))))
      (pss_cons (ps_set (i := 7) sc_add_function.nd rfl (Or.inl rfl) (pe_call D_add_scaled.ok (hr.mono (by decide)) (by rfl) D_add_scaled.g D_add_scaled.kp D_add_scaled.b .nil pass0 (pa_cons (pv 3) (pa_cons (pe_call D_multiply.ok (hr.mono (by decide)) (by rfl) D_multiply.g D_multiply.kp D_multiply.b .nil pass0 (pa_cons (pv 3) (pa_cons (pe_prop (pv 0) cf.c.cl M_top.prop M_top.ok (hr.mono (by decide)) M_top.b .nil pass0 rfl) (pa_cons (pv 6) pa_nil)))) (pa_cons (pe_call D_multiply.ok (hr.mono (by decide)) (by rfl) D_multiply.g D_multiply.kp D_multiply.b .nil pass0 (pa_cons (pv 3) (pa_cons (pe_prop (pv 1) cf.c.cl M_top.prop M_top.ok (hr.mono (by decide)) M_top.b .nil pass0 rfl) (pa_cons (pv 5) pa_nil)))) (pa_cons (pv 2) pa_nil))))))
      (pss_one (ps_ret (pe_call D_shortened.ok (hr.mono (by decide)) (by rfl) D_shortened.g D_shortened.kp D_shortened.b .nil pass0 (pa_cons (pv 3) (pa_cons (pv 7) (pa_cons (pe_call D_multiply.ok (hr.mono (by decide)) (by rfl) D_multiply.g D_multiply.kp D_multiply.b .nil pass0 (pa_cons (pv 3) (pa_cons (pe_prop (pv 0) cf.c.cl M_bottom.prop M_bottom.ok (hr.mono (by decide)) M_bottom.b .nil pass0 rfl) (pa_cons (pv 6) pa_nil)))) (pa_cons (pv 4) pa_nil)))))))))))))), ?_⟩
    have h2 := hp.le
    have hp0 : 0 < p := by omega
    have l1 := lF.1
    have l2 := lF.2
    have l3 := lG.1
    have l4 := lG.2
    obtain ⟨c, ec, pc, mc, lc, mr⟩ := out_ok hp hF hG lF lG
    have len1 := quot_len hp hG.b mc.1
    have len2 := quot_len hp hF.b mc.1
    have len3 := prod_len p F0.1 (quotientOf p G0.2 c)
    have len4 := prod_len p G0.1 (quotientOf p F0.2 c)
    have len5 := prod_len p F0.2 (quotientOf p G0.2 c)
    have len6 := addScaled_len p (prod p F0.1 (quotientOf p G0.2 c)) (prod p G0.1 (quotientOf p F0.2 c)) f0
    have pr : Pl p (quotientOf p G0.2 c) := hG.b.quot hp _
    have pl : Pl p (quotientOf p F0.2 c) := hF.b.quot hp _
    have pa : Pl p (prod p F0.1 (quotientOf p G0.2 c)) := .prod hp0 _ _
    have pb : Pl p (prod p G0.1 (quotientOf p F0.2 c)) := .prod hp0 _ _
    refine qr_drop (evr_call (GAF.mk p F0 G0 f0) trivial (evrs_cons (evr_dispT (K := K) (evrs_cons (evr_var rfl h_one) (evrs_cons (evr_var rfl h_other) evrs_nil)) (Nat.le_of_ble_eq_true rfl)) evrs_nil)) fun H1 e1 => ?_
    refine qr_asg (evr_prop (GF.mk p F0) trivial rfl (evr_var rfl (up h_one e1))) fun x3 H2 e2 h3 => ?_
    obtain rfl : x3 = .int p := h3
    refine qr_asg (evr_prop (GF.mk p F0) trivial rfl (evr_var rfl (up h_one (e1.trans e2)))) fun x4 H3 e3 h4 => ?_
    have e13 := (e1.trans e2).trans e3
    refine qr_ifAsg (r := vP K c) (et_r (evr_op (evr_prop (GF.mk p G0) trivial rfl (evr_var rfl (up h_other e13))) (evr_var (r := vP K F0.2) rfl h4) op_neP)) rfl (fun hb => ?_) (fun hb => ?_) fun x5 H4 e4 h5 => ?_
    · have hb' : ¬ G0.2 = F0.2 := fun z => by
        have hb2 : (!decide (G0.2 = F0.2)) = true := hb
        rw [decide_eq_true z] at hb2
        cases hb2
      rw [if_neg hb'] at ec
      rw [← ec]
      exact evr_call (GQ.mk p F0.2 G0.2) (cpre hp hF.b hG.b (by omega) (by omega)) (evrs_cons (evr_var rfl rfl) (evrs_cons (evr_prop (GF.mk p F0) trivial rfl (evr_var rfl (up h_one e13))) (evrs_cons (evr_prop (GF.mk p G0) trivial rfl (evr_var rfl (up h_other e13))) evrs_nil)))
    · have hb' : G0.2 = F0.2 := Decidable.byContradiction fun z => by
        have hb2 : (!decide (G0.2 = F0.2)) = false := hb
        rw [decide_eq_false z] at hb2
        cases hb2
      rw [if_pos hb'] at ec
      rw [← ec]
      exact h4
    have e14 := e13.trans e4
    refine qr_asg (evr_call (GQ.mk p F0.2 c) (dpre hp hF.b pc (by omega) (by omega) mc.1) (evrs_cons (evr_var rfl rfl) (evrs_cons (evr_prop (GF.mk p F0) trivial rfl (evr_var rfl (up h_one e14))) (evrs_cons (evr_var rfl h5) evrs_nil)))) fun x6 H5 e5 h6 => ?_
    have e15 := e14.trans e5
    refine qr_asg (evr_call (GQ.mk p G0.2 c) (dpre hp hG.b pc (by omega) (by omega) mc.1) (evrs_cons (evr_var rfl rfl) (evrs_cons (evr_prop (GF.mk p G0) trivial rfl (evr_var rfl (up h_other e15))) (evrs_cons (evr_var rfl (up h5 e5)) evrs_nil)))) fun x7 H6 e6 h7 => ?_
    have e16 := e15.trans e6
    refine qr_asg (evr_call (GA.mk p (prod p F0.1 (quotientOf p G0.2 c)) (prod p G0.1 (quotientOf p F0.2 c)) f0) ⟨hp0, by show (prod p F0.1 (quotientOf p G0.2 c)).length ≤ 1000; omega, by show (prod p G0.1 (quotientOf p F0.2 c)).length ≤ 1000; omega, pa.sm hp, pb.sm hp⟩
      (evrs_cons (evr_var rfl rfl) (evrs_cons (evr_call (GQ.mk p F0.1 (quotientOf p G0.2 c)) (mpre hp hF.t pr (by omega) (by omega)) (evrs_cons (evr_var rfl rfl) (evrs_cons (evr_prop (GF.mk p F0) trivial rfl (evr_var rfl (up h_one e16))) (evrs_cons (evr_var rfl h7) evrs_nil))))
        (evrs_cons (evr_call (GQ.mk p G0.1 (quotientOf p F0.2 c)) (mpre hp hG.t pl (by omega) (by omega)) (evrs_cons (evr_var rfl rfl) (evrs_cons (evr_prop (GF.mk p G0) trivial rfl (evr_var rfl (up h_other e16))) (evrs_cons (evr_var rfl (up h6 e6)) evrs_nil))))
        (evrs_cons (evr_var rfl rfl) evrs_nil))))) fun x8 H7 e7 h8 => ?_
    have e17 := e16.trans e7
    have hk : kc p f0 * kc p f0 = 1 := by
      rcases hf with h | h
      · have h' : f0 = 1 := h
        rw [h', kc_one]
        grind
      · have h' : f0 = -1 := h
        rw [h', kc_neg]
        grind
    have eg := gAdd_ok hp hF hG lF lG (by omega) hk
    unfold gAdd at eg
    rw [ec] at eg
    rw [← eg] at q
    exact sr_ret (evr_call (GTBC.mk p (addScaled p (prod p F0.1 (quotientOf p G0.2 c)) (prod p G0.1 (quotientOf p F0.2 c)) f0) (prod p F0.2 (quotientOf p G0.2 c)) c) ⟨hp, .add hp0 _ _ _, .prod hp0 _ _, pc, mo_prod hp hF.b pr hF.mo mr, mc, by show (addScaled p _ _ f0).length ≤ 200; omega, by show (prod p F0.2 _).length ≤ 200; omega, by show c.length ≤ 64; omega⟩
      (evrs_cons (evr_var rfl rfl) (evrs_cons (evr_var rfl h8) (evrs_cons (evr_call (GQ.mk p F0.2 (quotientOf p G0.2 c)) (mpre hp hF.b pr (by omega) (by omega)) (evrs_cons (evr_var rfl rfl) (evrs_cons (evr_prop (GF.mk p F0) trivial rfl (evr_var rfl (up h_one e17))) (evrs_cons (evr_var rfl (up h7 e7)) evrs_nil))))
        (evrs_cons (evr_var rfl (up h5 ((e5.trans e6).trans e7))) evrs_nil))))) fun v H8 e8 hv => q v H8 (e17.trans e8) hv
end
end K0
namespace K0
open PySem PySem.Spec PyProof.Rows L2 Kt M
open Evl (Ex Ev EvL EvU EvT EvA EvO ex_l ex_t sq_of st_of sz_of sz_lt fresh_back given)
section
variable {P : Program} {w : World} {K : PySem.W.Frag} {mg : Str → Option Value} {base : Heap} {C : Addr}
abbrev s_multiply_function : Stmt := topS 60
abbrev N_multiply_function : List Str := ["one", "other", "prime", "left", "right", "top", "bottom"]
theorem sc_multiply_function : FnScope N_multiply_function ["one", "other"] (defScope s_multiply_function) := ⟨rfl, rfl, rfl, by decide +kernel, rfl, by decide +kernel, by decide +kernel⟩
theorem ok_multiply_function {f : Addr} {fd : FuncData} (F : Fun K "multiply_function" "multiply_function" s_multiply_function f fd) (B : Bis mg) (cf : CFm K mg C)  (D_check_same_prime : De P w K mg base "check_same_prime" ["values"] 3 (sp_check_same_prime K C)) (D_common_divisor : De P w K mg base "common_divisor" ["prime", "one", "other"] 5 (sp_common_divisor K)) (D_multiply : De P w K mg base "multiply" ["prime", "one", "other"] 4 (sp_multiply K)) (D_quotient_of : De P w K mg base "quotient_of" ["prime", "one", "other"] 4 (sp_quotient_of K)) (D_made_function : De P w K mg base "made_function" ["prime", "top", "bottom"] 9 (sp_made_function K C)) (M_bottom : Dg P w K mg base C "bottom" ["self"] 1 (sp_F_bottom K C)) (M_prime : Dg P w K mg base C "prime" ["self"] 1 (sp_F_prime K C)) (M_top : Dg P w K mg base C "top" ["self"] 1 (sp_F_top K C)) : FnOk P w K mg base CX0 10 f fd ["one", "other"] (sp_multiply_function K C) := by
  refine F.ok sc_multiply_function (fun vs H Q E h => ?_) (fun cdv A outer s H vs Q E hr h => ?_)
  · obtain ⟨g, _, ha, _⟩ := h
    exact ha.len
  · obtain ⟨⟨p, F0, G0, f0⟩, ⟨hp, hF, hG, lF, lG⟩, ⟨v_one, _, rfl, h_one, ⟨v_other, _, rfl, h_other, rfl⟩⟩, q⟩ := h
    dsimp only at *
    refine ⟨_, (pss_cons (ps_expr (pe_call D_check_same_prime.ok (hr.mono (by decide)) (by rfl) D_check_same_prime.g D_check_same_prime.kp D_check_same_prime.b .nil pass0 (pa_cons (pe_tup (pa_cons (pv 0) (pa_cons (pv 1) pa_nil))) pa_nil)))
      (pss_cons (ps_set (i := 2) sc_multiply_function.nd rfl (Or.inl rfl) (pe_prop (pv 0) cf.c.cl M_prime.prop M_prime.ok (hr.mono (by decide)) M_prime.b .nil pass0 rfl))
      (pss_cons (ps_set (i := 3) sc_multiply_function.nd rfl (Or.inl rfl) (pe_call D_common_divisor.ok (hr.mono (by decide)) (by rfl) D_common_divisor.g D_common_divisor.kp D_common_divisor.b .nil pass0 (pa_cons (pv 2) (pa_cons (pe_prop (pv 0) cf.c.cl M_top.prop M_top.ok (hr.mono (by decide)) M_top.b .nil pass0 rfl) (pa_cons (pe_prop (pv 1) cf.c.cl M_bottom.prop M_bottom.ok (hr.mono (by decide)) M_bottom.b .nil pass0 rfl) pa_nil)))))
      (pss_cons (ps_set (i := 4) sc_multiply_function.nd rfl (Or.inl rfl) (pe_call D_common_divisor.ok (hr.mono (by decide)) (by rfl) D_common_divisor.g D_common_divisor.kp D_common_divisor.b .nil pass0 (pa_cons (pv 2) (pa_cons (pe_prop (pv 1) cf.c.cl M_top.prop M_top.ok (hr.mono (by decide)) M_top.b .nil pass0 rfl) (pa_cons (pe_prop (pv 0) cf.c.cl M_bottom.prop M_bottom.ok (hr.mono (by decide)) M_bottom.b .nil pass0 rfl) pa_nil)))))
      (pss_cons (ps_set (i := 5) sc_multiply_function.nd rfl (Or.inl rfl) (pe_call D_multiply.ok (hr.mono (by decide)) (by rfl) D_multiply.g D_multiply.kp D_multiply.b .nil pass0 (pa_cons (pv 2) (pa_cons (pe_call D_quotient_of.ok (hr.mono (by decide)) (by rfl) D_quotient_of.g D_quotient_of.kp D_quotient_of.b .nil pass0 (pa_cons (pv 2) (pa_cons (pe_prop (pv 0) cf.c.cl M_top.prop M_top.ok (hr.mono (by decide)) M_top.b .nil pass0 rfl) (pa_cons (pv 3) pa_nil)))) (pa_cons (pe_call D_quotient_of.ok (hr.mono (by decide)) (by rfl) D_quotient_of.g D_quotient_of.kp D_quotient_of.b .nil pass0 (pa_cons (pv 2) (pa_cons (pe_prop (pv 1) cf.c.cl M_top.prop M_top.ok (hr.mono (by decide)) M_top.b .nil pass0 rfl) (pa_cons (pv 4) pa_nil)))) pa_nil)))))
      (pss_cons (ps_set (i := 6) sc_multiply_function.nd rfl (Or.inl rfl) (pe_call D_multiply.ok (hr.mono (by decide)) (by rfl) D_multiply.g D_multiply.kp D_multiply.b .nil pass0 (pa_cons (pv 2) (pa_cons (pe_call D_quotient_of.ok (hr.mono (by decide)) (by rfl) D_quotient_of.g D_quotient_of.kp D_quotient_of.b .nil pass0 (pa_cons (pv 2) (pa_cons (pe_prop (pv 0) cf.c.cl M_bottom.prop M_bottom.ok (hr.mono (by decide)) M_bottom.b .nil pass0 rfl) (pa_cons (pv 4) pa_nil)))) (pa_cons (pe_call D_quotient_of.ok (hr.mono (by decide)) (by rfl) D_quotient_of.g D_quotient_of.kp D_quotient_of.b .nil pass0 (pa_cons (pv 2) (pa_cons (pe_prop (pv 1) cf.c.cl M_bottom.prop M_bottom.ok (hr.mono (by decide)) M_bottom.b .nil pass0 rfl) (pa_cons (pv 3) pa_nil)))) pa_nil)))))
      (pss_one (ps_ret (pe_call D_made_function.ok (hr.mono (by decide)) (by rfl) D_made_function.g D_made_function.kp D_made_function.b .nil pass0 (pa_cons (pv 2) (pa_cons (pv 5) (pa_cons (pv 6) pa_nil)))))))))))), ?_⟩
    have h2 := hp.le
    have hp0 : 0 < p := by omega
    have l1 := lF.1
    have l2 := lF.2
    have l3 := lG.1
    have l4 := lG.2
    have C1 := com_ok hp hF.t hG.b (by omega) (by omega)
    have C2 := com_ok hp hG.t hF.b (by omega) (by omega)
    have m1 := (C1.mo (.inr hG.nb)).1
    have m2 := (C2.mo (.inr hF.nb)).1
    have c1 := com_len hp hG.b hG.nb C1.sym
    have c2 := com_len hp hF.b hF.nb C2.sym
    have q1 := quot_len hp hF.t m1
    have q2 := quot_len hp hG.t m2
    have q3 := quot_len hp hF.b m2
    have q4 := quot_len hp hG.b m1
    refine qr_drop (evr_call (GAF.mk p F0 G0 f0) trivial (evrs_cons (evr_dispT (K := K) (evrs_cons (evr_var rfl h_one) (evrs_cons (evr_var rfl h_other) evrs_nil)) (Nat.le_of_ble_eq_true rfl)) evrs_nil)) fun H1 e1 => ?_
    refine qr_asg (evr_prop (GF.mk p F0) trivial rfl (evr_var rfl (up h_one e1))) fun x3 H2 e2 h3 => ?_
    obtain rfl : x3 = .int p := h3
    have e12 := e1.trans e2
    refine qr_asg (evr_call (GQ.mk p F0.1 G0.2) (cpre hp hF.t hG.b (by omega) (by omega)) (evrs_cons (evr_var rfl rfl) (evrs_cons (evr_prop (GF.mk p F0) trivial rfl (evr_var rfl (up h_one e12))) (evrs_cons (evr_prop (GF.mk p G0) trivial rfl (evr_var rfl (up h_other e12))) evrs_nil)))) fun x4 H3 e3 h4 => ?_
    have e13 := e12.trans e3
    refine qr_asg (evr_call (GQ.mk p G0.1 F0.2) (cpre hp hG.t hF.b (by omega) (by omega)) (evrs_cons (evr_var rfl rfl) (evrs_cons (evr_prop (GF.mk p G0) trivial rfl (evr_var rfl (up h_other e13))) (evrs_cons (evr_prop (GF.mk p F0) trivial rfl (evr_var rfl (up h_one e13))) evrs_nil)))) fun x5 H4 e4 h5 => ?_
    have e14 := e13.trans e4
    refine qr_asg (evr_call (GQ.mk p (quotientOf p F0.1 (common p F0.1 G0.2)) (quotientOf p G0.1 (common p G0.1 F0.2))) (mpre hp (hF.t.quot hp _) (hG.t.quot hp _) (by omega) (by omega)) (evrs_cons (evr_var rfl rfl)
      (evrs_cons (evr_call (GQ.mk p F0.1 (common p F0.1 G0.2)) (dpre hp hF.t C1.pl (by omega) (by omega) m1) (evrs_cons (evr_var rfl rfl) (evrs_cons (evr_prop (GF.mk p F0) trivial rfl (evr_var rfl (up h_one e14))) (evrs_cons (evr_var rfl (up h4 e4)) evrs_nil))))
      (evrs_cons (evr_call (GQ.mk p G0.1 (common p G0.1 F0.2)) (dpre hp hG.t C2.pl (by omega) (by omega) m2) (evrs_cons (evr_var rfl rfl) (evrs_cons (evr_prop (GF.mk p G0) trivial rfl (evr_var rfl (up h_other e14))) (evrs_cons (evr_var rfl h5) evrs_nil)))) evrs_nil)))) fun x6 H5 e5 h6 => ?_
    have e15 := e14.trans e5
    refine qr_asg (evr_call (GQ.mk p (quotientOf p F0.2 (common p G0.1 F0.2)) (quotientOf p G0.2 (common p F0.1 G0.2))) (mpre hp (hF.b.quot hp _) (hG.b.quot hp _) (by omega) (by omega)) (evrs_cons (evr_var rfl rfl)
      (evrs_cons (evr_call (GQ.mk p F0.2 (common p G0.1 F0.2)) (dpre hp hF.b C2.pl (by omega) (by omega) m2) (evrs_cons (evr_var rfl rfl) (evrs_cons (evr_prop (GF.mk p F0) trivial rfl (evr_var rfl (up h_one e15))) (evrs_cons (evr_var rfl (up h5 e5)) evrs_nil))))
      (evrs_cons (evr_call (GQ.mk p G0.2 (common p F0.1 G0.2)) (dpre hp hG.b C1.pl (by omega) (by omega) m1) (evrs_cons (evr_var rfl rfl) (evrs_cons (evr_prop (GF.mk p G0) trivial rfl (evr_var rfl (up h_other e15))) (evrs_cons (evr_var rfl (up h4 (e4.trans e5))) evrs_nil)))) evrs_nil)))) fun x7 H6 e6 h7 => ?_
    have eg := gMul_ok hp hF hG lF lG (by omega)
    unfold gMul at eg
    rw [← eg] at q
    exact sr_ret (evr_call (GTB.mk p _ _) hp (evrs_cons (evr_var rfl rfl) (evrs_cons (evr_var rfl (up h6 e6)) (evrs_cons (evr_var rfl h7) evrs_nil)))) fun v H8 e8 hv => q v H8 ((e15.trans e6).trans e8) hv
abbrev s_turned_round : Stmt := topS 61
abbrev N_turned_round : List Str := ["function", "prime", "unit"]
theorem sc_turned_round : FnScope N_turned_round ["function"] (defScope s_turned_round) := ⟨rfl, rfl, rfl, by decide +kernel, rfl, by decide +kernel, by decide +kernel⟩
theorem ok_turned_round {f : Addr} {fd : FuncData} (F : Fun K "turned_round" "turned_round" s_turned_round f fd) (B : Bis mg) (cf : CFm K mg C)  (D_inverse : De P w K mg base "inverse" ["prime", "number"] 1 (sp_inverse K)) (D_made_function : De P w K mg base "made_function" ["prime", "top", "bottom"] 9 (sp_made_function K C)) (D_scale : De P w K mg base "scale" ["prime", "poly", "factor"] 2 (sp_scale K)) (M_bottom : Dg P w K mg base C "bottom" ["self"] 1 (sp_F_bottom K C)) (M_prime : Dg P w K mg base C "prime" ["self"] 1 (sp_F_prime K C)) (M_top : Dg P w K mg base C "top" ["self"] 1 (sp_F_top K C)) : FnOk P w K mg base CX0 10 f fd ["function"] (sp_turned_round K C) := by
  refine F.ok sc_turned_round (fun vs H Q E h => ?_) (fun cdv A outer s H vs Q E hr h => ?_)
  · obtain ⟨g, _, ha, _⟩ := h
    exact ha.len
  · obtain ⟨⟨p, F0⟩, ⟨hp, hF, lF, nz⟩, ⟨v_function, _, rfl, h_function, rfl⟩, q⟩ := h
    dsimp only at *
    refine ⟨_, (pss_cons (ps_set (i := 1) sc_turned_round.nd rfl (Or.inl rfl) (pe_prop (pv 0) cf.c.cl M_prime.prop M_prime.ok (hr.mono (by decide)) M_prime.b .nil pass0 rfl))
      (pss_cons (ps_set (i := 2) sc_turned_round.nd rfl (Or.inl rfl) (pe_call D_inverse.ok (hr.mono (by decide)) (by rfl) D_inverse.g D_inverse.kp D_inverse.b .nil pass0 (pa_cons (pv 1) (pa_cons (pe_ix (r := rIxT K) ix_tup (pe_prop (pv 0) cf.c.cl M_top.prop M_top.ok (hr.mono (by decide)) M_top.b .nil pass0 rfl) (pe_un un_neg pe_int) (fun _ _ => rfl)) pa_nil))))
      (pss_one (ps_ret (pe_call D_made_function.ok (hr.mono (by decide)) (by rfl) D_made_function.g D_made_function.kp D_made_function.b .nil pass0 (pa_cons (pv 1) (pa_cons (pe_call D_scale.ok (hr.mono (by decide)) (by rfl) D_scale.g D_scale.kp D_scale.b .nil pass0 (pa_cons (pv 1) (pa_cons (pe_prop (pv 0) cf.c.cl M_bottom.prop M_bottom.ok (hr.mono (by decide)) M_bottom.b .nil pass0 rfl) (pa_cons (pv 2) pa_nil)))) (pa_cons (pe_call D_scale.ok (hr.mono (by decide)) (by rfl) D_scale.g D_scale.kp D_scale.b .nil pass0 (pa_cons (pv 1) (pa_cons (pe_prop (pv 0) cf.c.cl M_top.prop M_top.ok (hr.mono (by decide)) M_top.b .nil pass0 rfl) (pa_cons (pv 2) pa_nil)))) pa_nil)))))))), ?_⟩
    have h2 := hp.le
    have l1 := lF.1
    have l2 := lF.2
    refine qr_asg (evr_prop (GF.mk p F0) trivial rfl (evr_var rfl h_function)) fun x1 H1 e1 h1 => ?_
    obtain rfl : x1 = .int p := h1
    refine qr_asg (evr_call (G2.mk p (F0.1.getLastD 0)) ⟨by show 0 < p; omega, by show p ≤ 100000; omega⟩ (evrs_cons (evr_var rfl rfl) (evrs_cons (evr_op (evr_prop (GF.mk p F0) trivial rfl (evr_var rfl (up h_function e1))) (un_negI evr_c) (op_ixP (z := .int (F0.1.getLastD 0)) (by
      rw [List.getLastD_eq_getLast?, List.getLast?_eq_some_getLast nz]
      exact atI_lastI nz))) evrs_nil))) fun x2 H2 e2 h2' => ?_
    obtain rfl : x2 = .int (inv p (F0.1.getLastD 0)) := h2'
    have e12 := e1.trans e2
    have eg := gBack_ok hp hF nz lF (by omega)
    unfold gBack at eg
    rw [← eg] at q
    exact sr_ret (evr_call (GTB.mk p _ _) hp (evrs_cons (evr_var rfl rfl)
      (evrs_cons (evr_call (GS.mk p F0.2 (inv p (F0.1.getLastD 0))) (spre hp hF.b _ (by omega)) (evrs_cons (evr_var rfl rfl) (evrs_cons (evr_prop (GF.mk p F0) trivial rfl (evr_var rfl (up h_function e12))) (evrs_cons (evr_var rfl rfl) evrs_nil))))
      (evrs_cons (evr_call (GS.mk p F0.1 (inv p (F0.1.getLastD 0))) (spre hp hF.t _ (by omega)) (evrs_cons (evr_var rfl rfl) (evrs_cons (evr_prop (GF.mk p F0) trivial rfl (evr_var rfl (up h_function e12))) (evrs_cons (evr_var rfl rfl) evrs_nil)))) evrs_nil)))) fun v H8 e8 hv => q v H8 (e12.trans e8) hv
abbrev s_F___add__ : Stmt := inClass (topS 54) 13
abbrev N_F___add__ : List Str := ["self", "other"]
theorem sc_F___add__ : FnScope N_F___add__ ["self", "other"] (defScope s_F___add__) := ⟨rfl, rfl, rfl, by decide +kernel, rfl, by decide +kernel, by decide +kernel⟩
theorem ok_F___add__ {f : Addr} {fd : FuncData} (F : Fun K "__add__" "Function.__add__" s_F___add__ f fd) (B : Bis mg) (cf : CFm K mg C)  (D_add_function : De P w K mg base "add_function" ["one", "other", "factor"] 11 (sp_add_function K C)) : FnOk P w K mg base CX0 12 f fd ["self", "other"] (sp_F___add__ K C) := by
  refine F.ok sc_F___add__ (fun vs H Q E h => ?_) (fun cdv A outer s H vs Q E hr h => ?_)
  · obtain ⟨g, _, ha, _⟩ := h
    exact ha.len
  · obtain ⟨⟨p, F0, G0, f0⟩, hF, ⟨v_self, _, rfl, h_self, ⟨v_other, _, rfl, h_other, rfl⟩⟩, q⟩ := h
    dsimp only at *
    refine ⟨_, (pss_cons (ps_if (pt_not (pt_val (pe_callB (id := "isinstance") (r := rIsi K) call_isi (by rfl) (B "isinstance" (by decide +kernel)) (by decide +kernel) (pa_cons (pv 1) (pa_cons (pe_glob (v := .ref C) (by rfl) cf.mg rfl) pa_nil))))) (pss_one ps_never) pss_nil)
      (pss_one (ps_ret (pe_call D_add_function.ok (hr.mono (by decide)) (by rfl) D_add_function.g D_add_function.kp D_add_function.b .nil pass0 (pa_cons (pv 0) (pa_cons (pv 1) (pa_cons pe_int pa_nil))))))), ?_⟩
    refine Evl.q_when (Evl.et_not (et_b (evr_isF cf (evr_var rfl h_other)))) (fun hb H1 e1 => by cases hb) (fun hb H1 e1 => ?_)
    exact sr_ret (evr_call (GAF.mk p F0 G0 1) ⟨hF, .inl rfl⟩ (evrs_cons (evr_var rfl (up h_self e1)) (evrs_cons (evr_var rfl (up h_other e1)) (evrs_cons evr_c evrs_nil)))) fun v H8 e8 hv => q v H8 (e1.trans e8) hv
abbrev s_F___sub__ : Stmt := inClass (topS 54) 14
abbrev N_F___sub__ : List Str := ["self", "other"]
theorem sc_F___sub__ : FnScope N_F___sub__ ["self", "other"] (defScope s_F___sub__) := ⟨rfl, rfl, rfl, by decide +kernel, rfl, by decide +kernel, by decide +kernel⟩
theorem ok_F___sub__ {f : Addr} {fd : FuncData} (F : Fun K "__sub__" "Function.__sub__" s_F___sub__ f fd) (B : Bis mg) (cf : CFm K mg C)  (D_add_function : De P w K mg base "add_function" ["one", "other", "factor"] 11 (sp_add_function K C)) : FnOk P w K mg base CX0 12 f fd ["self", "other"] (sp_F___sub__ K C) := by
  refine F.ok sc_F___sub__ (fun vs H Q E h => ?_) (fun cdv A outer s H vs Q E hr h => ?_)
  · obtain ⟨g, _, ha, _⟩ := h
    exact ha.len
  · obtain ⟨⟨p, F0, G0, f0⟩, hF, ⟨v_self, _, rfl, h_self, ⟨v_other, _, rfl, h_other, rfl⟩⟩, q⟩ := h
    dsimp only at *
    refine ⟨_, (pss_cons (ps_if (pt_not (pt_val (pe_callB (id := "isinstance") (r := rIsi K) call_isi (by rfl) (B "isinstance" (by decide +kernel)) (by decide +kernel) (pa_cons (pv 1) (pa_cons (pe_glob (v := .ref C) (by rfl) cf.mg rfl) pa_nil))))) (pss_one ps_never) pss_nil)
      (pss_one (ps_ret (pe_call D_add_function.ok (hr.mono (by decide)) (by rfl) D_add_function.g D_add_function.kp D_add_function.b .nil pass0 (pa_cons (pv 0) (pa_cons (pv 1) (pa_cons (pe_un un_neg pe_int) pa_nil))))))), ?_⟩
    refine Evl.q_when (Evl.et_not (et_b (evr_isF cf (evr_var rfl h_other)))) (fun hb H1 e1 => by cases hb) (fun hb H1 e1 => ?_)
    exact sr_ret (evr_call (GAF.mk p F0 G0 (-1)) ⟨hF, .inr rfl⟩ (evrs_cons (evr_var rfl (up h_self e1)) (evrs_cons (evr_var rfl (up h_other e1)) (evrs_cons (un_negI evr_c) evrs_nil)))) fun v H8 e8 hv => q v H8 (e1.trans e8) hv
abbrev s_F___mul__ : Stmt := inClass (topS 54) 15
abbrev N_F___mul__ : List Str := ["self", "other"]
theorem sc_F___mul__ : FnScope N_F___mul__ ["self", "other"] (defScope s_F___mul__) := ⟨rfl, rfl, rfl, by decide +kernel, rfl, by decide +kernel, by decide +kernel⟩
theorem ok_F___mul__ {f : Addr} {fd : FuncData} (F : Fun K "__mul__" "Function.__mul__" s_F___mul__ f fd) (B : Bis mg) (cf : CFm K mg C)  (D_multiply_function : De P w K mg base "multiply_function" ["one", "other"] 10 (sp_multiply_function K C)) : FnOk P w K mg base CX0 11 f fd ["self", "other"] (sp_F___mul__ K C) := by
  refine F.ok sc_F___mul__ (fun vs H Q E h => ?_) (fun cdv A outer s H vs Q E hr h => ?_)
  · obtain ⟨g, _, ha, _⟩ := h
    exact ha.len
  · obtain ⟨⟨p, F0, G0, f0⟩, hF, ⟨v_self, _, rfl, h_self, ⟨v_other, _, rfl, h_other, rfl⟩⟩, q⟩ := h
    dsimp only at *
    refine ⟨_, (pss_cons (ps_if (pt_not (pt_val (pe_callB (id := "isinstance") (r := rIsi K) call_isi (by rfl) (B "isinstance" (by decide +kernel)) (by decide +kernel) (pa_cons (pv 1) (pa_cons (pe_glob (v := .ref C) (by rfl) cf.mg rfl) pa_nil))))) (pss_one ps_never) pss_nil)
      (pss_one (ps_ret (pe_call D_multiply_function.ok (hr.mono (by decide)) (by rfl) D_multiply_function.g D_multiply_function.kp D_multiply_function.b .nil pass0 (pa_cons (pv 0) (pa_cons (pv 1) pa_nil)))))), ?_⟩
    refine Evl.q_when (Evl.et_not (et_b (evr_isF cf (evr_var rfl h_other)))) (fun hb H1 e1 => by cases hb) (fun hb H1 e1 => ?_)
    exact sr_ret (evr_call (GAF.mk p F0 G0 f0) hF (evrs_cons (evr_var rfl (up h_self e1)) (evrs_cons (evr_var rfl (up h_other e1)) evrs_nil))) fun v H8 e8 hv => q v H8 (e1.trans e8) hv
abbrev s_F___floordiv__ : Stmt := inClass (topS 54) 16
abbrev N_F___floordiv__ : List Str := ["self", "other"]
theorem sc_F___floordiv__ : FnScope N_F___floordiv__ ["self", "other"] (defScope s_F___floordiv__) := ⟨rfl, rfl, rfl, by decide +kernel, rfl, by decide +kernel, by decide +kernel⟩
theorem ok_F___floordiv__ {f : Addr} {fd : FuncData} (F : Fun K "__floordiv__" "Function.__floordiv__" s_F___floordiv__ f fd) (B : Bis mg) (cf : CFm K mg C)  (D_check_same_prime : De P w K mg base "check_same_prime" ["values"] 3 (sp_check_same_prime K C)) (D_multiply_function : De P w K mg base "multiply_function" ["one", "other"] 10 (sp_multiply_function K C)) (D_turned_round : De P w K mg base "turned_round" ["function"] 10 (sp_turned_round K C)) (M___bool__ : Dm P w K mg base C "__bool__" ["self"] 1 (sp_F___bool__ K C)) : FnOk P w K mg base CX0 11 f fd ["self", "other"] (sp_F___floordiv__ K C) := by
  refine F.ok sc_F___floordiv__ (fun vs H Q E h => ?_) (fun cdv A outer s H vs Q E hr h => ?_)
  · obtain ⟨g, _, ha, _⟩ := h
    exact ha.len
  · obtain ⟨⟨p, F0, G0, f0⟩, ⟨hF, nz⟩, ⟨v_self, _, rfl, h_self, ⟨v_other, _, rfl, h_other, rfl⟩⟩, q⟩ := h
    dsimp only at *
    refine ⟨_, (pss_cons (ps_if (pt_not (pt_val (pe_callB (id := "isinstance") (r := rIsi K) call_isi (by rfl) (B "isinstance" (by decide +kernel)) (by decide +kernel) (pa_cons (pv 1) (pa_cons (pe_glob (v := .ref C) (by rfl) cf.mg rfl) pa_nil))))) (pss_one ps_never) pss_nil)
      (pss_cons (ps_expr (pe_call D_check_same_prime.ok (hr.mono (by decide)) (by rfl) D_check_same_prime.g D_check_same_prime.kp D_check_same_prime.b .nil pass0 (pa_cons (pe_tup (pa_cons (pv 0) (pa_cons (pv 1) pa_nil))) pa_nil)))
      (pss_cons (ps_if (pt_not (pt_truthR (pv 1) (tru_own M___bool__.own M___bool__.ok (hr.mono (by decide)) M___bool__.b pass0) (by intro _; rfl))) (pss_one ps_never) pss_nil)
      (pss_one (ps_ret (pe_call D_multiply_function.ok (hr.mono (by decide)) (by rfl) D_multiply_function.g D_multiply_function.kp D_multiply_function.b .nil pass0 (pa_cons (pv 0) (pa_cons (pe_call D_turned_round.ok (hr.mono (by decide)) (by rfl) D_turned_round.g D_turned_round.kp D_turned_round.b .nil pass0 (pa_cons (pv 1) pa_nil)) pa_nil)))))))), ?_⟩
    have hp := hF.1
    have hG := hF.2.2.1
    have lG := hF.2.2.2.2
    have hB := fBack_ok hp hG nz lG (by omega)
    refine Evl.q_when (Evl.et_not (et_b (evr_isF cf (evr_var rfl h_other)))) (fun hb H1 e1 => by cases hb) (fun hb H1 e1 => ?_)
    refine qr_drop (evr_call (GAF.mk p F0 G0 f0) trivial (evrs_cons (evr_dispT (K := K) (evrs_cons (evr_var rfl (up h_self e1)) (evrs_cons (evr_var rfl (up h_other e1)) evrs_nil)) (Nat.le_of_ble_eq_true rfl)) evrs_nil)) fun H2 e2 => ?_
    have e12 := e1.trans e2
    refine Evl.q_when (Evl.et_not (et_F (evr_var rfl (up h_other e12)))) (fun hb H3 e3 => ?_) (fun hb H3 e3 => ?_)
    · cases hg : G0.1 with
      | nil => exact absurd hg nz
      | cons a l => rw [hg] at hb; cases hb
    have e13 := e12.trans e3
    exact sr_ret (evr_call (GAF.mk p F0 (fBack p G0) f0) ⟨hp, hF.2.1, hB.1, hF.2.2.2.1, hB.2.2⟩ (evrs_cons (evr_var rfl (up h_self e13)) (evrs_cons (evr_call (GF.mk p G0) ⟨hp, hG, lG, nz⟩ (evrs_cons (evr_var rfl (up h_other e13)) evrs_nil)) evrs_nil))) fun v H8 e8 hv => q v H8 (e13.trans e8) hv
abbrev s_F___neg__ : Stmt := inClass (topS 54) 17
abbrev N_F___neg__ : List Str := ["self"]
theorem sc_F___neg__ : FnScope N_F___neg__ ["self"] (defScope s_F___neg__) := ⟨rfl, rfl, rfl, by decide +kernel, rfl, by decide +kernel, by decide +kernel⟩
theorem ok_F___neg__ {f : Addr} {fd : FuncData} (F : Fun K "__neg__" "Function.__neg__" s_F___neg__ f fd) (B : Bis mg) (cf : CFm K mg C)  (D_made_function : De P w K mg base "made_function" ["prime", "top", "bottom"] 9 (sp_made_function K C)) (D_scale : De P w K mg base "scale" ["prime", "poly", "factor"] 2 (sp_scale K)) : FnOk P w K mg base CX0 10 f fd ["self"] (sp_F___neg__ K C) := by
  refine F.ok sc_F___neg__ (fun vs H Q E h => ?_) (fun cdv A outer s H vs Q E hr h => ?_)
  · obtain ⟨g, _, ha, _⟩ := h
    exact ha.len
  · obtain ⟨⟨p, F0⟩, ⟨hp, hF, lF⟩, ⟨v_self, _, rfl, h_self, rfl⟩, q⟩ := h
    dsimp only at *
    refine ⟨_, (pss_one (ps_ret (pe_call D_made_function.ok (hr.mono (by decide)) (by rfl) D_made_function.g D_made_function.kp D_made_function.b .nil pass0 (pa_cons (pe_fld (pv 0) rfl) (pa_cons (pe_call D_scale.ok (hr.mono (by decide)) (by rfl) D_scale.g D_scale.kp D_scale.b .nil pass0 (pa_cons (pe_fld (pv 0) rfl) (pa_cons (pe_fld (pv 0) rfl) (pa_cons (pe_op op_sub (pe_fld (pv 0) rfl) pe_int) pa_nil)))) (pa_cons (pe_fld (pv 0) rfl) pa_nil)))))), ?_⟩
    have l1 := lF.1
    have eg := gNeg_ok hp hF lF (by omega)
    rw [← eg] at q
    exact sr_ret (evr_call (GTB.mk p _ _) hp (evrs_cons (evr_fldP cf.c (evr_var rfl h_self))
      (evrs_cons (evr_call (GS.mk p F0.1 (p - 1)) (spre hp hF.t _ (by omega)) (evrs_cons (evr_fldP cf.c (evr_var rfl h_self)) (evrs_cons (evr_fldT cf.c (evr_var rfl h_self)) (evrs_cons (evr_op (evr_fldP cf.c (evr_var rfl h_self)) evr_c op_i0) evrs_nil))))
      (evrs_cons (evr_fldB cf.c (evr_var rfl h_self)) evrs_nil)))) fun v H8 e8 hv => q v H8 e8 hv
abbrev s_F___pow__ : Stmt := inClass (topS 54) 18
abbrev N_F___pow__ : List Str := ["self", "other", "prime"]
theorem sc_F___pow__ : FnScope N_F___pow__ ["self", "other"] (defScope s_F___pow__) := ⟨rfl, rfl, rfl, by decide +kernel, rfl, by decide +kernel, by decide +kernel⟩
theorem ok_F___pow__ {f : Addr} {fd : FuncData} (F : Fun K "__pow__" "Function.__pow__" s_F___pow__ f fd) (B : Bis mg) (cf : CFm K mg C) (C_MAX_RAISED_functions : GI mg "MAX_RAISED_functions" 20) (D_is_within : De P w K mg base "is_within" ["value", "low", "high"] 2 (sp_is_within K)) (D_made_function : De P w K mg base "made_function" ["prime", "top", "bottom"] 9 (sp_made_function K C)) (D_power_of : De P w K mg base "power_of" ["prime", "poly", "many"] 5 (sp_power_of K)) : FnOk P w K mg base CX0 10 f fd ["self", "other"] (sp_F___pow__ K C) := by
  refine F.ok sc_F___pow__ (fun vs H Q E h => ?_) (fun cdv A outer s H vs Q E hr h => ?_)
  · obtain ⟨g, _, ha, _⟩ := h
    exact ha.len
  · obtain ⟨⟨p, F0, n⟩, ⟨hp, hF, hn, m, lF, hm⟩, ⟨v_self, _, rfl, h_self, ⟨_, _, rfl, rfl, rfl⟩⟩, q⟩ := h
    dsimp only at *
    refine ⟨_, (pss_cons (ps_if (pt_not (pt_val (pe_call D_is_within.ok (hr.mono (by decide)) (by rfl) D_is_within.g D_is_within.kp D_is_within.b .nil pass0 (pa_cons (pv 1) (pa_cons pe_int (pa_cons (pe_gi C_MAX_RAISED_functions (by rfl)) pa_nil)))))) (pss_one ps_never) pss_nil)
      (pss_cons (ps_set (i := 2) sc_F___pow__.nd rfl (Or.inl rfl) (pe_fld (pv 0) rfl))
      (pss_one (ps_ret (pe_call D_made_function.ok (hr.mono (by decide)) (by rfl) D_made_function.g D_made_function.kp D_made_function.b .nil pass0 (pa_cons (pv 2) (pa_cons (pe_call D_power_of.ok (hr.mono (by decide)) (by rfl) D_power_of.g D_power_of.kp D_power_of.b .nil pass0 (pa_cons (pv 2) (pa_cons (pe_fld (pv 0) rfl) (pa_cons (pv 1) pa_nil)))) (pa_cons (pe_call D_power_of.ok (hr.mono (by decide)) (by rfl) D_power_of.g D_power_of.kp D_power_of.b .nil pass0 (pa_cons (pv 2) (pa_cons (pe_fld (pv 0) rfl) (pa_cons (pv 1) pa_nil)))) pa_nil)))))))), ?_⟩
    have h2 := hp.le
    have l1 := lF.1
    have l2 := lF.2
    have k1 : n * (1 + F0.1.length) ≤ 60 := Nat.le_trans (Nat.mul_le_mul_left n (Nat.add_le_add_left l1 1)) hm
    have k2 : n * (1 + F0.2.length) ≤ 60 := Nat.le_trans (Nat.mul_le_mul_left n (Nat.add_le_add_left l2 1)) hm
    have hnm : 1 + n * m ≤ 400 := by
      have : n * m ≤ n * (1 + m) := Nat.mul_le_mul_left n (by omega)
      omega
    refine Evl.q_when (Evl.et_not (et_b (evr_call (GWi.mk (.int (n : Int)) 0 20) trivial (evrs_cons (evr_var (r := vD K (.int (n : Int))) rfl (.int _)) (evrs_cons evr_c (evrs_cons evr_c evrs_nil)))))) (fun hb H1 e1 => ?_) (fun hb H1 e1 => ?_)
    · have hw : isWithin (.int (n : Int)) 0 20 = true := by
        simp [isWithin, isInt]
        omega
      have hb' : (!isWithin (.int (n : Int)) 0 20) = true := hb
      rw [hw] at hb'
      cases hb'
    refine qr_asg (evr_fldP cf.c (evr_var rfl (up h_self e1))) fun x2 H2 e2 h3 => ?_
    obtain rfl : x2 = .int p := h3
    have e12 := e1.trans e2
    rw [← gPow_ok hp hF lF n hnm] at q
    exact sr_ret (evr_call (GTB.mk p _ _) hp (evrs_cons (evr_var rfl rfl)
      (evrs_cons (evr_call (GW.mk p F0.1 n) ⟨h2.1, hp.le7, hF.t.r, hF.t.t, Nat.le_trans k1 (by decide)⟩ (evrs_cons (evr_var rfl rfl) (evrs_cons (evr_fldT cf.c (evr_var rfl (up h_self e12))) (evrs_cons (evr_var rfl rfl) evrs_nil))))
      (evrs_cons (evr_call (GW.mk p F0.2 n) ⟨h2.1, hp.le7, hF.b.r, hF.b.t, Nat.le_trans k2 (by decide)⟩ (evrs_cons (evr_var rfl rfl) (evrs_cons (evr_fldB cf.c (evr_var rfl (up h_self e12))) (evrs_cons (evr_var rfl rfl) evrs_nil)))) evrs_nil)))) fun v H8 e8 hv => q v H8 (e12.trans e8) hv
end
end K0
namespace K0
open PySem PySem.Spec PyProof.Rows L2 Kt M
open Evl (Ex Ev EvL EvU EvT EvA EvO ex_l ex_t sq_of st_of sz_of sz_lt fresh_back given)
/-! ### texts of polynomials and functions -/
def tI (i : Int) : Str := toString i
def termT (n : Int) (k : Nat) : Str := if k = 0 then tI n else if n = 1 then (if k = 1 then ("x" : Str) else ("x^" : Str) ++ tI k) else (tI n ++ (" " : Str)) ++ (if k = 1 then ("x" : Str) else ("x^" : Str) ++ tI k)
theorem term_small : ((List.range 10).all fun n => (List.range 100).all fun k => decide (n = 0) || (decide (0 < (termT n k).length) && (decide ((termT n k).length ≤ 12) && PyData.strOk (termT n k)))) = true := by decide +kernel
theorem tI_small : ((List.range 100).all fun k => decide ((tI k).length ≤ 3)) = true := by decide +kernel
theorem term_len {n : Int} {k : Nat} (h0 : 0 ≤ n) (h1 : n < 10) (hn : n ≠ 0) (hk : k < 100) : 0 < (termT n k).length ∧ (termT n k).length ≤ 12 ∧ PyData.strOk (termT n k) = true := by
  obtain ⟨m, rfl⟩ := Int.eq_ofNat_of_zero_le h0
  have z := List.all_eq_true.mp (List.all_eq_true.mp term_small m (List.mem_range.mpr (by omega))) k (List.mem_range.mpr hk)
  simp only [Bool.or_eq_true, Bool.and_eq_true, decide_eq_true_eq] at z
  rcases z with z | z
  · omega
  · exact z
theorem tI_len {i : Int} (h0 : 0 ≤ i) (h1 : i < 100) : (tI i).length ≤ 3 := by
  obtain ⟨m, rfl⟩ := Int.eq_ofNat_of_zero_le h0
  have z := List.all_eq_true.mp tI_small m (List.mem_range.mpr (by omega))
  exact of_decide_eq_true z
theorem slen (a b : Str) : (a ++ b).length = a.length + b.length := by
  show (a ++ b).cps.size = a.cps.size + b.cps.size
  rw [PySem.Str.cps_append, Array.size_append]
def termsN (xs : List Int) (n : Nat) : List Str := ((List.range n).filter fun i => xs.getD i 0 != 0).map fun i => termT (xs.getD i 0) i
def terms (xs : List Int) : List Str := termsN xs xs.length
theorem termsN_succ (xs : List Int) (n : Nat) : termsN xs (n + 1) = termsN xs n ++ (if xs.getD n 0 = 0 then [] else [termT (xs.getD n 0) n]) := by
  unfold termsN
  rw [List.range_succ, List.filter_append, List.map_append]
  by_cases h : xs.getD n 0 = 0
  · rw [if_pos h]
    have hb : (xs.getD n 0 != 0) = false := by rw [h]; rfl
    simp only [List.filter_cons, List.filter_nil, hb, Bool.false_eq_true, if_false, List.map_nil]
  · rw [if_neg h]
    have hb : (xs.getD n 0 != 0) = true := bne_iff_ne.mpr h
    simp only [List.filter_cons, List.filter_nil, hb, if_true, List.map_cons, List.map_nil]
/-- digits below 10, not too many -/
def TxOk (xs : List Int) : Prop := (∀ n ∈ xs, 0 ≤ n ∧ n < 10) ∧ xs.length ≤ 90
theorem TxOk.at_ {xs : List Int} (h : TxOk xs) (i : Nat) : 0 ≤ xs.getD i 0 ∧ xs.getD i 0 < 10 := by
  by_cases hi : i < xs.length
  · have e : xs.getD i 0 = xs[i] := by simp [List.getD, hi]
    rw [e]
    exact h.1 _ (List.getElem_mem hi)
  · have e : xs.getD i 0 = 0 := by simp [List.getD, List.getElem?_eq_none (Nat.le_of_not_lt hi)]
    rw [e]
    omega
theorem terms_len {xs : List Int} (h : TxOk xs) {n : Nat} (hn : n ≤ 90) : ∀ t ∈ termsN xs n, 0 < t.length ∧ t.length ≤ 12 ∧ PyData.strOk t = true := fun t ht => by
  unfold termsN at ht
  obtain ⟨i, hi, rfl⟩ := List.mem_map.mp ht
  obtain ⟨h1, h2⟩ := List.mem_filter.mp hi
  have h3 := List.mem_range.mp h1
  have h4 := h.at_ i
  exact term_len h4.1 h4.2 (by simpa using h2) (by omega)
theorem termsN_length (xs : List Int) (n : Nat) : (termsN xs n).length ≤ n := by
  unfold termsN
  rw [List.length_map]
  have := List.length_filter_le (fun i => xs.getD i 0 != 0) (List.range n)
  rw [List.length_range] at this
  exact this
theorem sum_le {ts : List Str} {m : Nat} (h : ∀ t ∈ ts, t.length ≤ m) : (ts.map (·.length)).sum ≤ ts.length * m := by
  induction ts with
  | nil => simp
  | cons a l ih =>
    have h1 := ih fun t ht => h t (List.mem_cons_of_mem _ ht)
    have h2 := h a List.mem_cons_self
    rw [List.map_cons, List.sum_cons, List.length_cons, Nat.succ_mul]
    omega
theorem join_len (a : Str) : ∀ ts : List Str, (Str.join a ts).length ≤ (ts.map (·.length)).sum + ts.length * a.length
  | [] => by simp [Str.join, Str.empty, Str.length]
  | [x] => by simp [Str.join]
  | x :: y :: r => by
    have ih := join_len a (y :: r)
    have e : Str.join a (x :: y :: r) = x ++ a ++ Str.join a (y :: r) := rfl
    rw [e, slen, slen]
    rw [List.map_cons, List.sum_cons, List.length_cons, Nat.succ_mul]
    omega
theorem join_pos (a : Str) {x : Str} (r : List Str) (h : 0 < x.length) : 0 < (Str.join a (x :: r)).length := by
  cases r with
  | nil => exact h
  | cons y r =>
    have e : Str.join a (x :: y :: r) = x ++ a ++ Str.join a (y :: r) := rfl
    rw [e, slen, slen]
    omega
def polyT (xs : List Int) : Str := if terms xs = [] then "0" else Txt.join " + " (terms xs)
def fnT (F : PF) : Str := if F.2 = [1] then polyT F.1 else ((("(" ++ polyT F.1) ++ ")/(") ++ polyT F.2) ++ ")"
theorem joinT_len {xs : List Int} (h : TxOk xs) : (Txt.join " + " (terms xs)).length ≤ 2000 ∧ ((terms xs).map (·.length)).sum + (terms xs).length * (" + " : Str).length ≤ 2000 := by
  have h1 := sum_le (m := 12) fun t ht => (terms_len h h.2 t ht).2.1
  have h2 := termsN_length xs xs.length
  have h3 := join_len " + " (terms xs)
  have h4 : (" + " : Str).length = 3 := by decide +kernel
  have h5 := h.2
  rw [TL.join_eq]
  unfold terms at h3 ⊢
  rw [h4] at h3 ⊢
  omega
theorem joinT_zero {xs : List Int} (h : TxOk xs) : (Txt.join " + " (terms xs)).length = 0 ↔ terms xs = [] := by
  rw [TL.join_eq]
  cases e : terms xs with
  | nil => simp [Str.join, Str.empty, Str.length]
  | cons x r =>
    have hx := (terms_len h h.2 x (by show x ∈ terms xs; rw [e]; exact List.mem_cons_self)).1
    have := join_pos " + " r hx
    simp
    omega
theorem polyT_len {xs : List Int} (h : TxOk xs) : (polyT xs).length ≤ 2000 := by
  unfold polyT
  split
  · exact Nat.le_of_ble_eq_true (by decide +kernel)
  · exact (joinT_len h).1
/-! ### rules of texts -/
section
variable {K : PySem.W.Frag} {σ : L2.St} {H H' : Hp} {te tf : TE} {ts : List TE} {acc out y z : Str} {i : Int}
theorem log_ok (h : i.natAbs ≤ 1000) : i.natAbs.log2 < 1920 := by
  have := Nat.log2_le_self i.natAbs
  omega
theorem evr_strI {rr : List V → Hp → VK → Prop} (hrr : rr = fun xs H Q => ∃ i, xs = [.int i] ∧ i.natAbs.log2 < 1920 ∧ Q (.str (toString i)) H) (h : EvR te σ H (vI i)) (hz : i.natAbs ≤ 1000) : EvR (tCB rr (tCons te tNil)) σ H (vS (tI i)) := fun H1 e Q k => h H1 e _ fun v H2 e2 hv => by
  have hv' : v = .int i := hv
  subst hrr hv'
  exact ⟨i, rfl, log_ok hz, k _ H2 e2 rfl⟩
theorem op_addS (hz : y.length + z.length ≤ 100000) : OpV (fun x y H Q => ∃ i j, x = .str i ∧ y = .str j ∧ i.length + j.length ≤ sizeLine ∧ Q (.str (i ++ j)) H) (vS y) (vS z) (vS (y ++ z)) H := fun a b H1 _ ha hb Q q => ⟨y, z, ha, hb, sz_of hz, q _ H1 (Ex.refl H1) rfl⟩
theorem evr_fmtS (h : EvR te σ H (vS y)) (hz : y.length ≤ 100000) : EvR (tFmt te) σ H (vS y) := fun H1 e Q k => h H1 e _ fun v H2 e2 hv => .inl ⟨y, hv, sz_of hz, k _ H2 e2 rfl⟩
theorem evr_fmtI (h : EvR te σ H (vI i)) (hz : i.natAbs ≤ 1000) : EvR (tFmt te) σ H (vS (tI i)) := fun H1 e Q k => h H1 e _ fun v H2 e2 hv => .inr ⟨i, hv, log_ok hz, k _ H2 e2 rfl⟩
/-- the parts of an f-string -/
def Js (ts : List TE) (σ : L2.St) (H : Hp) (acc out : Str) : Prop := ∀ H1, Ex H H1 → ∀ Q : Str → Hp → Prop, (∀ H2, Ex H1 H2 → Q out H2) → tJs ts acc σ H1 Q
theorem js_nil : Js [] σ H acc acc := fun H1 _ Q q => q H1 (Ex.refl H1)
theorem js_cons (h : EvR te σ H (vS y)) (hz : (acc ++ y).length ≤ 100000) (h2 : Js ts σ H (acc ++ y) out) : Js (te :: ts) σ H acc out := fun H1 e Q q => h H1 e _ fun v H2 e2 hv => ⟨y, hv, sz_of hz, h2 H2 (e.trans e2) Q fun H3 e3 => q H3 (e2.trans e3)⟩
theorem evr_js (h : Js ts σ H Str.empty out) : EvR (fun σ H Q => tJs ts Str.empty σ H fun out H1 => Q (.str out) H1) σ H (vS out) := fun H1 e Q q => h H1 e _ fun H2 e2 => q _ H2 e2 rfl
theorem evr_orS (h : EvR te σ H (vS z)) (hz : z.length ≤ 100000) (h2 : EvR tf σ H (vS y)) : EvR (tOrT K te tf) σ H (vS (if z.length = 0 then y else z)) := fun H1 e Q q => h H1 e _ fun v H2 e2 hv => by
  have hv' : v = .str z := hv
  subst hv'
  refine ⟨_, ⟨sz_of hz, rfl⟩, ?_⟩
  by_cases h0 : z.length = 0
  · rw [if_pos h0] at q
    have hb : ((z.length : Int) != 0) = false := by simp [h0]
    rw [hb]
    exact iteF (h2 H2 (e.trans e2) Q fun v H3 e3 hv => q v H3 (e2.trans e3) hv)
  · rw [if_neg h0] at q
    have hb : ((z.length : Int) != 0) = true := by simp; omega
    rw [hb]
    exact iteT (q _ H2 e2 rfl)
theorem evr_joinV {i : Nat} {l : Addr} {a : Str} {ys : List Str} {r : V → List V → Hp → VK → Prop} (hr : r = fun x xs H Q => ∃ a p, ∃ ys : List Str, x = .str a ∧ xs = [.ref p] ∧ (SqL K H p (ys.map V.str) ∨ SqT K H p (ys.map V.str)) ∧ (ys.map (·.length)).sum + ys.length * a.length ≤ 16777216 ∧ Q (.str (Txt.join a ys)) H)
    (hs : σ[i]? = some (some (.ref l))) (hl : H l = some (.lst (ys.map V.str))) (hz : (ys.map (·.length)).sum + ys.length * a.length ≤ 16777216) : EvR (tBM K "str" r (tC (.str a)) (tCons (tVar i) tNil)) σ H (vS (Txt.join a ys)) := fun H1 e Q q => by
  subst hr
  exact ⟨rfl, _, hs, a, l, ys, rfl, rfl, .inl (sq_of (e _ _ hl)), hz, q _ H1 (Ex.refl _) rfl⟩
def dSs (ts : List Str) : PyData := .list (ts.map PyData.str)
theorem dpa_strs (K : PySem.W.Frag) (H : Hp) : ∀ ts : List Str, DpAll K H (ts.map V.str) (ts.map PyData.str)
  | [] => .nil
  | n :: ns => .cons (.str n) (dpa_strs K H ns)
theorem eqv_Ss (ts : List Str) : PyData.eqv (dSs ts) (dL []) = decide (ts = []) := by
  unfold dSs dL
  rw [PyData.eqv]
  cases ts <;> simp [PyData.eqvAll]
theorem lay_strs : ∀ ts : List Str, (∀ t ∈ ts, PyData.strOk t = true) → PyData.canLayAll0 (ts.map PyData.str) = true
  | [], _ => rfl
  | x :: xs, h => by rw [List.map_cons, PyData.canLayAll0, lay_strs xs fun t ht => h t (List.mem_cons_of_mem _ ht), PyData.canLay0, h x List.mem_cons_self] <;> rfl
theorem depth_strs : ∀ xs : List Str, PyData.depthAll (xs.map PyData.str) = 0
  | [] => rfl
  | x :: xs => by rw [List.map_cons, PyData.depthAll, depth_strs xs, PyData.depth] <;> rfl
theorem shaped_Ss (ts : List Str) (h : ∀ t ∈ ts, PyData.strOk t = true) : SeqAt.shaped (dSs ts) = true := by
  unfold SeqAt.shaped dSs
  rw [PyData.canLay0, lay_strs ts h, PyData.depth, depth_strs]
  rfl
end
end K0
namespace K0
open PySem PySem.Spec PyProof.Rows L2 Kt M
open Evl (Ex Ev EvL EvU EvT EvA EvO ex_l ex_t sq_of st_of sz_of sz_lt fresh_back given)
structure GTm where
  n : Int
  k : Nat
theorem eqv_i {x y : Int} : decide (V.int x = V.int y) = true ↔ x = y := by
  rw [scal_int, decide_eq_true_eq]
theorem nev_i {x y : Int} : decide (V.int x = V.int y) = false ↔ ¬ x = y := by
  rw [scal_int, decide_eq_false_iff_not]
theorem xk_len (k : Nat) (hk : k < 100) : ((if k = 1 then ("x" : Str) else ("x^" : Str) ++ tI k)).length ≤ 10 := by
  have h1 : ("x" : Str).length = 1 := by decide +kernel
  have h2 : ("x^" : Str).length = 2 := by decide +kernel
  have h3 := tI_len (i := (k : Int)) (by omega) (by omega)
  split
  · omega
  · rw [slen]
    omega
section
variable {P : Program} {w : World} {K : PySem.W.Frag} {mg : Str → Option Value} {base : Heap} {C : Addr}
def sp_term_text (_ : PySem.W.Frag) : Sp := Con (G := GTm) (fun g => 0 ≤ g.n ∧ g.n < 10 ∧ g.k < 100) (fun g => [vI g.n, vI (g.k : Int)]) (fun g => vS (termT g.n g.k))
def sp_poly_text (K : PySem.W.Frag) : Sp := Con (G := List Int) TxOk (fun xs => [vP K xs]) (fun xs => vS (polyT xs))
def sp__law_po_text (K : PySem.W.Frag) : Sp := Con (G := List Int) TxOk (fun xs => [vP K xs]) (fun xs => vS (polyT xs))
def sp_F___str__ (K : PySem.W.Frag) (C : Addr) : Sp := Con (G := GF) (fun g => TxOk g.F.1 ∧ TxOk g.F.2) (fun g => [vF K C g.p g.F]) (fun g => vS (fnT g.F))
def sp__law_fn_text (K : PySem.W.Frag) : Sp := Con (G := PF) (fun F => TxOk F.1 ∧ TxOk F.2) (fun F => [vT K [vP K F.1, vP K F.2]]) (fun F => vS (fnT F))
def sp__law_fn_degree (K : PySem.W.Frag) : Sp := Con (G := PF) (fun _ => True) (fun F => [vT K [vP K F.1, vP K F.2]]) (fun F => vI ((F.1.length : Int) - (F.2.length : Int)))
abbrev s_term_text : Stmt := topS 68
abbrev N_term_text : List Str := ["number", "power", "letter"]
theorem sc_term_text : FnScope N_term_text ["number", "power"] (defScope s_term_text) := ⟨rfl, rfl, rfl, by decide +kernel, rfl, by decide +kernel, by decide +kernel⟩
theorem ok_term_text {f : Addr} {fd : FuncData} (F : Fun K "term_text" "term_text" s_term_text f fd) (B : Bis mg) (cf : CFm K mg C)   : FnOk P w K mg base CX0 2 f fd ["number", "power"] (sp_term_text K) := by
  refine F.ok sc_term_text (fun vs H Q E h => ?_) (fun cdv A outer s H vs Q E hr h => ?_)
  · obtain ⟨g, _, ha, _⟩ := h
    exact ha.len
  · obtain ⟨⟨n, k⟩, ⟨h0, h1, hk⟩, ⟨_, _, rfl, rfl, ⟨_, _, rfl, rfl, rfl⟩⟩, q⟩ := h
    dsimp only at *
    refine ⟨_, (pss_cons (ps_if (pt_cmpR op_eq (pv 1) pe_int (nomark _)) (pss_one (ps_ret (pe_callTy call_str_int (by rfl) (B "str" (by decide +kernel)) (by decide +kernel) (pa_cons (pv 0) pa_nil)))) pss_nil)
      (pss_cons (ps_set (i := 2) sc_term_text.nd rfl (Or.inl rfl) (pe_ifExp (pt_cmpR op_eq (pv 1) pe_int (nomark _)) pe_str (pe_joined (.cons pe_str (.cons (pe_fmt (pv 1)) .nil)))))
      (pss_one (ps_ret (pe_ifExp (pt_cmpR op_eq (pv 0) pe_int (nomark _)) (pv 2) (pe_joined (.cons (pe_fmt (pv 0)) (.cons pe_str (.cons (pe_fmt (pv 2)) .nil))))))))), ?_⟩
    have hl := xk_len k hk
    have ht := tI_len h0 (by omega)
    have s2 : ("x^" : Str).length = 2 := by decide +kernel
    have s1 : (" " : Str).length = 1 := by decide +kernel
    have hk3 := tI_len (i := (k : Int)) (by omega) (by omega)
    refine Evl.q_when (et_r (evr_op (evr_var rfl rfl) evr_c (op_eqS (x := .int (k : Int)) (y := .int 0) rfl))) (fun hb H1 e1 => ?_) (fun hb H1 e1 => ?_)
    · have hb' : k = 0 := by have := eqv_i.mp hb; omega
      subst hb'
      exact sr_ret (evr_strI rfl (evr_var rfl rfl) (by omega)) fun v H2 e2 hv => q v H2 (e1.trans e2) (by unfold termT; rw [if_pos rfl]; exact hv)
    have hb' : ¬ k = 0 := fun z => by
      have := nev_i.mp hb
      omega
    refine qr_asg (r := vS (if k = 1 then ("x" : Str) else ("x^" : Str) ++ tI k)) (evr_if (et_r (evr_op (evr_var rfl rfl) evr_c (op_eqS (x := .int (k : Int)) (y := .int 1) rfl))) (fun hc => ?_) (fun hc => ?_)) fun x2 H2 e2 h2 => ?_
    · have hc' : k = 1 := by have := eqv_i.mp hc; omega
      rw [if_pos hc']
      exact evr_c
    · have hc' : ¬ k = 1 := fun z => by
        have := nev_i.mp hc
        omega
      rw [if_neg hc']
      have z := evr_js (js_cons (acc := Str.empty) (evr_c (σ := [some (.int n), some (.int (k : Int)), none]) (H := H1) (v := .str "x^")) (by rw [PySem.Str.empty_append]; omega) (js_cons (evr_fmtI (i := (k : Int)) (evr_var (i := 1) rfl rfl) (by omega)) (by rw [PySem.Str.empty_append, slen]; omega) js_nil))
      rw [PySem.Str.empty_append] at z
      exact z
    obtain rfl : x2 = .str (if k = 1 then ("x" : Str) else ("x^" : Str) ++ tI k) := h2
    refine sr_ret (r := vS (termT n k)) (evr_if (et_r (evr_op (evr_var rfl rfl) evr_c (op_eqS (x := .int n) (y := .int 1) rfl))) (fun hc => ?_) (fun hc => ?_)) fun v H3 e3 hv => q v H3 ((e1.trans e2).trans e3) hv
    · have hc' : n = 1 := eqv_i.mp hc
      unfold termT
      rw [if_neg hb', if_pos hc']
      exact evr_var rfl rfl
    · have hc' : ¬ n = 1 := nev_i.mp hc
      unfold termT
      rw [if_neg hb', if_neg hc']
      have z := evr_js (js_cons (acc := Str.empty) (evr_fmtI (σ := [some (.int n), some (.int (k : Int)), some (.str (if k = 1 then ("x" : Str) else ("x^" : Str) ++ tI k))]) (H := H2) (i := n) (evr_var (i := 0) rfl rfl) (by omega)) (by rw [PySem.Str.empty_append]; omega) (js_cons (evr_c (v := .str " ")) (by rw [PySem.Str.empty_append, slen]; omega) (js_cons (evr_fmtS (y := if k = 1 then ("x" : Str) else ("x^" : Str) ++ tI k) (evr_var (i := 2) rfl rfl) (by omega)) (by rw [PySem.Str.empty_append, slen, slen]; omega) js_nil)))
      rw [PySem.Str.empty_append] at z
      exact z
abbrev s_poly_text : Stmt := topS 67
abbrev N_poly_text : List Str := ["poly", "power", "number"]
theorem sc_poly_text : FnScope N_poly_text ["poly"] (defScope s_poly_text) := ⟨rfl, rfl, rfl, by decide +kernel, rfl, by decide +kernel, by decide +kernel⟩
theorem ok_poly_text {f : Addr} {fd : FuncData} (F : Fun K "poly_text" "poly_text" s_poly_text f fd) (B : Bis mg) (cf : CFm K mg C)  (D_term_text : De P w K mg base "term_text" ["number", "power"] 2 (sp_term_text K)) : FnOk P w K mg base CX0 3 f fd ["poly"] (sp_poly_text K) := by
  refine F.ok sc_poly_text (fun vs H Q E h => ?_) (fun cdv A outer s H vs Q E hr h => ?_)
  · obtain ⟨g, _, ha, _⟩ := h
    exact ha.len
  · obtain ⟨xs, hx, ⟨v_poly, _, rfl, h_poly, rfl⟩, q⟩ := h
    dsimp only at *
    refine ⟨_, (pss_one (ps_ret (pe_orT (pe_bm PySem.F.plainAttrs_str PySem.F.slot_str_join PySem.F.type_str_join mt_join pe_str (pa_cons (pe_lc (own := [("power", 1), ("number", 2)]) (g := (gTup K 2 (gCons (gName 1) (gCons (gName 2) gNil)))) (tt := tTr K (tVar 2)) rfl sc_poly_text.nd (pi_enumK true (by rfl) (B "enumerate" (by decide +kernel)) (pa_cons (pv 0) pa_nil)) (blkOk_by (own := [("power", 1), ("number", 2)]) (N := N_poly_text) (sc := defScope s_poly_text) (by decide +kernel)) (fun _ _ _ _ _ => (pg_tup rfl (pgs_cons (pg_name (i := 1) sc_poly_text.nd rfl (Or.inl rfl)) (pgs_cons (pg_name (i := 2) sc_poly_text.nd rfl (Or.inl rfl)) pgs_nil)))) (fun _ _ _ _ _ => pts_one (pt_truth (pv 2) (by intro _; rfl))) (fun _ _ _ _ _ => (pe_call D_term_text.ok (hr.mono (by decide)) (by rfl) D_term_text.g D_term_text.kp D_term_text.b .nil pass0 (pa_cons (pv 2) (pa_cons (pv 1) pa_nil))))) pa_nil)) (pe_one pe_str)))), ?_⟩
    have hw := wk_enumK (p := true) (K := K) (σ := [some v_poly, none, none]) (H := H) (ta := tCons (tVar 0) tNil) (as := xs) (evrs_cons (EvR.kP (evr_var rfl h_poly)) evrs_nil)
    have hxl := hx.2
    have el := fun (tt : TT) (te : TE) (ht : ∀ (x n : Int), ∀ H2, Ex H H2 → EvT tt [some v_poly, some (.int n), some (.int x)] H2 (x != 0)) (hv : ∀ i : Nat, i < xs.length → (xs.getD i 0 != 0) = true → ∀ H2, Ex H H2 → EvR te [some v_poly, some (.int ((0 : Int) + (i : Int))), some (.int (xs.getD i 0))] H2 (vS (termT (xs.getD i 0) i))) => el_comp (vs := [1, 2]) (g := gTup K 2 (gCons (gName 1) (gCons (gName 2) gNil))) (tt := tt) (te := te) hw (fun i => xs.getD i 0 != 0) (fun i => .str (termT (xs.getD i 0) i)) (by rw [List.length_map]; omega) (fun i v H1 H2 hi e y R k => by
      obtain ⟨T, x, y, rfl, hT, rfl, hx1, hx2⟩ := y
      rw [List.length_map] at hi
      have hxi : xs[i]? = some xs[i] := List.getElem?_eq_getElem hi
      have eg : xs.getD i 0 = xs[i] := by simp [List.getD, hxi]
      have hx2' : (xs.map V.int)[i]? = some y := hx2
      rw [List.getElem?_map, hxi] at hx2'
      have ex : V.int xs[i] = y := Option.some.inj hx2'
      have ex1 : V.int ((0 : Int) + (i : Nat)) = x := Option.some.inj hx1
      subst ex ex1
      rw [← eg]
      exact ⟨T, _, rfl, st_of upd_same, rfl, _, _, rfl, _, _, rfl, rfl, k _ _ rfl (Ex.new hT) (ht _ _ _ (e.trans (Ex.new hT))) fun hb => (hv i hi hb _ (e.trans (Ex.new hT))).ev⟩)
    have eg : given (xs.map V.int).length (fun i => xs.getD i 0 != 0) (fun i => V.str (termT (xs.getD i 0) i)) = (terms xs).map V.str := by
      unfold given terms termsN
      rw [List.length_map, List.map_map]
      rfl
    rw [eg] at el
    have hj := joinT_len hx
    have hz := joinT_zero hx
    refine sr_ret (evr_orS (z := Txt.join " + " (terms xs)) (y := "0") (evr_join rfl (el _ _ (fun x n H2 e2 => et_truI (evr_var rfl rfl)) fun i hi hb H2 e2 => ?_) (by omega)) (by omega) evr_c) fun v H1 e1 hv => q v H1 e1 ?_
    · have h4 := hx.at_ i
      exact evr_call (GTm.mk (xs.getD i 0) i) ⟨h4.1, h4.2, by show i < 100; omega⟩ (evrs_cons (evr_var rfl rfl) (evrs_cons (evr_var rfl (by show V.int _ = V.int _; rw [Int.zero_add])) evrs_nil))
    · unfold polyT
      by_cases h : terms xs = []
      · rw [if_pos h]
        rw [if_pos (hz.mpr h)] at hv
        exact hv
      · rw [if_neg h]
        rw [if_neg (fun z => h (hz.mp z))] at hv
        exact hv
end
end K0
namespace K0
open PySem PySem.Spec PyProof.Rows L2 Kt M
open Evl (Ex Ev EvL EvU EvT EvA EvO ex_l ex_t sq_of st_of sz_of sz_lt fresh_back given)
section
variable {P : Program} {w : World} {K : PySem.W.Frag} {mg : Str → Option Value} {base : Heap} {C : Addr}
abbrev s_F___str__ : Stmt := inClass (topS 54) 21
abbrev N_F___str__ : List Str := ["self"]
theorem sc_F___str__ : FnScope N_F___str__ ["self"] (defScope s_F___str__) := ⟨rfl, rfl, rfl, by decide +kernel, rfl, by decide +kernel, by decide +kernel⟩
theorem ok_F___str__ {f : Addr} {fd : FuncData} (F : Fun K "__str__" "Function.__str__" s_F___str__ f fd) (B : Bis mg) (cf : CFm K mg C)  (D_poly_text : De P w K mg base "poly_text" ["poly"] 3 (sp_poly_text K)) : FnOk P w K mg base CX0 4 f fd ["self"] (sp_F___str__ K C) := by
  refine F.ok sc_F___str__ (fun vs H Q E h => ?_) (fun cdv A outer s H vs Q E hr h => ?_)
  · obtain ⟨g, _, ha, _⟩ := h
    exact ha.len
  · obtain ⟨⟨p, F0⟩, ⟨t1, t2⟩, ⟨v_self, _, rfl, h_self, rfl⟩, q⟩ := h
    dsimp only at *
    refine ⟨_, (pss_cons (ps_if (pt_cmpR (r := rEqD K) (op_eqD hr.units) (pe_fld (pv 0) rfl) (pe_tup (pa_cons pe_int pa_nil)) (nomark _)) (pss_one (ps_ret (pe_joined1 (pe_fmt (pe_call D_poly_text.ok (hr.mono (by decide)) (by rfl) D_poly_text.g D_poly_text.kp D_poly_text.b .nil pass0 (pa_cons (pe_fld (pv 0) rfl) pa_nil)))))) pss_nil)
      (pss_one (ps_ret (pe_joined (.cons pe_str (.cons (pe_fmt (pe_call D_poly_text.ok (hr.mono (by decide)) (by rfl) D_poly_text.g D_poly_text.kp D_poly_text.b .nil pass0 (pa_cons (pe_fld (pv 0) rfl) pa_nil))) (.cons pe_str (.cons (pe_fmt (pe_call D_poly_text.ok (hr.mono (by decide)) (by rfl) D_poly_text.g D_poly_text.kp D_poly_text.b .nil pass0 (pa_cons (pe_fld (pv 0) rfl) pa_nil))) (.cons pe_str .nil))))))))), ?_⟩
    have l1 := polyT_len t1
    have l2 := polyT_len t2
    have s1 : ("(" : Str).length = 1 := by decide +kernel
    have s2 : (")/(" : Str).length = 3 := by decide +kernel
    have s3 : (")" : Str).length = 1 := by decide +kernel
    refine Evl.q_when (et_r (evr_op (evr_fldB cf.c (evr_var rfl h_self)) (evr_disp (K := K) (ns := [1]) (evrs_cons evr_c evrs_nil) (by decide)) op_eqP)) (fun hb H1 e1 => ?_) (fun hb H1 e1 => ?_)
    · have hb' : F0.2 = [1] := of_decide_eq_true hb
      refine sr_ret (evr_fmtS (evr_call F0.1 t1 (evrs_cons (evr_fldT cf.c (evr_var rfl (up h_self e1))) evrs_nil)) (by show (polyT F0.1).length ≤ 100000; omega)) fun v H2 e2 hv => q v H2 (e1.trans e2) ?_
      unfold fnT
      rw [if_pos hb']
      exact hv
    · have hb' : ¬ F0.2 = [1] := of_decide_eq_false hb
      have z := evr_js (js_cons (acc := Str.empty) (evr_c (σ := [some v_self]) (H := H1) (v := .str "(")) (by rw [PySem.Str.empty_append]; omega)
        (js_cons (y := polyT F0.1) (evr_fmtS (evr_call (E := E0) (pre := TxOk) (args := fun xs => [vP K xs]) (res := fun xs => vS (polyT xs)) F0.1 t1 (evrs_cons (evr_fldT cf.c (evr_var (i := 0) rfl (up h_self e1))) evrs_nil)) (by show (polyT F0.1).length ≤ 100000; omega)) (by rw [PySem.Str.empty_append, slen]; omega)
        (js_cons (evr_c (v := .str ")/(")) (by rw [PySem.Str.empty_append, slen, slen]; omega)
        (js_cons (y := polyT F0.2) (evr_fmtS (evr_call (E := E0) (pre := TxOk) (args := fun xs => [vP K xs]) (res := fun xs => vS (polyT xs)) F0.2 t2 (evrs_cons (evr_fldB cf.c (evr_var (i := 0) rfl (up h_self e1))) evrs_nil)) (by show (polyT F0.2).length ≤ 100000; omega)) (by rw [PySem.Str.empty_append, slen, slen, slen]; omega)
        (js_cons (evr_c (v := .str ")")) (by rw [PySem.Str.empty_append, slen, slen, slen, slen]; omega) js_nil)))))
      rw [PySem.Str.empty_append] at z
      refine sr_ret z fun v H2 e2 hv => q v H2 (e1.trans e2) ?_
      unfold fnT
      rw [if_neg hb']
      exact hv
end
end K0
namespace K0
open PySem PySem.Spec PyProof.Rows L2 Kt M
open Evl (Ex Ev EvL EvU EvT EvA EvO ex_l ex_t sq_of st_of sz_of sz_lt fresh_back given)
section
variable {X : Cx} {CX : CXT} {k i : Nat} {C f : Addr} {fd : FuncData} {ps : List Str} {sp : Sp} {dvs : List V} {ds : List Value} {E : XK} {x : Str} {p pos : Pos} {e : Expr} {es : List Expr} {t : TA}
/-- cls(..), the class in a slot -/
def tMakeL (i : Nat) (C : Addr) (sp : Sp) (dvs : List V) (E : XK) (t : TA) : TE := fun σ H Q => σ[i]? = some (some (.ref C)) ∧ tMake C sp dvs E t σ H Q
theorem pe_makeL (M : Mk X.K C f) (F : FnOk X.prog X.w X.K X.mg X.base CX k f fd ps sp) (hr : Room (k + 1) X.A) (hN : X.N[i]? = some x) (hv : Vis X.env.scope x) (hb : Binds X.K fd ps ds) (hd : Vals dvs ds) (hx : Passes CX X E) (ha : PA X (e :: es) t)
    (hdb : (x == ("__debug__" : Str)) = false := by decide) (hcd : (x == ("__classdict__" : Str)) = false := by decide)
    (he : starEach (e :: es) X.env = (false, eval e X.env) :: starEach es X.env := by rfl) (hpl : (backTo pos (starEach es X.env)).any (·.1) = false := by rfl) : PE X (.Call (.Name x p) (e :: es) [] pos) (tMakeL i C sp dvs E t) := by
  refine ⟨fun pins s σ H Q I h => ?_⟩
  obtain ⟨hs, ht⟩ := h
  refine wpAny_Call_Name_kw (thn ((pe_var (pos := p) hN hv hdb hcd).run pins s σ H (fun v H1 => v = .ref C ∧ H1 = H) I ⟨.ref C, hs, rfl, rfl⟩) fun u s1 ⟨v, H1, I1, r1, q1⟩ => ?_)
  obtain ⟨rfl, rfl⟩ := q1
  cases r1
  refine PySem.W.callWith_K (h₀ := X.base) I.ok.mod.kin M.kp (thn (ha.run pos pins s1 σ _ _ I1 ht) fun us s2 ⟨vs, H2, I2, r, q⟩ => ⟨I2.kIn, ?_⟩) he hpl
  exact run_make M F hr hb hd hx I2 r q
end
section
variable {K : PySem.W.Frag} {C : Addr} {σ : L2.St} {H : Hp} {te : TE} {ta : TA} {ns xs ys : List Int} {p : Int} {i : Nat} {E : XK}
theorem evr_tupleT {rr : List V → Hp → VK → Prop} (hrr : rr = fun xs H Q => ∃ p ys, xs = [.ref p] ∧ ((SqL K H p ys ∧ ∀ l, H l = none → Q (.ref l) (upd H l (.tup ys))) ∨ (SqT K H p ys ∧ Q (.ref p) H))) (h : EvR te σ H (vP K ns)) : EvR (tCB rr (tCons te tNil)) σ H (vP K ns) := fun H1 e Q q =>
  h H1 e _ fun v H2 e2 hv => by
    subst hrr
    obtain ⟨a, rfl, hx⟩ := id hv
    exact ⟨a, _, rfl, .inr ⟨hx, q _ H2 e2 hv⟩⟩
theorem evr_makeL (hs : σ[i]? = some (some (.ref C))) (hp : Pr p) (hx : PolyOk p xs) (hy : PolyOk p ys) (ny : ys ≠ []) (h : EvRs ta σ H [vI p, vP K xs, vP K ys]) : EvR (tMakeL i C (sp_F___init__ K C) [] E ta) σ H (vF K C p (nf p xs ys)) := fun H1 e Q k => ⟨hs, evr_make hp hx hy ny h H1 e Q k⟩
end
/-- a function of the law: a pair -/
abbrev vG (K : PySem.W.Frag) (F : PF) : VR := vT K [vP K F.1, vP K F.2]
theorem trim_one {p n : Int} (hp : Pr p) : PolyOk p (trim [n % p]) := by
  have h := hp.le
  have h1 : 0 ≤ n % p := Int.emod_nonneg _ (by omega)
  have h2 : n % p < p := Int.emod_lt_of_pos _ (by omega)
  refine ⟨fun m hm => ?_, trim_trim _, Nat.le_trans (trim_len _) (Nat.le_of_ble_eq_true rfl)⟩
  have z := trim_sub hm
  obtain rfl := List.mem_singleton.mp z
  exact ⟨h1, h2⟩
section
variable {P : Program} {w : World} {K : PySem.W.Frag} {mg : Str → Option Value} {base : Heap} {C : Addr}
def sp_trimmedT (K : PySem.W.Frag) : Sp := Con (G := List Int) (fun ns => ns.length ≤ 100000) (fun ns => [vP K ns]) (fun ns => vP K (trim ns))
structure GFk where
  p : Int
  F : PF
  f : Int
/-- the function of an integer; the letter -/
def fNum (p n : Int) : PF := (trim [n % p], [1])
def fLet : PF := ([0, 1], [1])
def sp_F_number (K : PySem.W.Frag) (C : Addr) : Sp := Con (G := G2) (fun g => Pr g.p ∧ isInt (.int g.n) = true) (fun g => [vC (.ref C), vI g.p, vI g.n]) (fun g => vF K C g.p (fNum g.p g.n))
def sp_F_letter (K : PySem.W.Frag) (C : Addr) : Sp := Con (G := Int) Pr (fun p => [vC (.ref C), vI p]) (fun p => vF K C p fLet)
def FnPre (p : Int) (t b : List Int) : Prop := Pr p ∧ Pl p t ∧ Pl p b ∧ b ≠ [] ∧ t.length ≤ 1000 ∧ b.length ≤ 1000
def sp__law_fn_made (K : PySem.W.Frag) : Sp := Con (G := GTB) (fun g => FnPre g.p g.t g.b) (fun g => [vI g.p, vP K g.t, vP K g.b]) (fun g => vG K (nf g.p g.t g.b))
/-- lengths whose sum the law's own ways bear -/
def FL (g : GAF) : Prop := Pr g.p ∧ NF g.p g.F ∧ NF g.p g.G ∧ ∃ m n, Le m g.F ∧ Le n g.G ∧ m + n ≤ 1000
def sp__law_fn_sum (K : PySem.W.Frag) : Sp := Con (G := GAF) FL (fun g => [vI g.p, vG K g.F, vG K g.G, vI g.f]) (fun g => vG K (fAdd g.p g.F g.G g.f))
def sp__law_fn_times (K : PySem.W.Frag) : Sp := Con (G := GAF) FL (fun g => [vI g.p, vG K g.F, vG K g.G]) (fun g => vG K (fMul g.p g.F g.G))
def sp__law_fn_back (K : PySem.W.Frag) : Sp := Con (G := GF) (fun g => Pr g.p ∧ NF g.p g.F ∧ Le 1000 g.F ∧ g.F.1 ≠ []) (fun g => [vI g.p, vG K g.F]) (fun g => vG K (fBack g.p g.F))
def sp__law_fn_over (K : PySem.W.Frag) : Sp := Con (G := GAF) (fun g => FL g ∧ g.G.1 ≠ []) (fun g => [vI g.p, vG K g.F, vG K g.G]) (fun g => vG K (fMul g.p g.F (fBack g.p g.G)))
def sp__law_fn_power (K : PySem.W.Frag) : Sp := Con (G := GFn) (fun g => Pr g.p ∧ NF g.p g.F ∧ ∃ m, Le m g.F ∧ 1 + g.n * m ≤ 40 ∧ m ≤ 40) (fun g => [vI g.p, vG K g.F, vI (g.n : Int)]) (fun g => vG K (fPow g.p g.F g.n))
def sp__law_fn_number (K : PySem.W.Frag) : Sp := Con (G := G2) (fun g => Pr g.p) (fun g => [vI g.p, vI g.n]) (fun g => vG K (fNum g.p g.n))
def sp__law_fn_letter (K : PySem.W.Frag) : Sp := Con (G := Unit) (fun _ => True) (fun _ => []) (fun _ => vG K fLet)
def sp__law_as_function (K : PySem.W.Frag) (C : Addr) : Sp := Con (G := GTB) (fun g => Pr g.p ∧ PolyOk g.p g.t ∧ PolyOk g.p g.b ∧ g.b ≠ []) (fun g => [vI g.p, vG K (g.t, g.b)]) (fun g => vF K C g.p (nf g.p g.t g.b))
def sp__law_is_told (K : PySem.W.Frag) (C : Addr) : Sp := Con (G := GF) (fun g => TxOk g.F.1 ∧ TxOk g.F.2) (fun g => [vF K C g.p g.F, vI g.p, vG K g.F]) (fun _ => vB true)
theorem ok_trimmedT {f : Addr} {fd : FuncData} (F : Fun K "trimmed" "trimmed" s_trimmed f fd) (B : Bis mg)  : FnOk P w K mg base CX0 1 f fd ["numbers"] (sp_trimmedT K) := by
  refine F.ok sc_trimmed (fun vs H Q E h => ?_) (fun cdv A outer s H vs Q E hr h => ?_)
  · obtain ⟨g, _, ha, _⟩ := h
    exact ha.len
  · obtain ⟨ns, hlen, ⟨_, _, rfl, ⟨a, rfl, hS⟩, rfl⟩, q⟩ := h
    dsimp only at *
    refine ⟨_, (pss_cons (ps_set (i := 1) sc_trimmed.nd rfl (Or.inl rfl) (pe_callB call_len_seq (by rfl) (B "len" (by decide +kernel)) (by decide +kernel) (pa_cons (pv 0) pa_nil)))
      (pss_cons (ps_while PassesOwn.never (PW.pt (pw_and (pt_truth (pv 1) (by intro _; rfl)) (pw_and1 (pt_cmpR op_eq (pe_ix (r := rIxT K) ix_tup (pv 0) (pe_op op_sub (pv 1) pe_int) (fun _ _ => rfl)) pe_int (nomark _))))) (pss_one (ps_aug (i := 1) sc_trimmed.nd rfl (Or.inl rfl) pe_int ip_sub)))
      (pss_one (ps_ret (pe_callTy call_tuple_of (by rfl) (B "tuple" (by decide +kernel)) (by decide +kernel) (pa_cons (pe_slice sl_tupA (pv 0) po_none (po_some (pv 1))) pa_nil)))))), ?_⟩
    refine ⟨.ref a, rfl, a, _, rfl, .inr hS, ?_⟩
    show tWhile _ _ _ _ _
    refine ⟨fun m σ H1 => m ≤ ns.length ∧ σ = [some (.ref a), some (.int (m : Int))] ∧ Ex H H1 ∧ ∀ x ∈ ns.drop m, x = 0, ⟨ns.length, Nat.le_refl _, by rw [List.length_map]; rfl, Ex.refl H, by simp⟩, fun m σ H1 hW => ?_⟩
    obtain ⟨hm, rfl, e1, hz⟩ := hW
    have fin : (m = 0 ∨ ns[m - 1]? ≠ some 0) → ∀ (H1 : Hp), Ex H H1 → tRet (tCB (fun xs H_1 Q => ∃ p ys, xs = [V.ref p] ∧ ((SqL K H_1 p ys ∧ ∀ (l : Addr), H_1 l = none → Q (V.ref l) (upd H_1 l (HO.tup ys))) ∨ SqT K H_1 p ys ∧ Q (V.ref p) H_1)) (tCons (tSl (rSlA K) (tVar 0) tNoPart (tPart (tVar 1))) tNil)) { nx := fun x H' => Q V.non H', rt := Q } [some (.ref a), some (.int (m : Int))] H1 := by
      intro hc H1 e1
      refine sr_ret (evr_tupleT rfl (evr_slT (lo := none) (hi := some (m : Int)) (evr_var (r := vP K ns) rfl ⟨a, rfl, ex_t e1 hS⟩) eo_none (eo_some (evr_var rfl rfl)))) fun v H2 e2 hv => q v H2 (e1.trans e2) ?_
      rw [trim_take hm hz hc, ← cutI_to hm]
      exact hv
    refine ⟨_, rfl, _, (by show _ = _; rfl), ?_⟩
    by_cases h0 : m = 0
    · subst h0
      refine iteF (iteF ?_)
      exact fin (.inl rfl) H1 e1
    · have hb : ((m : Int) != 0) = true := by simp [h0]
      rw [hb]
      refine iteT ⟨_, rfl, _, rfl, _, _, rfl, rfl, a, _, _, .int (ns[m - 1]'(by omega)), rfl, rfl, ex_t e1 hS, ?_, rfl, _, rfl, ?_⟩
      · have e : ((m : Int) - 1) = ((m - 1 : Nat) : Int) := by omega
        rw [e]
        exact atI_nat (by rw [List.getElem?_map, List.getElem?_eq_getElem]; rfl)
      · by_cases hz0 : ns[m - 1]'(by omega) = 0
        · rw [hz0]
          refine iteT ⟨fun σ' H' => σ' = [some (.ref a), some (.int ((m - 1 : Nat) : Int))] ∧ Ex H H', fun σ' H' hN => ⟨m - 1, by omega, by omega, hN.1, hN.2, ?_⟩, ?_⟩
          · intro x hx
            have : ns.drop (m - 1) = ns[m - 1]'(by omega) :: ns.drop m := by
              have e := List.drop_eq_getElem_cons (l := ns) (i := m - 1) (by omega)
              rwa [show m - 1 + 1 = m by omega] at e
            rw [this, List.mem_cons] at hx
            rcases hx with hx | hx
            · rw [hx, hz0]
            · exact hz x hx
          · refine ⟨_, rfl, _, _, rfl, rfl, ?_, e1⟩
            have e : ((m : Int) - 1) = ((m - 1 : Nat) : Int) := by omega
            show [some (V.ref a), some (V.int ((m : Int) - 1))] = _
            rw [e]
        · have hne : decide (V.int (ns[m - 1]'(by omega)) = V.int 0) = false := decide_eq_false fun z => hz0 (by injection z)
          rw [hne]
          exact iteF (fin (.inr (by rw [List.getElem?_eq_getElem (by omega)]; exact fun z => hz0 (Option.some.inj z))) H1 e1)
end
end K0
namespace Kt
open PySem PySem.Spec PyProof.Rows L2
open Evl (Ex Ev EvL EvU EvT EvA EvO ex_l ex_t sq_of st_of sz_of sz_lt fresh_back given)
section
variable {K : PySem.W.Frag} {σ : L2.St} {H : Hp} {te : TE} {ta : TA} {rs os : List VR} {wi : TI} {Y : Nat → Hp → V → Hp → Prop} {n j : Nat} {vs : List Nat} {g : TG}
theorem evr_tupleM {rr : List V → Hp → VK → Prop} (hrr : rr = fun xs H Q => ∃ p ys, xs = [.ref p] ∧ ((SqL K H p ys ∧ ∀ l, H l = none → Q (.ref l) (upd H l (.tup ys))) ∨ (SqT K H p ys ∧ Q (.ref p) H))) (h : EvM te σ H rs) : EvR (tCB rr (tCons te tNil)) σ H (vT K rs) := fun H1 e Q q =>
  h H1 e _ fun p xs H2 n2 e2 h2 ha => by
    subst hrr
    exact ⟨p, xs, rfl, .inl ⟨sq_of h2, fun l hl => q (.ref l) _ (e2.trans (Ex.new hl)) ⟨l, xs, rfl, st_of upd_same, ha.mono (Ex.new hl)⟩⟩⟩
/-- a comprehension over any walk, its elements by relations -/
theorem em_compN (hw : Wk wi σ H n Y) (hlen : os.length = n) (hz : n ≤ 50000) (hst : ∀ o ∈ os, Stab o)
    (ht : ∀ i x H1 H2 o, os[i]? = some o → Ex H H1 → Y i H1 x H2 → ∀ R : L2.St → Hp → Prop, (∀ σ2 H3, wipe σ2 vs = wipe σ vs → Ex H1 H3 → EvR te σ2 H3 o → R σ2 H3) → g x (wipe σ vs) H2 R) : EvM (tLc wi g tYes te vs) σ H os := fun H0 e Q q =>
  hw H0 e _ fun J H1 G e1 w hG Dd hD => by
    refine lc_it w (fun i H' => H1 Dd = none ∧ Ex H1 H' ∧ ∃ acc, H' Dd = some (.lst acc) ∧ Alls (os.take i) acc H') ⟨hD, Ex.new hD, [], upd_same, rfl⟩ (fun i H' _ p => hG H' p.2.1) (fun i x Ha Hb hi p y => ?_) (fun H' p => ?_)
    · obtain ⟨p1, p2, acc, p3, p4⟩ := p
      have hio : i < os.length := by omega
      have ho : os[i]? = some os[i] := List.getElem?_eq_getElem hio
      refine ht i x Ha Hb _ ho ((e.trans e1).trans p2) y _ fun σ2 H3 hσ e3 hv => ⟨hσ, ?_⟩
      unfold tYes
      dsimp only
      rw [if_pos rfl]
      refine hv H3 (Ex.refl H3) _ fun v H4 e4 hv4 => ?_
      have e34 := e3.trans e4
      refine ⟨acc, e34 _ _ p3, sz_lt (by have := p4.len; rw [List.length_take] at this; omega), p1, Ex.mut (p2.trans e34) p1, acc ++ [v], upd_same, ?_⟩
      rw [List.take_add_one, ho]
      refine Alls.stab (fun o ho' => hst o ?_) ((p4.mono e34).snoc hv4) (e34 _ _ p3)
      rcases List.mem_append.mp ho' with h | h
      · exact List.mem_of_mem_take h
      · obtain rfl := List.mem_singleton.mp h
        exact List.getElem_mem hio
    · obtain ⟨p1, p2, acc, p3, p4⟩ := p
      rw [← hlen, List.take_length] at p4
      exact q Dd acc H' (fresh_back e1 p1) (e1.trans p2) p3 p4
/-- [e for i in range(n)] -/
theorem em_rng (h : EvRs ta σ H [vI (n : Int)]) (hlen : os.length = n) (hz : n ≤ 50000) (hst : ∀ o ∈ os, Stab o) (hv : ∀ x, wipe ((wipe σ vs).set j (some x)) vs = wipe σ vs)
    (he : ∀ (i : Nat) (o : VR), os[i]? = some o → ∀ H1, Ex H H1 → EvR te ((wipe σ vs).set j (some (.int (i : Int)))) H1 o) : EvM (tLc (iRng1 ta) (gName j) tYes te vs) σ H os := by
  have ha : EvA ta σ H [.int (n : Int)] := fun H1 e Q q => h H1 e _ fun us H2 e2 ⟨v, _, h1, hv, h3⟩ => by
    have h3' : _ = [] := h3
    have hv' : v = .int (n : Int) := hv
    subst h3' hv' h1
    exact q H2 e2
  have w := wk_rng1 ha ⟨by omega, by omega⟩
  rw [Int.toNat_natCast] at w
  exact em_compN w hlen hz hst fun i x H1 H2 o ho e y R q => by
    obtain ⟨rfl, rfl⟩ := y
    exact q _ _ (hv _) (Ex.refl _) (he i o ho _ e)
end
end Kt
namespace K0
open PySem PySem.Spec PyProof.Rows L2 Kt M LamX
open Evl (Ex Ev EvL EvU EvT EvA EvO ex_l ex_t sq_of st_of sz_of sz_lt fresh_back given)
/-! ## defs with lambdas: their code object is named, and what is being shown is known -/
structure FunC (K : PySem.W.Frag) (x qual : Str) (st : Stmt) (f : Addr) (fd : FuncData) (c : Addr) : Prop where
  ex : ∃ (oc : Value) (od : Option Addr) (kV doc pm : Value) (an : Option Addr) (ct : Value) (osl : Array (Option Value)),
    fd = PySem.W.fnOf x qual (defArgs st) (defBody st) (defScope st) .none kV doc pm an (.ref c) ct ∧ K.lookup f = some ⟨oc, od, .func fd, osl⟩ ∧ PySem.W.codeIn K (.ref c) qual = true
  kp : PySem.W.keepIn K (.ref f) = true
theorem FunC.fn {K : PySem.W.Frag} {x qual : Str} {st : Stmt} {f : Addr} {fd : FuncData} {c : Addr} (F : FunC K x qual st f fd c) : Fun K x qual st f fd := by
  obtain ⟨oc, od, kV, doc, pm, an, ct, osl, h1, h2, h3⟩ := F.ex
  exact ⟨⟨oc, od, kV, doc, pm, an, _, ct, osl, h1, h2, h3⟩, F.kp⟩
section
variable {P : Program} {w : World} {K : PySem.W.Frag} {mg : Str → Option Value} {base : Heap}
theorem FunC.okG {x qual : Str} {st : Stmt} {f : Addr} {fd : FuncData} {c : Addr} {N ps : List Str} {k : Nat} {sp : Sp} (F : FunC K x qual st f fd c) (S : FnScope N ps (defScope st)) (len : ∀ vs H Q E, sp vs H Q E → vs.length = ps.length)
    (hbody : ∀ (g : List Code) (A : Around) (outer : List Env) (s : Shared) (H : Hp) (vs : List V) (Q : VK) (E : XK), A.guards = some g → Room k (A.deeper (envOfC qual (defScope st) s.heap.objs.size f (.ref c))) → sp vs H Q E →
      ∃ t, PSs (cxOf CX0 P w K mg base N qual (defScope st) f (.ref c) A outer s H E).nox (defBody st) t ∧ t { nx := fun _ H' => Q .non H', rt := Q } (start N vs) H) : FnOk P w K mg base CX0 (k + 1) f fd ps sp := by
  obtain ⟨oc, od, kV, doc, pm, an, ct, osl, rfl, lk, hcd⟩ := F.ex
  refine ⟨len, fun A outer s H args us vs Q E hr e0 hb r hsp => guards_any fun g => ?_⟩
  refine run_ofS (A := { A with guards := some g }) lk hcd S (by exact ⟨hr.hd, hr.dp, hr.un⟩) (by exact ⟨e0.frames, e0.mod, e0.bs, e0.bsz, e0.funs, e0.frf, e0.hok, e0.bare⟩) hb r (len _ _ _ _ hsp) fun hr2 => ?_
  obtain ⟨t, h, q⟩ := hbody g { A with guards := some g } outer s H vs Q E rfl hr2 hsp
  exact ⟨t, h.nox, q⟩
end
section
variable {X : Cx} {CP CF CO CN : Addr} {g : List Code}
/-- _law_met(lambda: body) -/
theorem pe_met {T : List (Addr × Str)} {gA c Pt : Addr} {k : Nat} {fd : FuncData} {params : Arguments} {body : Expr} {scope : Scope} {t : XK → TE} {p lpos pos : Pos} (F : Fun X.K "_law_met" "_law_met" s__law_met gA fd) (hgl : Gl X "_law_met") (hm : X.mg "_law_met" = some (.ref gA))
    (hg : X.A.guards = some g) (hr : Room (k + 2) X.A) (B : Bis X.mg) (M : MetK X.K CP CF CO CN)
    (mP : X.mg "InvalidPoly" = some (.ref CP)) (mF : X.mg "InvalidFunction" = some (.ref CF)) (mO : X.mg "InvalidOperation" = some (.ref CO)) (mN : X.mg "InvalidNumber" = some (.ref CN))
    (TB : LamX.TabB X.base X.mg c Pt) (hcode : X.env.code = .ref c) (hmT : (Pt, X.env.qual ++ "<lambda>") ∈ T) (hu : ∀ p ∈ T, p.1 = Pt → p.2 = X.env.qual ++ "<lambda>") (L : LamS X.env.scope scope) (hdef : defaultsOf params X.env = ([], []))
    (hbind : ∀ (q : Str) (cl : List (Str × Addr)) (pm cv ctv : Value), bindArgs (PySem.W.kla_fn "<lambda>" q params body scope cl pm cv ctv) ⟨[], []⟩ = pure [])
    (hbody : ∀ (A : Around) (outer : List Env) (s : Shared) (H : Hp) (E : XK) (f c' : Addr), Room k (A.deeper (lamEnv X scope s.heap.objs.size f c')) → PE (lamCx X A outer s H E scope f c') body (t E)) :
    PE X (.Call (.Name "_law_met" p) [.Lambda params body scope lpos] [] pos) (tLam T (TTmet g X.K CP CF CO CN) t) := by
  have hb : L2.Binds X.K fd ["call"] [] := F.binds (fun _ _ _ _ _ _ us hl => match us, hl with | [_], _ => rfl)
  obtain ⟨oc, od, kV, doc, pm, an, cdv, ct, osl, rfl, lk, hcd⟩ := F.ex
  exact pe_lamcall (Ng := N__law_met) hgl hm F.kp lk hcd hb sc__law_met rfl (.inl rfl)
    (met_gives hg (by have := hr.un; omega) B M mP mF mO mN) TB hcode hmT hu hr L hdef hbind hbody
end
/-! ## what stays while tables grow -/
theorem exN_rd {H H' : Hp} {a : Addr} {u : HO} (e : ExtN H H') (hu : ∀ ps, u ≠ .tbl ps) (h : Rd H a u) : Rd H' a u := by
  rcases h with h | ⟨o, h⟩
  · exact .inl (e a _ h hu)
  · exact .inr ⟨o, e a _ h nofun⟩
theorem exN_t {K : PySem.W.Frag} {H H' : Hp} {a : Addr} {xs : List V} (e : ExtN H H') (h : SqT K H a xs) : SqT K H' a xs := h.imp (exN_rd e nofun) id
theorem exN_l {K : PySem.W.Frag} {H H' : Hp} {a : Addr} {xs : List V} (e : ExtN H H') (h : SqL K H a xs) : SqL K H' a xs := h.imp (exN_rd e nofun) id
/-- a thing that stays while tables grow -/
def SN (r : VR) : Prop := ∀ (v : V) (H H' : Hp), ExtN H H' → r.R v H → r.R v H'
theorem sn_C {c : V} : SN (vC c) := fun _ _ _ _ h => h
theorem sn_P {K : PySem.W.Frag} {ns : List Int} : SN (vP K ns) := fun _ _ _ e ⟨a, h1, h2⟩ => ⟨a, h1, exN_t e h2⟩
theorem sn_alls {rs : List VR} (h : ∀ r ∈ rs, SN r) {H H' : Hp} (e : ExtN H H') : ∀ {vs : List V}, Alls rs vs H → Alls rs vs H' := by
  induction rs with
  | nil => exact fun h => h
  | cons r rs ih => exact fun ⟨v, ws, h1, h2, h3⟩ => ⟨v, ws, h1, h r (.head _) _ _ _ e h2, ih (fun r hr => h r (.tail _ hr)) h3⟩
theorem sn_T {K : PySem.W.Frag} {rs : List VR} (h : ∀ r ∈ rs, SN r) : SN (vT K rs) := fun _ _ _ e ⟨a, xs, h1, h2, h3⟩ => ⟨a, xs, h1, exN_t e h2, sn_alls h e h3⟩
mutual
theorem dp_exN {K : PySem.W.Frag} {H H' : Hp} (e : ExtN H H') : ∀ {v : V} {d : PyData}, Dp K H v d → Dp K H' v d
  | _, _, .non => .non
  | _, _, .bl b => .bl b
  | _, _, .int i => .int i
  | _, _, .str x => .str x
  | _, _, .lst h a => .lst (exN_l e h) (dpa_exN e a)
  | _, _, .tup h a => .tup (exN_t e h) (dpa_exN e a)
theorem dpa_exN {K : PySem.W.Frag} {H H' : Hp} (e : ExtN H H') : ∀ {vs : List V} {ds : List PyData}, DpAll K H vs ds → DpAll K H' vs ds
  | _, _, .nil => .nil
  | _, _, .cons h a => .cons (dp_exN e h) (dpa_exN e a)
end
theorem sn_D {K : PySem.W.Frag} {d : PyData} : SN (vD K d) := fun _ _ _ e h => dp_exN e h
theorem say_exN {g : List Code} {K : PySem.W.Frag} {H H' : Hp} {v : V} {t : Str} (e : ExtN H H') (h : Say g K H v t) : Say g K H' v t := by
  cases h with
  | sc h => exact .sc h
  | tup h1 h2 h3 => exact .tup (exN_t e h1) h2 h3
  | nil h => exact .nil (exN_l e h)
theorem exN_of {H H' : Hp} (e : Ex H H') : ExtN H H' := ExtN.of e
theorem say_ex {g : List Code} {K : PySem.W.Frag} {H H' : Hp} {v : V} {t : Str} (e : Ex H H') (h : Say g K H v t) : Say g K H' v t := say_exN (exN_of e) h
/-! ## outcomes -/
inductive Oc where
  | fine | poly | func | oper | num (t : Str)
def Oc.words : Oc → List Str
  | .fine => ["fine"]
  | .poly => ["refused", "poly"]
  | .func => ["refused", "function"]
  | .oper => ["refused", "operation"]
  | .num t => ["refused", "number", t]
def vW (K : PySem.W.Frag) (ws : List Str) : VR := ⟨fun v H => ∃ a, v = .ref a ∧ SqT K H a (ws.map V.str), fun e ⟨a, h1, h2⟩ => ⟨a, h1, ex_t e h2⟩⟩
theorem sn_W {K : PySem.W.Frag} {ws : List Str} : SN (vW K ws) := fun _ _ _ e ⟨a, h1, h2⟩ => ⟨a, h1, exN_t e h2⟩
/-- what is asked of an ending of the kind o -/
def Ends' (g : List Code) (K : PySem.W.Frag) (CP CF CO CN : Addr) (H1 : Hp) (E : XK) (Q : VK) : Oc → Prop
  | .fine => ∀ v H2, Ex H1 H2 → Q v H2
  | .poly => ∀ d H2, Ex H1 H2 → E (.ref CP) d H2
  | .func => ∀ d H2, Ex H1 H2 → E (.ref CF) d H2
  | .oper => ∀ d H2, Ex H1 H2 → E (.ref CO) d H2
  | .num t => ∀ dd v H2, Ex H1 H2 → H2 dd = some (.xd [("given", v)]) → Say g K H2 v t → E (.ref CN) (some dd) H2
def LamR (g : List Code) (K : PySem.W.Frag) (CP CF CO CN : Addr) (t : XK → TE) (σ : L2.St) (H : Hp) (o : Oc) : Prop := ∀ H1, ExtN H H1 → ∀ E Q, Ends' g K CP CF CO CN H1 E Q o → t E σ H1 Q
/-- while tables grow -/
def EvN (T : List (Addr × Str)) (te : TE) (σ : L2.St) (H : Hp) (r : VR) : Prop := ∀ H1, ExtN H H1 → Tabs T H1 → ∀ Q : VK, (∀ v H2, ExtN H1 H2 → Tabs T H2 → r.R v H2 → Q v H2) → te σ H1 Q
section
variable {g : List Code} {K : PySem.W.Frag} {CP CF CO CN : Addr} {T : List (Addr × Str)} {t : XK → TE} {σ : L2.St} {H : Hp} {o : Oc}
theorem numlen {t : Str} (h : t.length ≤ 100000) : 7 + t.length ≤ sizeLine := by rw [sizeLine_eq]; omega
theorem evn_met (h : LamR g K CP CF CO CN t σ H o) (hz : ∀ t, o = .num t → t.length ≤ 100000) : EvN T (tLam T (TTmet g K CP CF CO CN) t) σ H (vW K o.words) := fun H1 e T1 Q k => by
  refine ⟨T1, fun H2 e2 T2 => h H2 (e.trans e2) _ _ ?_⟩
  have fin : ∀ (H3 : Hp) (ws : List Str), Ex H2 H3 → ws = o.words → ∀ p, H3 p = none → Q (.ref p) (upd H3 p (.tup (ws.map V.str))) := fun H3 ws e3 hw p hp => by
    subst hw
    have e4 : Ex H3 (upd H3 p (.tup (o.words.map V.str))) := Ex.new hp
    exact k _ _ ((e2.trans (exN_of e3)).trans (exN_of e4)) (T2.ext (e3.trans e4)) ⟨p, rfl, st_of upd_same⟩
  cases o with
  | fine => exact fun v H3 e3 => ⟨by show 1 ≤ sizeLine; rw [sizeLine_eq]; omega, fin H3 _ e3 rfl⟩
  | poly => exact fun d H3 e3 => .inl ⟨rfl, fin H3 _ e3 rfl⟩
  | func => exact fun d H3 e3 => .inr (.inl ⟨rfl, fin H3 _ e3 rfl⟩)
  | oper => exact fun d H3 e3 => .inr (.inr (.inl ⟨rfl, fin H3 _ e3 rfl⟩))
  | num t => exact fun dd v H3 e3 hd hs => .inr (.inr (.inr ⟨rfl, dd, v, t, rfl, hd, hs, fin H3 _ e3 rfl⟩))
end
end K0
namespace K0
open PySem PySem.Spec PyProof.Rows L2 Kt M LamX
open Evl (Ex Ev EvL EvU EvT EvA EvO ex_l ex_t sq_of st_of sz_of sz_lt fresh_back given)
/-! ## a list that grows while tables do -/
theorem rd_upd {H : Hp} {l a : Addr} {xs ys : List V} {u : HO} (hl : H l = some (.lst xs)) (hu : ∀ zs, u ≠ .lst zs) (h : Rd H a u) : Rd (upd H l (.lst ys)) a u := by
  rcases h with h | ⟨o, h⟩
  · refine .inl ?_
    rw [upd_ne fun z => ?_]
    · exact h
    · rw [z, hl] at h
      exact hu _ (Option.some.inj h).symm
  · refine .inr ⟨o, ?_⟩
    rw [upd_ne fun z => ?_]
    · exact h
    · rw [z, hl] at h
      cases h
theorem stab_W {K : PySem.W.Frag} {ws : List Str} : Stab (vW K ws) := fun _ _ _ _ _ ⟨a, h1, h2⟩ hl => ⟨a, h1, h2.imp (rd_upd hl nofun) id⟩
theorem tabs_upd {T : List (Addr × Str)} {H : Hp} {l : Addr} {xs ys : List V} (hl : H l = some (.lst xs)) (h : Tabs T H) : Tabs T (upd H l (.lst ys)) := fun p hp => by
  obtain ⟨ps, h1, h2, h3⟩ := h p hp
  have ne : ∀ {b : Addr} {o : HO}, H b = some o → (∀ zs, o ≠ .lst zs) → upd H l (.lst ys) b = some o := fun {b o} e n => by
    rw [upd_ne fun z => ?_]
    · exact e
    · rw [z, hl] at e
      exact n _ (Option.some.inj e).symm
  refine ⟨ps, ne h1 nofun, h2, fun pos cv hc => ?_⟩
  obtain ⟨c, e1, e2⟩ := h3 pos cv hc
  exact ⟨c, e1, ne e2 nofun⟩
structure Told (K : PySem.W.Frag) (T : List (Addr × Str)) (l : Addr) (H0 H : Hp) (ws : List (List Str)) : Prop where
  new : ∀ o, H0 l = some o → ∃ ps, o = .tbl ps
  ext : ExtN H0 H
  tabs : Tabs T H
  at_ : ∃ vs, H l = some (.lst vs) ∧ Alls (ws.map (vW K)) vs H
section
variable {K : PySem.W.Frag} {T : List (Addr × Str)} {σ : L2.St} {H H0 : Hp} {te : TE} {tz : TS} {D : Ends} {i : Nat} {l : Addr} {w : List Str} {ws : List (List Str)}
theorem qn_told (T0 : Tabs T H) (h : EvN T te σ H (vW K w)) (k : ∀ l H1, Told K T l H H1 [w] → tz D (σ.set i (some (.ref l))) H1) : tSeq (tAsg (tLst (tCons te tNil)) (gName i)) tz D σ H :=
  h H (ExtN.refl H) T0 _ fun v H1 e1 T1 hv => ⟨by show 1 ≤ sizeLine; rw [sizeLine_eq]; omega, fun l hl => by
    refine k l _ ⟨fun o ho => Classical.byContradiction fun z => ?_, e1.trans (exN_of (Ex.new hl)), T1.ext (Ex.new hl), [v], upd_same, v, [], rfl, (vW K w).st (Ex.new hl) hv, rfl⟩
    have := e1 l o ho (fun ps q => z ⟨ps, q⟩)
    rw [hl] at this
    cases this⟩
theorem qn_app (I : Told K T l H0 H ws) (hs : σ[i]? = some (some (.ref l))) (h : EvN T te σ H (vW K w)) (hz : ws.length < 1000) (k : ∀ H1, Told K T l H0 H1 (ws ++ [w]) → tz D σ H1) : tSeq (tDrop (tBM K "list" rAppend (tVar i) (tCons te tNil))) tz D σ H := by
  obtain ⟨vs, hl, ha⟩ := I.at_
  refine ⟨.ref l, hs, Or.inl ⟨rfl, vs, sq_of hl⟩, h H (ExtN.refl H) I.tabs _ fun v H2 e2 T2 hv => ?_⟩
  have hl2 : H2 l = some (.lst vs) := e2 _ _ hl nofun
  have ha2 : Alls (ws.map (vW K)) vs H2 := sn_alls (fun r hr => by obtain ⟨w, _, rfl⟩ := List.mem_map.mp hr; exact sn_W) e2 ha
  have hn : vs.length < 1000 := by rw [ha2.len, List.length_map]; exact hz
  refine ⟨l, vs, v, rfl, rfl, hl2, by rw [sizeLine_eq]; omega, k _ ⟨I.new, fun b o hb hn => ?_, tabs_upd hl2 T2, vs ++ [v], upd_same, ?_⟩⟩
  · rw [upd_ne fun z => ?_]
    · exact (I.ext.trans e2) b o hb hn
    · rw [z] at hb
      obtain ⟨ps, q⟩ := I.new o hb
      exact hn ps q
  · rw [List.map_append]
    exact Alls.snoc (Alls.stab (fun r hr => by obtain ⟨w, _, rfl⟩ := List.mem_map.mp hr; exact stab_W) ha2 hl2) (stab_W _ _ _ _ _ hv hl2)
end
/-! ## as data -/
def dW (ws : List Str) : PyData := .tuple (ws.map PyData.str)
theorem dpw_strs (K : PySem.W.Frag) (H : Hp) : ∀ ws : List Str, DpAll K H (ws.map V.str) (ws.map PyData.str)
  | [] => .nil
  | w :: ws => .cons (.str w) (dpw_strs K H ws)
theorem vW_D {K : PySem.W.Frag} {ws : List Str} {v : V} {H : Hp} (h : (vW K ws).R v H) : Dp K H v (dW ws) := by
  obtain ⟨a, rfl, hs⟩ := h
  exact .tup hs (dpw_strs K H ws)
theorem dpa_W {K : PySem.W.Frag} {H : Hp} : ∀ {ws : List (List Str)} {vs : List V}, Alls (ws.map (vW K)) vs H → DpAll K H vs (ws.map dW)
  | [], _, h => by
    have h' : _ = [] := h
    subst h'
    exact .nil
  | w :: ws, _, ⟨v, us, h1, h2, h3⟩ => by
    subst h1
    exact .cons (vW_D h2) (dpa_W h3)
def okW (ws : List (List Str)) : Prop := ∀ w ∈ ws, ∀ x ∈ w, PyData.strOk x = true
theorem layw_strs : ∀ {ws : List Str}, (∀ x ∈ ws, PyData.strOk x = true) → PyData.canLayAll0 (ws.map PyData.str) = true
  | [], _ => rfl
  | w :: ws, h => by rw [List.map_cons, PyData.canLayAll0, layw_strs (fun x hx => h x (.tail _ hx)), PyData.canLay0, h w (.head _)]; rfl
theorem lay_W : ∀ {ws : List (List Str)}, okW ws → PyData.canLayAll0 (ws.map dW) = true
  | [], _ => rfl
  | w :: ws, h => by rw [List.map_cons, PyData.canLayAll0, lay_W (fun x hx => h x (.tail _ hx)), dW, PyData.canLay0, layw_strs (h w (List.mem_cons_self ..))]; rfl
theorem depthw_strs : ∀ ws : List Str, PyData.depthAll (ws.map PyData.str) = 0
  | [] => rfl
  | w :: ws => by rw [List.map_cons, PyData.depthAll, depthw_strs ws, PyData.depth]; rfl
theorem depth_W : ∀ ws : List (List Str), PyData.depthAll (ws.map dW) ≤ 1
  | [] => by decide
  | w :: ws => by
    have := depth_W ws
    rw [List.map_cons, PyData.depthAll, dW, PyData.depth, depthw_strs]
    omega
theorem shaped_W {ws : List (List Str)} (h : okW ws) : SeqAt.shaped (.list (ws.map dW)) = true := by
  have := depth_W ws
  unfold SeqAt.shaped
  rw [PyData.canLay0, lay_W h, PyData.depth]
  exact decide_eq_true (by omega)
theorem eqv_strs : ∀ ws : List Str, PyData.eqvAll (ws.map PyData.str) (ws.map PyData.str) = true
  | [] => rfl
  | w :: ws => by rw [List.map_cons, PyData.eqvAll, eqv_strs ws, PyData.eqv]; simp
theorem eqv_W : ∀ ws : List (List Str), PyData.eqvAll (ws.map dW) (ws.map dW) = true
  | [] => rfl
  | w :: ws => by rw [List.map_cons, PyData.eqvAll, eqv_W ws, dW, PyData.eqv, eqv_strs]; rfl
section
variable {K : PySem.W.Frag} {T : List (Addr × Str)} {σ : L2.St} {H H0 : Hp} {te tk : TE} {D : Ends} {i : Nat} {l : Addr} {ws : List (List Str)}
theorem Told.data (I : Told K T l H0 H ws) : Dp K H (.ref l) (.list (ws.map dW)) := by
  obtain ⟨vs, hl, ha⟩ := I.at_
  exact .lst (sq_of hl) (dpa_W ha)
/-- told == [..]: the same words -/
theorem evr_toldEq (ok : okW ws) (h : EvR te σ H (vD K (.list (ws.map dW)))) (h2 : EvM tk σ H (ws.map (vW K))) : EvR (tOp (rEqD K) te tk) σ H (vB true) := by
  have h3 : EvR tk σ H (vD K (.list (ws.map dW))) := fun H1 e Q q => h2 H1 e Q fun p xs H2 hp e2 hl ha => q _ _ e2 (show Dp K H2 (.ref p) _ from .lst (sq_of hl) (dpa_W ha))
  have z := evr_op h h3 (op_eqDD (shaped_W ok) (shaped_W ok))
  rw [show PyData.eqv (.list (ws.map dW)) (.list (ws.map dW)) = true by rw [PyData.eqv]; exact eqv_W ws] at z
  exact z
end
end K0
/-! ## lowest terms at any length -/
namespace K0
open M QP
variable {p : Int}
theorem com_all (hp : Pr p) {xs ys : List Int} (hx : Pl p xs) (hy : Pl p ys) : Com p xs ys (common p xs ys) := by
  have hle := hp.le
  have hp0 : 0 < p := by omega
  have hold := tr_pl hp0 (ys.length + 1) xs ys [1] [] hx hy
  obtain ⟨a, b, pa, pb, ha, hb⟩ := tr_div hp (ys.length + 1) xs ys [1] [] (by omega) hx.r hy.r hy.t
  obtain ⟨t, pt, hbz⟩ := tr_bez hp xs ys (ys.length + 1) xs ys [1] [] (by omega) hx.r hy.r hy.t ⟨0, Po.zero, .of (by rw [co_one]; grind)⟩ ⟨1, Po.one, .of (by rw [co_nil]; grind)⟩
  have hg : common p xs ys = makeMonic p (trIter p (ys.length + 1) xs ys [1] []).1 := by
    rw [tr_monic]
    exact comIter_law hp _ _ _ (by omega) hx.r hy.r hy.t
  have qa : e p xs = E a * e p (trIter p (ys.length + 1) xs ys [1] []).1 := sound ha
  have qb : e p ys = E b * e p (trIter p (ys.length + 1) xs ys [1] []).1 := sound hb
  have qz : e p (trIter p (ys.length + 1) xs ys [1] []).2 * e p xs + E t * e p ys = e p (trIter p (ys.length + 1) xs ys [1] []).1 := sound hbz
  generalize (trIter p (ys.length + 1) xs ys [1] []).1 = old at hold ha hb hg qa qb qz
  generalize (trIter p (ys.length + 1) xs ys [1] []).2 = lf at qz
  rw [makeMonic_eq hp] at hg
  have hpl : Pl p (common p xs ys) := hg ▸ hold.scale hp0 _
  have bz : ∃ u v : QP p, Fi u ∧ Fi v ∧ u * e p xs + v * e p ys = e p (common p xs ys) := by
    refine ⟨kc p (inv p (old.getLastD 0)) * e p lf, kc p (inv p (old.getLastD 0)) * E t, (Fi.kc _).mul (.of _), (Fi.kc _).mul (.po pt), ?_⟩
    rw [hg, e_scale, ← qz]
    grind
  by_cases ho : old = []
  · subst ho
    have zx : xs = [] := e_zero hp0 hx (by rw [qa, e_nil]; grind)
    have zy : ys = [] := e_zero hp0 hy (by rw [qb, e_nil]; grind)
    have zg : common p xs ys = [] := by
      rw [hg]
      exact e_zero hp0 (Pl.scale hp0 .nil _) (by rw [e_scale, e_nil]; grind)
    refine ⟨hpl, fun _ _ => zg, fun h => ?_, ⟨0, 0, .zero, .zero, ?_, ?_⟩, bz⟩
    · rcases h with h | h
      · exact absurd zx h
      · exact absurd zy h
    · rw [zx, e_nil]
      grind
    · rw [zy, e_nil]
      grind
  · obtain ⟨r0, r1⟩ := last_range hold ho
    have ki := kc_inv hp r0 r1
    have eg : e p (common p xs ys) = kc p (inv p (old.getLastD 0)) * e p old := by rw [hg, e_scale]
    have ml := monic_len (hold.inv hp ho)
    rw [← hg] at ml
    have gne : common p xs ys ≠ [] := fun z => by
      rw [z] at ml
      have := List.length_pos_iff.mpr ho
      simp at ml
    have gl := last_range hpl gne
    have gm : Mo (common p xs ys) := ⟨gne, by
      have := ml.2
      rw [Int.emod_eq_of_lt (Int.le_of_lt gl.1) gl.2] at this
      exact this⟩
    refine ⟨hpl, fun zx zy => ?_, fun _ => gm, ⟨E a * kc p (old.getLastD 0), E b * kc p (old.getLastD 0), (Fi.po pa).mul (.kc _), (Fi.po pb).mul (.kc _), ?_, ?_⟩, bz⟩
    · exfalso
      obtain ⟨u, v, _, _, huv⟩ := bz
      have ex : e p xs = 0 := by rw [zx, e_nil]
      have ey : e p ys = 0 := by rw [zy, e_nil]
      rw [ex, ey] at huv
      exact gne (e_zero hp0 hpl (by rw [← huv]; grind))
    · rw [eg, qa]
      grind
    · rw [eg, qb]
      grind
theorem nf_all (hp : Pr p) {t b : List Int} (ht : Pl p t) (hb : Pl p b) (nb : b ≠ []) : NF p (nf p t b) ∧ Re (nf p t b) (e p t) (e p b) := by
  have hp0 : 0 < p := by have := hp.le; omega
  unfold nf
  by_cases hz : t = []
  · rw [if_pos hz]
    refine ⟨.zero hp, ?_⟩
    show e p [] * e p b = e p t * e p [1]
    rw [hz, e_nil]
    grind
  · rw [if_neg hz]
    have C := com_all hp ht hb
    obtain ⟨X, Y, fX, fY, eX, eY, tX, bY, cop, gne, ne⟩ := short_ok hp ht hb nb C
    have pX := ht.div1 hp0 (common p t b)
    have pY := hb.div1 hp0 (common p t b)
    generalize (divide p t (common p t b)).1 = x at *
    generalize (divide p b (common p t b)).1 = y at *
    obtain ⟨r0, r1⟩ := last_range pY ne
    have ki := kc_inv hp r0 r1
    refine ⟨⟨pX.scale hp0 _, pY.scale hp0 _, scale_last hp pY ne, ?_⟩, ?_⟩
    · show Cop (e p (scale p x _)) (e p (scale p y _))
      rw [e_scale, e_scale, eX, eY]
      obtain ⟨u, v, fu, fv, h⟩ := cop
      exact ⟨u * kc p (y.getLastD 0), v * kc p (y.getLastD 0), fu.mul (.kc _), fv.mul (.kc _), by grind⟩
    · show e p (scale p x _) * e p b = e p t * e p (scale p y _)
      rw [e_scale, e_scale, eX, eY, tX, bY]
      grind
theorem nf_len_all (hp : Pr p) {t b : List Int} (ht : Pl p t) (hb : Pl p b) (nb : b ≠ []) : (nf p t b).1.length ≤ t.length ∧ (nf p t b).2.length ≤ b.length := by
  unfold nf
  by_cases hz : t = []
  · rw [if_pos hz]
    have := List.length_pos_iff.mpr nb
    exact ⟨Nat.zero_le _, by show 1 ≤ _; omega⟩
  · rw [if_neg hz]
    have C := com_all hp ht hb
    have g := (C.mo (.inr nb)).1
    exact ⟨Nat.le_trans (scale_len _ _ _) (divide_len1' p g), Nat.le_trans (scale_len _ _ _) (divide_len1' p g)⟩
end K0
namespace K0
open PySem PySem.Spec PyProof.Rows L2 Kt M
open Evl (Ex Ev EvL EvU EvT EvA EvO ex_l ex_t sq_of st_of sz_of sz_lt fresh_back given)
theorem nf_one {p : Int} (hp : Pr p) {t : List Int} (ht : Pl p t) (lt : t.length ≤ 400) : nf p t [1] = (t, [1]) :=
  (nf_is hp ht (.one hp) (by simp) lt (by decide) ⟨ht, .one hp, .one, by rw [e_one]; exact .one⟩ (Re.self _)).symm
theorem okLet {p : Int} (hp : Pr p) : PolyOk p [0, 1] := ⟨fun n hn => by
  have := hp.le
  rcases List.mem_cons.mp hn with h | h
  · omega
  · obtain rfl := List.mem_singleton.mp h
    omega, by rcases hp with rfl | rfl | rfl | rfl <;> rfl, by decide⟩
section
variable {K : PySem.W.Frag} {σ : L2.St} {H : Hp} {te : TE} {F : PF}
theorem evr_g0 (h : EvR te σ H (vG K F)) : EvR (tOp (rIxT K) te (tC (.int 0))) σ H (vP K F.1) := evr_ixT h (evr_c (v := .int ((0 : Nat) : Int))) rfl
theorem evr_g1 (h : EvR te σ H (vG K F)) : EvR (tOp (rIxT K) te (tC (.int 1))) σ H (vP K F.2) := evr_ixT h (evr_c (v := .int ((1 : Nat) : Int))) rfl
theorem evr_pair {t1 t2 : TE} (h1 : EvR t1 σ H (vP K F.1)) (h2 : EvR t2 σ H (vP K F.2)) : EvR (tTup (tCons t1 (tCons t2 tNil))) σ H (vG K F) := evr_dispT (K := K) (evrs_cons h1 (evrs_cons h2 evrs_nil)) (Nat.le_of_ble_eq_true rfl)
theorem evr_k1 : EvR (tTup (tCons (tC (.int 1)) tNil)) σ H (vP K [1]) := evr_disp (ns := [1]) (evrs_cons evr_c evrs_nil) (by decide)
theorem evr_k0 : EvR (tTup tNil) σ H (vP K []) := evr_disp (ns := []) evrs_nil (by decide)
theorem evr_k01 : EvR (tTup (tCons (tC (.int 0)) (tCons (tC (.int 1)) tNil))) σ H (vP K [0, 1]) := evr_disp (ns := [0, 1]) (evrs_cons evr_c (evrs_cons evr_c evrs_nil)) (by decide)
end
theorem div_ne {p : Int} (hp : Pr p) {t b : List Int} (ht : Pl p t) (hb : Pl p b) (nb : b ≠ []) : (divide p b (common p t b)).1 ≠ [] ∧ common p t b ≠ [] := by
  obtain ⟨_, _, _, _, _, _, _, _, _, h1, h2⟩ := short_ok hp ht hb nb (com_all hp ht hb)
  exact ⟨h2, h1⟩
theorem NF.pl {p : Int} {F : PF} (h : NF p F) (l : Le 60 F) : PolyOk p F.1 ∧ PolyOk p F.2 := ⟨⟨h.t.r, h.t.t, by have := l.1; omega⟩, ⟨h.b.r, h.b.t, by have := l.2; omega⟩⟩
section
variable {P : Program} {w : World} {K : PySem.W.Frag} {mg : Str → Option Value} {base : Heap} {C : Addr}
abbrev s_F_number : Stmt := inClass (topS 54) 1
abbrev N_F_number : List Str := ["cls", "prime", "number"]
theorem sc_F_number : FnScope N_F_number ["cls", "prime", "number"] (defScope s_F_number) := ⟨rfl, rfl, rfl, by decide +kernel, rfl, by decide +kernel, by decide +kernel⟩
theorem ok_F_number {f : Addr} {fd : FuncData} (F : Fun K "number" "Function.number" s_F_number f fd) (B : Bis mg) (cf : CFm K mg C)  (D_check_prime : De P w K mg base "check_prime" ["prime"] 2 (sp_check_prime K)) (D_is_integer : De P w K mg base "is_integer" ["value"] 1 (sp_is_integer K)) (D_trimmed : De P w K mg base "trimmed" ["numbers"] 1 (sp_trimmedT K)) (M___init__ : Dm P w K mg base C "__init__" ["self", "prime", "top", "bottom"] 7 (sp_F___init__ K C)) : FnOk P w K mg base CX0 9 f fd ["cls", "prime", "number"] (sp_F_number K C) := by
  refine F.ok sc_F_number (fun vs H Q E h => ?_) (fun cdv A outer s H vs Q E hr h => ?_)
  · obtain ⟨g, _, ha, _⟩ := h
    exact ha.len
  · obtain ⟨⟨p, n⟩, ⟨hp, hn⟩, ⟨_, _, rfl, rfl, ⟨_, _, rfl, rfl, ⟨_, _, rfl, rfl, rfl⟩⟩⟩, q⟩ := h
    dsimp only at *
    refine ⟨_, (pss_cons (ps_expr (pe_call D_check_prime.ok (hr.mono (by decide)) (by rfl) D_check_prime.g D_check_prime.kp D_check_prime.b .nil pass0 (pa_cons (pv 1) pa_nil)))
      (pss_cons (ps_if (pt_not (pt_val (pe_call D_is_integer.ok (hr.mono (by decide)) (by rfl) D_is_integer.g D_is_integer.kp D_is_integer.b .nil pass0 (pa_cons (pv 2) pa_nil)))) (pss_one ps_never) pss_nil)
      (pss_one (ps_ret (pe_makeL (i := 0) (C := C) (cf.mkr M___init__.own) M___init__.ok (hr.mono (by decide)) (by rfl) (Or.inl rfl) M___init__.b .nil pass0 (pa_cons (pv 1) (pa_cons (pe_call D_trimmed.ok (hr.mono (by decide)) (by rfl) D_trimmed.g D_trimmed.kp D_trimmed.b .nil pass0 (pa_cons (pe_tup (pa_cons (pe_op op_mod (pv 2) (pv 1)) pa_nil)) pa_nil)) (pa_cons (pe_tup (pa_cons pe_int pa_nil)) pa_nil)))))))), ?_⟩
    have h2 := hp.le
    refine qr_drop (evr_call p hp (evrs_cons (evr_var rfl rfl) evrs_nil)) fun H1 e1 => ?_
    refine Evl.q_when (Evl.et_not (et_b (evr_call (.int n) trivial (evrs_cons (evr_var (r := vD K (.int n)) rfl (.int _)) evrs_nil)))) (fun hb H2 e2 => by
      have hb' : (!isInt (PyData.int n)) = true := hb
      rw [hn] at hb'
      cases hb') (fun hb H2 e2 => ?_)
    have hok := trim_one (n := n) hp
    refine sr_ret (evr_makeL rfl hp hok (okP1 hp) (by simp) (evrs_cons (evr_var rfl rfl) (evrs_cons (evr_call [n % p] (Nat.le_of_ble_eq_true rfl) (evrs_cons (evr_disp (ns := [n % p]) (evrs_cons (evr_op (evr_var rfl rfl) (evr_var rfl rfl) (op_i (by omega))) evrs_nil) (Nat.le_of_ble_eq_true rfl)) evrs_nil)) (evrs_cons evr_k1 evrs_nil)))) fun v H3 e3 hv => q v H3 ((e1.trans e2).trans e3) ?_
    have en := nf_one hp hok.pl (by have := hok.l; omega)
    rw [en] at hv
    exact hv
abbrev s_F_letter : Stmt := inClass (topS 54) 2
abbrev N_F_letter : List Str := ["cls", "prime"]
theorem sc_F_letter : FnScope N_F_letter ["cls", "prime"] (defScope s_F_letter) := ⟨rfl, rfl, rfl, by decide +kernel, rfl, by decide +kernel, by decide +kernel⟩
theorem ok_F_letter {f : Addr} {fd : FuncData} (F : Fun K "letter" "Function.letter" s_F_letter f fd) (B : Bis mg) (cf : CFm K mg C)   (M___init__ : Dm P w K mg base C "__init__" ["self", "prime", "top", "bottom"] 7 (sp_F___init__ K C)) : FnOk P w K mg base CX0 9 f fd ["cls", "prime"] (sp_F_letter K C) := by
  refine F.ok sc_F_letter (fun vs H Q E h => ?_) (fun cdv A outer s H vs Q E hr h => ?_)
  · obtain ⟨g, _, ha, _⟩ := h
    exact ha.len
  · obtain ⟨p, hp, ⟨_, _, rfl, rfl, ⟨_, _, rfl, rfl, rfl⟩⟩, q⟩ := h
    dsimp only at *
    refine ⟨_, (pss_one (ps_ret (pe_makeL (i := 0) (C := C) (cf.mkr M___init__.own) M___init__.ok (hr.mono (by decide)) (by rfl) (Or.inl rfl) M___init__.b .nil pass0 (pa_cons (pv 1) (pa_cons (pe_tup (pa_cons pe_int (pa_cons pe_int pa_nil))) (pa_cons (pe_tup (pa_cons pe_int pa_nil)) pa_nil)))))), ?_⟩
    have hok := okLet hp
    refine sr_ret (evr_makeL rfl hp hok (okP1 hp) (by simp) (evrs_cons (evr_var rfl rfl) (evrs_cons evr_k01 (evrs_cons evr_k1 evrs_nil)))) fun v H3 e3 hv => q v H3 e3 ?_
    have en := nf_one hp hok.pl (by decide)
    rw [en] at hv
    exact hv
end
end K0
namespace K0
open PySem PySem.Spec PyProof.Rows L2 Kt M
open Evl (Ex Ev EvL EvU EvT EvA EvO ex_l ex_t sq_of st_of sz_of sz_lt fresh_back given)
/-! ## what is raised -/
abbrev bmV : List Value := [.type "ValueError", .type "Exception", .type "BaseException", .type "object"]
abbrev bmI : List Value := [.type "IndexError", .type "LookupError", .type "Exception", .type "BaseException", .type "object"]
/-- an own exception with a message -/
structure Rz (K : PySem.W.Frag) (mg : Str → Option Value) (x : Str) (C : Addr) : Prop where
  q : PySem.W.excIn K C bmV "ValueError.__new__" = true
  gC : mg x = some (.ref C)
  kC : PySem.W.keepIn K (.ref C) = true
  ex : PySem.W.subIn K (.ref C) (.type "BaseException") = some true
  ty : PySem.W.typeIn K (.ref C) = some (.type "type")
/-- v is told as given -/
def Given (CN : Addr) (v : V) (H : Hp) (E : XK) : Prop := ∀ dd H', Ex H H' → H' dd = some (.xd [("given", v)]) → E (.ref CN) (some dd) H'
theorem Given.ex {CN : Addr} {v : V} {H H1 : Hp} {E : XK} (h : Given CN v H E) (e : Ex H H1) : Given CN v H1 E := fun dd H' e' hd => h dd H' (e.trans e') hd
def Said (C : Addr) (H : Hp) (E : XK) : Prop := ∀ H', Ex H H' → E (.ref C) none H'
theorem Said.ex {C : Addr} {H H1 : Hp} {E : XK} (h : Said C H E) (e : Ex H H1) : Said C H1 E := fun H' e' => h H' (e.trans e')
def sp_given (CN : Addr) : Sp := fun vs H Q _ => ∃ a v, vs = [.ref a, v] ∧ H a = some (exo a CN none) ∧ ∀ dx, H dx = none → dx ≠ a → Q .non (upd (upd H dx (exd dx [("given", v)])) a (exo a CN (some dx)))
/-- InvalidNumber -/
structure Rn (P : Program) (w : World) (K : PySem.W.Frag) (mg : Str → Option Value) (base : Heap) (CN : Addr) where
  T : ExG K CN "IndexError" "IndexError.__new__" "IndexError.__init__" bmI
  gC : mg "InvalidNumber" = some (.ref CN)
  f : Addr
  fd : FuncData
  iC : PySem.W.findIn K (.ref CN) "__init__" = some (some (.ref f))
  tI : PySem.W.typeIn K (.ref f) = some (.type "function")
  ok : FnOk P w K mg base CX0 1 f fd ["self", "given"] (sp_given CN)
  b : Binds K fd ["self", "given"] []
/-- defs that raise -/
structure DeX (P : Program) (w : World) (K : PySem.W.Frag) (mg : Str → Option Value) (base : Heap) (name : Str) (ps : List Str) (k : Nat) (sp : Sp) where
  f : Addr
  fd : FuncData
  ok : FnOk P w K mg base (L2.CX P w) k f fd ps sp
  g : mg name = some (.ref f)
  kp : PySem.W.keepIn K (.ref f) = true
  b : Binds K fd ps []
structure DmX (P : Program) (w : World) (K : PySem.W.Frag) (mg : Str → Option Value) (base : Heap) (C : Addr) (m : Str) (ps : List Str) (k : Nat) (sp : Sp) where
  f : Addr
  fd : FuncData
  ok : FnOk P w K mg base (L2.CX P w) k f fd ps sp
  b : Binds K fd ps []
  own : OwnM K C m f
structure DkX (P : Program) (w : World) (K : PySem.W.Frag) (mg : Str → Option Value) (base : Heap) (C : Addr) (m : Str) (ps : List Str) (k : Nat) (sp : Sp) where
  f : Addr
  fd : FuncData
  p : Addr
  mc : Value
  ok : FnOk P w K mg base (L2.CX P w) k f fd ps sp
  b : Binds K fd ps []
  rd : ClX.CRead K C mc
  cm : ClX.CMet K C mc m p f
section
variable {X : Cx} {K : PySem.W.Frag} {CN C : Addr} {σ : L2.St} {H : Hp} {te : TE} {ta : TA} {v : V} {E : XK} {D : Ends}
theorem sr_given (h : EvR te σ H (vC v)) (k : Given CN v H E) : tMkO CN (sp_given CN) [] (tCons te tNil) σ H (fun cls d H' => E cls d H') := h H (Ex.refl H) _ fun v1 H1 e1 hv => by
  obtain rfl : v1 = v := hv
  refine ⟨by show 1 ≤ 1000; omega, fun a ha => ⟨a, v1, rfl, upd_same, fun dx hd hn => ⟨rfl, dx, [("given", v1)], upd_same, ?_, ?_, ?_⟩⟩⟩
  · rw [upd_ne hn, upd_same]
  · rw [upd_ne hn] at hd
    exact hd
  · refine k dx _ (e1.trans fun b o hb => ?_) upd_same
    have hba : b ≠ a := fun z => by rw [z, ha] at hb; cases hb
    have hbd : b ≠ dx := fun z => by
      rw [upd_ne hn] at hd
      rw [z, hd] at hb
      cases hb
    rw [upd_ne hbd]
    unfold del
    rw [if_neg hba, upd_ne hba, upd_ne hbd, upd_ne hba]
    exact hb
end
section
variable {P : Program} {w : World} {K : PySem.W.Frag} {mg : Str → Option Value} {base : Heap} {CN CP CF CO : Addr}
abbrev s_given : Stmt := inClass (topS 44) 0
abbrev N_given : List Str := ["self", "given"]
theorem sc_given : FnScope N_given ["self", "given"] (defScope s_given) := ⟨rfl, rfl, rfl, by decide +kernel, rfl, by decide +kernel, by decide +kernel⟩
theorem ok_given {f : Addr} {fd : FuncData} (F : Fun K "__init__" "InvalidNumber.__init__" s_given f fd) (T : ExG K CN "IndexError" "IndexError.__new__" "IndexError.__init__" bmI) (gv : PySem.W.findIn K (.ref CN) "given" = some none) : FnOk P w K mg base CX0 1 f fd ["self", "given"] (sp_given CN) := by
  refine F.ok sc_given (fun vs H Q E h => ?_) (fun cdv A outer s H vs Q E hr h => ?_)
  · obtain ⟨_, _, rfl, _⟩ := h
    rfl
  · obtain ⟨a, v, rfl, ha, q⟩ := h
    exact ⟨_, pss_one (ps_put (B := "IndexError") (newId := "IndexError.__new__") (initId := "IndexError.__init__") (bmB := bmI) (pv 0) (pv 1)), v, rfl, .ref a, rfl, a, CN, rfl, T, gv, ha, fun dx hd hn => q dx hd hn⟩
/-- no prime -/
def BadP (d : PyData) : Prop := isInt d = false ∨ ∃ n : Int, d = .int n ∧ n ∉ ([2, 3, 5, 7] : List Int)
def sp_check_primeX (K : PySem.W.Frag) (CN : Addr) : Sp := fun vs H _ E => ∃ v d, vs = [v] ∧ (vD K d).R v H ∧ BadP d ∧ Given CN v H E
theorem ok_check_primeX {f : Addr} {fd : FuncData} (F : Fun K "check_prime" "check_prime" s_check_prime f fd) (B : Bis mg) (C_PRIMES : GT mg K "PRIMES" [2, 3, 5, 7]) (R : Rn P w K mg base CN) (D_is_integer : De P w K mg base "is_integer" ["value"] 1 (sp_is_integer K)) : FnOk P w K mg base (L2.CX P w) 4 f fd ["prime"] (sp_check_primeX K CN) := by
  refine F.okX sc_check_prime (fun vs H Q E h => ?_) (fun cdv A outer s H vs Q E hr h => ?_)
  · obtain ⟨_, _, rfl, _⟩ := h
    rfl
  · obtain ⟨v, d, rfl, hd, hbad, k⟩ := h
    obtain ⟨ap, hap, hsp⟩ := C_PRIMES
    refine ⟨_, (pss_one (ps_if (PW.pt (pw_or (pt_not (pt_val (pe_call D_is_integer.ok (hr.mono (by decide)) (by rfl) D_is_integer.g D_is_integer.kp D_is_integer.b .nil pass0 (pa_cons (pv 0) pa_nil)))) (pw_or1 (pt_cmpR op_notIn_seq (pv 0) (pe_glob (v := .ref ap) rfl hap rfl) (by rfl))))) (pss_one (ps_raise rfl (takes_of rfl rfl rfl rfl) (pmk_g R.T R.iC R.tI R.ok (hr.mono (by decide)) R.b .nil pass0 rfl R.gC (pa_cons (pv 0) pa_nil)))) pss_nil)), ?_⟩
    refine Evl.s_when (b := !isInt d || true) (Evl.et_or (Evl.et_not (et_b (evr_call d trivial (evrs_cons (evr_var rfl hd) evrs_nil)))) fun hb => ?_) (fun hb H1 e1 => sr_given (evr_var rfl rfl) (k.ex e1)) (fun hb => by rw [Bool.or_true] at hb; cases hb)
    obtain ⟨n, rfl, hn⟩ := hbad.resolve_left (fun z => by rw [z] at hb; cases hb)
    have hv : v = .int n := by
      have hD : Dp K H v (.int n) := hd
      cases hD
      rfl
    refine Eq.mp (congrArg (EvT _ _ _) (show (!decide (n ∈ ([2, 3, 5, 7] : List Int))) = true by rw [decide_eq_false hn]; rfl)) ?_
    exact et_r (evr_op (evr_var (r := vI n) rfl hv) (evr_cR (r := vP K [2, 3, 5, 7]) ⟨ap, rfl, hsp H⟩) (op_notInI rfl))
end
end K0
namespace K0
open PySem PySem.Spec PyProof.Rows L2 Kt M
open Evl (Ex Ev EvL EvU EvT EvA EvO ex_l ex_t sq_of st_of sz_of sz_lt fresh_back given)
section
variable {P : Program} {w : World} {K : PySem.W.Frag} {mg : Str → Option Value} {base : Heap} {C CN CP CF CO : Addr}
def sp_check_polyX (K : PySem.W.Frag) (CP : Addr) : Sp := fun vs H _ E => ∃ p v o, vs = [.int p, v] ∧ (vO K o).R v H ∧ Pr p ∧ hpf p o = false ∧ Said CP H E
theorem ok_check_polyX {f : Addr} {fd : FuncData} (F : Fun K "check_poly" "check_poly" s_check_poly f fd) (B : Bis mg) (R : Rz K mg "InvalidPoly" CP) (D_has_poly_form : De P w K mg base "has_poly_form" ["prime", "value"] 3 (sp_has_poly_form K)) : FnOk P w K mg base (L2.CX P w) 4 f fd ["prime", "poly"] (sp_check_polyX K CP) := by
  refine F.okX sc_check_poly (fun vs H Q E h => ?_) (fun cdv A outer s H vs Q E hr h => ?_)
  · obtain ⟨_, _, _, rfl, _⟩ := h
    rfl
  · obtain ⟨p, v, o, rfl, hv, hp, hb, k⟩ := h
    refine ⟨_, (pss_one (ps_if (pt_not (pt_val (pe_call D_has_poly_form.ok (hr.mono (by decide)) (by rfl) D_has_poly_form.g D_has_poly_form.kp D_has_poly_form.b .nil pass0 (pa_cons (pv 0) (pa_cons (pv 1) pa_nil))))) (pss_one (ps_raise rfl (takes_of rfl rfl rfl rfl) (pmk_own PySem.F.excBase_ValueError R.q R.gC R.kC (raises_own R.ex R.ty) rfl))) pss_nil)), ?_⟩
    refine Evl.s_when (Evl.et_not (et_b (evr_call (GO.mk p o) hp.le.2 (evrs_cons (evr_var rfl rfl) (evrs_cons (evr_var rfl hv) evrs_nil))))) (fun _ H1 e1 => k H1 e1) (fun hb' H1 e1 => ?_)
    have hb2 : (!hpf p o) = false := hb'
    rw [hb] at hb2
    cases hb2
/-- what the making of a function refuses -/
inductive InitX (K : PySem.W.Frag) (CN CP CO : Addr) (vs : List V) (H : Hp) (E : XK) : Prop
  | prime {x v t b : V} {d : PyData} : vs = [x, v, t, b] → (vD K d).R v H → BadP d → Given CN v H E → InitX K CN CP CO vs H E
  | top {x t b : V} {p : Int} {o : OV} : vs = [x, .int p, t, b] → Pr p → (vO K o).R t H → hpf p o = false → Said CP H E → InitX K CN CP CO vs H E
  | bottom {x t b : V} {p : Int} {o : OV} {xs : List Int} : vs = [x, .int p, t, b] → Pr p → (vP K xs).R t H → PolyOk p xs → (vO K o).R b H → hpf p o = false → Said CP H E → InitX K CN CP CO vs H E
  | zero {x t b : V} {p : Int} {xs : List Int} : vs = [x, .int p, t, b] → Pr p → (vP K xs).R t H → PolyOk p xs → (vP K []).R b H → Said CO H E → InitX K CN CP CO vs H E
def sp_F___init__X (K : PySem.W.Frag) (CN CP CO : Addr) : Sp := fun vs H _ E => InitX K CN CP CO vs H E
theorem poly_nil {p : Int} : PolyOk p [] := ⟨nofun, rfl, Nat.zero_le _⟩
theorem ok_F___init__X {f : Addr} {fd : FuncData} (F : Fun K "__init__" "Function.__init__" s_F___init__ f fd) (B : Bis mg) (RO : Rz K mg "InvalidOperation" CO) (D_check_prime : De P w K mg base "check_prime" ["prime"] 2 (sp_check_prime K)) (D_check_poly : De P w K mg base "check_poly" ["prime", "poly"] 4 (sp_check_poly K))
    (X_check_prime : DeX P w K mg base "check_prime" ["prime"] 4 (sp_check_primeX K CN)) (X_check_poly : DeX P w K mg base "check_poly" ["prime", "poly"] 4 (sp_check_polyX K CP)) : FnOk P w K mg base (L2.CX P w) 7 f fd ["self", "prime", "top", "bottom"] (sp_F___init__X K CN CP CO) := by
  refine F.okX sc_F___init__ (fun vs H Q E h => ?_) (fun cdv A outer s H vs Q E hr h => ?_)
  · cases h <;> subst_vars <;> rfl
  · cases h with
    | @prime x v t b d h1 h2 h3 k =>
      subst h1
      refine ⟨_, (pss_cons (ps_expr (pe_call X_check_prime.ok (hr.mono (by decide)) (by rfl) X_check_prime.g X_check_prime.kp X_check_prime.b .nil (passes_call (takes_of rfl rfl rfl rfl) (fun _ _ _ _ h => h)) (pa_cons (pv 1) pa_nil))) pss_never), ?_⟩
      exact ⟨v, rfl, v, d, rfl, h2, h3, k⟩
    | @top x t b p o h1 hp h2 h3 k =>
      subst h1
      refine ⟨_, (pss_cons (ps_expr (pe_call D_check_prime.ok (hr.mono (by decide)) (by rfl) D_check_prime.g D_check_prime.kp D_check_prime.b .nil pass0 (pa_cons (pv 1) pa_nil)))
        (pss_cons (ps_expr (pe_call X_check_poly.ok (hr.mono (by decide)) (by rfl) X_check_poly.g X_check_poly.kp X_check_poly.b .nil (passes_call (takes_of rfl rfl rfl rfl) (fun _ _ _ _ h => h)) (pa_cons (pv 1) (pa_cons (pv 2) pa_nil)))) pss_never)), ?_⟩
      refine qr_drop (evr_call p hp (evrs_cons (evr_var rfl rfl) evrs_nil)) fun H1 e1 => ?_
      exact ⟨_, rfl, t, rfl, p, t, o, rfl, (vO K o).st e1 h2, hp, h3, k.ex e1⟩
    | @bottom x t b p o xs h1 hp ht hxs h2 h3 k =>
      subst h1
      refine ⟨_, (pss_cons (ps_expr (pe_call D_check_prime.ok (hr.mono (by decide)) (by rfl) D_check_prime.g D_check_prime.kp D_check_prime.b .nil pass0 (pa_cons (pv 1) pa_nil)))
        (pss_cons (ps_expr (pe_call D_check_poly.ok (hr.mono (by decide)) (by rfl) D_check_poly.g D_check_poly.kp D_check_poly.b .nil pass0 (pa_cons (pv 1) (pa_cons (pv 2) pa_nil))))
        (pss_cons (ps_expr (pe_call X_check_poly.ok (hr.mono (by decide)) (by rfl) X_check_poly.g X_check_poly.kp X_check_poly.b .nil (passes_call (takes_of rfl rfl rfl rfl) (fun _ _ _ _ h => h)) (pa_cons (pv 1) (pa_cons (pv 3) pa_nil)))) pss_never))), ?_⟩
      refine qr_drop (evr_call p hp (evrs_cons (evr_var rfl rfl) evrs_nil)) fun H1 e1 => ?_
      refine qr_drop (evr_call (GP.mk p xs) ⟨hp, hxs⟩ (evrs_cons (evr_var rfl rfl) (evrs_cons (evr_var rfl (up ht e1)) evrs_nil))) fun H2 e2 => ?_
      exact ⟨_, rfl, b, rfl, p, b, o, rfl, (vO K o).st (e1.trans e2) h2, hp, h3, k.ex (e1.trans e2)⟩
    | @zero x t b p xs h1 hp ht hxs h2 k =>
      subst h1
      refine ⟨_, (pss_cons (ps_expr (pe_call D_check_prime.ok (hr.mono (by decide)) (by rfl) D_check_prime.g D_check_prime.kp D_check_prime.b .nil pass0 (pa_cons (pv 1) pa_nil)))
        (pss_cons (ps_expr (pe_call D_check_poly.ok (hr.mono (by decide)) (by rfl) D_check_poly.g D_check_poly.kp D_check_poly.b .nil pass0 (pa_cons (pv 1) (pa_cons (pv 2) pa_nil))))
        (pss_cons (ps_expr (pe_call D_check_poly.ok (hr.mono (by decide)) (by rfl) D_check_poly.g D_check_poly.kp D_check_poly.b .nil pass0 (pa_cons (pv 1) (pa_cons (pv 3) pa_nil))))
        (pss_cons (ps_if (pt_not (pt_truth (pv 3) (by intro _; rfl))) (pss_one (ps_raise rfl (takes_of rfl rfl rfl rfl) (pmk_own PySem.F.excBase_ValueError RO.q RO.gC RO.kC (raises_own RO.ex RO.ty) rfl))) pss_nil) pss_never)))), ?_⟩
      refine qr_drop (evr_call p hp (evrs_cons (evr_var rfl rfl) evrs_nil)) fun H1 e1 => ?_
      refine qr_drop (evr_call (GP.mk p xs) ⟨hp, hxs⟩ (evrs_cons (evr_var rfl rfl) (evrs_cons (evr_var rfl (up ht e1)) evrs_nil))) fun H2 e2 => ?_
      refine qr_drop (evr_call (GP.mk p []) ⟨hp, poly_nil⟩ (evrs_cons (evr_var rfl rfl) (evrs_cons (evr_var rfl (up h2 (e1.trans e2))) evrs_nil))) fun H3 e3 => ?_
      exact Evl.q_when (Evl.et_not (et_truP (evr_var rfl (up h2 ((e1.trans e2).trans e3))))) (fun _ H4 e4 => k H4 (((e1.trans e2).trans e3).trans e4)) (fun hb => by cases hb)
end
end K0
namespace K0
open PySem PySem.Spec PyProof.Rows L2 Kt M
open Evl (Ex Ev EvL EvU EvT EvA EvO ex_l ex_t sq_of st_of sz_of sz_lt fresh_back given)
section
variable {X : Cx} {a : Expr} {ta : TE} {pos : Pos}
/-- not a, by a's own truth -/
theorem pe_notF {r : V → Hp → (Bool → Hp → Prop) → Prop} (ha : PE X a ta) (hr : TruR X r) : PE X (.UnaryOp .Not a pos) (fun σ H Q => ta σ H fun x H1 => r x H1 (fun c H2 => Q (.bl (!c)) H2)) := by
  refine ⟨fun pins s σ H Q I h => ?_⟩
  refine UnaryOp_ (thn (ha.run pins s σ H _ I h) fun v s1 ⟨x, H1, I1, r1, q1⟩ => ?_)
  exact not_of (thn (hr pins s1 σ H1 x v (fun c H2 => Q (.bl (!c)) H2) I1 r1 q1) fun c s2 ⟨H2, I2, q2⟩ => ⟨.bl (!c), H2, I2, rfl, q2⟩)
end
/-- stable as a list changes -/
def StB (r : VR) : Prop := ∀ (v : V) (H H' : Hp) (l : Addr) (ys : List V), H l = some (.lst ys) → ExB l H H' → r.R v H → r.R v H'
section
variable {K : PySem.W.Frag} {mg : Str → Option Value} {C : Addr} {p q : Int} {F G : PF} {σ : L2.St} {H H' : Hp} {te tf ta tb : TE} {ns : List Int} {b : Bool} {E : XK} {rs : List VR} {r : VR} {i j l : Nat} {D : Ends} {tz : TS}
theorem sqT_exb {a l : Addr} {xs ys : List V} (hl : H l = some (.lst ys)) (e : ExB l H H') (h : SqT K H a xs) : SqT K H' a xs := by
  rcases h with (h | ⟨o, h⟩) | h
  · exact .inl (.inl (e _ _ (ne_of h hl (by intro z; cases z)) h))
  · exact .inl (.inr ⟨o, e _ _ (ne_of h hl (by intro z; cases z)) h⟩)
  · exact .inr h
theorem stb_C {c : V} : StB (vC c) := fun _ _ _ _ _ _ _ h => h
theorem stb_P : StB (vP K ns) := fun v H H' l ys hl e ⟨a, ha, h⟩ => ⟨a, ha, sqT_exb hl e h⟩
theorem stb_F : StB (vF K C p F) := fun v H H' l ys hl e ⟨a, dx, t, b, hv, ha, ht, hb⟩ => ⟨a, dx, t, b, hv, e _ _ (ne_of ha hl (by intro z; cases z)) ha, sqT_exb hl e ht, sqT_exb hl e hb⟩
theorem alls_stb : ∀ {rs : List VR} {vs : List V} {H H' : Hp} {l : Addr} {ys : List V}, (∀ r ∈ rs, StB r) → H l = some (.lst ys) → ExB l H H' → Alls rs vs H → Alls rs vs H'
  | [], _, _, _, _, _, _, _, _, h => h
  | r :: rs, _, _, _, _, _, hs, hl, e, ⟨v, ws, h1, h2, h3⟩ => ⟨v, ws, h1, hs r List.mem_cons_self _ _ _ _ _ hl e h2, alls_stb (fun x hx => hs x (List.mem_cons_of_mem _ hx)) hl e h3⟩
theorem stb_T (hs : ∀ r ∈ rs, StB r) : StB (vT K rs) := fun v H H' l ys hl e ⟨a, xs, ha, h, hal⟩ => ⟨a, xs, ha, sqT_exb hl e h, alls_stb hs hl e hal⟩
theorem stb_G : StB (vG K F) := stb_T fun r hr => by
  simp only [List.mem_cons, List.not_mem_nil, or_false] at hr
  rcases hr with rfl | rfl <;> exact stb_P
theorem StB.stab (h : StB r) : Stab r := fun v H l xs ys hr hl => h v H _ l xs hl (fun a o ha e => by rw [upd_ne ha]; exact e) hr
theorem StB.bag {l : Addr} (h : StB r) {v : V} (hr : r.R v H) (hb : Bag l H) (e : ExB l H H') : r.R v H' := by
  obtain ⟨b0, b1, b2, hl⟩ := hb
  exact h v H H' l _ hl e hr
/-- a function and its pair -/
abbrev vD2 (K : PySem.W.Frag) (C : Addr) (p : Int) (F : PF) : VR := vT K [vF K C p F, vG K F]
theorem stb_D2 : StB (vD2 K C p F) := stb_T fun r hr => by
  simp only [List.mem_cons, List.not_mem_nil, or_false] at hr
  rcases hr with rfl | rfl
  · exact stb_F
  · exact stb_G
theorem evr_boolF {rr : List V → Hp → VK → Prop} (hrr : rr = fun xs H Q => ∃ a dx fs, xs = [.ref a] ∧ H a = some (.ins C dx fs) ∧ sp_F___bool__ K C [.ref a] H (fun v H' => ∃ b, v = .bl b ∧ Q (.bl b) H') E) (h : EvR te σ H (vF K C p F)) : EvR (tCB rr (tCons te tNil)) σ H (vB (!F.1.isEmpty)) := fun H1 e Q k => h H1 e _ fun v H2 e2 hv => by
  subst hrr
  obtain ⟨a, dx, t, b, rfl, h2, _⟩ := id hv
  exact ⟨a, dx, _, rfl, h2, GF.mk p F, trivial, ⟨_, _, rfl, hv, rfl⟩, fun u H3 e3 hu => ⟨_, hu, k _ H3 (e2.trans e3) rfl⟩⟩
theorem evr_strF {rr : List V → Hp → VK → Prop} (hrr : rr = fun xs H Q => ∃ a dx fs, xs = [.ref a] ∧ H a = some (.ins C dx fs) ∧ sp_F___str__ K C [.ref a] H (fun v H' => ∃ z, v = .str z ∧ Q (.str z) H') E) (ht : TxOk F.1 ∧ TxOk F.2) (h : EvR te σ H (vF K C p F)) : EvR (tCB rr (tCons te tNil)) σ H (vS (fnT F)) := fun H1 e Q k => h H1 e _ fun v H2 e2 hv => by
  subst hrr
  obtain ⟨a, dx, t, b, rfl, h2, _⟩ := id hv
  exact ⟨a, dx, _, rfl, h2, GF.mk p F, ht, ⟨_, _, rfl, hv, rfl⟩, fun u H3 e3 hu => ⟨_, hu, k _ H3 (e2.trans e3) rfl⟩⟩
theorem evr_notF (h : EvR te σ H (vF K C p F)) : EvR (fun σ H Q => te σ H fun x H1 => ∃ a dx fs, x = .ref a ∧ H1 a = some (.ins C dx fs) ∧ sp_F___bool__ K C [.ref a] H1 (fun v H' => ∃ b, v = .bl b ∧ Q (.bl (!b)) H') E) σ H (vB (!!F.1.isEmpty)) := fun H1 e Q k => h H1 e _ fun v H2 e2 hv => by
  obtain ⟨a, dx, t, b, rfl, h2, _⟩ := id hv
  exact ⟨a, dx, _, rfl, h2, GF.mk p F, trivial, ⟨_, _, rfl, hv, rfl⟩, fun u H3 e3 hu => ⟨_, hu, k _ H3 (e2.trans e3) rfl⟩⟩
theorem eqF_t (F : PF) : (decide (p = p) && (decide (F.1 = F.1) && decide (F.2 = F.2))) = true := by simp
theorem et_neF {A B : PF} (ha : EvR ta σ H (vF K C p A)) (hb : EvR tb σ H (vF K C p B)) (e : A = B) : EvT (tTest (tOp (rOwnNe C (sp_F___eq__ K C) E) ta tb)) σ H false := by
  subst e
  have z0 : OpV (rOwnNe C (sp_F___eq__ K C) E) (vF K C p A) (vF K C p A) (vB (!(decide (p = p) && (decide (A.1 = A.1) && decide (A.2 = A.2))))) H := op_ownNe (GFF.mk p A p A) trivial rfl rfl
  have z := et_r (evr_op ha hb z0)
  rw [eqF_t A] at z
  exact z
theorem evr_eqF {A B : PF} (ha : EvR ta σ H (vF K C p A)) (hb : EvR tb σ H (vF K C p B)) (e : A = B) : EvR (tOp (rOwn2 C (sp_F___eq__ K C) E) ta tb) σ H (vB true) := by
  subst e
  have z0 : OpV (rOwn2 C (sp_F___eq__ K C) E) (vF K C p A) (vF K C p A) (vB (decide (p = p) && (decide (A.1 = A.1) && decide (A.2 = A.2)))) H := op_ownV (GFF.mk p A p A) trivial rfl
  have z := evr_op ha hb z0
  rw [eqF_t A] at z
  exact z
/-- a list of functions with their pairs, of which the test keeps none -/
theorem er_noneT {t : TT} {vs : List Nat} {wi : TI} {xs : List V} {Fs : List PF} (hw : Wk wi σ H xs.length (YAt xs)) (hal : Alls (Fs.map (vD2 K C p)) xs H) (hz : Fs.length ≤ 50000) (hv : ∀ x y, wipe (((wipe σ vs).set i (some x)).set j (some y)) vs = wipe σ vs)
    (ht : ∀ (F : PF) (x y : V) (H1 : Hp), F ∈ Fs → Ex H H1 → (vF K C p F).R x H1 → (vG K F).R y H1 → EvT t (((wipe σ vs).set i (some x)).set j (some y)) H1 false) : EvR (tLc wi (gTup K 2 (gCons (gName i) (gCons (gName j) gNil))) t te vs) σ H (vL K []) := by
  have z := el_comp (vs := vs) (g := gTup K 2 (gCons (gName i) (gCons (gName j) gNil))) (tt := t) (te := te) hw (fun _ => false) (fun _ => .non) (by rw [hal.len, List.length_map]; omega) (fun n x H1 H2 hi e y R q => by
    obtain ⟨rfl, hx⟩ := y
    obtain ⟨r, hr, hrx⟩ := Alls.one hal hx
    rw [List.getElem?_map] at hr
    cases hF : Fs[n]? with
    | none => rw [hF] at hr; cases hr
    | some F0 =>
      rw [hF] at hr
      obtain rfl := Option.some.inj hr
      obtain ⟨a, ws, rfl, hs, v1, w1, rfl, h1, v2, w2, rfl, h2, hw2⟩ := (vD2 K C p F0).st e hrx
      obtain rfl : w2 = [] := hw2
      exact ⟨a, _, rfl, hs, rfl, _, _, rfl, _, _, rfl, rfl, q _ _ (hv _ _) (Ex.refl _) (ht F0 _ _ _ (List.mem_of_getElem? hF) e h1 h2) fun h => by cases h⟩)
  have e : given xs.length (fun _ => false) (fun _ => V.non) = ([] : List Int).map V.int := by
    unfold given
    rw [List.filter_eq_nil_iff.mpr fun _ _ => Bool.false_ne_true]
    rfl
  rw [e] at z
  exact evr_ofL z
theorem sr_appR {l : Addr} {xs : List V} (hl : H l = some (.lst xs)) (hs : σ[i]? = some (some (.ref l))) (h : EvR te σ H r) (hz : xs.length < 100000) (k : ∀ v H1, Ex H H1 → r.R v H1 → D.nx σ (upd H1 l (.lst (xs ++ [v])))) : tDrop (tBM K "list" rAppend (tVar i) (tCons te tNil)) D σ H :=
  ⟨.ref l, hs, Or.inl ⟨rfl, xs, sq_of hl⟩, h H (Ex.refl H) _ fun v H2 e2 hv => ⟨l, xs, v, rfl, rfl, e2 l _ hl, sz_lt hz, k v H2 e2 hv⟩⟩
end
theorem txOk {p : Int} (hp : Pr p) {F : PF} (hF : NF p F) (l : Le 90 F) : TxOk F.1 ∧ TxOk F.2 := by
  have h2 := hp.le
  refine ⟨⟨fun n hn => ?_, l.1⟩, ⟨fun n hn => ?_, l.2⟩⟩
  · have := hF.t.r n hn
    omega
  · have := hF.b.r n hn
    omega
structure G3F where
  p : Int
  F : PF
  G : PF
  H : PF
section
variable {P : Program} {w : World} {K : PySem.W.Frag} {mg : Str → Option Value} {base : Heap} {C : Addr}
def sp__law_sums_right (K : PySem.W.Frag) (C : Addr) : Sp := Con (G := GAF) FF (fun g => [vI g.p, vF K C g.p g.F, vF K C g.p g.G, vG K g.F, vG K g.G]) (fun _ => vB true)
def sp__law_laws_right (K : PySem.W.Frag) (C : Addr) : Sp := Con (G := G3F) (fun g => Pr g.p ∧ NF g.p g.F ∧ NF g.p g.G ∧ NF g.p g.H ∧ Le 9 g.F ∧ Le 9 g.G ∧ Le 9 g.H) (fun g => [vF K C g.p g.F, vF K C g.p g.G, vF K C g.p g.H]) (fun _ => vB true)
end
end K0
namespace K0
open PySem PySem.Spec PyProof.Rows L2 Kt M
open Evl (Ex Ev EvL EvU EvT EvA EvO ex_l ex_t sq_of st_of sz_of sz_lt fresh_back given)
section
variable {P : Program} {w : World} {K : PySem.W.Frag} {mg : Str → Option Value} {base : Heap} {C : Addr}
def sp__law_one_ofP (K : PySem.W.Frag) : Sp := fun vs H Q _ => ∃ (l a : Addr) (rows : List (List Int)) (xs : List V), vs = [.ref l, .ref a] ∧ a ≠ l ∧ Bag l H ∧ H a = some (.lst xs) ∧ Alls (rows.map (vP K)) xs H ∧ rows ≠ [] ∧ rows.length ≤ 1000 ∧ ∀ ns v H', ns ∈ rows → ExB l H H' → Bag l H' → (vP K ns).R v H' → Q v H'
theorem ok__law_one_ofP {f : Addr} {fd : FuncData} (F : Fun K "_law_one_of" "_law_one_of" s__law_one_of f fd) (B : Bis mg)  (D__law_grab : De P w K mg base "_law_grab" ["bag", "total"] 1 (sp__law_grab K)) : FnOk P w K mg base CX0 2 f fd ["bag", "items"] (sp__law_one_ofP K) := by
  refine F.ok sc__law_one_of (fun vs H Q E h => ?_) (fun cdv A outer s H vs Q E hr h => ?_)
  · obtain ⟨_, _, _, _, rfl, _⟩ := h
    rfl
  · obtain ⟨l, a, rows, xs, rfl, hne, hb, hs, hal, hn, hz, q⟩ := h
    refine ⟨_, (pss_one (ps_ret (pe_ix (r := rIxL K) ix_list (pv 1) (pe_call D__law_grab.ok (hr.mono (by decide)) (by rfl) D__law_grab.g D__law_grab.kp D__law_grab.b .nil pass0 (pa_cons (pv 0) (pa_cons (pe_callB call_len_seq (by rfl) (B "len" (by decide +kernel)) (by decide +kernel) (pa_cons (pv 1) pa_nil)) pa_nil))) (fun _ _ => rfl)))), ?_⟩
    have hpos := List.length_pos_iff.mpr hn
    have hlen := hal.len
    rw [List.length_map] at hlen
    refine ⟨.ref a, rfl, .ref l, rfl, .ref a, rfl, a, _, rfl, .inl (sq_of hs), ?_⟩
    refine ⟨l, (xs.length : Int), rfl, hb, by omega, ?_, fun r H' h0 h1 eB hb' => ?_⟩
    · have : (xs.length : Int).natAbs ≤ 1000 := by omega
      exact Nat.lt_of_le_of_lt this (by decide)
    · obtain ⟨k, rfl⟩ := Int.eq_ofNat_of_zero_le h0
      have hr : k < xs.length := by omega
      obtain ⟨r, hr2, hrx⟩ := Alls.one hal (List.getElem?_eq_getElem hr)
      rw [List.getElem?_map, List.getElem?_eq_getElem (by omega : k < rows.length)] at hr2
      obtain rfl := Option.some.inj hr2
      exact ⟨a, _, (k : Int), xs[k], rfl, rfl, sq_of (eB a _ hne hs), atI_nat (List.getElem?_eq_getElem hr), q _ _ H' (List.getElem_mem _) eB hb' (stb_P.bag hrx hb eB)⟩
def P5 (p : Int) : Prop := p = 2 ∨ p = 3 ∨ p = 5
def sp__law_prime (_ : PySem.W.Frag) : Sp := fun vs H Q _ => ∃ (l : Addr), vs = [.ref l, .int 5] ∧ Bag l H ∧ ∀ p H', P5 p → ExB l H H' → Bag l H' → Q (.int p) H'
def sp__law_monic_drawn (K : PySem.W.Frag) : Sp := fun vs H Q _ => ∃ (l : Addr) (p : Int) (d : Nat), vs = [.ref l, .int p, .int (d : Int)] ∧ Bag l H ∧ Pr p ∧ d ≤ 10 ∧ ∀ ns v H', Pl p ns → Mo ns → ns.length = d + 1 → ExB l H H' → Bag l H' → (vP K ns).R v H' → Q v H'
def sp__law_pair_drawn (K : PySem.W.Frag) : Sp := fun vs H Q _ => ∃ (l : Addr) (p : Int) (m : Nat), vs = [.ref l, .int p, .int (m : Int)] ∧ Bag l H ∧ Pr p ∧ 1 ≤ m ∧ m ≤ 6 ∧ ∀ t b v H', Pl p t → t.length ≤ m + 1 → Pl p b → b ≠ [] → b.length ≤ m + 1 → ExB l H H' → Bag l H' → (vG K (t, b)).R v H' → Q v H'
theorem trim_snoc1 : ∀ acc : List Int, trim (acc ++ [1]) = acc ++ [1]
  | [] => rfl
  | x :: r => by
    have ih := trim_snoc1 r
    show (match trim (r ++ [1]) with
      | [] => if x = 0 then [] else [x]
      | t :: ts => x :: t :: ts) = x :: (r ++ [1])
    rw [ih]
    cases r <;> rfl
theorem bag_new {l D : Addr} {H : Hp} {o : HO} (hb : Bag l H) (hD : H D = none) : ExB l H (upd H D o) ∧ Bag l (upd H D o) ∧ D ≠ l := by
  obtain ⟨b0, b1, b2, h⟩ := hb
  have hDl : D ≠ l := fun z => by
    rw [z, h] at hD
    cases hD
  exact ⟨ExB.of (Ex.new hD), ⟨b0, b1, b2, by rw [upd_ne (Ne.symm hDl)]; exact h⟩, hDl⟩
theorem ex_none {H H1 : Hp} {D : Addr} (e : Ex H H1) (h : H1 D = none) : H D = none := by
  cases hh : H D with
  | none => rfl
  | some o =>
    rw [e D o hh] at h
    cases h
theorem exb_none {l : Addr} {H H1 : Hp} {D : Addr} (hn : D ≠ l) (e : ExB l H H1) (h : H1 D = none) : H D = none := by
  cases hh : H D with
  | none => rfl
  | some o =>
    rw [e D o hn hh] at h
    cases h
theorem cons_r {te : TE} {ta : TA} {σ : L2.St} {H : Hp} {r : VR} {Q : List V → Hp → Prop} (h : EvR te σ H r) (k : ∀ v H1, Ex H H1 → r.R v H1 → ta σ H1 (fun vs H2 => Q (v :: vs) H2)) : tCons te ta σ H Q := h H (Ex.refl H) _ k
theorem asg_oneof {sp : Sp} {E : XK} {ta : TA} {l : Addr} {σ : L2.St} {H : Hp} {i : Nat} {D : Ends} (h0 : σ[0]? = some (some (.ref l))) (h : ta σ H (fun xs H1 => xs.length ≤ sizeLine ∧ ∀ p, H1 p = none → sp [.ref l, .ref p] (upd H1 p (.lst xs)) (fun v H2 => D.nx (σ.set i (some v)) H2) E)) : tAsg (tCall sp [] E (tCons (tVar 0) (tCons (tLst ta) tNil))) (gName i) D σ H := ⟨.ref l, h0, h⟩
/-- a test that may change the bag, whichever way it goes -/
def EvTA (l : Addr) (t : TT) (σ : L2.St) : Prop := ∀ H, Bag l H → ∀ Q : Bool → Hp → Prop, (∀ c H1, ExB l H H1 → Bag l H1 → Q c H1) → t σ H Q
theorem ta_and {l : Addr} {t u : TT} {σ : L2.St} (h : EvTA l t σ) (h2 : EvTA l u σ) : EvTA l (tAnd t u) σ := fun H hb Q q => h H hb _ fun c H1 e b => by
  cases c with
  | true => exact iteT (h2 H1 b Q fun c H2 e2 b2 => q c H2 (e.trans e2) b2)
  | false => exact iteF (q false H1 e b)
theorem ta_of {l : Addr} {t : TT} {σ : L2.St} {c : Bool} (h : ∀ H, EvT t σ H c) : EvTA l t σ := fun H hb Q q => h H H (Ex.refl H) Q fun H1 e => q c H1 (ExB.of e) (hb.ex e)
theorem ta_eq {l : Addr} {te : TE} {σ : L2.St} {P : Int → Prop} {x : Int} (h : EvB l te σ P) : EvTA l (tTest (tOp rEq te (tC (.int x)))) σ := fun H hb Q q => h H hb _ fun n H2 hn e2 b2 => ⟨rfl, _, rfl, q _ H2 e2 b2⟩
theorem qa_when {l : Addr} {t : TT} {tu tz : TS} {σ : L2.St} {H : Hp} {D : Ends} (h : EvTA l t σ) (hb : Bag l H) (h1 : ∀ H1, ExB l H H1 → Bag l H1 → tu { D with nx := tz D } σ H1) (h2 : ∀ H1, ExB l H H1 → Bag l H1 → tz D σ H1) : tSeq (tIfS t tu tNext) tz D σ H := h H hb _ fun c H1 e b => by
  cases c with
  | true => exact iteT (h1 H1 e b)
  | false => exact iteF (h2 H1 e b)
end
end K0
namespace K0
open PySem PySem.Spec PyProof.Rows L2 Kt M
open Evl (Ex Ev EvL EvU EvT EvA EvO ex_l ex_t sq_of st_of sz_of sz_lt fresh_back given)
theorem Dk.fnr {P : Program} {w : World} {K : PySem.W.Frag} {mg : Str → Option Value} {base : Heap} {C : Addr} {m : Str} {ps : List Str} {k : Nat} {sp : Sp} (M : Dk P w K mg base C m ps k sp) : FnR P w K mg base CX0 k M.f sp := (M.ok.raw M.b .nil).imp fun vs H Q E h => by
  rw [List.append_nil]
  exact h
def rOwnT (K : PySem.W.Frag) (C : Addr) (sp : Sp) (E : XK) : R2 := fun x y H Q => ∃ a dx fs b xs, x = .ref a ∧ y = .ref b ∧ H a = some (.ins C dx fs) ∧ SqT K H b xs ∧ sp [.ref a, .ref b] H Q E
section
variable {X : Cx} {CX : CXT} {k : Nat} {C f : Addr} {fd : FuncData} {ps : List Str} {sp : Sp} {E : XK}
/-- a == b, b a tuple -/
theorem eq_ownT (c : OwnM X.K C "__eq__" f) (hn : PySem.W.notFirst X.K C (.type "tuple") = true) (hu : X.A.units < cLine) (F : FnOk X.prog X.w X.K X.mg X.base CX k f fd ps sp) (hr : Room k X.A) (hb : Binds X.K fd ps []) (hx : Passes CX X E) :
    OpR X (compareOp .Eq) (rOwnT X.K C sp E) := by
  intro pins s σ H x y v u Q I rx ry h
  obtain ⟨a, dx, fs, b, xs, rfl, rfl, ha, hs, hsp⟩ := h
  obtain rfl : v = .ref a := rx
  obtain rfl : u = .ref b := ry
  obtain ⟨mA, O, _, _, _, _⟩ := ins_get I.hok ha
  obtain ⟨od, J, _⟩ := O.look
  obtain ⟨its, rv, ⟨ob, ho, hc, n, hd⟩, hz⟩ := I.tuple hs
  obtain ⟨m, Fr⟩ := I.fr
  refine PySem.W.cmp_ofEq ?_
  refine PySem.W.cmp_K (op := .Eq) hu Fr I.ok.mod.kin J (hc ▸ (PySem.W.Looks.ld ho).andThen .now) hn c.at_ c.fn ?_
  exact wpAny_mono (run_fn (vs := [V.ref a, V.ref b]) (us := [Value.ref a, Value.ref b]) F hr hb .nil hx I (.cons rfl (.cons rfl .nil)) hsp) (fun v s' hv => back_of hv) fun _ _ e => e
end
section
variable {K : PySem.W.Frag} {mg : Str → Option Value} {C : Addr} {p q : Int} {F G : PF} {σ : L2.St} {H H' : Hp} {te tf ta tb : TE} {tas : TA} {ns : List Int} {b : Bool} {E : XK} {rs os : List VR} {r : VR} {i j l : Nat} {D : Ends} {tz tu : TS} {P1 P2 : Int → Prop} {t1 t2 : TE} {vs : List Nat}
def sp_F_eqT (K : PySem.W.Frag) (C : Addr) : Sp := Con (G := GFF) (fun _ => True) (fun g => [vF K C g.p g.F, vG K g.G]) (fun _ => vB false)
theorem op_eqT : OpV (rOwnT K C (sp_F_eqT K C) E) (vF K C p F) (vG K G) (vB false) H := fun x y H1 e hx hy Q k => by
  obtain ⟨a, dx, t, b, rfl, h2, _⟩ := id hx
  obtain ⟨a', xs, rfl, hs, _⟩ := id hy
  exact ⟨a, dx, _, a', xs, rfl, rfl, h2, hs, GFF.mk p F p G, trivial, ⟨_, _, rfl, hx, _, _, rfl, hy, rfl⟩, k⟩
theorem qb_par {l : Addr} (h1 : EvB l t1 σ P1) (h2 : EvB l t2 σ P2) (hb : Bag l H) (k : ∀ a b H1, P1 a → P2 b → ExB l H H1 → Bag l H1 → tz D ((σ.set i (some (.int a))).set j (some (.int b))) H1) : tSeq (tAsg (tTup (tCons t1 (tCons t2 tNil))) (gTup K 2 (gCons (gName i) (gCons (gName j) gNil)))) tz D σ H :=
  h1 H hb _ fun a H1 pa e1 b1 => h2 H1 b1 _ fun b H2 pb e2 b2 => ⟨sz_of (by show 2 ≤ 100000; decide), fun T hT => by
    obtain ⟨eT, bT, _⟩ := bag_new (o := .tup [.int a, .int b]) b2 hT
    exact ⟨T, _, rfl, st_of upd_same, rfl, _, _, rfl, _, _, rfl, rfl, k a b _ pa pb ((e1.trans e2).trans eT) bT⟩⟩
theorem evb_prime {l : Addr} (h0 : σ[0]? = some (some (.ref l))) : EvB l (tCall (sp__law_prime K) [] E (tCons (tVar 0) (tCons (tC (.int 5)) tNil))) σ P5 := fun H1 hb Q q => ⟨.ref l, h0, l, rfl, hb, fun p H2 hp e b => q p H2 hp e b⟩
theorem evr_letter (hp : Pr p) (h : EvR te σ H (vI p)) : EvR (ClX.tCMeth C (sp_F_letter K C) E (tC (.ref C)) (tCons te tNil)) σ H (vF K C p fLet) := fun H1 e Q k => ⟨rfl, h H1 e _ fun v H2 e2 hv => ⟨p, hp, ⟨_, _, rfl, rfl, v, [], rfl, hv, rfl⟩, fun u H3 e3 hu => k u H3 (e2.trans e3) hu⟩⟩
theorem evr_number {n : Int} (hp : Pr p) (hn : isInt (.int n) = true) (h : EvR te σ H (vI p)) (h2 : EvR tf σ H (vI n)) : EvR (ClX.tCMeth C (sp_F_number K C) E (tC (.ref C)) (tCons te (tCons tf tNil))) σ H (vF K C p (fNum p n)) := fun H1 e Q k => ⟨rfl, h H1 e _ fun v H2 e2 hv => h2 H2 (e.trans e2) _ fun u H3 e3 hu => ⟨G2.mk p n, ⟨hp, hn⟩, ⟨_, _, rfl, rfl, v, _, rfl, (vI p).st e3 hv, u, [], rfl, hu, rfl⟩, fun u H4 e4 hu => k u H4 ((e2.trans e3).trans e4) hu⟩⟩
/-- two new lists of things -/
theorem qm_par {r1 r2 : List VR} (h1 : EvM t1 σ H r1) (h2 : EvM t2 σ H r2) (k : ∀ p1 x1 p2 x2 H1, H p1 = none → H p2 = none → Ex H H1 → H1 p1 = some (.lst x1) → H1 p2 = some (.lst x2) → Alls r1 x1 H1 → Alls r2 x2 H1 → tz D ((σ.set i (some (.ref p1))).set j (some (.ref p2))) H1) : tSeq (tAsg (tTup (tCons t1 (tCons t2 tNil))) (gTup K 2 (gCons (gName i) (gCons (gName j) gNil)))) tz D σ H :=
  h1 H (Ex.refl H) _ fun p1 x1 H1 n1 e1 g1 a1 => h2 H1 e1 _ fun p2 x2 H2 n2 e2 g2 a2 => ⟨sz_of (by show 2 ≤ 100000; decide), fun T hT => by
    have eT : Ex H2 (upd H2 T (.tup [.ref p1, .ref p2])) := Ex.new hT
    exact ⟨T, _, rfl, st_of upd_same, rfl, _, _, rfl, _, _, rfl, rfl, k p1 x1 p2 x2 _ n1 (fresh_back e1 n2) ((e1.trans e2).trans eT) (eT _ _ (e2 _ _ g1)) (eT _ _ g2) ((a1.mono e2).mono eT) (a2.mono eT)⟩⟩
/-- [e for x, y in ..] over a list of pairs -/
theorem em_compG {wi : TI} {xs : List V} {qs : List PF} (hw : Wk wi σ H xs.length (YAt xs)) (hal : Alls (qs.map (vG K)) xs H) (hlen : os.length = qs.length) (hz : qs.length ≤ 50000) (hv : ∀ x y, wipe (((wipe σ vs).set i (some x)).set j (some y)) vs = wipe σ vs)
    (hst : ∀ o ∈ os, Stab o) (he : ∀ (n : Nat) (q : PF) (o : VR) (x y : V) (H1 : Hp), qs[n]? = some q → os[n]? = some o → Ex H H1 → (vP K q.1).R x H1 → (vP K q.2).R y H1 → EvR te (((wipe σ vs).set i (some x)).set j (some y)) H1 o) : EvM (tLc wi (gTup K 2 (gCons (gName i) (gCons (gName j) gNil))) tYes te vs) σ H os := fun H0 e Q k =>
  hw H0 e _ fun J H1 G e1 w hG Dd hD => by
    have hxl := hal.len
    rw [List.length_map] at hxl
    refine lc_it w (fun i H' => H1 Dd = none ∧ Ex H1 H' ∧ ∃ acc, H' Dd = some (.lst acc) ∧ Alls (os.take i) acc H') ⟨hD, Ex.new hD, [], upd_same, rfl⟩ (fun i H' _ p => hG H' p.2.1) (fun n x Ha Hb hi p y => ?_) (fun H' p => ?_)
    · obtain ⟨p1, p2, acc, p3, p4⟩ := p
      obtain ⟨rfl, hx⟩ := y
      obtain ⟨r, hr, hrx⟩ := Alls.one hal hx
      rw [List.getElem?_map] at hr
      cases hq : qs[n]? with
      | none => rw [hq] at hr; cases hr
      | some q0 =>
        rw [hq] at hr
        obtain rfl := Option.some.inj hr
        have eH : Ex H Hb := (e.trans e1).trans p2
        obtain ⟨a, ws, rfl, hs, v1, w1, rfl, h1, v2, w2, rfl, h2, hw2⟩ := (vG K q0).st eH hrx
        obtain rfl : w2 = [] := hw2
        refine ⟨a, _, rfl, hs, rfl, _, _, rfl, _, _, rfl, rfl, hv _ _, ?_⟩
        unfold tYes
        dsimp only
        rw [if_pos rfl]
        have hio : n < os.length := by omega
        have ho : os[n]? = some os[n] := List.getElem?_eq_getElem hio
        refine he n q0 _ v1 v2 Hb hq ho eH h1 h2 Hb (Ex.refl Hb) _ fun v H4 e4 hv4 => ?_
        refine ⟨acc, e4 _ _ p3, sz_lt (by have := p4.len; rw [List.length_take] at this; omega), p1, Ex.mut (p2.trans e4) p1, acc ++ [v], upd_same, ?_⟩
        rw [List.take_add_one, ho]
        refine Alls.stab (fun o ho' => hst o ?_) ((p4.mono e4).snoc hv4) (e4 _ _ p3)
        rcases List.mem_append.mp ho' with h | h
        · exact List.mem_of_mem_take h
        · obtain rfl := List.mem_singleton.mp h
          exact List.getElem_mem hio
    · obtain ⟨p1, p2, acc, p3, p4⟩ := p
      rw [hxl, ← hlen, List.take_length] at p4
      exact k Dd acc H' (fresh_back e1 p1) (e1.trans p2) p3 p4
/-- for over a tuple of things -/
theorem qr_forT {rs : List VR} {g : TG} (h : EvR te σ H (vT K rs)) (Pv : Hp → Nat → L2.St → Hp → Prop) (h0 : ∀ H1, Ex H H1 → Pv H1 0 σ H1) (hx : ∀ H1 n σ' H', Pv H1 n σ' H' → Ex H1 H')
    (hs : ∀ H1 n r y σ' H', rs[n]? = some r → Pv H1 n σ' H' → r.R y H' → g y σ' H' fun σ2 H2 => tu { D with nx := Pv H1 (n + 1), ct := Pv H1 (n + 1), bk := tz D } σ2 H2)
    (hd : ∀ H1 σ' H', Pv H1 rs.length σ' H' → tz D σ' H') : tSeq (tFor (iTup K te) g tu) tz D σ H :=
  h H (Ex.refl H) _ fun v H1 e hv => by
    obtain ⟨a, xs, rfl, hsq, hal⟩ := hv
    have hlen := hal.len
    refine ⟨a, rfl, ⟨xs, hsq⟩, for_it (walk_tup (K := K) (a := a) (xs := xs)) (Pv H1) (h0 H1 e) (fun n σ' H' _ p => ex_t (hx _ _ _ _ p) hsq) (fun n y σ' H' H2 hn p yy => ?_) (fun σ' H' p => hd H1 σ' H' (by rw [← hlen]; exact p))⟩
    obtain ⟨rfl, hy⟩ := yy
    obtain ⟨r, hr, hry⟩ := Alls.one hal hy
    exact hs H1 n r y σ' _ hr p (r.st (hx _ _ _ _ p) hry)
end
theorem eqv_pair (a b c d : List Int) : PyData.eqv (.tuple [dP a, dP b]) (.tuple [dP c, dP d]) = (decide (a = c) && decide (b = d)) := by
  rw [PyData.eqv, PyData.eqvAll, PyData.eqvAll, PyData.eqvAll, eqv_P, eqv_P, Bool.and_true]
theorem shaped_pair (a b : List Int) : SeqAt.shaped (.tuple [dP a, dP b]) = true := shaped_tuple fun d hd => by
  simp only [List.mem_cons, List.not_mem_nil, or_false] at hd
  rcases hd with rfl | rfl
  · exact ⟨SeqAt.canLay_of_shaped (shaped_P _), by unfold dP; rw [PyData.depth, depth_ints]; decide⟩
  · exact ⟨SeqAt.canLay_of_shaped (shaped_P _), by unfold dP; rw [PyData.depth, depth_ints]; decide⟩
/-- a drawn pair -/
structure PD (p : Int) (q : PF) : Prop where
  t : Pl p q.1
  lt : q.1.length ≤ 5
  b : Pl p q.2
  nb : q.2 ≠ []
  lb : q.2.length ≤ 5
theorem PD.nf {p : Int} (hp : Pr p) {q : PF} (h : PD p q) : NF p (nf p q.1 q.2) ∧ Le 5 (nf p q.1 q.2) := by
  have l1 := h.lt
  have l2 := h.lb
  exact ⟨(nf_ok hp h.t h.b h.nb (by omega) (by omega)).1, nf_le hp h.t h.b h.nb ⟨l1, l2⟩ (by omega)⟩
theorem PD.okP {p : Int} {q : PF} (h : PD p q) : PolyOk p q.1 ∧ PolyOk p q.2 := ⟨⟨h.t.r, h.t.t, by have := h.lt; omega⟩, ⟨h.b.r, h.b.t, by have := h.lb; omega⟩⟩
theorem scale_ne {p : Int} (hp : Pr p) {xs : List Int} (hx : Pl p xs) (nx : xs ≠ []) {f : Int} (h0 : 0 < f) (h1 : f < p) : scale p xs f ≠ [] := fun z => by
  have hp0 : 0 < p := by omega
  have e1 : e p (scale p xs f) = kc p f * e p xs := e_scale xs f
  rw [z, e_nil] at e1
  have ki := kc_inv hp h0 h1
  refine nx (e_zero hp0 hx ?_)
  grind
theorem wide_ok {p : Int} (hp : Pr p) {t b k : List Int} (ht : Pl p t) (hb : Pl p b) (nb : b ≠ []) (hk : Pl p k) (nk : k ≠ []) (lt : t.length ≤ 100) (lb : b.length ≤ 100) (lk : k.length ≤ 100) : nf p (prod p t k) (prod p b k) = nf p t b := by
  have hp0 : 0 < p := by have := hp.le; omega
  have n1 := nf_ok hp ht hb nb (by omega) (by omega)
  have p1 := prod_len p t k
  have p2 := prod_len p b k
  have nbk := prod_ne hp hb hk nb nk
  have n2 := nf_ok hp (t := prod p t k) (b := prod p b k) (.prod hp0 _ _) (.prod hp0 _ _) nbk (by omega) (by omega)
  refine re_uniq hp n2.1 n1.1 n2.2 n1.2 (.of (.prod hp0 _ _) nbk) (.of hb nb) ?_
  rw [e_prod, e_prod]
  grind
theorem PolyOk.tx {p : Int} (hp : Pr p) {xs : List Int} (h : PolyOk p xs) : TxOk xs := ⟨fun n hn => by
  have := h.r n hn
  have := hp.le
  omega, by have := h.l; omega⟩
end K0
namespace K0
open PySem PySem.Spec PyProof.Rows L2 Kt M
open Evl (Ex Ev EvL EvU EvT EvA EvO ex_l ex_t sq_of st_of sz_of sz_lt fresh_back given)
section
variable (K : PySem.W.Frag) (C : Addr)
def sp_check_function : Sp := Con (G := GF) (fun _ => True) (fun g => [vF K C g.p g.F]) (fun _ => vN)
end
section
variable {K : PySem.W.Frag} {σ : L2.St} {H : Hp} {te : TE} {rs : List VR} {D : Ends} {tu : TS}
theorem et_truTs (h : EvR te σ H (vT K rs)) (hne : rs ≠ []) : EvT (tTr K te) σ H true := fun H1 e Q q => h H1 e _ fun v H2 e2 ⟨a, xs, ha, hs, hal⟩ => by
  subst ha
  refine ⟨_, .inr (.inl ⟨_, hs, rfl⟩), ?_⟩
  have hl := hal.len
  have ee : (!xs.isEmpty) = true := by
    cases xs with
    | nil => exact absurd (List.eq_nil_of_length_eq_zero hl.symm) hne
    | cons a b => rfl
  rw [ee]
  exact q H2 e2
/-- for over a tuple of things, as the last statement -/
theorem sr_forT2 {g : TG} (h : EvR te σ H (vT K rs)) (Pv : Hp → Nat → L2.St → Hp → Prop) (h0 : ∀ H1, Ex H H1 → Pv H1 0 σ H1) (hx : ∀ H1 n σ' H', Pv H1 n σ' H' → Ex H1 H')
    (hs : ∀ H1 n r y σ' H', rs[n]? = some r → Pv H1 n σ' H' → r.R y H' → g y σ' H' fun σ2 H2 => tu { D with nx := Pv H1 (n + 1), ct := Pv H1 (n + 1), bk := D.nx } σ2 H2)
    (hd : ∀ H1 σ' H', Pv H1 rs.length σ' H' → D.nx σ' H') : tFor (iTup K te) g tu D σ H :=
  h H (Ex.refl H) _ fun v H1 e hv => by
    obtain ⟨a, xs, rfl, hsq, hal⟩ := hv
    have hlen := hal.len
    refine ⟨a, rfl, ⟨xs, hsq⟩, for_it (walk_tup (K := K) (a := a) (xs := xs)) (Pv H1) (h0 H1 e) (fun n σ' H' _ p => ex_t (hx _ _ _ _ p) hsq) (fun n y σ' H' H2 hn p yy => ?_) (fun σ' H' p => hd H1 σ' H' (by rw [← hlen]; exact p))⟩
    obtain ⟨rfl, hy⟩ := yy
    obtain ⟨r, hr, hry⟩ := Alls.one hal hy
    exact hs H1 n r y σ' _ hr p (r.st (hx _ _ _ _ p) hry)
end
section
variable {P : Program} {w : World} {K : PySem.W.Frag} {mg : Str → Option Value} {base : Heap} {C : Addr}
abbrev s_check_function : Stmt := topS 69
abbrev N_check_function : List Str := ["function"]
theorem sc_check_function : FnScope N_check_function ["function"] (defScope s_check_function) := ⟨rfl, rfl, rfl, by decide +kernel, rfl, by decide +kernel, by decide +kernel⟩
theorem ok_check_function {f : Addr} {fd : FuncData} (F : Fun K "check_function" "check_function" s_check_function f fd) (B : Bis mg) (cf : CFm K mg C)   : FnOk P w K mg base CX0 1 f fd ["function"] (sp_check_function K C) := by
  refine F.ok sc_check_function (fun vs H Q E h => ?_) (fun cdv A outer s H vs Q E hr h => ?_)
  · obtain ⟨g, _, ha, _⟩ := h
    exact ha.len
  · obtain ⟨⟨p, F0⟩, _, ⟨v_function, _, rfl, h_function, rfl⟩, q⟩ := h
    dsimp only at *
    refine ⟨_, (pss_one (ps_if (pt_not (pt_val (pe_callB (id := "isinstance") (r := rIsi K) call_isi (by rfl) (B "isinstance" (by decide +kernel)) (by decide +kernel) (pa_cons (pv 0) (pa_cons (pe_glob (v := .ref C) (by rfl) cf.mg rfl) pa_nil))))) (pss_one ps_never) pss_nil)), ?_⟩
    exact Evl.s_when (Evl.et_not (et_b (evr_isF cf (evr_var rfl h_function)))) (fun hb H1 e1 => by cases hb) (fun hb H1 e1 => q _ H1 e1 rfl)
end
end K0
namespace K0
open PySem PySem.Spec PyProof.Rows L2 Kt M
open Evl (Ex Ev EvL EvU EvT EvA EvO ex_l ex_t sq_of st_of sz_of sz_lt fresh_back given)
section
variable {K : PySem.W.Frag} {C CN CP CO : Addr} {σ : L2.St} {H : Hp} {ta : TA} {te : TE} {v : V} {d : PyData} {r1 r2 rb : VR} {E : XK} {p : Int} {o : OV} {xs : List Int} {i : Nat}
/-! ### a making that is refused -/
theorem rx_prime (h : EvRs ta σ H [vC v, r1, r2]) (hd : (vD K d).R v H) (hb : BadP d) (k : Given CN v H E) (Q : VK) : tMake C (sp_F___init__X K CN CP CO) [] E ta σ H Q := h H (Ex.refl H) _ fun vs H1 e1 hvs x dx nx nd hn => by
  obtain ⟨v1, w1, rfl, rfl, v2, w2, rfl, _, v3, w3, rfl, _, hw⟩ := hvs
  obtain rfl : w3 = [] := hw
  exact .prime rfl ((vD K d).st (e1.trans (mk_ex nx nd hn)) hd) hb (k.ex (e1.trans (mk_ex nx nd hn)))
theorem rx_top (h : EvRs ta σ H [vI p, vO K o, r2]) (hp : Pr p) (hb : hpf p o = false) (k : Said CP H E) (Q : VK) : tMake C (sp_F___init__X K CN CP CO) [] E ta σ H Q := h H (Ex.refl H) _ fun vs H1 e1 hvs x dx nx nd hn => by
  obtain ⟨v1, w1, rfl, rfl, v2, w2, rfl, h2, v3, w3, rfl, _, hw⟩ := hvs
  obtain rfl : w3 = [] := hw
  exact .top rfl hp ((vO K o).st (mk_ex nx nd hn) h2) hb (k.ex (e1.trans (mk_ex nx nd hn)))
theorem rx_bottom (h : EvRs ta σ H [vI p, vP K xs, vO K o]) (hp : Pr p) (hx : PolyOk p xs) (hb : hpf p o = false) (k : Said CP H E) (Q : VK) : tMake C (sp_F___init__X K CN CP CO) [] E ta σ H Q := h H (Ex.refl H) _ fun vs H1 e1 hvs x dx nx nd hn => by
  obtain ⟨v1, w1, rfl, rfl, v2, w2, rfl, h2, v3, w3, rfl, h3, hw⟩ := hvs
  obtain rfl : w3 = [] := hw
  exact .bottom rfl hp ((vP K xs).st (mk_ex nx nd hn) h2) hx ((vO K o).st (mk_ex nx nd hn) h3) hb (k.ex (e1.trans (mk_ex nx nd hn)))
theorem rx_zero (h : EvRs ta σ H [vI p, vP K xs, vP K []]) (hp : Pr p) (hx : PolyOk p xs) (k : Said CO H E) (Q : VK) : tMake C (sp_F___init__X K CN CP CO) [] E ta σ H Q := h H (Ex.refl H) _ fun vs H1 e1 hvs x dx nx nd hn => by
  obtain ⟨v1, w1, rfl, rfl, v2, w2, rfl, h2, v3, w3, rfl, h3, hw⟩ := hvs
  obtain rfl : w3 = [] := hw
  exact .zero rfl hp ((vP K xs).st (mk_ex nx nd hn) h2) hx ((vP K []).st (mk_ex nx nd hn) h3) (k.ex (e1.trans (mk_ex nx nd hn)))
/-! ### what is no function -/
structure NotFn (K : PySem.W.Frag) (C : Addr) : Prop where
  kit : ∀ m ∈ ["NoneType", "bool", "int", "str", "list", "tuple", "dict"], PySem.W.kitOne K (.type m) (.ref C) = some false
  ft : PySem.W.kitOne K (.ref C) (.type "tuple") = some false
theorem evr_isN {r : VR} {m : String} (N : NotFn K C) (h : EvR te σ H r) (hr : vTy K m r) (hm : m ∈ ["NoneType", "bool", "int", "str", "list", "tuple", "dict"]) : EvR (tCB (rIsi K) (tCons te (tCons (tC (.ref C)) tNil))) σ H (vB false) := fun H1 e1 Q q =>
  h H1 e1 _ fun v H2 e2 hv => ⟨v, .ref C, _, _, false, rfl, .own C, hr v H2 hv, N.kit m hm, q _ H2 e2 rfl⟩
theorem evr_FisT {p : Int} {F : PF} (cf : CFm K mg C) (N : NotFn K C) (h : EvR te σ H (vF K C p F)) : EvR (tCB (rIsi K) (tCons te (tCons (tC (.ty "tuple")) tNil))) σ H (vB false) := fun H1 e1 Q q => h H1 e1 _ fun v H2 e2 hv => by
  obtain ⟨a, dx, t, b, rfl, h2, _⟩ := id hv
  exact ⟨.ref a, .ty "tuple", .ref C, _, false, rfl, .ty "tuple", .base (TyOf.ins h2 cf.ins.cl cf.ins.ha cf.ins.hn cf.ins.htk cf.ins.hm), N.ft, q _ H2 e2 rfl⟩
end
section
variable {P : Program} {w : World} {K : PySem.W.Frag} {mg : Str → Option Value} {base : Heap} {C CN CP CF CO : Addr}
inductive NumX (K : PySem.W.Frag) (C CN : Addr) (vs : List V) (H : Hp) (E : XK) : Prop
  | prime {v n : V} {d : PyData} : vs = [.ref C, v, n] → (vD K d).R v H → BadP d → Given CN v H E → NumX K C CN vs H E
  | number {n : V} {p : Int} {d : PyData} : vs = [.ref C, .int p, n] → Pr p → (vD K d).R n H → isInt d = false → Given CN n H E → NumX K C CN vs H E
def sp_F_numberX (K : PySem.W.Frag) (C CN : Addr) : Sp := fun vs H _ E => NumX K C CN vs H E
theorem ok_F_numberX {f : Addr} {fd : FuncData} (F : Fun K "number" "Function.number" s_F_number f fd) (B : Bis mg) (R : Rn P w K mg base CN) (D_check_prime : De P w K mg base "check_prime" ["prime"] 2 (sp_check_prime K)) (D_is_integer : De P w K mg base "is_integer" ["value"] 1 (sp_is_integer K))
    (X_check_prime : DeX P w K mg base "check_prime" ["prime"] 4 (sp_check_primeX K CN)) : FnOk P w K mg base (L2.CX P w) 9 f fd ["cls", "prime", "number"] (sp_F_numberX K C CN) := by
  refine F.okX sc_F_number (fun vs H Q E h => ?_) (fun cdv A outer s H vs Q E hr h => ?_)
  · cases h <;> subst_vars <;> rfl
  · cases h with
    | @prime v n d h1 h2 h3 k =>
      subst h1
      refine ⟨_, (pss_cons (ps_expr (pe_call X_check_prime.ok (hr.mono (by decide)) (by rfl) X_check_prime.g X_check_prime.kp X_check_prime.b .nil (passes_call (takes_of rfl rfl rfl rfl) (fun _ _ _ _ h => h)) (pa_cons (pv 1) pa_nil))) pss_never), ?_⟩
      exact ⟨v, rfl, v, d, rfl, h2, h3, k⟩
    | @number n p d h1 hp h2 h3 k =>
      subst h1
      refine ⟨_, (pss_cons (ps_expr (pe_call D_check_prime.ok (hr.mono (by decide)) (by rfl) D_check_prime.g D_check_prime.kp D_check_prime.b .nil pass0 (pa_cons (pv 1) pa_nil)))
        (pss_cons (ps_if (pt_not (pt_val (pe_call D_is_integer.ok (hr.mono (by decide)) (by rfl) D_is_integer.g D_is_integer.kp D_is_integer.b .nil pass0 (pa_cons (pv 2) pa_nil)))) (pss_one (ps_raise rfl (takes_of rfl rfl rfl rfl) (pmk_g R.T R.iC R.tI R.ok (hr.mono (by decide)) R.b .nil pass0 rfl R.gC (pa_cons (pv 2) pa_nil)))) pss_nil) pss_never)), ?_⟩
      refine qr_drop (evr_call p hp (evrs_cons (evr_var rfl rfl) evrs_nil)) fun H1 e1 => ?_
      refine Evl.q_when (Evl.et_not (et_b (evr_call d trivial (evrs_cons (evr_var rfl (up h2 e1)) evrs_nil)))) (fun _ H2 e2 => sr_given (evr_var rfl rfl) (k.ex (e1.trans e2))) (fun hb H2 e2 => ?_)
      have hb2 : (!isInt d) = false := hb
      rw [h3] at hb2
      cases hb2
def sp_F_letterX (K : PySem.W.Frag) (C CN : Addr) : Sp := fun vs H _ E => ∃ v d, vs = [.ref C, v] ∧ (vD K d).R v H ∧ BadP d ∧ Given CN v H E
theorem ok_F_letterX {f : Addr} {fd : FuncData} (F : Fun K "letter" "Function.letter" s_F_letter f fd) (B : Bis mg) (cf : CFm K mg C) (X___init__ : DmX P w K mg base C "__init__" ["self", "prime", "top", "bottom"] 7 (sp_F___init__X K CN CP CO)) : FnOk P w K mg base (L2.CX P w) 9 f fd ["cls", "prime"] (sp_F_letterX K C CN) := by
  refine F.okX sc_F_letter (fun vs H Q E h => ?_) (fun cdv A outer s H vs Q E hr h => ?_)
  · obtain ⟨_, _, rfl, _⟩ := h
    rfl
  · obtain ⟨v, d, rfl, h2, h3, k⟩ := h
    refine ⟨_, (pss_one (ps_ret (pe_makeL (i := 0) (C := C) (cf.mkr X___init__.own) X___init__.ok (hr.mono (by decide)) (by rfl) (Or.inl rfl) X___init__.b .nil (passes_call (takes_of rfl rfl rfl rfl) (fun _ _ _ _ h => h)) (pa_cons (pv 1) (pa_cons (pe_tup (pa_cons pe_int (pa_cons pe_int pa_nil))) (pa_cons (pe_tup (pa_cons pe_int pa_nil)) pa_nil)))))), ?_⟩
    exact ⟨rfl, rx_prime (evrs_cons (evr_var (r := vC v) rfl rfl) (evrs_cons (evr_k01 (K := K)) (evrs_cons (evr_k1 (K := K)) evrs_nil))) h2 h3 k _⟩
/-! ### functions -/
def NoFn (K : PySem.W.Frag) (v : V) (H : Hp) : Prop := ∃ (r : VR) (m : String), r.R v H ∧ vTy K m r ∧ m ∈ ["NoneType", "bool", "int", "str", "list", "tuple", "dict"]
theorem NoFn.ex {v : V} {H H' : Hp} (h : NoFn K v H) (e : Ex H H') : NoFn K v H' := let ⟨r, m, h1, h2, h3⟩ := h; ⟨r, m, r.st e h1, h2, h3⟩
/-- one that is a function, or is refused -/
def sp_check_functionX (K : PySem.W.Frag) (C CF : Addr) : Sp := fun vs H Q E => ∃ v, vs = [v] ∧ ((∃ p F, (vF K C p F).R v H ∧ ∀ H', Ex H H' → Q .non H') ∨ (NoFn K v H ∧ Said CF H E))
theorem ok_check_functionX {f : Addr} {fd : FuncData} (F : Fun K "check_function" "check_function" s_check_function f fd) (B : Bis mg) (cf : CFm K mg C) (N : NotFn K C) (R : Rz K mg "InvalidFunction" CF) : FnOk P w K mg base (L2.CX P w) 1 f fd ["function"] (sp_check_functionX K C CF) := by
  refine F.okX sc_check_function (fun vs H Q E h => ?_) (fun cdv A outer s H vs Q E hr h => ?_)
  · obtain ⟨_, rfl, _⟩ := h
    rfl
  · obtain ⟨v, rfl, h⟩ := h
    refine ⟨_, (pss_one (ps_if (pt_not (pt_val (pe_callB (id := "isinstance") (r := rIsi K) call_isi (by rfl) (B "isinstance" (by decide +kernel)) (by decide +kernel) (pa_cons (pv 0) (pa_cons (pe_glob (v := .ref C) (by rfl) cf.mg rfl) pa_nil))))) (pss_one (ps_raise rfl (takes_of rfl rfl rfl rfl) (pmk_own PySem.F.excBase_ValueError R.q R.gC R.kC (raises_own R.ex R.ty) rfl))) pss_nil)), ?_⟩
    rcases h with ⟨p, F0, hv, q⟩ | ⟨⟨r, m, h1, h2, h3⟩, k⟩
    · exact Evl.s_when (Evl.et_not (et_b (evr_isF cf (evr_var rfl hv)))) (fun hb H1 e1 => by cases hb) (fun hb H1 e1 => q H1 e1)
    · exact Evl.s_when (Evl.et_not (et_b (evr_isN N (evr_var rfl h1) h2 h3))) (fun hb H1 e1 => k H1 e1) (fun hb H1 e1 => by cases hb)
end
end K0
namespace K0
open PySem PySem.Spec PyProof.Rows L2 Kt M LamX
open Evl (Ex Ev EvL EvU EvT EvA EvO ex_l ex_t sq_of st_of sz_of sz_lt fresh_back given)
/-! ## bundles for the law's own defs -/
structure Met (K : PySem.W.Frag) (mg : Str → Option Value) (CP CF CO CN : Addr) where
  f : Addr
  fd : FuncData
  F : Fun K "_law_met" "_law_met" s__law_met f fd
  hm : mg "_law_met" = some (.ref f)
  M : MetK K CP CF CO CN
  mP : mg "InvalidPoly" = some (.ref CP)
  mF : mg "InvalidFunction" = some (.ref CF)
  mO : mg "InvalidOperation" = some (.ref CO)
  mN : mg "InvalidNumber" = some (.ref CN)
/-- the caller's code object and its table -/
structure CodeT (base : Heap) (mg : Str → Option Value) (T : List (Addr × Str)) (q : Str) (c Pt : Addr) : Prop where
  tb : LamX.TabB base mg c Pt
  mem : (Pt, q) ∈ T
  one : ∀ p ∈ T, p.1 = Pt → p.2 = q
section
variable {X : Cx} {CP CF CO CN : Addr} {g : List Code}
theorem pe_metB {T : List (Addr × Str)} {c Pt : Addr} {k : Nat} {params : Arguments} {body : Expr} {scope : Scope} {t : XK → TE} {p lpos pos : Pos} (Mx : Met X.K X.mg CP CF CO CN) (W : CodeT X.base X.mg T (X.env.qual ++ "<lambda>") c Pt) (hcode : X.env.code = .ref c) (hg : X.A.guards = some g) (hr : Room (k + 2) X.A) (B : Bis X.mg)
    (hgl : Gl X "_law_met") (L : LamS X.env.scope scope) (hdef : defaultsOf params X.env = ([], []))
    (hbind : ∀ (q : Str) (cl : List (Str × Addr)) (pm cv ctv : Value), bindArgs (PySem.W.kla_fn "<lambda>" q params body scope cl pm cv ctv) ⟨[], []⟩ = pure [])
    (hbody : ∀ (A : Around) (outer : List Env) (s : Shared) (H : Hp) (E : XK) (f c' : Addr), Room k (A.deeper (lamEnv X scope s.heap.objs.size f c')) → PE (lamCx X A outer s H E scope f c') body (t E)) :
    PE X (.Call (.Name "_law_met" p) [.Lambda params body scope lpos] [] pos) (tLam T (TTmet g X.K CP CF CO CN) t) :=
  pe_met Mx.F hgl Mx.hm hg hr B Mx.M Mx.mP Mx.mF Mx.mO Mx.mN W.tb hcode W.mem W.one L hdef hbind hbody
end
theorem DkX.fnr {P : Program} {w : World} {K : PySem.W.Frag} {mg : Str → Option Value} {base : Heap} {C : Addr} {m : Str} {ps : List Str} {k : Nat} {sp : Sp} (M : DkX P w K mg base C m ps k sp) : FnR P w K mg base (L2.CX P w) k M.f sp := (M.ok.raw M.b .nil).imp fun vs H Q E h => by
  rw [List.append_nil]
  exact h
/-! ## repr -/
def rSay (g : List Code) (K : PySem.W.Frag) : List V → Hp → VK → Prop := fun vs H Q => ∃ v t, vs = [v] ∧ Say g K H v t ∧ Q (.str t) H
theorem call_sayR {X : Cx} {g : List Code} (hg : X.A.guards = some g) (hu : X.A.units + 64 < cLine) : CallR X (.builtin "repr") (rSay g X.K) := call_say hg hu
theorem evr_say {g : List Code} {K : PySem.W.Frag} {σ : L2.St} {H : Hp} {te : TE} {v : V} {t : Str} (h : EvR te σ H (vC v)) (hs : Say g K H v t) : EvR (tCB (rSay g K) (tCons te tNil)) σ H (vS t) := fun H1 e Q q => h H1 e _ fun v' H2 e2 hv => by
  obtain rfl : v' = v := hv
  exact ⟨v', t, rfl, say_ex (e.trans e2) hs, q _ H2 e2 rfl⟩
/-! ## drawn things -/
/-- stable while the bag changes -/
def SB (r : VR) : Prop := ∀ (l : Addr) (v : V) (H H' : Hp), Bag l H → ExB l H H' → r.R v H → r.R v H'
theorem sb_C {c : V} : SB (vC c) := fun _ _ _ _ _ _ h => h
theorem sb_P {K : PySem.W.Frag} {ns : List Int} : SB (vP K ns) := fun _ _ _ _ hb e h => vP_exB h hb e
theorem rd_exB {l a : Addr} {H H' : Hp} {u : HO} (hb : Bag l H) (e : ExB l H H') (hu : ∀ b0 b1 b2 : Int, u ≠ .lst [.int b0, .int b1, .int b2]) (h : Rd H a u) : Rd H' a u := by
  obtain ⟨b0, b1, b2, hl⟩ := hb
  rcases h with h | ⟨o, h⟩
  · refine .inl (e _ _ (fun z => ?_) h)
    rw [z, hl] at h
    exact hu _ _ _ (Option.some.inj h).symm
  · refine .inr ⟨o, e _ _ (fun z => ?_) h⟩
    rw [z, hl] at h
    cases h
theorem sb_alls {rs : List VR} (h : ∀ r ∈ rs, SB r) {l : Addr} {H H' : Hp} (hb : Bag l H) (e : ExB l H H') : ∀ {vs : List V}, Alls rs vs H → Alls rs vs H' := by
  induction rs with
  | nil => exact fun h => h
  | cons r rs ih => exact fun ⟨v, ws, h1, h2, h3⟩ => ⟨v, ws, h1, h r (.head _) _ _ _ _ hb e h2, ih (fun r hr => h r (.tail _ hr)) h3⟩
theorem sb_T {K : PySem.W.Frag} {rs : List VR} (h : ∀ r ∈ rs, SB r) : SB (vT K rs) := fun _ _ _ _ hb e ⟨a, xs, h1, h2, h3⟩ => ⟨a, xs, h1, h2.imp (rd_exB hb e nofun) id, sb_alls h hb e h3⟩
/-- a list made by the law, never three numbers -/
def vNw (rs : List VR) : VR := ⟨fun v H => ∃ a xs, v = .ref a ∧ H a = some (.lst xs) ∧ Alls rs xs H, fun e ⟨a, xs, h1, h2, h3⟩ => ⟨a, xs, h1, e _ _ h2, h3.mono e⟩⟩
theorem sn_Nw {rs : List VR} (h : ∀ r ∈ rs, SN r) : SN (vNw rs) := fun _ _ _ e ⟨a, xs, h1, h2, h3⟩ => ⟨a, xs, h1, e _ _ h2 nofun, sn_alls h e h3⟩
theorem sb_Nw {rs : List VR} (hn : rs.length ≠ 3) (h : ∀ r ∈ rs, SB r) : SB (vNw rs) := fun l _ H H' hb e ⟨a, xs, h1, h2, h3⟩ => ⟨a, xs, h1, by
  obtain ⟨b0, b1, b2, hl⟩ := id hb
  refine e _ _ (fun z => ?_) h2
  rw [z, hl] at h2
  have z2 := (HO.lst.inj (Option.some.inj h2)).symm
  have z3 := h3.len
  rw [z2] at z3
  exact hn z3.symm, sb_alls h hb e h3⟩
theorem evr_nw {σ : L2.St} {H : Hp} {te : TE} {rs : List VR} (h : EvM te σ H rs) : EvR te σ H (vNw rs) := fun H1 e Q q => h H1 e Q fun p xs H2 _ e2 h2 ha => q _ H2 e2 ⟨p, xs, rfl, h2, ha⟩
def vDk : VR := ⟨fun v H => ∃ a, v = .ref a ∧ H a = some (.dK []), fun e ⟨a, h1, h2⟩ => ⟨a, h1, e _ _ h2⟩⟩
theorem sn_Dk : SN vDk := fun _ _ _ e ⟨a, h1, h2⟩ => ⟨a, h1, e _ _ h2 nofun⟩
theorem sb_Dk : SB vDk := fun l _ H H' hb e ⟨a, h1, h2⟩ => ⟨a, h1, by
  obtain ⟨b0, b1, b2, hl⟩ := hb
  refine e _ _ (fun z => ?_) h2
  rw [z, hl] at h2
  cases h2⟩
def sp__law_one_ofV (_ : PySem.W.Frag) : Sp := fun vs H Q _ => ∃ (l a : Addr) (xs : List V), vs = [.ref l, .ref a] ∧ a ≠ l ∧ Bag l H ∧ H a = some (.lst xs) ∧ xs ≠ [] ∧ xs.length ≤ 1000 ∧ ∀ v H', v ∈ xs → ExB l H H' → Bag l H' → Q v H'
section
variable {P : Program} {w : World} {K : PySem.W.Frag} {mg : Str → Option Value} {base : Heap}
theorem ok__law_one_ofV {f : Addr} {fd : FuncData} (F : Fun K "_law_one_of" "_law_one_of" s__law_one_of f fd) (B : Bis mg)  (D__law_grab : De P w K mg base "_law_grab" ["bag", "total"] 1 (sp__law_grab K)) : FnOk P w K mg base CX0 2 f fd ["bag", "items"] (sp__law_one_ofV K) := by
  refine F.ok sc__law_one_of (fun vs H Q E h => ?_) (fun cdv A outer s H vs Q E hr h => ?_)
  · obtain ⟨_, _, _, rfl, _⟩ := h
    rfl
  · obtain ⟨l, a, xs, rfl, hne, hb, hs, hn, hz, q⟩ := h
    refine ⟨_, (pss_one (ps_ret (pe_ix (r := rIxL K) ix_list (pv 1) (pe_call D__law_grab.ok (hr.mono (by decide)) (by rfl) D__law_grab.g D__law_grab.kp D__law_grab.b .nil pass0 (pa_cons (pv 0) (pa_cons (pe_callB call_len_seq (by rfl) (B "len" (by decide +kernel)) (by decide +kernel) (pa_cons (pv 1) pa_nil)) pa_nil))) (fun _ _ => rfl)))), ?_⟩
    have hpos := List.length_pos_iff.mpr hn
    refine ⟨.ref a, rfl, .ref l, rfl, .ref a, rfl, a, _, rfl, .inl (sq_of hs), ?_⟩
    refine ⟨l, (xs.length : Int), rfl, hb, by omega, ?_, fun r H' h0 h1 eB hb' => ?_⟩
    · have : (xs.length : Int).natAbs ≤ 1000 := by omega
      exact Nat.lt_of_le_of_lt this (by decide)
    · obtain ⟨k, rfl⟩ := Int.eq_ofNat_of_zero_le h0
      have hr : k < xs.length := by omega
      exact ⟨a, _, (k : Int), xs[k], rfl, rfl, sq_of (eB a _ hne hs), atI_nat (List.getElem?_eq_getElem hr), q _ H' (List.getElem_mem hr) eB hb'⟩
end
section
variable {K : PySem.W.Frag} {σ : L2.St} {H : Hp} {ta : TA} {tz : TS} {D : Ends} {j : Nat} {l : Addr} {rs : List VR} {E : XK}
/-- x = _law_one_of(bag, [..]) -/
theorem qb_oneof (h0 : σ[0]? = some (some (.ref l))) (hb : Bag l H) (h : EvRs ta σ H rs) (hn : rs ≠ []) (hz : rs.length ≤ 1000) (hs : ∀ r ∈ rs, SB r) (k : ∀ v H1, (∃ r ∈ rs, r.R v H1) → ExB l H H1 → Bag l H1 → tz D (σ.set j (some v)) H1) :
    tSeq (tAsg (tCall (sp__law_one_ofV K) [] E (tCons (tVar 0) (tCons (tLst ta) tNil))) (gName j)) tz D σ H := by
  refine ⟨.ref l, h0, h H (Ex.refl H) _ fun vs H1 e1 hvs => ⟨sz_of (by rw [hvs.len]; omega), fun p hp => ?_⟩⟩
  have e2 : Ex H1 (upd H1 p (.lst vs)) := Ex.new hp
  have hb2 : Bag l (upd H1 p (.lst vs)) := hb.ex (e1.trans e2)
  have hvs2 := hvs.mono e2
  refine ⟨l, p, vs, rfl, fun z => ?_, hb2, upd_same, fun z => hn ?_, by rw [hvs.len]; exact hz, fun v H' hv eB hb' => ?_⟩
  · obtain ⟨b0, b1, b2, hl⟩ := hb.ex e1
    rw [z, hl] at hp
    cases hp
  · have := hvs.len
    rw [z] at this
    exact List.eq_nil_of_length_eq_zero this.symm
  · obtain ⟨i, hi, rfl⟩ := List.getElem_of_mem hv
    obtain ⟨r, hr, hrv⟩ := Alls.one hvs2 (List.getElem?_eq_getElem hi)
    have hm := List.mem_of_getElem? hr
    exact k _ H' ⟨r, hm, hs r hm l _ _ _ hb2 eB hrv⟩ ((ExB.of (e1.trans e2)).trans eB) hb'
end
end K0
namespace K0
open PySem PySem.Spec PyProof.Rows L2 Kt M LamX
open Evl (Ex Ev EvL EvU EvT EvA EvO ex_l ex_t sq_of st_of sz_of sz_lt fresh_back given)
/-! ## texts -/
structure Tx (t : Str) : Prop where
  ok : PyData.strOk t = true
  l : t.length ≤ 1000
theorem strOk_app {x y : Str} (hx : PyData.strOk x = true) (hy : PyData.strOk y = true) : PyData.strOk (x ++ y) = true := by
  unfold PyData.strOk at *
  show (x.cps ++ y.cps).all _ = true
  rw [Array.all_append, hx, hy]
  rfl
theorem num_ne (t : Str) : ("number " : Str) ++ t ≠ "" := fun z => by
  have := congrArg Str.length z
  rw [strLen_append] at this
  have h1 : ("number " : Str).length = 7 := by decide +kernel
  have h2 : ("" : Str).length = 0 := by decide +kernel
  omega
theorem num_ok {t : Str} (h : Tx t) : PyData.strOk (("number " : Str) ++ t) = true := strOk_app (by decide +kernel) h.ok
/-! ## the drawn values -/
section
variable {g : List Code} {K : PySem.W.Frag} {H : Hp} {v : V}
def rsPrime (K : PySem.W.Frag) : List VR := [vN, vI 0, vI 4, vI (-2), vI 11, vB true, vS "3", vP K [3], vI (10 ^ 60), vNw []]
def rsPoly (K : PySem.W.Frag) : List VR := [vN, vI 3, vP K [0], vP K [3], vP K [1, -1], vT K [vB true], vNw [vI 1], vS "x", vP K (List.replicate 62 1), vT K [vN], vDk, vP K [1, 0]]
def rsNumber (K : PySem.W.Frag) : List VR := [vN, vB true, vS "1", vP K [1], vI (10 ^ 60), vI (0 - 10 ^ 60), vNw []]
theorem say_c {c : V} (h : (vC c).R v H) (ok : ScOk c) : Say g K H v (scText c) := by
  obtain rfl : v = c := h
  exact .sc ok
theorem say_P {n : Int} (h : (vP K [n]).R v H) (ok : n.natAbs.log2 < 1920) (h1 : Tx (tupleText [toString n])) : ∃ t, Say g K H v t ∧ Tx t := by
  obtain ⟨a, rfl, hs⟩ := h
  refine ⟨_, .tup hs (fun x hx => ?_) (by show (tupleText [toString n]).length ≤ sizeLine; rw [sizeLine_eq]; have := h1.l; omega), ?_⟩
  · obtain rfl := List.mem_singleton.mp hx
    exact ok
  · unfold tupSay
    split
    · exact ⟨by decide +kernel, by decide +kernel⟩
    · exact h1
theorem say_nw (h : (vNw []).R v H) : Say g K H v "[]" := by
  obtain ⟨a, xs, rfl, h1, h2⟩ := h
  obtain rfl : xs = [] := h2
  exact .nil (sq_of h1)
theorem dp_nw (h : (vNw []).R v H) : (vD K (.list [])).R v H := by
  obtain ⟨a, xs, rfl, h1, h2⟩ := h
  obtain rfl : xs = [] := h2
  exact .lst (sq_of h1) .nil
theorem dp_c {c : V} {d : PyData} (h : (vC c).R v H) (hd : ∀ H, Dp K H c d) : (vD K d).R v H := by
  obtain rfl : v = c := h
  exact hd H
/-- no prime, with its text -/
theorem prime_ok (h : ∃ r ∈ rsPrime K, r.R v H) : ∃ d t, (vD K d).R v H ∧ BadP d ∧ Say g K H v t ∧ Tx t := by
  obtain ⟨r, hr, h⟩ := h
  have kI : ∀ n : Int, n.natAbs.log2 < 1920 → n ∉ ([2, 3, 5, 7] : List Int) → Tx (toString n) → (vI n).R v H → ∃ d t, (vD K d).R v H ∧ BadP d ∧ Say g K H v t ∧ Tx t := fun n h1 h2 h3 h => ⟨.int n, toString n, dp_c h fun _ => .int n, .inr ⟨n, rfl, h2⟩, say_c (c := .int n) h h1, h3⟩
  simp only [rsPrime, List.mem_cons, List.not_mem_nil, or_false] at hr
  rcases hr with rfl | rfl | rfl | rfl | rfl | rfl | rfl | rfl | rfl | rfl
  · exact ⟨.none, "None", dp_c h fun _ => .non, .inl rfl, say_c (c := .non) h trivial, by decide +kernel, by decide +kernel⟩
  · exact kI 0 (by decide +kernel) (by decide) ⟨by decide +kernel, by decide +kernel⟩ h
  · exact kI 4 (by decide +kernel) (by decide) ⟨by decide +kernel, by decide +kernel⟩ h
  · exact kI (-2) (by decide +kernel) (by decide) ⟨by decide +kernel, by decide +kernel⟩ h
  · exact kI 11 (by decide +kernel) (by decide) ⟨by decide +kernel, by decide +kernel⟩ h
  · exact ⟨.bool true, "True", dp_c h fun _ => .bl true, .inl rfl, say_c (c := .bl true) h trivial, by decide +kernel, by decide +kernel⟩
  · exact ⟨.str "3", reprText "3", dp_c h fun _ => .str "3", .inl rfl, say_c (c := .str "3") h (by show (reprText "3").length ≤ sizeLine; rw [sizeLine_eq]; decide +kernel), by decide +kernel, by decide +kernel⟩
  · obtain ⟨t, h1, h2⟩ := say_P (g := g) h (by decide +kernel) ⟨by decide +kernel, by decide +kernel⟩
    exact ⟨dP [3], t, vP_D h, .inl rfl, h1, h2⟩
  · exact kI (10 ^ 60) (by decide +kernel) (by decide) ⟨by decide +kernel, by decide +kernel⟩ h
  · exact ⟨.list [], "[]", dp_nw h, .inl rfl, say_nw h, by decide +kernel, by decide +kernel⟩
theorem number_ok (h : ∃ r ∈ rsNumber K, r.R v H) : ∃ d t, (vD K d).R v H ∧ isInt d = false ∧ Say g K H v t ∧ Tx t := by
  obtain ⟨r, hr, h⟩ := h
  have kI : ∀ n : Int, n.natAbs.log2 < 1920 → isInt (.int n) = false → Tx (toString n) → (vI n).R v H → ∃ d t, (vD K d).R v H ∧ isInt d = false ∧ Say g K H v t ∧ Tx t := fun n h1 h2 h3 h => ⟨.int n, toString n, dp_c h fun _ => .int n, h2, say_c (c := .int n) h h1, h3⟩
  simp only [rsNumber, List.mem_cons, List.not_mem_nil, or_false] at hr
  rcases hr with rfl | rfl | rfl | rfl | rfl | rfl | rfl
  · exact ⟨.none, "None", dp_c h fun _ => .non, rfl, say_c (c := .non) h trivial, by decide +kernel, by decide +kernel⟩
  · exact ⟨.bool true, "True", dp_c h fun _ => .bl true, rfl, say_c (c := .bl true) h trivial, by decide +kernel, by decide +kernel⟩
  · exact ⟨.str "1", reprText "1", dp_c h fun _ => .str "1", rfl, say_c (c := .str "1") h (by show (reprText "1").length ≤ sizeLine; rw [sizeLine_eq]; decide +kernel), by decide +kernel, by decide +kernel⟩
  · obtain ⟨t, h1, h2⟩ := say_P (g := g) h (by decide +kernel) ⟨by decide +kernel, by decide +kernel⟩
    exact ⟨dP [1], t, vP_D h, rfl, h1, h2⟩
  · exact kI (10 ^ 60) (by decide +kernel) (by decide +kernel) ⟨by decide +kernel, by decide +kernel⟩ h
  · exact kI (0 - 10 ^ 60) (by decide +kernel) (by decide +kernel) ⟨by decide +kernel, by decide +kernel⟩ h
  · exact ⟨.list [], "[]", dp_nw h, rfl, say_nw h, by decide +kernel, by decide +kernel⟩
theorem dp_T1 {r : VR} {d : PyData} (h : (vT K [r]).R v H) (hr : ∀ x, r.R x H → Dp K H x d) : (vD K (.tuple [d])).R v H := by
  obtain ⟨a, xs, rfl, hs, x, w, rfl, hx, hw⟩ := h
  obtain rfl : w = [] := hw
  exact .tup hs (.cons (hr x hx) .nil)
theorem poly_ok (h : ∃ r ∈ rsPoly K, r.R v H) : ∃ o, (vO K o).R v H ∧ hpf 3 o = false := by
  obtain ⟨r, hr, h⟩ := h
  simp only [rsPoly, List.mem_cons, List.not_mem_nil, or_false] at hr
  rcases hr with rfl | rfl | rfl | rfl | rfl | rfl | rfl | rfl | rfl | rfl | rfl | rfl
  · exact ⟨.d .none, dp_c h fun _ => .non, rfl⟩
  · exact ⟨.d (.int 3), dp_c h fun _ => .int 3, rfl⟩
  · exact ⟨.d (dP [0]), vP_D h, by decide +kernel⟩
  · exact ⟨.d (dP [3]), vP_D h, by decide +kernel⟩
  · exact ⟨.d (dP [1, -1]), vP_D h, by decide +kernel⟩
  · exact ⟨.d (.tuple [.bool true]), dp_T1 h fun x hx => by obtain rfl : x = .bl true := hx; exact .bl true, by decide +kernel⟩
  · refine ⟨.d (.list [.int 1]), ?_, rfl⟩
    obtain ⟨a, xs, rfl, hs, x, w, rfl, hx, hw⟩ := h
    obtain rfl : w = [] := hw
    obtain rfl : x = .int 1 := hx
    exact .lst (sq_of hs) (.cons (.int 1) .nil)
  · exact ⟨.d (.str "x"), dp_c h fun _ => .str "x", rfl⟩
  · exact ⟨.d (dP (List.replicate 62 1)), vP_D h, by decide +kernel⟩
  · exact ⟨.d (.tuple [.none]), dp_T1 h fun x hx => by obtain rfl : x = .non := hx; exact .non, by decide +kernel⟩
  · exact ⟨.dict, h, rfl⟩
  · exact ⟨.d (dP [1, 0]), vP_D h, by decide +kernel⟩
theorem sb_rsPrime : ∀ r ∈ rsPrime K, SB r := by
  intro r hr
  simp only [rsPrime, List.mem_cons, List.not_mem_nil, or_false] at hr
  rcases hr with rfl | rfl | rfl | rfl | rfl | rfl | rfl | rfl | rfl | rfl
  all_goals first | exact sb_C | exact sb_P | exact sb_Nw (by decide) (fun r hr => nomatch hr)
theorem sb_rsNumber : ∀ r ∈ rsNumber K, SB r := by
  intro r hr
  simp only [rsNumber, List.mem_cons, List.not_mem_nil, or_false] at hr
  rcases hr with rfl | rfl | rfl | rfl | rfl | rfl | rfl
  all_goals first | exact sb_C | exact sb_P | exact sb_Nw (by decide) (fun r hr => nomatch hr)
theorem sb_rsPoly : ∀ r ∈ rsPoly K, SB r := by
  intro r hr
  simp only [rsPoly, List.mem_cons, List.not_mem_nil, or_false] at hr
  rcases hr with rfl | rfl | rfl | rfl | rfl | rfl | rfl | rfl | rfl | rfl | rfl | rfl
  all_goals first | exact sb_C | exact sb_P | exact sb_Dk | exact sb_T (fun r hr => by obtain rfl := List.mem_singleton.mp hr; exact sb_C) | exact sb_Nw (by decide) (fun r hr => by obtain rfl := List.mem_singleton.mp hr; exact sb_C)
theorem some_sb {rs : List VR} (hs : ∀ r ∈ rs, SB r) {l : Addr} {H' : Hp} (hb : Bag l H) (e : ExB l H H') (h : ∃ r ∈ rs, r.R v H) : ∃ r ∈ rs, r.R v H' := let ⟨r, hr, h⟩ := h; ⟨r, hr, hs r hr l v H H' hb e h⟩
end
end K0
namespace K0
open PySem PySem.Spec PyProof.Rows L2 Kt M LamX
open Evl (Ex Ev EvL EvU EvT EvA EvO ex_l ex_t sq_of st_of sz_of sz_lt fresh_back given)
def lamName (qual : Str) : Str := (envOfC qual (defScope s__law_met) 0 0 Value.none).qual ++ "<lambda>"
/-- all but the bag and the tables stays -/
def ExNB (l : Addr) (H H' : Hp) : Prop := ∀ b o, b ≠ l → H b = some o → (∀ ps, o ≠ .tbl ps) → H' b = some o
def sp__law_made_right (T : List (Addr × Str)) : Sp := fun vs H Q _ => ∃ l, vs = [.ref l] ∧ Bag l H ∧ Tabs T H ∧ ∀ H', ExNB l H H' → Bag l H' → Tabs T H' → Q (.bl true) H'
theorem ExNB.of {l : Addr} {H H1 H2 : Hp} (e : ExB l H H1) (e2 : ExtN H1 H2) : ExNB l H H2 := fun b o hb h hn => e2 b o (e b o hb h) hn
theorem bag_exN {l : Addr} {H H' : Hp} (h : Bag l H) (e : ExtN H H') : Bag l H' := by
  obtain ⟨b0, b1, b2, hl⟩ := h
  exact ⟨b0, b1, b2, e _ _ hl nofun⟩
theorem tabs_exB {T : List (Addr × Str)} {l : Addr} {H H' : Hp} (h : Tabs T H) (hb : Bag l H) (e : ExB l H H') : Tabs T H' := fun p hp => by
  obtain ⟨b0, b1, b2, hl⟩ := hb
  have ne : ∀ {b : Addr} {o : HO}, H b = some o → (∀ zs, o ≠ .lst zs) → H' b = some o := fun {b o} h n => e _ _ (fun z => by
    rw [z, hl] at h
    exact n _ (Option.some.inj h).symm) h
  obtain ⟨ps, h1, h2, h3⟩ := h p hp
  refine ⟨ps, ne h1 nofun, h2, fun pos cv hc => ?_⟩
  obtain ⟨c, e1, e2⟩ := h3 pos cv hc
  exact ⟨c, e1, ne e2 nofun⟩
section
variable {g : List Code} {K : PySem.W.Frag} {CN CP CF CO : Addr} {H1 : Hp} {E : XK} {Q : VK}
theorem Ends'.given {t : Str} {v : V} (k : Ends' g K CP CF CO CN H1 E Q (.num t)) (hs : Say g K H1 v t) : Given CN v H1 E := fun dd H' e hd => k dd v H' e hd (say_ex e hs)
theorem Ends'.poly' (k : Ends' g K CP CF CO CN H1 E Q .poly) : Said CP H1 E := fun H' e => k none H' e
theorem Ends'.func' (k : Ends' g K CP CF CO CN H1 E Q .func) : Said CF H1 E := fun H' e => k none H' e
theorem Ends'.oper' (k : Ends' g K CP CF CO CN H1 E Q .oper) : Said CO H1 E := fun H' e => k none H' e
end
/-! ## the words -/
def wd (w : Str) : List Str := if w = "" then ["fine"] else ["refused", w]
section
variable {K : PySem.W.Frag} {σ : L2.St} {H : Hp} {te tf : TE} {ta : TA} {ws : List Str} {x y : Str} {i j : Nat}
theorem alls_strs : ∀ {ws : List Str} {vs : List V}, Alls (ws.map vS) vs H → vs = ws.map V.str
  | [], _, h => h
  | w :: ws, _, ⟨v, us, h1, h2, h3⟩ => by
    have h2' : v = .str w := h2
    rw [h1, h2', alls_strs h3]
    rfl
theorem evr_dispW (h : EvRs ta σ H (ws.map vS)) (hl : ws.length ≤ 1000) : EvR (tTup ta) σ H (vW K ws) := fun H1 e Q q => h H1 e _ fun vs H2 e2 hvs => by
  have hv := alls_strs hvs
  subst hv
  exact ⟨by rw [List.length_map, sizeLine_eq]; omega, fun p hp => q _ _ (e2.trans (Ex.new hp)) ⟨p, rfl, st_of upd_same⟩⟩
/-- [('refused', word) if word != '' else ('fine',) for word in due] -/
theorem em_words {a : Addr} (hs : σ[i]? = some (some (.ref a))) (ha : H a = some (.lst (ws.map V.str))) (hz : ws.length ≤ 1000) (hj : ∀ x : V, (wipe σ [j]).set j (some x) = (wipe σ [j]).set j (some x)) (hv : ∀ x, wipe ((wipe σ [j]).set j (some x)) [j] = wipe σ [j]) (hjx : ∀ x : V, ((wipe σ [j]).set j (some x))[j]? = some (some x)) :
    EvM (tLc (iList K (tVar i)) (gName j) tYes (tIf (tTest (tOp rNe (tVar j) (tC (.str "")))) (tTup (tCons (tC (.str "refused")) (tCons (tVar j) tNil))) (tTup (tCons (tC (.str "fine")) tNil))) [j]) σ H (ws.map fun w => vW K (wd w)) := by
  have hal : Alls (ws.map vS) (ws.map V.str) H := by
    clear ha hz
    induction ws with
    | nil => rfl
    | cons w ws ih => exact ⟨_, _, rfl, rfl, ih⟩
  have hw := wk_list (K := K) (evr_var (σ := σ) (H := H) (i := i) (r := vC (.ref a)) hs rfl).ev (sq_of ha)
  rw [List.length_map] at hw
  refine em_comp (vs := [j]) (xs := ws.map V.str) (rs := ws.map vS) (by rw [List.length_map]; exact hw) hal (by simp) (by simp; omega) hv (fun o ho => ?_) (fun n r o x H1 hr ho e hx => ?_)
  · obtain ⟨w, _, rfl⟩ := List.mem_map.mp ho
    exact stab_W
  · rw [List.getElem?_map] at hr ho
    cases hz : ws[n]? with
    | none => rw [hz] at hr; cases hr
    | some w =>
      rw [hz] at hr ho
      obtain rfl := Option.some.inj hr
      obtain rfl := Option.some.inj ho
      have hx' : x = .str w := hx
      subst hx'
      refine evr_if (et_r (evr_op (evr_var (r := vS w) (hjx _) rfl) evr_c (op_neS rfl))) (fun hb => ?_) (fun hb => ?_)
      · have hne : ¬ w = "" := fun z => by rw [z] at hb; simp at hb
        show EvR _ _ _ (vW K (wd w))
        unfold wd
        rw [if_neg hne]
        exact evr_dispW (ws := ["refused", w]) (evrs_cons evr_c (evrs_cons (evr_var (r := vS w) (hjx _) rfl) evrs_nil)) (Nat.le_of_ble_eq_true rfl)
      · have he : w = "" := by
          have := hb
          simp at this
          exact this
        show EvR _ _ _ (vW K (wd w))
        unfold wd
        rw [if_pos he]
        exact evr_dispW (ws := ["fine"]) (evrs_cons evr_c evrs_nil) (Nat.le_of_ble_eq_true rfl)
end
section
variable {g : List Code} {K : PySem.W.Frag} {CN CP CF CO C : Addr} {t : XK → TE} {σ : L2.St} {H H' : Hp} {o : Oc} {T : List (Addr × Str)} {l : Addr} {H0 : Hp} {ws : List (List Str)} {ta : TA} {v n : V} {d : PyData} {p : Int} {E : XK} {r : VR}
theorem LamR.mono (h : LamR g K CP CF CO CN t σ H o) (e : ExtN H H') : LamR g K CP CF CO CN t σ H' o := fun H1 e1 => h H1 (e.trans e1)
theorem LamR.good (h : ∀ H1, ExtN H H1 → ∀ E, EvR (t E) σ H1 r) : LamR g K CP CF CO CN t σ H .fine := fun H1 e1 E Q k => h H1 e1 E H1 (Ex.refl H1) Q fun v H2 e2 _ => k v H2 e2
theorem Told.mono (I : Told K T l H0 H ws) (e : Ex H H') : Told K T l H0 H' ws := ⟨I.new, I.ext.trans (exN_of e), I.tabs.ext e, let ⟨vs, h1, h2⟩ := I.at_; ⟨vs, e _ _ h1, h2.mono e⟩⟩
theorem sn_O {o : OV} : SN (vO K o) := by
  cases o with
  | d x => exact sn_D
  | dict => exact sn_Dk
theorem rx_number (h : EvRs ta σ H [vC v, vC n]) (hd : (vD K d).R v H) (hb : BadP d) (k : Given CN v H E) (Q : VK) : ClX.tCMeth C (sp_F_numberX K C CN) E (tC (.ref C)) ta σ H Q := ⟨rfl, h H (Ex.refl H) _ fun vs H1 e1 hvs => by
  obtain ⟨v1, w1, rfl, rfl, v2, w2, rfl, rfl, hw⟩ := hvs
  obtain rfl : w2 = [] := hw
  exact .prime rfl ((vD K d).st e1 hd) hb (k.ex e1)⟩
theorem rx_number2 (h : EvRs ta σ H [vI p, vC n]) (hp : Pr p) (hd : (vD K d).R n H) (hb : isInt d = false) (k : Given CN n H E) (Q : VK) : ClX.tCMeth C (sp_F_numberX K C CN) E (tC (.ref C)) ta σ H Q := ⟨rfl, h H (Ex.refl H) _ fun vs H1 e1 hvs => by
  obtain ⟨v1, w1, rfl, rfl, v2, w2, rfl, rfl, hw⟩ := hvs
  obtain rfl : w2 = [] := hw
  exact .number rfl hp ((vD K d).st e1 hd) hb (k.ex e1)⟩
theorem rx_letter (h : EvRs ta σ H [vC v]) (hd : (vD K d).R v H) (hb : BadP d) (k : Given CN v H E) (Q : VK) : ClX.tCMeth C (sp_F_letterX K C CN) E (tC (.ref C)) ta σ H Q := ⟨rfl, h H (Ex.refl H) _ fun vs H1 e1 hvs => by
  obtain ⟨v1, w1, rfl, rfl, hw⟩ := hvs
  obtain rfl : w1 = [] := hw
  exact ⟨v1, d, rfl, (vD K d).st e1 hd, hb, k.ex e1⟩⟩
theorem wd_num (t : Str) : wd (("number " : Str) ++ t) = [("refused" : Str), ("number " : Str) ++ t] := if_neg (num_ne t)
theorem wd_poly : wd "poly" = [("refused" : Str), "poly"] := if_neg (by decide +kernel)
theorem wd_func : wd "function" = [("refused" : Str), "function"] := if_neg (by decide +kernel)
theorem wd_oper : wd "operation" = [("refused" : Str), "operation"] := if_neg (by decide +kernel)
theorem wd_fine : wd "" = [("fine" : Str)] := if_pos rfl
theorem okW_of {us : List Str} (h : ∀ u ∈ us, PyData.strOk u = true) : okW (us.map wd) := fun w hw x hx => by
  obtain ⟨u, hu, rfl⟩ := List.mem_map.mp hw
  unfold wd at hx
  split at hx
  · obtain rfl := List.mem_singleton.mp hx
    decide +kernel
  · rcases List.mem_cons.mp hx with rfl | hx
    · decide +kernel
    · obtain rfl := List.mem_singleton.mp hx
      exact h _ hu
theorem pr3 : Pr 3 := .inr (.inl rfl)
theorem pr5 : Pr 5 := .inr (.inr (.inl rfl))
theorem red_rep {n : Nat} {x : Int} (h : 0 ≤ x ∧ x < 3) : Red 3 (List.replicate n x) := fun y hy => by
  obtain rfl := List.eq_of_mem_replicate hy
  exact h
theorem polyOk {ns : List Int} (h1 : Red 3 ns) (h2 : trim ns = ns) (h3 : ns.length ≤ 61) : PolyOk 3 ns := ⟨h1, h2, h3⟩
end
section
variable {P : Program} {w : World} {K : PySem.W.Frag} {mg : Str → Option Value} {base : Heap} {C CP CF CO CN c Pt : Addr} {T : List (Addr × Str)}
end
end K0
namespace K0
open PySem PySem.Spec PyProof.Rows L2 Kt M LamX
open Evl (Ex Ev EvL EvU EvT EvA EvO ex_l ex_t sq_of st_of sz_of sz_lt fresh_back given)
/-! ## functions while tables grow or the bag changes -/
section
variable {K : PySem.W.Frag} {C CN CP CF CO : Addr} {p q : Int} {F G : PF} {σ : L2.St} {H : Hp} {x y : V} {i j : Nat} {sp : Sp} {E : XK} {Q : VK} {te tk : TE} {rs : List VR} {g : List Code} {v : V}
theorem sn_F : SN (vF K C p F) := fun _ _ _ e ⟨a, dx, t, b, h1, h2, h3, h4⟩ => ⟨a, dx, t, b, h1, e _ _ h2 nofun, exN_t e h3, exN_t e h4⟩
theorem sb_F : SB (vF K C p F) := fun l _ H H' hb e ⟨a, dx, t, b, h1, h2, h3, h4⟩ => by
  have h5 : H' a = some (.ins C dx (ffs p t b)) := by
    obtain ⟨b0, b1, b2, hl⟩ := id hb
    refine e _ _ (fun z => ?_) h2
    rw [z, hl] at h2
    cases h2
  exact ⟨a, dx, t, b, h1, h5, h3.imp (rd_exB hb e nofun) id, h4.imp (rd_exB hb e nofun) id⟩
theorem rx_own2 (hi : σ[i]? = some (some x)) (hj : σ[j]? = some (some y)) (hx : (vF K C p F).R x H) (hy : (vF K C q G).R y H) (h : sp [x, y] H Q E) : tOp (rOwn2 C sp E) (tVar i) (tVar j) σ H Q := by
  obtain ⟨a, dx, t, b, rfl, h2, _⟩ := id hx
  obtain ⟨a', dx', t', b', rfl, h2', _⟩ := id hy
  exact ⟨_, hi, _, hj, a, dx, _, a', dx', _, rfl, rfl, h2, h2', h⟩
theorem rx_ownI {n : Int} (hi : σ[i]? = some (some x)) (hx : (vF K C p F).R x H) (h : sp [x, .int n] H Q E) : tOp (rOwnI C sp E) (tVar i) (tC (.int n)) σ H Q := by
  obtain ⟨a, dx, t, b, rfl, h2, _⟩ := id hx
  exact ⟨_, hi, a, dx, _, n, rfl, rfl, h2, h⟩
theorem rx_meth0 {m : Str} (hm : ∀ t b, (ffs p t b).lookup m = none) (hi : σ[i]? = some (some x)) (hx : (vF K C p F).R x H) (h : sp [x] H Q E) : tMeth C m sp [] E (tVar i) tNil σ H Q := by
  obtain ⟨a, dx, t, b, rfl, h2, _⟩ := id hx
  exact ⟨_, hi, a, dx, _, rfl, h2, hm t b, h⟩
theorem alls_rep : ∀ {n : Nat} {vs : List V}, Alls rs vs H → Alls (List.replicate n rs).flatten (List.replicate n vs).flatten H
  | 0, _, _ => rfl
  | n + 1, vs, h => by
    rw [List.replicate_succ, List.replicate_succ, List.flatten_cons, List.flatten_cons]
    exact Alls.append h (alls_rep h)
theorem em_rep {k : Int} (h : EvM te σ H rs) (hk : 0 ≤ k ∧ k ≤ 100) (hz : rs.length ≤ 100) : EvM (tOp rRep te (tC (.int k))) σ H (List.replicate k.toNat rs).flatten := fun H1 e Q q => h H1 e _ fun p xs H2 hp e2 h2 ha =>
  ⟨p, k, xs, rfl, rfl, h2, by omega, by omega, by
    rw [ha.len, sizeLine_eq]
    have : rs.length * k.toNat ≤ 100 * 100 := Nat.mul_le_mul hz (by omega)
    omega, fun p' hp' => q p' _ _ (fresh_back e2 hp') (e2.trans (Ex.new hp')) upd_same ((alls_rep ha).mono (Ex.new hp'))⟩
def rsTimes (K : PySem.W.Frag) : List VR := [vN, vI (-1), vI 21, vB true, vS "1", vP K [1], vI (10 ^ 60)]
theorem times_ok (h : ∃ r ∈ rsTimes K, r.R v H) : ∃ d t, (vD K d).R v H ∧ isWithin d 0 20 = false ∧ Say g K H v t ∧ Tx t := by
  obtain ⟨r, hr, h⟩ := h
  have kI : ∀ n : Int, n.natAbs.log2 < 1920 → isWithin (.int n) 0 20 = false → Tx (toString n) → (vI n).R v H → ∃ d t, (vD K d).R v H ∧ isWithin d 0 20 = false ∧ Say g K H v t ∧ Tx t := fun n h1 h2 h3 h => ⟨.int n, toString n, dp_c h fun _ => .int n, h2, say_c (c := .int n) h h1, h3⟩
  simp only [rsTimes, List.mem_cons, List.not_mem_nil, or_false] at hr
  rcases hr with rfl | rfl | rfl | rfl | rfl | rfl | rfl
  · exact ⟨.none, "None", dp_c h fun _ => .non, rfl, say_c (c := .non) h trivial, by decide +kernel, by decide +kernel⟩
  · exact kI (-1) (by decide +kernel) (by decide +kernel) ⟨by decide +kernel, by decide +kernel⟩ h
  · exact kI 21 (by decide +kernel) (by decide +kernel) ⟨by decide +kernel, by decide +kernel⟩ h
  · exact ⟨.bool true, "True", dp_c h fun _ => .bl true, rfl, say_c (c := .bl true) h trivial, by decide +kernel, by decide +kernel⟩
  · exact ⟨.str "1", reprText "1", dp_c h fun _ => .str "1", rfl, say_c (c := .str "1") h (by show (reprText "1").length ≤ sizeLine; rw [sizeLine_eq]; decide +kernel), by decide +kernel, by decide +kernel⟩
  · obtain ⟨t, h1, h2⟩ := say_P (g := g) h (by decide +kernel) ⟨by decide +kernel, by decide +kernel⟩
    exact ⟨dP [1], t, vP_D h, rfl, h1, h2⟩
  · exact kI (10 ^ 60) (by decide +kernel) (by decide +kernel) ⟨by decide +kernel, by decide +kernel⟩ h
theorem sb_rsTimes : ∀ r ∈ rsTimes K, SB r := by
  intro r hr
  simp only [rsTimes, List.mem_cons, List.not_mem_nil, or_false] at hr
  rcases hr with rfl | rfl | rfl | rfl | rfl | rfl | rfl
  all_goals first | exact sb_C | exact sb_P
end
section
variable {K : PySem.W.Frag} {C CN CP CF CO : Addr} {p q : Int} {F G : PF} {σ : L2.St} {H H' : Hp} {x y : V} {i j : Nat} {sp : Sp} {E : XK} {Q : VK} {te tk : TE} {rs : List VR} {r : VR} {g : List Code} {v : V}
theorem sb_Nw3 (h : ∀ r ∈ rs, SB r) : SB (vNw (vF K C p F :: rs)) := fun l _ H H' hb e ⟨a, xs, h1, h2, h3⟩ => by
  have h4 : H' a = some (.lst xs) := by
    obtain ⟨b0, b1, b2, hl⟩ := id hb
    refine e _ _ (fun z => ?_) h2
    rw [z, hl] at h2
    have z2 := (HO.lst.inj (Option.some.inj h2)).symm
    obtain ⟨w, ws, hw, ⟨a', _, _, _, hw2, _⟩, _⟩ := h3
    rw [z2, hw2] at hw
    injection hw with hw _
    cases hw
  exact ⟨a, xs, h1, h4, sb_alls (fun r hr => (List.mem_cons.mp hr).elim (fun z => by rw [z]; exact sb_F) (h r)) hb e h3⟩
theorem some_sn (hs : ∀ r ∈ rs, SN r) (e : ExtN H H') (h : ∃ r ∈ rs, r.R v H) : ∃ r ∈ rs, r.R v H' := let ⟨r, hr, h⟩ := h; ⟨r, hr, hs r hr v H H' e h⟩
theorem evr_repT1 {k : Int} (hk : 2 ≤ k ∧ k ≤ 100) (h : EvR te σ H (vT K [r])) : EvR (tOp (rRepA K) te (tC (.int k))) σ H (vT K (List.replicate k.toNat r)) := fun H1 e Q q => h H1 e _ fun v H2 e2 ⟨a, xs, hv, hs, ha⟩ => by
  have hl := ha.len
  refine ⟨a, k, xs, hv, rfl, hs, fun z => ?_, by omega, by omega, by rw [hl]; exact Nat.le_of_ble_eq_true rfl, fun z => by omega, fun _ p hp => q _ _ (e2.trans (Ex.new hp)) ⟨p, _, rfl, st_of upd_same, ?_⟩⟩
  · rw [z] at hl
    cases hl
  · have z := (alls_rep (n := k.toNat) ha).mono (Ex.new (o := .tup (List.replicate k.toNat xs).flatten) hp)
    rw [show (List.replicate k.toNat [r]).flatten = List.replicate k.toNat r by simp] at z
    exact z
end
section
variable {K : PySem.W.Frag} {C CN CP CF CO : Addr} {F : PF} {H H' : Hp} {E : XK} {Q : VK} {v : V}
theorem all1 {P : VR → Prop} {r : VR} (h : P r) : ∀ x ∈ [r], P x := fun x hx => by
  obtain rfl := List.mem_singleton.mp hx
  exact h
theorem allc {P : VR → Prop} {r : VR} {rs : List VR} (h : P r) (h2 : ∀ x ∈ rs, P x) : ∀ x ∈ r :: rs, P x := fun x hx => (List.mem_cons.mp hx).elim (fun z => by rw [z]; exact h) (h2 x)
theorem alln {P : VR → Prop} : ∀ x ∈ ([] : List VR), P x := fun _ hx => nomatch hx
theorem allr {P : VR → Prop} {r : VR} {n : Nat} (h : P r) : ∀ x ∈ List.replicate n r, P x := fun x hx => by
  obtain rfl := List.eq_of_mem_replicate hx
  exact h
theorem vTy_N : vTy K "NoneType" vN := fun v H h => by
  obtain rfl : v = .non := h
  exact .base .non
theorem vTy_S {z : Str} : vTy K "str" (vS z) := fun v H h => by
  obtain rfl : v = .str z := h
  exact .base (.str z)
theorem vTy_Nw {rs : List VR} : vTy K "list" (vNw rs) := fun v H ⟨a, xs, h1, h2, _⟩ => by
  subst h1
  exact ty_sqL (sq_of h2)
theorem vTy_Dk : vTy K "dict" vDk := vTy_O (o := .dict)
end
section
variable {K : PySem.W.Frag} {C : Addr} {p : Int} {F : PF} {l : Addr} {H H1 H2 H3 : Hp} {v : V} {σ : L2.St} {Q : VK} {ns : List Int}
theorem ExNB.trans (h : ExNB l H H1) (h2 : ExNB l H1 H2) : ExNB l H H2 := fun b o hb e hn => h2 b o hb (h b o hb e hn) hn
theorem ExNB.ofB (h : ExB l H H1) : ExNB l H H1 := fun b o hb e _ => h b o hb e
theorem ExNB.out (hp : H l = none) (e : Ex H H1) (h : ExNB l H1 H2) : ExtN H H2 := fun b o hb hn => h b o (fun z => by
  rw [z, hp] at hb
  cases hb) (e b o hb) hn
theorem rd_exNB {a : Addr} {u : HO} (hb : Bag l H) (e : ExNB l H H1) (hu : ∀ zs, u ≠ .lst zs) (hu2 : ∀ ps, u ≠ .tbl ps) (h : Rd H a u) : Rd H1 a u := by
  obtain ⟨b0, b1, b2, hl⟩ := hb
  rcases h with h | ⟨o, h⟩
  · refine .inl (e _ _ (fun z => ?_) h hu2)
    rw [z, hl] at h
    exact hu _ (Option.some.inj h).symm
  · refine .inr ⟨o, e _ _ (fun z => ?_) h nofun⟩
    rw [z, hl] at h
    cases h
theorem F_exNB (hb : Bag l H) (e : ExNB l H H1) (h : (vF K C p F).R v H) : (vF K C p F).R v H1 := by
  obtain ⟨a, dx, t, b, h1, h2, h3, h4⟩ := h
  have h5 : H1 a = some (.ins C dx (ffs p t b)) := by
    obtain ⟨b0, b1, b2, hl⟩ := id hb
    refine e _ _ (fun z => ?_) h2 nofun
    rw [z, hl] at h2
    cases h2
  exact ⟨a, dx, t, b, h1, h5, h3.imp (rd_exNB hb e nofun nofun) id, h4.imp (rd_exNB hb e nofun nofun) id⟩
theorem sn_L : SN (vL K ns) := fun _ _ _ e ⟨a, h1, h2⟩ => ⟨a, h1, exN_l e h2⟩
end
end K0
namespace K0
open PySem PySem.Spec PyProof.Rows L2 Kt M LamX
open Evl (Ex Ev EvL EvU EvT EvA EvO ex_l ex_t sq_of st_of sz_of sz_lt fresh_back given)
section
variable (K : PySem.W.Frag) (C : Addr)
def sp_function_of : Sp := Con (G := GTB) (fun g => Pr g.p ∧ PolyOk g.p g.t ∧ PolyOk g.p g.b ∧ g.b ≠ []) (fun g => [vI g.p, vP K g.t, vP K g.b]) (fun g => vF K C g.p (nf g.p g.t g.b))
/-- the tops that shrinking meets -/
def To3 (t : List Int) : Prop := t = [0, 0, 1] ∨ t = [1] ∨ t = []
def lastT (p : Int) (t : List Int) : List Int := if p = 3 ∧ t = [0, 0, 1] then [1] else []
def sp_wide_top : Sp := Con (G := GP) (fun g => Pr g.p ∧ To3 g.xs) (fun g => [vF K C g.p (g.xs, [1])]) (fun g => vP K g.xs)
def sp_part_of_top : Sp := Con (G := GP) (fun g => Pr g.p ∧ To3 g.xs) (fun g => [vF K C g.p (g.xs, [1]), vP K g.xs, vI (g.p - 1)]) (fun g => vF K C g.p (lastT g.p g.xs, [1]))
def sp_F_last_part : Sp := Con (G := GP) (fun g => Pr g.p ∧ To3 g.xs) (fun g => [vF K C g.p (g.xs, [1])]) (fun g => vF K C g.p (lastT g.p g.xs, [1]))
end
theorem To3.pl {p : Int} {t : List Int} (hp : Pr p) (h : To3 t) : PolyOk p t := by
  have h2 := hp.le
  rcases h with rfl | rfl | rfl
  · refine ⟨fun y hy => ?_, by decide +kernel, by decide⟩
    simp at hy
    rcases hy with rfl | rfl <;> omega
  · exact okP1 hp
  · exact poly_nil
theorem To3.last {p : Int} {t : List Int} : To3 (lastT p t) := by
  unfold lastT To3
  split
  · exact .inr (.inl rfl)
  · exact .inr (.inr rfl)
theorem wide1 {p : Int} {t : List Int} (hp : Pr p) (h : To3 t) : prod p t (pw p [1] (p - 1).toNat) = t := by
  rcases hp with rfl | rfl | rfl | rfl <;> rcases h with rfl | rfl | rfl <;> decide +kernel
theorem pick1 {p : Int} {t : List Int} (hp : Pr p) (h : To3 t) : trim (pickA t (some (p - 1)) none p) = lastT p t ∧ (pickA t (some (p - 1)) none p).length ≤ 100 := by
  rcases hp with rfl | rfl | rfl | rfl <;> rcases h with rfl | rfl | rfl <;> exact ⟨by decide +kernel, by decide +kernel⟩
section
variable {P : Program} {w : World} {K : PySem.W.Frag} {mg : Str → Option Value} {base : Heap} {C : Addr}
abbrev s_function_of : Stmt := topS 56
abbrev N_function_of : List Str := ["prime", "top", "bottom", "lowest"]
theorem sc_function_of : FnScope N_function_of ["prime", "top", "bottom"] (defScope s_function_of) := ⟨rfl, rfl, rfl, by decide +kernel, rfl, by decide +kernel, by decide +kernel⟩
theorem ok_function_of {f : Addr} {fd : FuncData} (F : Fun K "function_of" "function_of" s_function_of f fd) (B : Bis mg) (cf : CFm K mg C)  (D_lowest_terms : De P w K mg base "lowest_terms" ["prime", "top", "bottom"] 6 (sp_lowest_terms K)) (D_made_function : De P w K mg base "made_function" ["prime", "top", "bottom"] 9 (sp_made_function K C)) : FnOk P w K mg base CX0 10 f fd ["prime", "top", "bottom"] (sp_function_of K C) := by
  refine F.ok sc_function_of (fun vs H Q E h => ?_) (fun cdv A outer s H vs Q E hr h => ?_)
  · obtain ⟨g, _, ha, _⟩ := h
    exact ha.len
  · obtain ⟨⟨p, t, b⟩, ⟨hp, pt, pb, nb⟩, ⟨_, _, rfl, rfl, ⟨v_top, _, rfl, h_top, ⟨v_bottom, _, rfl, h_bottom, rfl⟩⟩⟩, q⟩ := h
    dsimp only at *
    refine ⟨_, (pss_cons (ps_set (i := 3) sc_function_of.nd rfl (Or.inl rfl) (pe_call D_lowest_terms.ok (hr.mono (by decide)) (by rfl) D_lowest_terms.g D_lowest_terms.kp D_lowest_terms.b .nil pass0 (pa_cons (pv 0) (pa_cons (pv 1) (pa_cons (pv 2) pa_nil)))))
      (pss_one (ps_ret (pe_call D_made_function.ok (hr.mono (by decide)) (by rfl) D_made_function.g D_made_function.kp D_made_function.b .nil pass0 (pa_cons (pv 0) (pa_cons (pe_ix (r := rIxT K) ix_tup (pv 3) pe_int (fun _ _ => rfl)) (pa_cons (pe_ix (r := rIxT K) ix_tup (pv 3) pe_int (fun _ _ => rfl)) pa_nil))))))), ?_⟩
    refine qr_asg (evr_call (GTB.mk p t b) ⟨hp, pt, pb, nb⟩ (evrs_cons (evr_var rfl rfl) (evrs_cons (evr_var rfl h_top) (evrs_cons (evr_var rfl h_bottom) evrs_nil)))) fun x1 H1 e1 h1 => ?_
    exact sr_ret (evr_call (GTB.mk p (nf p t b).1 (nf p t b).2) hp (evrs_cons (evr_var rfl rfl) (evrs_cons (evr_ixT (evr_var rfl h1) (evr_c (v := .int ((0 : Nat) : Int))) rfl) (evrs_cons (evr_ixT (evr_var rfl h1) (evr_c (v := .int ((1 : Nat) : Int))) rfl) evrs_nil)))) fun v H2 e2 hv => q v H2 (e1.trans e2) hv
abbrev s_wide_top : Stmt := topS 63
abbrev N_wide_top : List Str := ["function", "prime"]
theorem sc_wide_top : FnScope N_wide_top ["function"] (defScope s_wide_top) := ⟨rfl, rfl, rfl, by decide +kernel, rfl, by decide +kernel, by decide +kernel⟩
theorem ok_wide_top {f : Addr} {fd : FuncData} (F : Fun K "wide_top" "wide_top" s_wide_top f fd) (B : Bis mg) (cf : CFm K mg C)  (D_multiply : De P w K mg base "multiply" ["prime", "one", "other"] 4 (sp_multiply K)) (D_power_of : De P w K mg base "power_of" ["prime", "poly", "many"] 5 (sp_power_of K)) (M_bottom : Dg P w K mg base C "bottom" ["self"] 1 (sp_F_bottom K C)) (M_prime : Dg P w K mg base C "prime" ["self"] 1 (sp_F_prime K C)) (M_top : Dg P w K mg base C "top" ["self"] 1 (sp_F_top K C)) : FnOk P w K mg base CX0 6 f fd ["function"] (sp_wide_top K C) := by
  refine F.ok sc_wide_top (fun vs H Q E h => ?_) (fun cdv A outer s H vs Q E hr h => ?_)
  · obtain ⟨g, _, ha, _⟩ := h
    exact ha.len
  · obtain ⟨⟨p, t⟩, ⟨hp, ht⟩, ⟨v_function, _, rfl, h_function, rfl⟩, q⟩ := h
    dsimp only at *
    refine ⟨_, (pss_cons (ps_set (i := 1) sc_wide_top.nd rfl (Or.inl rfl) (pe_prop (pv 0) cf.c.cl M_prime.prop M_prime.ok (hr.mono (by decide)) M_prime.b .nil pass0 rfl))
      (pss_one (ps_ret (pe_call D_multiply.ok (hr.mono (by decide)) (by rfl) D_multiply.g D_multiply.kp D_multiply.b .nil pass0 (pa_cons (pv 1) (pa_cons (pe_prop (pv 0) cf.c.cl M_top.prop M_top.ok (hr.mono (by decide)) M_top.b .nil pass0 rfl) (pa_cons (pe_call D_power_of.ok (hr.mono (by decide)) (by rfl) D_power_of.g D_power_of.kp D_power_of.b .nil pass0 (pa_cons (pv 1) (pa_cons (pe_prop (pv 0) cf.c.cl M_bottom.prop M_bottom.ok (hr.mono (by decide)) M_bottom.b .nil pass0 rfl) (pa_cons (pe_op op_sub (pv 1) pe_int) pa_nil)))) pa_nil))))))), ?_⟩
    have h2 := hp.le
    have h7 := hp.le7
    have po := ht.pl hp
    have p1 := okP1 hp
    have l3 : t.length ≤ 3 := by rcases ht with rfl | rfl | rfl <;> decide
    have lw : (pw p [1] (p - 1).toNat).length ≤ 300 := by rcases hp with rfl | rfl | rfl | rfl <;> decide +kernel
    refine qr_asg (evr_prop (GF.mk p (t, [1])) trivial rfl (evr_var rfl h_function)) fun x1 H1 e1 h1 => ?_
    obtain rfl := h1
    refine sr_ret (evr_call (GQ.mk p t (pw p [1] (p - 1).toNat)) ⟨h2.1, h7, po.r, pw_red h2.1 _ _, po.t, pw_trim _ _ _, by show t.length ≤ 300; omega, lw, .inl (by show t.length ≤ 90; omega)⟩
      (evrs_cons (evr_var rfl rfl) (evrs_cons (evr_prop (GF.mk p (t, [1])) trivial rfl (evr_var rfl (up h_function e1))) (evrs_cons (evr_call (GW.mk p [1] (p - 1).toNat) ⟨h2.1, h7, p1.r, p1.t, by show (p - 1).toNat * 2 ≤ 170; omega⟩ (evrs_cons (evr_var rfl rfl) (evrs_cons (evr_prop (GF.mk p (t, [1])) trivial rfl (evr_var rfl (up h_function e1))) (evrs_cons (EvR.eqI (evr_op (evr_var rfl rfl) evr_c op_i0) (by show p - 1 = (((p - 1).toNat : Nat) : Int); omega)) evrs_nil)))) evrs_nil)))) fun v H2 e2 hv => q v H2 (e1.trans e2) ?_
    have hv' : (vP K (prod p t (pw p [1] (p - 1).toNat))).R v H2 := hv
    rw [wide1 hp ht] at hv'
    exact hv'
abbrev s_part_of_top : Stmt := topS 64
abbrev N_part_of_top : List Str := ["function", "wide", "place"]
theorem sc_part_of_top : FnScope N_part_of_top ["function", "wide", "place"] (defScope s_part_of_top) := ⟨rfl, rfl, rfl, by decide +kernel, rfl, by decide +kernel, by decide +kernel⟩
theorem ok_part_of_top {f : Addr} {fd : FuncData} (F : Fun K "part_of_top" "part_of_top" s_part_of_top f fd) (B : Bis mg) (cf : CFm K mg C)  (D_function_of : De P w K mg base "function_of" ["prime", "top", "bottom"] 10 (sp_function_of K C)) (D_trimmed : De P w K mg base "trimmed" ["numbers"] 1 (sp_trimmedT K)) (M_bottom : Dg P w K mg base C "bottom" ["self"] 1 (sp_F_bottom K C)) (M_prime : Dg P w K mg base C "prime" ["self"] 1 (sp_F_prime K C)) : FnOk P w K mg base CX0 11 f fd ["function", "wide", "place"] (sp_part_of_top K C) := by
  refine F.ok sc_part_of_top (fun vs H Q E h => ?_) (fun cdv A outer s H vs Q E hr h => ?_)
  · obtain ⟨g, _, ha, _⟩ := h
    exact ha.len
  · obtain ⟨⟨p, t⟩, ⟨hp, ht⟩, ⟨v_function, _, rfl, h_function, ⟨v_wide, _, rfl, h_wide, ⟨_, _, rfl, rfl, rfl⟩⟩⟩, q⟩ := h
    dsimp only at *
    refine ⟨_, (pss_one (ps_ret (pe_call D_function_of.ok (hr.mono (by decide)) (by rfl) D_function_of.g D_function_of.kp D_function_of.b .nil pass0 (pa_cons (pe_prop (pv 0) cf.c.cl M_prime.prop M_prime.ok (hr.mono (by decide)) M_prime.b .nil pass0 rfl) (pa_cons (pe_call D_trimmed.ok (hr.mono (by decide)) (by rfl) D_trimmed.g D_trimmed.kp D_trimmed.b .nil pass0 (pa_cons (pe_stepT (pv 1) (po_some (pv 2)) po_none (po_some (pe_prop (pv 0) cf.c.cl M_prime.prop M_prime.ok (hr.mono (by decide)) M_prime.b .nil pass0 rfl))) pa_nil)) (pa_cons (pe_prop (pv 0) cf.c.cl M_bottom.prop M_bottom.ok (hr.mono (by decide)) M_bottom.b .nil pass0 rfl) pa_nil)))))), ?_⟩
    have h2 := hp.le
    obtain ⟨ep, lp⟩ := pick1 hp ht
    have po : PolyOk p (lastT p t) := To3.last.pl hp
    refine sr_ret (evr_call (GTB.mk p (lastT p t) [1]) ⟨hp, po, okP1 hp, by simp⟩
      (evrs_cons (evr_prop (GF.mk p (t, [1])) trivial rfl (evr_var rfl h_function)) (evrs_cons (r := vP K (lastT p t)) ?_ (evrs_cons (evr_prop (GF.mk p (t, [1])) trivial rfl (evr_var rfl h_function)) evrs_nil)))) fun v H2 e2 hv => q v H2 e2 ?_
    · rw [← ep]
      exact evr_call (pickA t (some (p - 1)) none p) (show (pickA t (some (p - 1)) none p).length ≤ 100000 by omega) (evrs_cons (evr_stepT (c := p) (evr_var rfl h_wide) (eo_some (evr_var rfl rfl)) eo_none (eo_some (evr_prop (GF.mk p (t, [1])) trivial rfl (evr_var rfl h_function))) (by omega) (by omega) (by omega)) evrs_nil)
    · have hv' : (vF K C p (nf p (lastT p t) [1])).R v H2 := hv
      rw [nf_one hp po.pl (by unfold lastT; split <;> decide)] at hv'
      exact hv'
abbrev s_F_last_part : Stmt := inClass (topS 54) 10
abbrev N_F_last_part : List Str := ["self"]
theorem sc_F_last_part : FnScope N_F_last_part ["self"] (defScope s_F_last_part) := ⟨rfl, rfl, rfl, by decide +kernel, rfl, by decide +kernel, by decide +kernel⟩
theorem ok_F_last_part {f : Addr} {fd : FuncData} (F : Fun K "last_part" "Function.last_part" s_F_last_part f fd) (B : Bis mg) (cf : CFm K mg C) (D_part_of_top : De P w K mg base "part_of_top" ["function", "wide", "place"] 11 (sp_part_of_top K C)) (D_wide_top : De P w K mg base "wide_top" ["function"] 6 (sp_wide_top K C)) : FnOk P w K mg base CX0 12 f fd ["self"] (sp_F_last_part K C) := by
  refine F.ok sc_F_last_part (fun vs H Q E h => ?_) (fun cdv A outer s H vs Q E hr h => ?_)
  · obtain ⟨g, _, ha, _⟩ := h
    exact ha.len
  · obtain ⟨⟨p, t⟩, ⟨hp, ht⟩, ⟨v_self, _, rfl, h_self, rfl⟩, q⟩ := h
    dsimp only at *
    refine ⟨_, (pss_one (ps_ret (pe_call D_part_of_top.ok (hr.mono (by decide)) (by rfl) D_part_of_top.g D_part_of_top.kp D_part_of_top.b .nil pass0 (pa_cons (pv 0) (pa_cons (pe_call D_wide_top.ok (hr.mono (by decide)) (by rfl) D_wide_top.g D_wide_top.kp D_wide_top.b .nil pass0 (pa_cons (pv 0) pa_nil)) (pa_cons (pe_op op_sub (pe_fld (pv 0) rfl) pe_int) pa_nil)))))), ?_⟩
    exact sr_ret (evr_call (GP.mk p t) ⟨hp, ht⟩ (evrs_cons (evr_var rfl h_self) (evrs_cons (evr_call (GP.mk p t) ⟨hp, ht⟩ (evrs_cons (evr_var rfl h_self) evrs_nil)) (evrs_cons (evr_op (evr_fldP cf.c (evr_var rfl h_self)) evr_c op_i0) evrs_nil)))) fun v H2 e2 hv => q v H2 e2 hv
end
end K0
namespace K0
open PySem PySem.Spec PyProof.Rows L2 Kt M LamX
open Evl (Ex Ev EvL EvU EvT EvA EvO ex_l ex_t sq_of st_of sz_of sz_lt fresh_back given)
/-! ## what is no function -/
def NoF (K : PySem.W.Frag) (C : Addr) (v : V) (H : Hp) : Prop := ∃ (r : VR) (t : Value), r.R v H ∧ (∀ v H, r.R v H → TyX K H v t) ∧ PySem.W.kitOne K t (.ref C) = some false
theorem NoF.ex {K : PySem.W.Frag} {C : Addr} {v : V} {H H' : Hp} (h : NoF K C v H) (e : Ex H H') : NoF K C v H' := let ⟨r, m, h1, h2, h3⟩ := h; ⟨r, m, r.st e h1, h2, h3⟩
theorem NoF.of {K : PySem.W.Frag} {C : Addr} {v : V} {H : Hp} {r : VR} {m : String} (N : NotFn K C) (h : r.R v H) (ht : vTy K m r) (hm : m ∈ ["NoneType", "bool", "int", "str", "list", "tuple", "dict"]) : NoF K C v H := ⟨r, .type m, h, ht, N.kit m hm⟩
def sp_noF (K : PySem.W.Frag) (C CF : Addr) : Sp := fun vs H _ E => ∃ v, vs = [v] ∧ NoF K C v H ∧ Said CF H E
/-- what the text has of the class Operator -/
structure OpK (K : PySem.W.Frag) (mg : Str → Option Value) (D C : Addr) : Prop where
  nP : NoAttr K D "_prime"
  nE : NoAttr K D "_entries"
  mg : mg "Operator" = some (.ref D)
  kp : PySem.W.keepIn K (.ref D) = true
  mks : PySem.W.makesIn K D = true
  ins : C8.InsC K D
  no : PySem.W.kitOne K (.ref D) (.ref C) = some false
def vOp (D : Addr) : VR := ⟨fun v H => ∃ a dx fs, v = .ref a ∧ H a = some (.ins D dx fs), fun e ⟨a, dx, fs, h1, h2⟩ => ⟨a, dx, fs, h1, e _ _ h2⟩⟩
theorem sn_Op {D : Addr} : SN (vOp D) := fun _ _ _ e ⟨a, dx, fs, h1, h2⟩ => ⟨a, dx, fs, h1, e _ _ h2 nofun⟩
theorem sb_Op {D : Addr} : SB (vOp D) := fun l _ H H' hb e ⟨a, dx, fs, h1, h2⟩ => ⟨a, dx, fs, h1, by
  obtain ⟨b0, b1, b2, hl⟩ := id hb
  refine e _ _ (fun z => ?_) h2
  rw [z, hl] at h2
  cases h2⟩
theorem NoF.op {K : PySem.W.Frag} {mg : Str → Option Value} {D C : Addr} {v : V} {H : Hp} (O : OpK K mg D C) (h : (vOp D).R v H) : NoF K C v H := ⟨vOp D, .ref D, h, fun v H h => by
  obtain ⟨a, dx, fs, rfl, h2⟩ := h
  exact .base (TyOf.ins h2 O.ins.cl O.ins.ha O.ins.hn O.ins.htk O.ins.hm), O.no⟩
def lasts (p : Int) (t : List Int) : Nat → List Int
  | 0 => t
  | n + 1 => lastT p (lasts p t n)
theorem lasts_ok {p : Int} {t : List Int} (h : To3 t) : ∀ n, To3 (lasts p t n)
  | 0 => h
  | n + 1 => To3.last
structure GLast where
  p : Int
  t : List Int
  n : Nat
def x60 : List Int := [1] ++ List.replicate 59 0 ++ [1]
theorem x60_ok {p : Int} (hp : Pr p) : PolyOk p x60 ∧ PolyOk p (slopeOf p x60) := by
  rcases hp with rfl | rfl | rfl | rfl <;> exact ⟨⟨by unfold Red; decide +kernel, by decide +kernel, by decide +kernel⟩, by unfold Red; decide +kernel, by decide +kernel, by decide +kernel⟩
section
variable (K : PySem.W.Frag) (C D CN CP CO CF : Addr)
def sp_shrunkF : Sp := fun vs H _ E => ∃ v t, vs = [v, t] ∧ NoF K C v H ∧ Said CF H E
def sp_shrunkN : Sp := fun vs H _ E => ∃ x y p F d, vs = [x, y] ∧ (vF K C p F).R x H ∧ (vD K d).R y H ∧ isWithin d 0 20 = false ∧ Given CN y H E
def sp_shrunk : Sp := Con (G := GLast) (fun g => Pr g.p ∧ To3 g.t ∧ g.n ≤ 20) (fun g => [vF K C g.p (g.t, [1]), vI (g.n : Int)]) (fun g => vF K C g.p (lasts g.p g.t g.n, [1]))
inductive LsX (vs : List V) (H : Hp) (E : XK) : Prop
  | prime {v t : V} {d : PyData} : vs = [v, t] → (vD K d).R v H → BadP d → Given CN v H E → LsX vs H E
  | poly {t : V} {p : Int} {o : OV} : vs = [.int p, t] → Pr p → (vO K o).R t H → hpf p o = false → Said CP H E → LsX vs H E
  | zero {t : V} {p : Int} : vs = [.int p, t] → Pr p → (vP K []).R t H → Said CO H E → LsX vs H E
def sp_log_slopeX : Sp := fun vs H _ E => LsX K CN CP CO vs H E
def sp_log_slope : Sp := Con (G := GP) (fun g => Pr g.p ∧ PolyOk g.p g.xs ∧ PolyOk g.p (slopeOf g.p g.xs) ∧ g.xs ≠ []) (fun g => [vI g.p, vP K g.xs]) (fun g => vF K C g.p (nf g.p (slopeOf g.p g.xs) g.xs))
def sp_are_entries : Sp := Con (G := GF) (fun g => g.F.1 ≠ []) (fun g => [vT K [vF K C g.p g.F]]) (fun _ => vB true)
def sp_O_times : Sp := Con (G := GF) (fun g => Pr g.p ∧ g.F.1 ≠ []) (fun g => [vC (.ref D), vF K C g.p g.F]) (fun _ => vOp D)
def sp_O___init__ : Sp := fun vs H Q _ => ∃ (x dx : Addr) (e : V) (p : Int) (F : PF), vs = [.ref x, .int p, e] ∧ H x = some (.ins D dx []) ∧ Pr p ∧ F.1 ≠ [] ∧ (vT K [vF K C p F]).R e H ∧ ∀ H' fs, H' x = some (.ins D dx fs) → (∀ b o, b ≠ x → H b = some o → H' b = some o) → Q .non H'
end
section
variable {P : Program} {w : World} {K : PySem.W.Frag} {mg : Str → Option Value} {base : Heap} {C D CN CP CF CO : Addr}
theorem evr_isNo {σ : L2.St} {H : Hp} {te : TE} {v : V} (h : EvR te σ H (vC v)) (hn : NoF K C v H) : EvR (tCB (rIsi K) (tCons te (tCons (tC (.ref C)) tNil))) σ H (vB false) := fun H1 e1 Q q => h H1 e1 _ fun v' H2 e2 hv => by
  obtain rfl : v' = v := hv
  obtain ⟨r, t, h1, h2, h3⟩ := hn.ex (e1.trans e2)
  exact ⟨v', .ref C, _, _, false, rfl, .own C, h2 _ _ h1, h3, q _ H2 e2 rfl⟩
theorem ok_check_functionY {f : Addr} {fd : FuncData} (F : Fun K "check_function" "check_function" s_check_function f fd) (B : Bis mg) (cf : CFm K mg C) (R : Rz K mg "InvalidFunction" CF) : FnOk P w K mg base (L2.CX P w) 1 f fd ["function"] (sp_noF K C CF) := by
  refine F.okX sc_check_function (fun vs H Q E h => ?_) (fun cdv A outer s H vs Q E hr h => ?_)
  · obtain ⟨_, rfl, _⟩ := h
    rfl
  · obtain ⟨v, rfl, hv, k⟩ := h
    refine ⟨_, (pss_one (ps_if (pt_not (pt_val (pe_callB (id := "isinstance") (r := rIsi K) call_isi (by rfl) (B "isinstance" (by decide +kernel)) (by decide +kernel) (pa_cons (pv 0) (pa_cons (pe_glob (v := .ref C) (by rfl) cf.mg rfl) pa_nil))))) (pss_one (ps_raise rfl (takes_of rfl rfl rfl rfl) (pmk_own PySem.F.excBase_ValueError R.q R.gC R.kC (raises_own R.ex R.ty) rfl))) pss_nil)), ?_⟩
    exact Evl.s_when (Evl.et_not (et_b (evr_isNo (evr_var rfl rfl) hv))) (fun hb H1 e1 => k H1 e1) (fun hb H1 e1 => by cases hb)
abbrev s_is_slope : Stmt := topS 77
abbrev N_is_slope : List Str := ["function"]
theorem sc_is_slope : FnScope N_is_slope ["function"] (defScope s_is_slope) := ⟨rfl, rfl, rfl, by decide +kernel, rfl, by decide +kernel, by decide +kernel⟩
theorem ok_is_slopeX {f : Addr} {fd : FuncData} (F : Fun K "is_slope" "is_slope" s_is_slope f fd) (Y : DeX P w K mg base "check_function" ["function"] 1 (sp_noF K C CF)) : FnOk P w K mg base (L2.CX P w) 3 f fd ["function"] (sp_noF K C CF) := by
  refine F.okX sc_is_slope (fun vs H Q E h => ?_) (fun cdv A outer s H vs Q E hr h => ?_)
  · obtain ⟨_, rfl, _⟩ := h
    rfl
  · obtain ⟨v, rfl, hv, k⟩ := h
    refine ⟨_, (pss_cons (ps_expr (pe_call Y.ok (hr.mono (by decide)) (by rfl) Y.g Y.kp Y.b .nil (passes_call (takes_of rfl rfl rfl rfl) (fun _ _ _ _ h => h)) (pa_cons (pv 0) pa_nil))) pss_never), ?_⟩
    exact ⟨v, rfl, v, rfl, hv, k⟩
abbrev s_slope_source : Stmt := topS 78
abbrev N_slope_source : List Str := ["function", "prime", "parts", "raised", "place"]
theorem sc_slope_source : FnScope N_slope_source ["function"] (defScope s_slope_source) := ⟨rfl, rfl, rfl, by decide +kernel, rfl, by decide +kernel, by decide +kernel⟩
theorem ok_slope_sourceX {f : Addr} {fd : FuncData} (F : Fun K "slope_source" "slope_source" s_slope_source f fd) (Y : DeX P w K mg base "check_function" ["function"] 1 (sp_noF K C CF)) : FnOk P w K mg base (L2.CX P w) 3 f fd ["function"] (sp_noF K C CF) := by
  refine F.okX sc_slope_source (fun vs H Q E h => ?_) (fun cdv A outer s H vs Q E hr h => ?_)
  · obtain ⟨_, rfl, _⟩ := h
    rfl
  · obtain ⟨v, rfl, hv, k⟩ := h
    refine ⟨_, (pss_cons (ps_expr (pe_call Y.ok (hr.mono (by decide)) (by rfl) Y.g Y.kp Y.b .nil (passes_call (takes_of rfl rfl rfl rfl) (fun _ _ _ _ h => h)) (pa_cons (pv 0) pa_nil))) pss_never), ?_⟩
    exact ⟨v, rfl, v, rfl, hv, k⟩
abbrev s_is_log_slope : Stmt := topS 80
abbrev N_is_log_slope : List Str := ["function"]
theorem sc_is_log_slope : FnScope N_is_log_slope ["function"] (defScope s_is_log_slope) := ⟨rfl, rfl, rfl, by decide +kernel, rfl, by decide +kernel, by decide +kernel⟩
theorem ok_is_log_slopeX {f : Addr} {fd : FuncData} (F : Fun K "is_log_slope" "is_log_slope" s_is_log_slope f fd) (Y : DeX P w K mg base "check_function" ["function"] 1 (sp_noF K C CF)) : FnOk P w K mg base (L2.CX P w) 3 f fd ["function"] (sp_noF K C CF) := by
  refine F.okX sc_is_log_slope (fun vs H Q E h => ?_) (fun cdv A outer s H vs Q E hr h => ?_)
  · obtain ⟨_, rfl, _⟩ := h
    rfl
  · obtain ⟨v, rfl, hv, k⟩ := h
    refine ⟨_, (pss_cons (ps_expr (pe_call Y.ok (hr.mono (by decide)) (by rfl) Y.g Y.kp Y.b .nil (passes_call (takes_of rfl rfl rfl rfl) (fun _ _ _ _ h => h)) (pa_cons (pv 0) pa_nil))) pss_never), ?_⟩
    exact ⟨v, rfl, v, rfl, hv, k⟩
abbrev s_log_fault : Stmt := topS 83
abbrev N_log_fault : List Str := ["function", "rows", "place", "order", "_"]
theorem sc_log_fault : FnScope N_log_fault ["function"] (defScope s_log_fault) := ⟨rfl, rfl, rfl, by decide +kernel, rfl, by decide +kernel, by decide +kernel⟩
theorem ok_log_faultX {f : Addr} {fd : FuncData} (F : Fun K "log_fault" "log_fault" s_log_fault f fd) (Y : DeX P w K mg base "check_function" ["function"] 1 (sp_noF K C CF)) : FnOk P w K mg base (L2.CX P w) 3 f fd ["function"] (sp_noF K C CF) := by
  refine F.okX sc_log_fault (fun vs H Q E h => ?_) (fun cdv A outer s H vs Q E hr h => ?_)
  · obtain ⟨_, rfl, _⟩ := h
    rfl
  · obtain ⟨v, rfl, hv, k⟩ := h
    refine ⟨_, (pss_cons (ps_expr (pe_call Y.ok (hr.mono (by decide)) (by rfl) Y.g Y.kp Y.b .nil (passes_call (takes_of rfl rfl rfl rfl) (fun _ _ _ _ h => h)) (pa_cons (pv 0) pa_nil))) pss_never), ?_⟩
    exact ⟨v, rfl, v, rfl, hv, k⟩
abbrev s_turn_of : Stmt := topS 84
abbrev N_turn_of : List Str := ["function"]
theorem sc_turn_of : FnScope N_turn_of ["function"] (defScope s_turn_of) := ⟨rfl, rfl, rfl, by decide +kernel, rfl, by decide +kernel, by decide +kernel⟩
theorem ok_turn_ofX {f : Addr} {fd : FuncData} (F : Fun K "turn_of" "turn_of" s_turn_of f fd) (Y : DeX P w K mg base "check_function" ["function"] 1 (sp_noF K C CF)) : FnOk P w K mg base (L2.CX P w) 3 f fd ["function"] (sp_noF K C CF) := by
  refine F.okX sc_turn_of (fun vs H Q E h => ?_) (fun cdv A outer s H vs Q E hr h => ?_)
  · obtain ⟨_, rfl, _⟩ := h
    rfl
  · obtain ⟨v, rfl, hv, k⟩ := h
    refine ⟨_, (pss_cons (ps_expr (pe_call Y.ok (hr.mono (by decide)) (by rfl) Y.g Y.kp Y.b .nil (passes_call (takes_of rfl rfl rfl rfl) (fun _ _ _ _ h => h)) (pa_cons (pv 0) pa_nil))) pss_never), ?_⟩
    exact ⟨v, rfl, v, rfl, hv, k⟩
abbrev s_log_source : Stmt := topS 81
abbrev N_log_source : List Str := ["function", "prime", "poly", "place", "_", "many"]
theorem sc_log_source : FnScope N_log_source ["function"] (defScope s_log_source) := ⟨rfl, rfl, rfl, by decide +kernel, rfl, by decide +kernel, by decide +kernel⟩
theorem ok_log_sourceX {f : Addr} {fd : FuncData} (F : Fun K "log_source" "log_source" s_log_source f fd) (Y : DeX P w K mg base "is_log_slope" ["function"] 3 (sp_noF K C CF)) : FnOk P w K mg base (L2.CX P w) 5 f fd ["function"] (sp_noF K C CF) := by
  refine F.okX sc_log_source (fun vs H Q E h => ?_) (fun cdv A outer s H vs Q E hr h => ?_)
  · obtain ⟨_, rfl, _⟩ := h
    rfl
  · obtain ⟨v, rfl, hv, k⟩ := h
    refine ⟨_, (pss_cons (ps_if (pt_not (pt_val (pe_call Y.ok (hr.mono (by decide)) (by rfl) Y.g Y.kp Y.b .nil (passes_call (takes_of rfl rfl rfl rfl) (fun _ _ _ _ h => h)) (pa_cons (pv 0) pa_nil)))) (pss_one ps_never) pss_nil) pss_never), ?_⟩
    exact ⟨v, rfl, v, rfl, hv, k⟩
abbrev s_shrunk : Stmt := topS 79
abbrev N_shrunk : List Str := ["function", "times", "_"]
theorem sc_shrunk : FnScope N_shrunk ["function", "times"] (defScope s_shrunk) := ⟨rfl, rfl, rfl, by decide +kernel, rfl, by decide +kernel, by decide +kernel⟩
theorem binds_shrunk {f : Addr} {fd : FuncData} (F : FunD K "shrunk" "shrunk" (defArgs s_shrunk) (defBody s_shrunk) (defScope s_shrunk) [] [("times", .int 1)] f fd) : ∃ ds, Vals [.int 1] ds ∧ Binds K fd ["function", "times"] ds :=
  F.binds0 1 (by simp) rfl fun D doc pm an cdv ct us ks h1 h2 => match us, h1, ks, h2 with
    | [_], _, [_], _ => ⟨_, _, _, _, _, _, rfl, rfl, rfl⟩
theorem kbn_shrunk {f : Addr} {fd : FuncData} (F : FunD K "shrunk" "shrunk" (defArgs s_shrunk) (defBody s_shrunk) (defScope s_shrunk) [] [("times", .int 1)] f fd) : KBn K fd ["function", "times"] 1 ["times"] (fun us ws => us ++ ws) (fun vs zs => vs ++ zs) := by
  obtain ⟨oc, od, dV, kV, doc, pm, an, cdv, ct, osl, rfl, lk, hcd, hD, hK⟩ := F.ex
  rcases hD with ⟨_, rfl⟩ | ⟨e, _⟩
  · refine ⟨fun s us ws _ h1 h2 => ?_, fun r1 r2 => r1.append r2⟩
    match us, h1, ws, h2 with
    | [_], _, [_], _ => exact .of_eq rfl
  · exact absurd rfl e
theorem ok_shrunkF {f : Addr} {fd : FuncData} (F : FunD K "shrunk" "shrunk" (defArgs s_shrunk) (defBody s_shrunk) (defScope s_shrunk) [] [("times", .int 1)] f fd) (Y : DeX P w K mg base "check_function" ["function"] 1 (sp_noF K C CF)) : FnOk P w K mg base (L2.CX P w) 3 f fd ["function", "times"] (sp_shrunkF K C CF) := by
  refine FunD.ok F sc_shrunk (fun vs H Q E h => ?_) (fun cdv A outer s H vs Q E hr h => ?_)
  · obtain ⟨_, _, rfl, _⟩ := h
    rfl
  · obtain ⟨v, t, rfl, hv, k⟩ := h
    refine ⟨_, (pss_cons (ps_expr (pe_call Y.ok (hr.mono (by decide)) (by rfl) Y.g Y.kp Y.b .nil (passes_call (takes_of rfl rfl rfl rfl) (fun _ _ _ _ h => h)) (pa_cons (pv 0) pa_nil))) pss_never), ?_⟩
    exact ⟨v, rfl, v, rfl, hv, k⟩
theorem ok_shrunkN {f : Addr} {fd : FuncData} (F : FunD K "shrunk" "shrunk" (defArgs s_shrunk) (defBody s_shrunk) (defScope s_shrunk) [] [("times", .int 1)] f fd) (C_MAX_SHRUNK : GI mg "MAX_SHRUNK" 20) (R : Rn P w K mg base CN) (D_check_function : De P w K mg base "check_function" ["function"] 1 (sp_check_function K C)) (D_is_within : De P w K mg base "is_within" ["value", "low", "high"] 2 (sp_is_within K)) : FnOk P w K mg base (L2.CX P w) 4 f fd ["function", "times"] (sp_shrunkN K C CN) := by
  refine FunD.ok F sc_shrunk (fun vs H Q E h => ?_) (fun cdv A outer s H vs Q E hr h => ?_)
  · obtain ⟨_, _, _, _, _, rfl, _⟩ := h
    rfl
  · obtain ⟨x, y, p, F, d, rfl, hx, hy, hb, k⟩ := h
    refine ⟨_, (pss_cons (ps_expr (pe_call D_check_function.ok (hr.mono (by decide)) (by rfl) D_check_function.g D_check_function.kp D_check_function.b .nil pass0 (pa_cons (pv 0) pa_nil)))
      (pss_cons (ps_if (pt_not (pt_val (pe_call D_is_within.ok (hr.mono (by decide)) (by rfl) D_is_within.g D_is_within.kp D_is_within.b .nil pass0 (pa_cons (pv 1) (pa_cons pe_int (pa_cons (pe_gi C_MAX_SHRUNK (by rfl)) pa_nil)))))) (pss_one (ps_raise rfl (takes_of rfl rfl rfl rfl) (pmk_g R.T R.iC R.tI R.ok (hr.mono (by decide)) R.b .nil pass0 rfl R.gC (pa_cons (pv 1) pa_nil)))) pss_nil) pss_never)), ?_⟩
    refine qr_drop (evr_call (GF.mk p F) trivial (evrs_cons (evr_var rfl hx) evrs_nil)) fun H1 e1 => ?_
    refine Evl.q_when (Evl.et_not (et_b (evr_call (GWi.mk d 0 20) trivial (evrs_cons (evr_var rfl (up hy e1)) (evrs_cons evr_c (evrs_cons evr_c evrs_nil)))))) (fun _ H2 e2 => sr_given (evr_var rfl rfl) (k.ex (e1.trans e2))) (fun hb' H1 e1 => ?_)
    have hb2 : (!isWithin d 0 20) = false := hb'
    rw [hb] at hb2
    cases hb2
structure DmL (P : Program) (w : World) (K : PySem.W.Frag) (mg : Str → Option Value) (base : Heap) (C : Addr) (m : Str) (k : Nat) (sp : Sp) where
  f : Addr
  fd : FuncData
  ok : FnOk P w K mg base CX0 k f fd ["self"] sp
  b : Binds K fd ["self"] []
  m : Meth K C m f
theorem evr_last {σ : L2.St} {H : Hp} {te : TE} {p : Int} {t : List Int} (hp : Pr p) (ht : To3 t) (h : EvR te σ H (vF K C p (t, [1]))) : EvR (tMeth C "last_part" (sp_F_last_part K C) [] E0 te tNil) σ H (vF K C p (lastT p t, [1])) := fun H1 e Q k => h H1 e _ fun v H2 e2 hv => by
  obtain ⟨a, dx, t', b, rfl, h2, _⟩ := id hv
  exact ⟨a, dx, _, rfl, h2, by rfl, GP.mk p t, ⟨hp, ht⟩, ⟨_, _, rfl, hv, rfl⟩, fun u H3 e3 hu => k u H3 (e2.trans e3) hu⟩
theorem ok_shrunk {f : Addr} {fd : FuncData} (F : FunD K "shrunk" "shrunk" (defArgs s_shrunk) (defBody s_shrunk) (defScope s_shrunk) [] [("times", .int 1)] f fd) (B : Bis mg) (cf : CFm K mg C) (C_MAX_SHRUNK : GI mg "MAX_SHRUNK" 20) (D_check_function : De P w K mg base "check_function" ["function"] 1 (sp_check_function K C)) (D_is_within : De P w K mg base "is_within" ["value", "low", "high"] 2 (sp_is_within K)) (M_last_part : DmL P w K mg base C "last_part" 12 (sp_F_last_part K C)) : FnOk P w K mg base CX0 13 f fd ["function", "times"] (sp_shrunk K C) := by
  refine FunD.ok0 F sc_shrunk (fun vs H Q E h => ?_) (fun cdv A outer s H vs Q E hr h => ?_)
  · obtain ⟨g, _, ha, _⟩ := h
    exact ha.len
  · obtain ⟨⟨p, t, n⟩, ⟨hp, ht, hn⟩, ⟨v_self, _, rfl, h_self, ⟨_, _, rfl, rfl, rfl⟩⟩, q⟩ := h
    dsimp only at *
    refine ⟨_, (pss_cons (ps_expr (pe_call D_check_function.ok (hr.mono (by decide)) (by rfl) D_check_function.g D_check_function.kp D_check_function.b .nil pass0 (pa_cons (pv 0) pa_nil)))
      (pss_cons (ps_if (pt_not (pt_val (pe_call D_is_within.ok (hr.mono (by decide)) (by rfl) D_is_within.g D_is_within.kp D_is_within.b .nil pass0 (pa_cons (pv 1) (pa_cons pe_int (pa_cons (pe_gi C_MAX_SHRUNK (by rfl)) pa_nil)))))) (pss_one ps_never) pss_nil)
      (pss_cons (ps_for PassesOwn.never rfl (pi_range1 (by rfl) (B "range" (by decide +kernel)) (pa_cons (pv 1) pa_nil)) (pg_name (i := 2) sc_shrunk.nd rfl (Or.inl rfl)) (pss_one (ps_set (i := 0) sc_shrunk.nd rfl (Or.inl rfl) (pe_meth0 (pv 0) cf.c.cl M_last_part.m M_last_part.ok (hr.mono (by decide)) M_last_part.b .nil pass0))))
      (pss_one (ps_ret (pv 0)))))), ?_⟩
    refine qr_drop (evr_call (GF.mk p (t, [1])) trivial (evrs_cons (evr_var rfl h_self) evrs_nil)) fun H0 e0 => ?_
    refine Evl.q_when (Evl.et_not (et_b (evr_call (GWi.mk (.int (n : Int)) 0 20) trivial (evrs_cons (evr_var (r := vD K (.int (n : Int))) rfl (.int _)) (evrs_cons evr_c (evrs_cons evr_c evrs_nil)))))) (fun hb H1 e1 => ?_) (fun hb H1 e1 => ?_)
    · have hw : isWithin (.int (n : Int)) 0 20 = true := by
        simp [isWithin, isInt]
        omega
      have hb' : (!isWithin (.int (n : Int)) 0 20) = true := hb
      rw [hw] at hb'
      cases hb'
    refine Evl.q_forR1 (n := (n : Int)) (ea_of (evrs_cons (evr_var (r := vI (n : Int)) rfl rfl) evrs_nil)) ⟨by omega, by omega⟩ (fun i σ' H' => ∃ v w, σ' = [some v, some (.int (n : Int)), w] ∧ Ex H H' ∧ (vF K C p (lasts p t i, [1])).R v H') (fun H3 e3 => ⟨v_self, none, rfl, (e0.trans e1).trans e3, up h_self ((e0.trans e1).trans e3)⟩) (fun i σ' H' hi hP => ?_) (fun σ' H' hP => ?_)
    · obtain ⟨v, w0, rfl, eH, hv⟩ := hP
      exact sr_asg (evr_last hp (lasts_ok ht i) (evr_var rfl hv)) fun x3 H3 e3 h3 => ⟨x3, some (.int (i : Int)), rfl, eH.trans e3, h3⟩
    · obtain ⟨v, w0, rfl, eH, hv⟩ := hP
      exact sr_ret (evr_var (r := vF K C p (lasts p t n, [1])) rfl hv) fun v2 H5 e5 hv2 => q v2 H5 (eH.trans e5) hv2
abbrev s_log_slope : Stmt := topS 82
abbrev N_log_slope : List Str := ["prime", "poly"]
theorem sc_log_slope : FnScope N_log_slope ["prime", "poly"] (defScope s_log_slope) := ⟨rfl, rfl, rfl, by decide +kernel, rfl, by decide +kernel, by decide +kernel⟩
theorem ok_log_slopeX {f : Addr} {fd : FuncData} (F : Fun K "log_slope" "log_slope" s_log_slope f fd) (RO : Rz K mg "InvalidOperation" CO) (D_check_prime : De P w K mg base "check_prime" ["prime"] 2 (sp_check_prime K)) (D_check_poly : De P w K mg base "check_poly" ["prime", "poly"] 4 (sp_check_poly K))
    (X_check_prime : DeX P w K mg base "check_prime" ["prime"] 4 (sp_check_primeX K CN)) (X_check_poly : DeX P w K mg base "check_poly" ["prime", "poly"] 4 (sp_check_polyX K CP)) : FnOk P w K mg base (L2.CX P w) 7 f fd ["prime", "poly"] (sp_log_slopeX K CN CP CO) := by
  refine F.okX sc_log_slope (fun vs H Q E h => ?_) (fun cdv A outer s H vs Q E hr h => ?_)
  · cases h <;> subst_vars <;> rfl
  · cases h with
    | @prime v t d h1 h2 h3 k =>
      subst h1
      refine ⟨_, (pss_cons (ps_expr (pe_call X_check_prime.ok (hr.mono (by decide)) (by rfl) X_check_prime.g X_check_prime.kp X_check_prime.b .nil (passes_call (takes_of rfl rfl rfl rfl) (fun _ _ _ _ h => h)) (pa_cons (pv 0) pa_nil))) pss_never), ?_⟩
      exact ⟨v, rfl, v, d, rfl, h2, h3, k⟩
    | @poly t p o h1 hp h2 h3 k =>
      subst h1
      refine ⟨_, (pss_cons (ps_expr (pe_call D_check_prime.ok (hr.mono (by decide)) (by rfl) D_check_prime.g D_check_prime.kp D_check_prime.b .nil pass0 (pa_cons (pv 0) pa_nil)))
        (pss_cons (ps_expr (pe_call X_check_poly.ok (hr.mono (by decide)) (by rfl) X_check_poly.g X_check_poly.kp X_check_poly.b .nil (passes_call (takes_of rfl rfl rfl rfl) (fun _ _ _ _ h => h)) (pa_cons (pv 0) (pa_cons (pv 1) pa_nil)))) pss_never)), ?_⟩
      refine qr_drop (evr_call p hp (evrs_cons (evr_var rfl rfl) evrs_nil)) fun H1 e1 => ?_
      exact ⟨_, rfl, t, rfl, p, t, o, rfl, (vO K o).st e1 h2, hp, h3, k.ex e1⟩
    | @zero t p h1 hp h2 k =>
      subst h1
      refine ⟨_, (pss_cons (ps_expr (pe_call D_check_prime.ok (hr.mono (by decide)) (by rfl) D_check_prime.g D_check_prime.kp D_check_prime.b .nil pass0 (pa_cons (pv 0) pa_nil)))
        (pss_cons (ps_expr (pe_call D_check_poly.ok (hr.mono (by decide)) (by rfl) D_check_poly.g D_check_poly.kp D_check_poly.b .nil pass0 (pa_cons (pv 0) (pa_cons (pv 1) pa_nil))))
        (pss_cons (ps_if (pt_not (pt_truth (pv 1) (by intro _; rfl))) (pss_one (ps_raise rfl (takes_of rfl rfl rfl rfl) (pmk_own PySem.F.excBase_ValueError RO.q RO.gC RO.kC (raises_own RO.ex RO.ty) rfl))) pss_nil) pss_never))), ?_⟩
      refine qr_drop (evr_call p hp (evrs_cons (evr_var rfl rfl) evrs_nil)) fun H1 e1 => ?_
      refine qr_drop (evr_call (GP.mk p []) ⟨hp, poly_nil⟩ (evrs_cons (evr_var rfl rfl) (evrs_cons (evr_var rfl (up h2 e1)) evrs_nil))) fun H2 e2 => ?_
      exact Evl.q_when (Evl.et_not (et_truP (evr_var rfl (up h2 (e1.trans e2))))) (fun _ H4 e4 => k H4 ((e1.trans e2).trans e4)) (fun hb => by cases hb)
theorem ok_log_slope {f : Addr} {fd : FuncData} (F : Fun K "log_slope" "log_slope" s_log_slope f fd) (D_check_prime : De P w K mg base "check_prime" ["prime"] 2 (sp_check_prime K)) (D_check_poly : De P w K mg base "check_poly" ["prime", "poly"] 4 (sp_check_poly K)) (D_function_of : De P w K mg base "function_of" ["prime", "top", "bottom"] 10 (sp_function_of K C)) (D_slope_of : De P w K mg base "slope_of" ["prime", "poly"] 2 (sp_slope_of K)) : FnOk P w K mg base CX0 11 f fd ["prime", "poly"] (sp_log_slope K C) := by
  refine F.ok sc_log_slope (fun vs H Q E h => ?_) (fun cdv A outer s H vs Q E hr h => ?_)
  · obtain ⟨g, _, ha, _⟩ := h
    exact ha.len
  · obtain ⟨⟨p, xs⟩, ⟨hp, po, ps, nx60⟩, ⟨_, _, rfl, rfl, ⟨v_poly, _, rfl, h_poly, rfl⟩⟩, q⟩ := h
    dsimp only at *
    refine ⟨_, (pss_cons (ps_expr (pe_call D_check_prime.ok (hr.mono (by decide)) (by rfl) D_check_prime.g D_check_prime.kp D_check_prime.b .nil pass0 (pa_cons (pv 0) pa_nil)))
      (pss_cons (ps_expr (pe_call D_check_poly.ok (hr.mono (by decide)) (by rfl) D_check_poly.g D_check_poly.kp D_check_poly.b .nil pass0 (pa_cons (pv 0) (pa_cons (pv 1) pa_nil))))
      (pss_cons (ps_if (pt_not (pt_truth (pv 1) (by intro _; rfl))) (pss_one ps_never) pss_nil)
      (pss_one (ps_ret (pe_call D_function_of.ok (hr.mono (by decide)) (by rfl) D_function_of.g D_function_of.kp D_function_of.b .nil pass0 (pa_cons (pv 0) (pa_cons (pe_call D_slope_of.ok (hr.mono (by decide)) (by rfl) D_slope_of.g D_slope_of.kp D_slope_of.b .nil pass0 (pa_cons (pv 0) (pa_cons (pv 1) pa_nil))) (pa_cons (pv 1) pa_nil))))))))), ?_⟩
    have lx60 : xs.length ≤ 1000 := by have := po.l; omega
    refine qr_drop (evr_call p hp (evrs_cons (evr_var rfl rfl) evrs_nil)) fun H1 e1 => ?_
    refine qr_drop (evr_call (GP.mk p xs) ⟨hp, po⟩ (evrs_cons (evr_var rfl rfl) (evrs_cons (evr_var rfl (up h_poly e1)) evrs_nil))) fun H2 e2 => ?_
    have hne : (!(!xs.isEmpty)) = false := by
      cases xs with
      | nil => exact absurd rfl nx60
      | cons a l => rfl
    refine Evl.q_when (Evl.et_not (et_truP (evr_var rfl (up h_poly (e1.trans e2))))) (fun hb => by rw [hne] at hb; cases hb) (fun hb H3 e3 => ?_)
    have e13 := (e1.trans e2).trans e3
    exact sr_ret (evr_call (GTB.mk p (slopeOf p xs) xs) ⟨hp, ps, po, nx60⟩ (evrs_cons (evr_var rfl rfl) (evrs_cons (evr_call (GP.mk p xs) ⟨by have := hp.le; show 0 < p; omega, lx60, po.pl.sm hp⟩ (evrs_cons (evr_var rfl rfl) (evrs_cons (evr_var rfl (up h_poly e13)) evrs_nil))) (evrs_cons (evr_var rfl (up h_poly e13)) evrs_nil)))) fun v H5 e5 hv => q v H5 (e13.trans e5) hv
end
end K0
namespace K0
open PySem PySem.Spec PyProof.Rows L2 Kt M LamX
open Evl (Ex Ev EvL EvU EvT EvA EvO ex_l ex_t sq_of st_of sz_of sz_lt fresh_back given)
section
variable {K : PySem.W.Frag} {σ : L2.St} {H : Hp} {te : TE} {b : Bool}
theorem evr_notTr (h : EvT (tTr K te) σ H b) : EvR (fun σ H Q => te σ H fun x H1 => ∃ k, TruV K x H1 k ∧ Q (.bl (!k)) H1) σ H (vB (!b)) := fun H1 e Q q => h H1 e (fun b' H2 => Q (.bl (!b')) H2) fun H2 e2 => q _ H2 e2 rfl
end
section
variable {P : Program} {w : World} {K : PySem.W.Frag} {mg : Str → Option Value} {base : Heap} {C D : Addr}
abbrev s_are_entries : Stmt := topS 91
abbrev N_are_entries : List Str := ["value", "entry"]
theorem sc_are_entries : FnScope N_are_entries ["value"] (defScope s_are_entries) := ⟨rfl, rfl, rfl, by decide +kernel, rfl, by decide +kernel, by decide +kernel⟩
theorem ok_are_entries {f : Addr} {fd : FuncData} (F : Fun K "are_entries" "are_entries" s_are_entries f fd) (B : Bis mg) (cf : CFm K mg C) (C_MAX_ENTRIES : GI mg "MAX_ENTRIES" 9) (M___bool__ : Dm P w K mg base C "__bool__" ["self"] 1 (sp_F___bool__ K C)) : FnOk P w K mg base CX0 4 f fd ["value"] (sp_are_entries K C) := by
  refine F.ok sc_are_entries (fun vs H Q E h => ?_) (fun cdv A outer s H vs Q E hr h => ?_)
  · obtain ⟨g, _, ha, _⟩ := h
    exact ha.len
  · obtain ⟨⟨p, F0⟩, hF, ⟨v, _, rfl, hv, rfl⟩, q⟩ := h
    dsimp only at *
    refine ⟨_, (pss_cons (ps_if (PW.pt (pw_or (pt_not (pt_val (pe_callB (id := "isinstance") (r := rIsi K) call_isi (by rfl) (B "isinstance" (by decide +kernel)) (by decide +kernel) (pa_cons (pv 0) (pa_cons (pe_bltn (v := .ty "tuple") (by rfl) (B "tuple" (by decide +kernel)) (by decide +kernel) rfl) pa_nil))))) (pw_or1 (pt_cmpR op_gt (pe_callB call_len_seq (by rfl) (B "len" (by decide +kernel)) (by decide +kernel) (pa_cons (pv 0) pa_nil)) (pe_gi C_MAX_ENTRIES (by rfl)) (nomark _))))) (pss_one (ps_ret pe_bl)) pss_nil)
      (pss_cons (ps_if (pt_not (pt_val (pe_callB (id := "all") (r := rAll K) (cr_all rfl) (by rfl) (B "all" (by decide +kernel)) (by decide +kernel) (pa_cons (pe_lc (own := [("entry", 1)]) (g := (gName 1)) (tt := tYes) rfl sc_are_entries.nd (pi_tup (pv 0)) (blkOk_by (own := [("entry", 1)]) (N := N_are_entries) (sc := defScope s_are_entries) (by decide +kernel)) (fun _ _ _ _ _ => (pg_name (i := 1) sc_are_entries.nd rfl (Or.inl rfl))) (fun _ _ _ _ _ => pts_nil) (fun _ _ _ _ _ => (pe_callB (id := "isinstance") (r := rIsi K) call_isi (by rfl) (B "isinstance" (by decide +kernel)) (by decide +kernel) (pa_cons (pv 1) (pa_cons (pe_glob (v := .ref C) (by rfl) cf.mg rfl) pa_nil))))) pa_nil)))) (pss_one (ps_ret pe_bl)) pss_nil)
      (pss_one (ps_ret (pe_or (pe_notF (r := fun x H Q => ∃ k, TruV K x H k ∧ Q k H) (pv 0) tru_ok) (pe_one (pe_callTy (call_boolO M___bool__.own M___bool__.ok (hr.mono (by decide)) M___bool__.b pass0) (by rfl) (B "bool" (by decide +kernel)) (by decide +kernel) (pa_cons (pe_ix (r := rIxT K) ix_tup (pv 0) (pe_un un_neg pe_int) (fun _ _ => rfl)) pa_nil)))))))), ?_⟩
    have lenF : EvR (tCB (fun xs H Q => ∃ p ys, xs = [V.ref p] ∧ (SqL K H p ys ∨ SqT K H p ys) ∧ Q (.int ys.length) H) (tCons (tVar 0) tNil)) [some v, none] H (vI 1) := EvR.eqI (evr_lenT rfl (evr_var rfl hv)) rfl
    have hisT : EvR (tCB (rIsi K) (tCons (tVar 0) (tCons (tC (.ty "tuple")) tNil))) [some v, none] H (vB true) := evr_isi (m := "tuple") (evr_var rfl hv) vTy_T rfl
    dsimp only
    refine Evl.q_when (b := false) (Evl.et_or (a := !true) (b := false) (Evl.et_not (et_b hisT)) (fun _ => Evl.et_is (et_r (evr_op lenF evr_c op_i0)) (by decide))) (fun hb => by cases hb) (fun hb H1 e1 => ?_)
    have hv1 := up hv e1
    obtain ⟨a, xs, rfl, hs, hal⟩ := id hv1
    have hL : EvL (tLc (iTup K (tVar 0)) (gName 1) tYes (tCB (rIsi K) (tCons (tVar 1) (tCons (tC (.ref C)) tNil))) [1]) [some (.ref a), none] H1 ([true].map V.bl) := by
      have lxs : xs.length = 1 := hal.len
      have z := el_comp (vs := [1]) (g := gName 1) (tt := tYes) (te := tCB (rIsi K) (tCons (tVar 1) (tCons (tC (.ref C)) tNil))) (wk_tup (evr_var (σ := [some (.ref a), none]) (H := H1) (i := 0) (r := vC (.ref a)) rfl rfl).ev hs) (fun _ => true) (fun i => .bl true) (by omega) fun i x H2 H3 hi e2 y R k => by
        obtain ⟨rfl, hx⟩ := y
        have hx' : xs[i]? = some x := hx
        obtain ⟨r, hr, hrx⟩ := Alls.one hal hx'
        have hi0 : i = 0 := by omega
        subst hi0
        obtain rfl : vF K C p F0 = r := Option.some.inj hr
        exact k _ _ rfl (Ex.refl _) et_yes fun _ => (evr_isF cf (evr_var rfl (up hrx e2))).ev
      rw [given_all, lxs] at z
      exact z
    refine Evl.q_when (b := false) (Evl.et_not (et_b (evr_all (bs := [true]) rfl hL))) (fun hb => by cases hb) (fun hb H2 e2 => ?_)
    refine sr_ret (r := vB true) ?_ (fun u H3 e3 hu => q u H3 ((e1.trans e2).trans e3) hu)
    have hv2 := up hv1 e2
    obtain ⟨x, xs', rfl, hx, hxs⟩ := hal
    obtain rfl : xs' = [] := hxs
    have hix : EvR (tOp (rIxT K) (tVar 0) (tUn (rU fun i => .int (-i)) (tC (.int 1)))) [some (.ref a), none] H2 (vF K C p F0) := fun H3 e3 Q k => ⟨.ref a, rfl, 1, rfl, a, [x], -1, x, rfl, rfl, ex_t (e2.trans e3) hs, rfl, k x H3 (Ex.refl H3) (up (up hx e2) e3)⟩
    have hb1 := evr_boolF (E := E0) rfl hix
    have he : (!F0.1.isEmpty) = true := by
      cases hz : F0.1 with
      | nil => exact absurd hz hF
      | cons a l => rfl
    rw [he] at hb1
    exact evr_or (b := false) (c := true) (EvR.eqB (evr_notTr (et_truTs (evr_var rfl hv2) (by simp))) rfl) (fun _ => hb1)
end
end K0
namespace K0
open PySem PySem.Spec PyProof.Rows L2 Kt M LamX
open Evl (Ex Ev EvL EvU EvT EvA EvO ex_l ex_t sq_of st_of sz_of sz_lt fresh_back given)
section
variable {P : Program} {w : World} {K : PySem.W.Frag} {mg : Str → Option Value} {base : Heap} {C D : Addr}
abbrev s_O___init__ : Stmt := inClass (topS 89) 0
abbrev N_O___init__ : List Str := ["self", "prime", "entries", "entry"]
theorem sc_O___init__ : FnScope N_O___init__ ["self", "prime", "entries"] (defScope s_O___init__) := ⟨rfl, rfl, rfl, by decide +kernel, rfl, by decide +kernel, by decide +kernel⟩
theorem vF_ins {x dx dx2 : Addr} {fs gs : List (Str × V)} {p : Int} {F : PF} {v : V} {H : Hp} (hx : H x = some (.ins D dx fs)) (hv : v ≠ .ref x) (h : (vF K C p F).R v H) : (vF K C p F).R v (upd H x (.ins D dx2 gs)) := by
  obtain ⟨a, d, t, b, rfl, h2, h3, h4⟩ := h
  exact ⟨a, d, t, b, rfl, by rw [upd_ne (fun z => hv (by rw [z]))]; exact h2, sqT_upd hx h3, sqT_upd hx h4⟩
theorem ok_O___init__ {f : Addr} {fd : FuncData} (F : Fun K "__init__" "Operator.__init__" s_O___init__ f fd) (B : Bis mg) (cf : CFm K mg C) (O : OpK K mg D C) (D_check_prime : De P w K mg base "check_prime" ["prime"] 2 (sp_check_prime K)) (D_are_entries : De P w K mg base "are_entries" ["value"] 4 (sp_are_entries K C)) (M_prime : Dg P w K mg base C "prime" ["self"] 1 (sp_F_prime K C)) : FnOk P w K mg base CX0 5 f fd ["self", "prime", "entries"] (sp_O___init__ K C D) := by
  refine F.ok sc_O___init__ (fun vs H Q E h => ?_) (fun cdv A outer s H vs Q E hr h => ?_)
  · obtain ⟨_, _, _, _, _, rfl, _⟩ := h
    rfl
  · obtain ⟨x, dx, e, p, F0, rfl, hx, hp, hF, he, q⟩ := h
    refine ⟨_, (pss_cons (ps_expr (pe_call D_check_prime.ok (hr.mono (by decide)) (by rfl) D_check_prime.g D_check_prime.kp D_check_prime.b .nil pass0 (pa_cons (pv 1) pa_nil)))
      (pss_cons (ps_if (pt_not (pt_val (pe_call D_are_entries.ok (hr.mono (by decide)) (by rfl) D_are_entries.g D_are_entries.kp D_are_entries.b .nil pass0 (pa_cons (pv 2) pa_nil)))) (pss_one ps_never) pss_nil)
      (pss_cons (ps_if (pt_val (pe_callB (id := "any") (r := rAny K) (cr_any rfl) (by rfl) (B "any" (by decide +kernel)) (by decide +kernel) (pa_cons (pe_lc (own := [("entry", 3)]) (g := (gName 3)) (tt := tYes) rfl sc_O___init__.nd (pi_tup (pv 2)) (blkOk_by (own := [("entry", 3)]) (N := N_O___init__) (sc := defScope s_O___init__) (by decide +kernel)) (fun _ _ _ _ _ => (pg_name (i := 3) sc_O___init__.nd rfl (Or.inl rfl))) (fun _ _ _ _ _ => pts_nil) (fun _ _ _ _ _ => (pe_cmpR op_ne (pe_prop (pv 3) cf.c.cl M_prime.prop M_prime.ok (hr.mono (by decide)) M_prime.b .nil pass0 rfl) (pv 1) (nomark _)))) pa_nil))) (pss_one ps_never) pss_nil)
      (pss_cons (ps_fld (pv 0) (pv 1) rfl)
      (pss_one (ps_fld (pv 0) (pv 2) rfl)))))), ?_⟩
    refine qr_drop (evr_call p hp (evrs_cons (evr_var rfl rfl) evrs_nil)) fun H1 e1 => ?_
    have hE : EvR (tCall (sp_are_entries K C) [] E0 (tCons (tVar 2) tNil)) [some (.ref x), some (.int p), some e, none] H1 (vB true) := evr_call (GF.mk p F0) hF (evrs_cons (evr_var rfl (up he e1)) evrs_nil)
    refine Evl.q_when (b := false) (Evl.et_not (et_b hE)) (fun hb => by cases hb) (fun hb H2 e2 => ?_)
    have he2 := up he (e1.trans e2)
    obtain ⟨a, xs, rfl, hs, hal⟩ := id he2
    have hL : EvL (tLc (iTup K (tVar 2)) (gName 3) tYes (tOp rNe (tProp C (sp_F_prime K C) [] E0 (tVar 3)) (tVar 1)) [3]) [some (.ref x), some (.int p), some (.ref a), none] H2 ([false].map V.bl) := by
      have lxs : xs.length = 1 := hal.len
      have z := el_comp (vs := [3]) (g := gName 3) (tt := tYes) (te := tOp rNe (tProp C (sp_F_prime K C) [] E0 (tVar 3)) (tVar 1)) (wk_tup (evr_var (σ := [some (.ref x), some (.int p), some (.ref a), none]) (H := H2) (i := 2) (r := vC (.ref a)) rfl rfl).ev hs) (fun _ => true) (fun i => .bl false) (by omega) fun i y0 H3 H4 hi e3 y R k => by
        obtain ⟨rfl, hx⟩ := y
        have hx' : xs[i]? = some y0 := hx
        obtain ⟨r, hr, hrx⟩ := Alls.one hal hx'
        have hi0 : i = 0 := by omega
        subst hi0
        obtain rfl : vF K C p F0 = r := Option.some.inj hr
        exact k _ _ rfl (Ex.refl _) et_yes fun _ => (EvR.eqB (evr_op (evr_prop (GF.mk p F0) trivial rfl (evr_var rfl (up hrx e3))) (evr_var (r := vI p) rfl rfl) (op_neS rfl)) (by simp)).ev
      rw [given_all, lxs] at z
      exact z
    refine Evl.q_when (b := false) (et_b (evr_any (bs := [false]) rfl hL)) (fun hb => by cases hb) (fun hb H3 e3 => ?_)
    have e03 := (e1.trans e2).trans e3
    have hx3 : H3 x = some (.ins D dx []) := e03 _ _ hx
    refine ⟨.int p, rfl, .ref x, rfl, x, D, dx, [], rfl, hx3, O.ins.cl, O.nP, (by show 0 < 1000; decide), ?_⟩
    refine ⟨.ref a, rfl, .ref x, rfl, x, D, dx, _, rfl, upd_same, O.ins.cl, O.nE, (by show 1 < 1000; decide), ?_⟩
    refine q _ _ upd_same fun b o hb ho => ?_
    rw [upd_ne hb, upd_ne hb]
    exact e03 _ _ ho
abbrev s_O_times : Stmt := inClass (topS 89) 3
abbrev N_O_times : List Str := ["cls", "function"]
theorem sc_O_times : FnScope N_O_times ["cls", "function"] (defScope s_O_times) := ⟨rfl, rfl, rfl, by decide +kernel, rfl, by decide +kernel, by decide +kernel⟩
theorem OpK.mkr {K : PySem.W.Frag} {mg : Str → Option Value} {D C f : Addr} (c : OpK K mg D C) (o : OwnM K D "__init__" f) : Mk K D f := ⟨c.mks, o.at_, o.fn, c.kp⟩
theorem ok_O_times {f : Addr} {fd : FuncData} (F : Fun K "times" "Operator.times" s_O_times f fd) (B : Bis mg) (cf : CFm K mg C) (O : OpK K mg D C) (D_check_function : De P w K mg base "check_function" ["function"] 1 (sp_check_function K C)) (M_prime : Dg P w K mg base C "prime" ["self"] 1 (sp_F_prime K C)) (M___bool__ : Dm P w K mg base C "__bool__" ["self"] 1 (sp_F___bool__ K C)) (MO___init__ : Dm P w K mg base D "__init__" ["self", "prime", "entries"] 5 (sp_O___init__ K C D)) : FnOk P w K mg base CX0 7 f fd ["cls", "function"] (sp_O_times K C D) := by
  refine F.ok sc_O_times (fun vs H Q E h => ?_) (fun cdv A outer s H vs Q E hr h => ?_)
  · obtain ⟨g, _, ha, _⟩ := h
    exact ha.len
  · obtain ⟨⟨p, F0⟩, ⟨hp, hF⟩, ⟨_, _, rfl, rfl, ⟨v, _, rfl, hv, rfl⟩⟩, q⟩ := h
    dsimp only at *
    refine ⟨_, (pss_cons (ps_expr (pe_call D_check_function.ok (hr.mono (by decide)) (by rfl) D_check_function.g D_check_function.kp D_check_function.b .nil pass0 (pa_cons (pv 1) pa_nil)))
      (pss_one (ps_ret (pe_makeL (i := 0) (C := D) (O.mkr MO___init__.own) MO___init__.ok (hr.mono (by decide)) (by rfl) (Or.inl rfl) MO___init__.b .nil pass0 (pa_cons (pe_prop (pv 1) cf.c.cl M_prime.prop M_prime.ok (hr.mono (by decide)) M_prime.b .nil pass0 rfl) (pa_cons (pe_ifExp (pt_truthR (pv 1) (tru_own M___bool__.own M___bool__.ok (hr.mono (by decide)) M___bool__.b pass0) (by intro _; rfl)) (pe_tup (pa_cons (pv 1) pa_nil)) (pe_tup pa_nil)) pa_nil)))))), ?_⟩
    have hb : (!F0.1.isEmpty) = true := by
      cases hz : F0.1 with
      | nil => exact absurd hz hF
      | cons a l => rfl
    refine qr_drop (evr_call (GF.mk p F0) trivial (evrs_cons (evr_var rfl hv) evrs_nil)) fun H1 e1 => ?_
    have hv1 := up hv e1
    have hA : EvRs (tCons (tProp C (sp_F_prime K C) [] E0 (tVar 1)) (tCons (tIf (fun σ H Q => tVar 1 σ H fun x H' => ∃ a dx fs, x = .ref a ∧ H' a = some (.ins C dx fs) ∧ sp_F___bool__ K C [.ref a] H' (fun v H' => ∃ b, v = .bl b ∧ Q b H') E0) (tTup (tCons (tVar 1) tNil)) (tTup tNil)) tNil)) [some (.ref D), some v] H1 [vI p, vT K [vF K C p F0]] :=
      evrs_cons (evr_prop (GF.mk p F0) trivial rfl (evr_var rfl hv1)) (evrs_cons (evr_if (et_F (evr_var rfl hv1)) (fun _ => evr_dispT (K := K) (evrs_cons (evr_var rfl hv1) evrs_nil) (Nat.le_of_ble_eq_true rfl)) (fun z => by rw [hb] at z; cases z)) evrs_nil)
    refine ⟨rfl, hA H1 (Ex.refl H1) _ fun vs H2 e2 hvs x dx nx nd hn => ?_⟩
    obtain ⟨v1, w1, rfl, rfl, v2, w2, rfl, h2, hw⟩ := hvs
    obtain rfl : w2 = [] := hw
    have e3 : Ex H2 (upd (upd H2 dx (.own x)) x (.ins D dx [])) := mk_ex nx nd hn
    refine ⟨x, dx, v2, p, F0, rfl, upd_same, hp, hF, up h2 e3, fun H' fs hx' hk => ⟨rfl, q _ H' (fun b o hb0 => ?_) ⟨x, dx, fs, rfl, hx'⟩⟩⟩
    have hb2 := e2 _ _ (e1 _ _ hb0)
    exact hk b o (ne_of_none hb2 nx) (e3 _ _ hb2)
end
end K0
namespace K0
open PySem PySem.Spec PyProof.Rows L2 Kt M LamX
open Evl (Ex Ev EvL EvU EvT EvA EvO ex_l ex_t sq_of st_of sz_of sz_lt fresh_back given)
/-! ## a call of a local name that holds one of several defs, which raise -/
structure HeldX (P : Program) (w : World) (K : PySem.W.Frag) (mg : Str → Option Value) (base : Heap) (k : Nat) (f : Addr) (sp : Sp) : Prop where
  ok : FnR P w K mg base (L2.CX P w) k f sp
  kp : PySem.W.keepIn K (.ref f) = true
def tCallM (i : Nat) (L : List Addr) (sp : Sp) (E : XK) (t : TA) : TE := fun σ H Q => ∃ f, f ∈ L ∧ σ[i]? = some (some (.ref f)) ∧ t σ H fun vs H1 => sp vs H1 Q E
theorem pe_callM {X : Cx} {k i : Nat} {L : List Addr} {sp : Sp} {E : XK} {x : Str} {p pos : Pos} {e : Expr} {es : List Expr} {t : TA} (A : ∀ f, f ∈ L → HeldX X.prog X.w X.K X.mg X.base k f sp) (hr : Room k X.A) (hN : X.N[i]? = some x) (hv : Vis X.env.scope x) (hx : Passes (L2.CX X.prog X.w) X E) (ha : PA X (e :: es) t)
    (hdb : (x == ("__debug__" : Str)) = false := by decide) (hcd : (x == ("__classdict__" : Str)) = false := by decide)
    (he : starEach (e :: es) X.env = (false, eval e X.env) :: starEach es X.env := by rfl) (hpl : (backTo pos (starEach es X.env)).any (·.1) = false := by rfl) : PE X (.Call (.Name x p) (e :: es) [] pos) (tCallM i L sp E t) := by
  refine ⟨fun pins s σ H Q I h => ?_⟩
  obtain ⟨f, hf, hs, ht⟩ := h
  have F := (A f hf).ok
  refine wpAny_Call_Name_kw (thn ((pe_var (pos := p) hN hv hdb hcd).run pins s σ H (fun v H1 => v = .ref f ∧ H1 = H) I ⟨.ref f, hs, rfl, rfl⟩) fun u s1 ⟨v, H1, I1, r1, q1⟩ => ?_)
  obtain ⟨rfl, rfl⟩ := q1
  cases r1
  refine PySem.W.callWith_K (h₀ := X.base) I.ok.mod.kin (A f hf).kp (thn (ha.run pos pins s1 σ _ _ I1 ht) fun us s2 ⟨vs, H2, I2, r, q⟩ => ⟨I2.kIn, ?_⟩) he hpl
  exact wpAny_call (run_fnR F hr hx I2 r q)
/-! ## tests of what was told -/
theorem shaped_dW {ws : List Str} (h : ∀ x ∈ ws, PyData.strOk x = true) : SeqAt.shaped (dW ws) = true := by
  unfold SeqAt.shaped dW
  rw [PyData.canLay0, layw_strs h, PyData.depth, depthw_strs]
  rfl
section
variable {K : PySem.W.Frag} {T : List (Addr × Str)} {σ : L2.St} {H : Hp} {te tk : TE} {ws : List Str} {tu tz : TS} {D : Ends} {Q : VK}
theorem eqv_dW : PyData.eqv (dW ws) (dW ws) = true := by
  rw [dW, PyData.eqv, eqv_strs]
/-- if told != words -/
theorem qn_ne (T0 : Tabs T H) (h : EvN T te σ H (vW K ws)) (hk : ∀ H2, ExtN H H2 → EvR tk σ H2 (vW K ws)) (ok : ∀ x ∈ ws, PyData.strOk x = true) (k : ∀ H2, ExtN H H2 → Tabs T H2 → tz D σ H2) : tSeq (tIfS (tTest (tOp (rNeD K) te tk)) tu tNext) tz D σ H :=
  h H (ExtN.refl H) T0 _ fun x H1 e1 T1 hx => hk H1 e1 H1 (Ex.refl H1) _ fun y H2 e2 hy => by
    refine ⟨_, _, vW_D (up hx e2), vW_D hy, shaped_dW ok, shaped_dW ok, _, rfl, ?_⟩
    rw [eqv_dW]
    exact k H2 (e1.trans (exN_of e2)) (T1.ext e2)
theorem sn_ne (T0 : Tabs T H) (h : EvN T te σ H (vW K ws)) (hk : ∀ H2, ExtN H H2 → EvR tk σ H2 (vW K ws)) (ok : ∀ x ∈ ws, PyData.strOk x = true) (k : ∀ H2, ExtN H H2 → Tabs T H2 → D.nx σ H2) : tIfS (tTest (tOp (rNeD K) te tk)) tu tNext D σ H :=
  h H (ExtN.refl H) T0 _ fun x H1 e1 T1 hx => hk H1 e1 H1 (Ex.refl H1) _ fun y H2 e2 hy => by
    refine ⟨_, _, vW_D (up hx e2), vW_D hy, shaped_dW ok, shaped_dW ok, _, rfl, ?_⟩
    rw [eqv_dW]
    exact k H2 (e1.trans (exN_of e2)) (T1.ext e2)
/-- for over a tuple of things, while tables grow -/
theorem qn_forT {rs : List VR} {g : TG} (h : EvR te σ H (vT K rs)) (hsn : ∀ r ∈ rs, SN r) (Pv : Hp → Nat → L2.St → Hp → Prop) (h0 : ∀ H1, Ex H H1 → Pv H1 0 σ H1) (hx : ∀ H1 n σ' H', Pv H1 n σ' H' → ExtN H1 H')
    (hs : ∀ H1 n r y σ' H', rs[n]? = some r → Pv H1 n σ' H' → r.R y H' → g y σ' H' fun σ2 H2 => tu { D with nx := Pv H1 (n + 1), ct := Pv H1 (n + 1), bk := tz D } σ2 H2)
    (hd : ∀ H1 σ' H', Pv H1 rs.length σ' H' → tz D σ' H') : tSeq (tFor (iTup K te) g tu) tz D σ H :=
  h H (Ex.refl H) _ fun v H1 e hv => by
    obtain ⟨a, xs, rfl, hsq, hal⟩ := hv
    have hlen := hal.len
    refine ⟨a, rfl, ⟨xs, hsq⟩, for_it (walk_tup (K := K) (a := a) (xs := xs)) (Pv H1) (h0 H1 e) (fun n σ' H' _ p => exN_t (hx _ _ _ _ p) hsq) (fun n y σ' H' H2 hn p yy => ?_) (fun σ' H' p => hd H1 σ' H' (by rw [← hlen]; exact p))⟩
    obtain ⟨rfl, hy⟩ := yy
    obtain ⟨r, hr, hry⟩ := Alls.one hal hy
    exact hs H1 n r y σ' _ hr p (hsn r (List.mem_of_getElem? hr) _ _ _ (hx _ _ _ _ p) hry)
/-- _law_one_of(bag, [..]) as an expression -/
theorem eb_oneof {l : Addr} {ta : TA} {rs : List VR} {E : XK} (h0 : σ[0]? = some (some (.ref l))) (hb : Bag l H) (h : EvRs ta σ H rs) (hn : rs ≠ []) (hz : rs.length ≤ 1000) (hs : ∀ r ∈ rs, SB r) (k : ∀ v H1, (∃ r ∈ rs, r.R v H1) → ExB l H H1 → Bag l H1 → Q v H1) :
    tCall (sp__law_one_ofV K) [] E (tCons (tVar 0) (tCons (tLst ta) tNil)) σ H Q := by
  refine ⟨.ref l, h0, h H (Ex.refl H) _ fun vs H1 e1 hvs => ⟨sz_of (by rw [hvs.len]; omega), fun p hp => ?_⟩⟩
  have e2 : Ex H1 (upd H1 p (.lst vs)) := Ex.new hp
  have hb2 : Bag l (upd H1 p (.lst vs)) := hb.ex (e1.trans e2)
  have hvs2 := hvs.mono e2
  refine ⟨l, p, vs, rfl, fun z => ?_, hb2, upd_same, fun z => hn ?_, by rw [hvs.len]; exact hz, fun v H' hv eB hb' => ?_⟩
  · obtain ⟨b0, b1, b2, hl⟩ := hb.ex e1
    rw [z, hl] at hp
    cases hp
  · have := hvs.len
    rw [z] at this
    exact List.eq_nil_of_length_eq_zero this.symm
  · obtain ⟨i, hi, rfl⟩ := List.getElem_of_mem hv
    obtain ⟨r, hr, hrv⟩ := Alls.one hvs2 (List.getElem?_eq_getElem hi)
    have hm := List.mem_of_getElem? hr
    exact k _ H' ⟨r, hm, hs r hm l _ _ _ hb2 eB hrv⟩ ((ExB.of (e1.trans e2)).trans eB) hb'
/-- .. from a list that stands in a slot -/
theorem eb_oneofV {l a : Addr} {j : Nat} {vs : List V} {rs : List VR} {E : XK} (h0 : σ[0]? = some (some (.ref l))) (hj : σ[j]? = some (some (.ref a))) (hb : Bag l H) (ha : H a = some (.lst vs)) (hal : Alls rs vs H) (hne : rs.length ≠ 3) (hn : rs ≠ []) (hz : rs.length ≤ 1000) (hs : ∀ r ∈ rs, SB r) (k : ∀ v H1, (∃ r ∈ rs, r.R v H1) → ExB l H H1 → Bag l H1 → Q v H1) :
    tCall (sp__law_one_ofV K) [] E (tCons (tVar 0) (tCons (tVar j) tNil)) σ H Q := by
  refine ⟨.ref l, h0, .ref a, hj, l, a, vs, rfl, fun z => ?_, hb, ha, fun z => hn ?_, by rw [hal.len]; exact hz, fun v H' hv eB hb' => ?_⟩
  · obtain ⟨b0, b1, b2, hl⟩ := hb
    rw [z, hl] at ha
    have z2 := (HO.lst.inj (Option.some.inj ha)).symm
    have := hal.len
    rw [z2] at this
    exact hne this.symm
  · have := hal.len
    rw [z] at this
    exact List.eq_nil_of_length_eq_zero this.symm
  · obtain ⟨i, hi, rfl⟩ := List.getElem_of_mem hv
    obtain ⟨r, hr, hrv⟩ := Alls.one hal (List.getElem?_eq_getElem hi)
    have hm := List.mem_of_getElem? hr
    exact k _ H' ⟨r, hm, hs r hm l _ _ _ hb eB hrv⟩ eB hb'
end
end K0
namespace K0
open PySem PySem.Spec PyProof.Rows L2 Kt M LamX
open Evl (Ex Ev EvL EvU EvT EvA EvO ex_l ex_t sq_of st_of sz_of sz_lt fresh_back given)
structure DsS (P : Program) (w : World) (K : PySem.W.Frag) (mg : Str → Option Value) (base : Heap) (CX : CXT) (k : Nat) (sp : Sp) where
  f : Addr
  fd : FuncData
  ok : FnOk P w K mg base CX k f fd ["function", "times"] sp
  ds : List Value
  dv : Vals [.int 1] ds
  b : Binds K fd ["function", "times"] ds
  kb : KBn K fd ["function", "times"] 1 ["times"] (fun us ws => us ++ ws) (fun vs zs => vs ++ zs)
  g : mg "shrunk" = some (.ref f)
  kp : PySem.W.keepIn K (.ref f) = true
section
variable {P : Program} {w : World} {K : PySem.W.Frag} {mg : Str → Option Value} {base : Heap} {C CF : Addr}
theorem DeX.held {name : Str} {ps : List Str} {k : Nat} {sp : Sp} (X : DeX P w K mg base name ps k sp) (hk : k ≤ 9) : HeldX P w K mg base 9 X.f sp := ⟨((X.ok.raw X.b .nil).imp fun vs H Q E h => by
  rw [List.append_nil]
  exact h).mono hk, X.kp⟩
theorem DsS.held (X : DsS P w K mg base (L2.CX P w) 3 (sp_shrunkF K C CF)) : HeldX P w K mg base 9 X.f (sp_noF K C CF) := ⟨((X.ok.raw X.b X.dv).imp fun vs H Q E h => by
  obtain ⟨v, rfl, h1, h2⟩ := h
  exact ⟨v, .int 1, rfl, h1, h2⟩).mono (by decide), X.kp⟩
end
section
variable {g : List Code} {K : PySem.W.Frag} {C D CF : Addr} {mg : Str → Option Value} {H : Hp} {v : V}
def rsNone (K : PySem.W.Frag) (C D : Addr) : List VR := [vN, vI 1, vS "x", vT K [vP K [0, 1], vP K [1]], vP K [], vNw [vF K C 2 fLet], vDk, vOp D, vB true]
def rsMany (K : PySem.W.Frag) : List VR := [vN, vI (-1), vI 21, vB true, vS "1", vP K [1], vI (10 ^ 60), vI (-(10 ^ 60))]
theorem sb_rsNone : ∀ r ∈ rsNone K C D, SB r := allc sb_C (allc sb_C (allc sb_C (allc (sb_T (allc sb_P (all1 sb_P))) (allc sb_P (allc (sb_Nw (by simp) (all1 sb_F)) (allc sb_Dk (allc sb_Op (all1 sb_C))))))))
theorem sb_rsMany : ∀ r ∈ rsMany K, SB r := allc sb_C (allc sb_C (allc sb_C (allc sb_C (allc sb_C (allc sb_P (allc sb_C (all1 sb_C)))))))
theorem vTy_B {b : Bool} : vTy K "bool" (vB b) := fun v H h => by
  obtain rfl : v = .bl b := h
  exact .base (.bl b)
theorem none_ok (N : NotFn K C) (O : OpK K mg D C) (h : ∃ r ∈ rsNone K C D, r.R v H) : NoF K C v H := by
  obtain ⟨r, hr, h⟩ := h
  simp only [rsNone, List.mem_cons, List.not_mem_nil, or_false] at hr
  rcases hr with rfl | rfl | rfl | rfl | rfl | rfl | rfl | rfl | rfl
  · exact .of N h vTy_N (by decide)
  · exact .of N h vTy_I (by decide)
  · exact .of N h vTy_S (by decide)
  · exact .of N h vTy_T (by decide)
  · exact .of N h vTy_P (by decide)
  · exact .of N h vTy_Nw (by decide)
  · exact .of N h vTy_Dk (by decide)
  · exact .op O h
  · exact .of N h vTy_B (by decide)
theorem sn_NoF {H' : Hp} (h : NoF K C v H) (e : Ex H H') : NoF K C v H' := h.ex e
theorem many_ok (h : ∃ r ∈ rsMany K, r.R v H) : ∃ d t, (vD K d).R v H ∧ isWithin d 0 20 = false ∧ Say g K H v t ∧ Tx t := by
  obtain ⟨r, hr, h⟩ := h
  have kI : ∀ n : Int, n.natAbs.log2 < 1920 → isWithin (.int n) 0 20 = false → Tx (toString n) → (vI n).R v H → ∃ d t, (vD K d).R v H ∧ isWithin d 0 20 = false ∧ Say g K H v t ∧ Tx t := fun n h1 h2 h3 h => ⟨.int n, toString n, dp_c h fun _ => .int n, h2, say_c (c := .int n) h h1, h3⟩
  simp only [rsMany, List.mem_cons, List.not_mem_nil, or_false] at hr
  rcases hr with rfl | rfl | rfl | rfl | rfl | rfl | rfl | rfl
  · exact ⟨.none, "None", dp_c h fun _ => .non, rfl, say_c (c := .non) h trivial, by decide +kernel, by decide +kernel⟩
  · exact kI (-1) (by decide +kernel) (by decide +kernel) ⟨by decide +kernel, by decide +kernel⟩ h
  · exact kI 21 (by decide +kernel) (by decide +kernel) ⟨by decide +kernel, by decide +kernel⟩ h
  · exact ⟨.bool true, "True", dp_c h fun _ => .bl true, rfl, say_c (c := .bl true) h trivial, by decide +kernel, by decide +kernel⟩
  · exact ⟨.str "1", reprText "1", dp_c h fun _ => .str "1", rfl, say_c (c := .str "1") h (by show (reprText "1").length ≤ sizeLine; rw [sizeLine_eq]; decide +kernel), by decide +kernel, by decide +kernel⟩
  · obtain ⟨t, h1, h2⟩ := say_P (g := g) h (by decide +kernel) ⟨by decide +kernel, by decide +kernel⟩
    exact ⟨dP [1], t, vP_D h, rfl, h1, h2⟩
  · exact kI (10 ^ 60) (by decide +kernel) (by decide +kernel) ⟨by decide +kernel, by decide +kernel⟩ h
  · exact kI (-(10 ^ 60)) (by decide +kernel) (by decide +kernel) ⟨by decide +kernel, by decide +kernel⟩ h
end
def vWF : List Str := ["refused", "function"]
theorem ok_WF : ∀ x ∈ vWF, PyData.strOk x = true := by decide +kernel
theorem ok_WN {t : Str} (h : Tx t) : ∀ x ∈ (["refused", "number", t] : List Str), PyData.strOk x = true := fun x hx => by
  simp only [List.mem_cons, List.not_mem_nil, or_false] at hx
  rcases hx with rfl | rfl | rfl
  · decide +kernel
  · decide +kernel
  · exact h.ok
/-- what is no function stays none while tables grow: said of the value's own relation -/
theorem none_sn {K : PySem.W.Frag} {C D : Addr} : ∀ r ∈ rsNone K C D, SN r := allc sn_C (allc sn_C (allc sn_C (allc (sn_T (allc sn_P (all1 sn_P))) (allc sn_P (allc (sn_Nw (all1 sn_F)) (allc sn_Dk (allc sn_Op (all1 sn_C))))))))
def sp__law_functions_right (T : List (Addr × Str)) : Sp := fun vs H Q _ => ∃ l, vs = [.ref l] ∧ Bag l H ∧ Tabs T H ∧ ∀ H', ExNB l H H' → Bag l H' → Tabs T H' → Q (.bl true) H'
theorem ExNB.ofN {l : Addr} {H H' : Hp} (e : ExtN H H') : ExNB l H H' := fun b o _ h hn => e b o h hn
section
variable {P : Program} {w : World} {K : PySem.W.Frag} {mg : Str → Option Value} {base : Heap} {C D CP CF CO CN c Pt : Addr} {T : List (Addr × Str)}
abbrev s__law_functions_right : Stmt := topS 102
abbrev N__law_functions_right : List Str := ["bag", "far", "none", "many", "call", "x"]
theorem sc__law_functions_right : FnScope N__law_functions_right ["bag"] (defScope s__law_functions_right) := ⟨rfl, rfl, rfl, by decide +kernel, rfl, by decide +kernel, by decide +kernel⟩
theorem ok__law_functions_right {f : Addr} {fd : FuncData} (F : FunC K "_law_functions_right" "_law_functions_right" s__law_functions_right f fd c) (B : Bis mg) (cf : CFm K mg C) (N : NotFn K C) (O : OpK K mg D C) (Mx : Met K mg CP CF CO CN) (W : CodeT base mg T (lamName "_law_functions_right") c Pt)
    (D__law_one_of : De P w K mg base "_law_one_of" ["bag", "items"] 2 (sp__law_one_ofV K)) (M_letter : Dk P w K mg base C "letter" ["cls", "prime"] 9 (sp_F_letter K C)) (MO_times : Dk P w K mg base D "times" ["cls", "function"] 7 (sp_O_times K C D)) (M___pow__ : Dm P w K mg base C "__pow__" ["self", "other"] 10 (sp_F___pow__ K C))
    (X_is_slope : DeX P w K mg base "is_slope" ["function"] 3 (sp_noF K C CF)) (X_slope_source : DeX P w K mg base "slope_source" ["function"] 3 (sp_noF K C CF)) (X_is_log_slope : DeX P w K mg base "is_log_slope" ["function"] 3 (sp_noF K C CF)) (X_log_source : DeX P w K mg base "log_source" ["function"] 5 (sp_noF K C CF)) (X_log_fault : DeX P w K mg base "log_fault" ["function"] 3 (sp_noF K C CF)) (X_turn_of : DeX P w K mg base "turn_of" ["function"] 3 (sp_noF K C CF))
    (X_shrunk : DsS P w K mg base (L2.CX P w) 3 (sp_shrunkF K C CF)) (X_shrunkN : DsS P w K mg base (L2.CX P w) 4 (sp_shrunkN K C CN)) (D_shrunk : DsS P w K mg base CX0 13 (sp_shrunk K C)) : FnOk P w K mg base CX0 17 f fd ["bag"] (sp__law_functions_right T) := by
  refine F.okG sc__law_functions_right (fun vs H Q E h => ?_) (fun g A outer s H vs Q E hg hr h => ?_)
  · obtain ⟨_, rfl, _⟩ := h
    rfl
  · obtain ⟨l, rfl, hb, hT, q⟩ := h
    let fl : List Addr := [X_is_slope.f, X_slope_source.f, X_is_log_slope.f, X_log_source.f, X_log_fault.f, X_turn_of.f, X_shrunk.f]
    have HL : ∀ f, f ∈ fl → HeldX P w K mg base 9 f (sp_noF K C CF) := fun f hf => by
      simp only [fl, List.mem_cons, List.not_mem_nil, or_false] at hf
      rcases hf with rfl | rfl | rfl | rfl | rfl | rfl | rfl
      · exact X_is_slope.held (by decide)
      · exact X_slope_source.held (by decide)
      · exact X_is_log_slope.held (by decide)
      · exact X_log_source.held (by decide)
      · exact X_log_fault.held (by decide)
      · exact X_turn_of.held (by decide)
      · exact X_shrunk.held
    refine ⟨_, (pss_cons (ps_set (i := 1) sc__law_functions_right.nd rfl (Or.inl rfl) (ClX.pe_cmeth (pe_glob (v := .ref D) (by rfl) O.mg rfl) MO_times.rd MO_times.cm MO_times.fnr (hr.mono (by decide)) pass0 (pa_cons (ClX.pe_cmeth (pe_glob (v := .ref C) (by rfl) cf.mg rfl) M_letter.rd M_letter.cm M_letter.fnr (hr.mono (by decide)) pass0 (pa_cons pe_int pa_nil)) pa_nil)))
      (pss_cons (ps_set (i := 2) sc__law_functions_right.nd rfl (Or.inr rfl) (pe_call D__law_one_of.ok (hr.mono (by decide)) (by rfl) D__law_one_of.g D__law_one_of.kp D__law_one_of.b .nil pass0 (pa_cons (pv 0) (pa_cons (pe_lst (pa_cons pe_non (pa_cons pe_int (pa_cons pe_str (pa_cons (pe_tup (pa_cons (pe_tup (pa_cons pe_int (pa_cons pe_int pa_nil))) (pa_cons (pe_tup (pa_cons pe_int pa_nil)) pa_nil))) (pa_cons (pe_tup pa_nil) (pa_cons (pe_lst (pa_cons (ClX.pe_cmeth (pe_glob (v := .ref C) (by rfl) cf.mg rfl) M_letter.rd M_letter.cm M_letter.fnr (hr.mono (by decide)) pass0 (pa_cons pe_int pa_nil)) pa_nil)) (pa_cons pe_dnewK (pa_cons (pv 1) (pa_cons pe_bl pa_nil)))))))))) pa_nil))))
      (pss_cons (ps_set (i := 3) sc__law_functions_right.nd rfl (Or.inr rfl) (pe_call D__law_one_of.ok (hr.mono (by decide)) (by rfl) D__law_one_of.g D__law_one_of.kp D__law_one_of.b .nil pass0 (pa_cons (pv 0) (pa_cons (pe_lst (pa_cons pe_non (pa_cons (pe_un un_neg pe_int) (pa_cons pe_int (pa_cons pe_bl (pa_cons pe_str (pa_cons (pe_tup (pa_cons pe_int pa_nil)) (pa_cons (pe_op op_pow pe_int pe_int) (pa_cons (pe_un un_neg (pe_op op_pow pe_int pe_int)) pa_nil))))))))) pa_nil))))
      (pss_cons (ps_for PassesOwn.never rfl (pi_tup (pe_tup (pa_cons (pe_glob (v := .ref X_is_slope.f) (by rfl) X_is_slope.g rfl) (pa_cons (pe_glob (v := .ref X_slope_source.f) (by rfl) X_slope_source.g rfl) (pa_cons (pe_glob (v := .ref X_is_log_slope.f) (by rfl) X_is_log_slope.g rfl) (pa_cons (pe_glob (v := .ref X_log_source.f) (by rfl) X_log_source.g rfl) (pa_cons (pe_glob (v := .ref X_log_fault.f) (by rfl) X_log_fault.g rfl) (pa_cons (pe_glob (v := .ref X_turn_of.f) (by rfl) X_turn_of.g rfl) (pa_cons (pe_glob (v := .ref X_shrunk.f) (by rfl) X_shrunk.g rfl) pa_nil))))))))) (pg_name (i := 4) sc__law_functions_right.nd rfl (Or.inr rfl)) (pss_one (ps_if (pt_cmpR (r := rNeD K) (op_neD hr.units) (pe_metB Mx W rfl hg (k := 14) (hr.mono (by decide)) B rfl (lamS_by (sc := defScope s__law_functions_right) (by decide +kernel)) rfl (fun _ _ _ _ _ => rfl) (fun _ _ _ _ _ _ _ hr => (pe_callM (i := 4) (L := fl) HL (hr.mono (by decide)) rfl (by first | exact Or.inl rfl | exact Or.inr (Or.inl rfl) | exact Or.inr (Or.inr rfl)) (passes_call (takes_of rfl rfl rfl rfl) (fun _ _ _ _ h => h)) (pa_cons (pv 2) pa_nil)))) (pe_tup (pa_cons pe_str (pa_cons pe_str pa_nil))) (nomark _)) (pss_one (ps_ret pe_bl)) pss_nil)))
      (pss_cons (ps_if (pt_cmpR (r := rNeD K) (op_neD hr.units) (pe_metB Mx W rfl hg (k := 14) (hr.mono (by decide)) B rfl (lamS_by (sc := defScope s__law_functions_right) (by decide +kernel)) rfl (fun _ _ _ _ _ => rfl) (fun _ _ _ _ _ _ _ hr => (pe_callN X_shrunk.ok (hr.mono (by decide)) (by rfl) X_shrunk.g X_shrunk.kp X_shrunk.kb (passes_call (takes_of rfl rfl rfl rfl) (fun _ _ _ _ h => h)) (pa_cons (pv 2) pa_nil) (pk_cons (pv 3) pk_nil)))) (pe_tup (pa_cons pe_str (pa_cons pe_str pa_nil))) (nomark _)) (pss_one (ps_ret pe_bl)) pss_nil)
      (pss_cons (ps_set (i := 5) sc__law_functions_right.nd rfl (Or.inr rfl) (ClX.pe_cmeth (pe_glob (v := .ref C) (by rfl) cf.mg rfl) M_letter.rd M_letter.cm M_letter.fnr (hr.mono (by decide)) pass0 (pa_cons (pe_call D__law_one_of.ok (hr.mono (by decide)) (by rfl) D__law_one_of.g D__law_one_of.kp D__law_one_of.b .nil pass0 (pa_cons (pv 0) (pa_cons (pe_lst (pa_cons pe_int (pa_cons pe_int (pa_cons pe_int (pa_cons pe_int pa_nil))))) pa_nil))) pa_nil)))
      (pss_cons (ps_if (pt_cmpR (r := rNeD K) (op_neD hr.units) (pe_metB Mx W rfl hg (k := 14) (hr.mono (by decide)) B rfl (lamS_by (sc := defScope s__law_functions_right) (by decide +kernel)) rfl (fun _ _ _ _ _ => rfl) (fun _ _ _ _ _ _ _ hr => (pe_callN X_shrunkN.ok (hr.mono (by decide)) (by rfl) X_shrunkN.g X_shrunkN.kp X_shrunkN.kb (passes_call (takes_of rfl rfl rfl rfl) (fun _ _ _ _ h => h)) (pa_cons (pv 5) pa_nil) (pk_cons (pv 3) pk_nil)))) (pe_tup (pa_cons pe_str (pa_cons pe_str (pa_cons (pe_callB (id := "repr") (r := rSay g K) (call_sayR hg hr.units) (by rfl) (B "repr" (by decide +kernel)) (by decide +kernel) (pa_cons (pv 3) pa_nil)) pa_nil)))) (nomark _)) (pss_one (ps_ret pe_bl)) pss_nil)
      (pss_one (ps_ret (pe_cmpR (r := rEqD K) (op_eqD hr.units) (pe_metB Mx W rfl hg (k := 14) (hr.mono (by decide)) B rfl (lamS_by (sc := defScope s__law_functions_right) (by decide +kernel)) rfl (fun _ _ _ _ _ => rfl) (fun _ _ _ _ _ _ _ hr => (pe_callN D_shrunk.ok (hr.mono (by decide)) (by rfl) D_shrunk.g D_shrunk.kp D_shrunk.kb pass0 (pa_cons (pe_op (op_ownI (op := .Pow) (own_pow M___pow__.own) cf.oi M___pow__.ok (hr.mono (by decide)) M___pow__.b pass0) (pv 5) pe_int) pa_nil) (pk_cons (pe_call D__law_one_of.ok (hr.mono (by decide)) (by rfl) D__law_one_of.g D__law_one_of.kp D__law_one_of.b .nil pass0 (pa_cons (pv 0) (pa_cons (pe_lst (pa_cons pe_int (pa_cons pe_int (pa_cons pe_int pa_nil)))) pa_nil))) pk_nil)))) (pe_tup (pa_cons pe_str pa_nil)) (nomark _))))))))))), ?_⟩
    refine qr_asg (r := vOp D) (fun H1 e1 Q k => ⟨rfl, evr_letter (K := K) (C := C) (p := 3) pr3 evr_c H1 e1 _ fun u H2 e2 hu => ⟨GF.mk 3 fLet, ⟨pr3, by decide⟩, ⟨_, _, rfl, rfl, u, [], rfl, hu, rfl⟩, fun v H3 e3 hv => k v H3 (e2.trans e3) hv⟩⟩) fun v0 H0 e0 h0 => ?_
    have hb0 := hb.ex e0
    refine qb_oneof (rs := rsNone K C D) rfl hb0 (evrs_cons evr_c (evrs_cons evr_c (evrs_cons evr_c (evrs_cons (evr_dispT (evrs_cons (evr_disp (ns := [0, 1]) (evrs_cons evr_c (evrs_cons evr_c evrs_nil)) (Nat.le_of_ble_eq_true rfl)) (evrs_cons (evr_disp (ns := [1]) (evrs_cons evr_c evrs_nil) (Nat.le_of_ble_eq_true rfl)) evrs_nil)) (Nat.le_of_ble_eq_true rfl)) (evrs_cons (evr_disp (ns := []) evrs_nil (Nat.le_of_ble_eq_true rfl)) (evrs_cons (evr_nw (em_disp (rs := [vF K C 2 fLet]) (evrs_cons (evr_letter (K := K) (C := C) (p := 2) (.inl rfl) evr_c) evrs_nil) (Nat.le_of_ble_eq_true rfl))) (evrs_cons (show EvR _ _ _ vDk from evr_dict (K := K)) (evrs_cons (evr_var rfl h0) (evrs_cons evr_c evrs_nil))))))))) (by simp [rsNone]) (Nat.le_of_ble_eq_true rfl) sb_rsNone fun v1 H1 h1 b1 hb1 => ?_
    refine qb_oneof (rs := rsMany K) rfl hb1 (evrs_cons evr_c (evrs_cons (un_negI evr_c) (evrs_cons evr_c (evrs_cons evr_c (evrs_cons evr_c (evrs_cons (evr_disp (ns := [1]) (evrs_cons evr_c evrs_nil) (Nat.le_of_ble_eq_true rfl)) (evrs_cons (evr_op evr_c evr_c (op_i ⟨by decide, by decide, by decide⟩)) (evrs_cons (un_negI (evr_op evr_c evr_c (op_i ⟨by decide, by decide, by decide⟩))) evrs_nil)))))))) (by simp [rsMany]) (Nat.le_of_ble_eq_true rfl) sb_rsMany fun v2 H2 h2 b2 hb2 => ?_
    have b02 := (ExB.of e0).trans (b1.trans b2)
    have hT2 : Tabs T H2 := tabs_exB (hT.ext e0) hb0 (b1.trans b2)
    have h1' : ∃ r ∈ rsNone K C D, r.R v1 H2 := some_sb sb_rsNone hb1 b2 h1
    have nf : ∀ H', ExtN H2 H' → NoF K C v1 H' := fun H' e => none_ok N O (some_sn none_sn e h1')
    obtain ⟨d2, t2, hd2, hB2, hs2, x2⟩ := many_ok (g := g) (K := K) h2
    have zf : ∀ t, Oc.func = .num t → t.length ≤ 100000 := nofun
    have z2 : ∀ t, Oc.num t2 = .num t → t.length ≤ 100000 := fun t z => by cases z; have := x2.l; omega
    have hwf : ∀ (σ : L2.St) H, EvR (tTup (tCons (tC (.str "refused")) (tCons (tC (.str "function")) tNil))) σ H (vW K vWF) := fun σ H => evr_dispW (ws := vWF) (evrs_cons evr_c (evrs_cons evr_c evrs_nil)) (Nat.le_of_ble_eq_true rfl)
    refine qn_forT (K := K) (rs := fl.map fun f => vC (.ref f)) (evr_dispT (evrs_cons evr_c (evrs_cons evr_c (evrs_cons evr_c (evrs_cons evr_c (evrs_cons evr_c (evrs_cons evr_c (evrs_cons evr_c evrs_nil))))))) (Nat.le_of_ble_eq_true rfl)) (fun r hr => by
        obtain ⟨f, _, rfl⟩ := List.mem_map.mp hr
        exact sn_C) (fun Hs n σ' H' => ExtN Hs H' ∧ ExtN H2 H' ∧ Tabs T H' ∧ ∃ x4, σ' = [some (.ref l), some v0, some v1, some v2, x4, none]) (fun H3 e3 => ⟨ExtN.refl H3, exN_of e3, hT2.ext e3, none, rfl⟩) (fun _ _ _ _ h => h.1) ?_ ?_
    · rintro Hs n r y σ' H' hr ⟨es, e2, T', x4, rfl⟩ hy
      obtain ⟨fa, hfa, rfl⟩ := List.mem_map.mp (List.mem_of_getElem? hr)
      obtain rfl : y = .ref fa := hy
      refine sn_ne (K := K) (T := T) (ws := vWF) T' (evn_met (o := .func) (fun H5 e5 E Q k => ⟨fa, hfa, rfl, v1, rfl, v1, rfl, nf _ (e2.trans e5), k.func'⟩) zf) (fun H3 e3 => hwf _ _) ok_WF fun H3 e3 T3 => ?_
      exact ⟨es.trans e3, e2.trans e3, T3, _, rfl⟩
    · rintro Hs σ' H3 ⟨es, e3, T3, x4, rfl⟩
      refine qn_ne (K := K) (T := T) (ws := vWF) T3 (evn_met (o := .func) (fun H5 e5 E Q k => ⟨v1, rfl, v2, rfl, rfl, rfl, v1, v2, rfl, nf _ (e3.trans e5), k.func'⟩) zf) (fun H4 e4 => hwf _ _) ok_WF fun H4 e4 T4 => ?_
      have e24 := e3.trans e4
      have hb4 := bag_exN hb2 e24
      refine ⟨rfl, eb_oneof (rs := [vI 2, vI 3, vI 5, vI 7]) rfl hb4 (evrs_cons evr_c (evrs_cons evr_c (evrs_cons evr_c (evrs_cons evr_c evrs_nil)))) (by simp) (Nat.le_of_ble_eq_true rfl) (allc sb_C (allc sb_C (allc sb_C (all1 sb_C)))) fun vp H5 hp5 b5 hb5 => ?_⟩
      obtain ⟨p, rfl, hp⟩ : ∃ p, vp = .int p ∧ Pr p := by
        obtain ⟨r, hr, hv⟩ := hp5
        simp only [List.mem_cons, List.not_mem_nil, or_false] at hr
        rcases hr with rfl | rfl | rfl | rfl
        · exact ⟨2, hv, .inl rfl⟩
        · exact ⟨3, hv, .inr (.inl rfl)⟩
        · exact ⟨5, hv, .inr (.inr (.inl rfl))⟩
        · exact ⟨7, hv, .inr (.inr (.inr rfl))⟩
      refine ⟨p, hp, ⟨_, _, rfl, rfl, .int p, [], rfl, rfl, rfl⟩, fun vx H6 e6 hx6 => ?_⟩
      have n26 : ExNB l H2 H6 := fun b o hbl ho hn => e6 _ _ (b5 _ _ hbl (e24 _ _ ho hn))
      have T6 : Tabs T H6 := (tabs_exB T4 hb4 b5).ext e6
      have h2' : ∃ r ∈ rsMany K, r.R v2 H6 := by
        obtain ⟨r, hr, hv⟩ := h2
        exact ⟨r, hr, r.st e6 (sb_rsMany r hr _ _ _ _ hb4 b5 ((allc sn_C (allc sn_C (allc sn_C (allc sn_C (allc sn_C (allc sn_P (allc sn_C (all1 sn_C)))))))) r hr _ _ _ e24 hv))⟩
      obtain ⟨d6, t6, hd6, hB6, hs6, x6⟩ := many_ok (g := g) (K := K) h2'
      have z6 : ∀ t, Oc.num t6 = .num t → t.length ≤ 100000 := fun t z => by cases z; have := x6.l; omega
      refine qn_ne (K := K) (T := T) (ws := ["refused", "number", t6]) T6 (evn_met (o := .num t6) (fun H7 e7 E Q k => ⟨vx, rfl, v2, rfl, rfl, rfl, vx, v2, p, fLet, d6, rfl, sn_F _ _ _ e7 hx6, sn_D _ _ _ e7 hd6, hB6, k.given (say_exN e7 hs6)⟩) z6) (fun H7 e7 => evr_dispW (ws := ["refused", "number", t6]) (evrs_cons evr_c (evrs_cons evr_c (evrs_cons (evr_say (evr_var (r := vC v2) rfl rfl) (say_exN e7 hs6)) evrs_nil))) (Nat.le_of_ble_eq_true rfl)) (ok_WN x6) fun H7 e7 T7 => ?_
      have hb7 := bag_exN (hb5.ex e6) e7
      have hx7 := sn_F _ _ _ e7 hx6
      refine ⟨T7, fun H8 e8 T8 => ?_⟩
      have hx8 := sn_F _ _ _ e8 hx7
      have hb8 := bag_exN hb7 e8
      have e2p : fPow p fLet 2 = ([0, 0, 1], [1]) := by rcases hp with rfl | rfl | rfl | rfl <;> decide +kernel
      have nL : NF p fLet := by
        have pl : Pl p [0, 1] := ⟨fun y hy => by
          have := hp.le
          simp at hy
          rcases hy with rfl | rfl <;> omega, by decide +kernel⟩
        have z := (nf_ok hp pl (.one hp) (by simp) (by simp) (by simp)).1
        rw [nf_one hp pl (by simp)] at z
        exact z
      have hsq : EvR (tOp (rOwnI C (sp_F___pow__ K C) E0) (tVar 5) (tC (.int 2))) [some (.ref l), some v0, some v1, some v2, x4, some vx] H8 (vF K C p (fPow p fLet 2)) := evr_op (evr_var rfl hx8) evr_c (op_ownIV (n := 2) (GFn.mk p fLet 2) ⟨hp, nL, Nat.le_of_ble_eq_true rfl, 2, ⟨Nat.le_of_ble_eq_true rfl, Nat.le_of_ble_eq_true rfl⟩, Nat.le_of_ble_eq_true rfl⟩ rfl)
      refine hsq H8 (Ex.refl H8) _ fun vq H9 e9 hq => ?_
      have hq' : (vF K C p ([0, 0, 1], [1])).R vq H9 := by
        rw [← e2p]
        exact hq
      have hb9 := hb8.ex e9
      refine eb_oneof (rs := [vI 0, vI 20, vI 1]) rfl hb9 (evrs_cons evr_c (evrs_cons evr_c (evrs_cons evr_c evrs_nil))) (by simp) (Nat.le_of_ble_eq_true rfl) (allc sb_C (allc sb_C (all1 sb_C))) fun vn H10 hn10 b10 hb10 => ?_
      obtain ⟨n, rfl, hn⟩ : ∃ n : Nat, vn = .int (n : Int) ∧ n ≤ 20 := by
        obtain ⟨r, hr, hv⟩ := hn10
        simp only [List.mem_cons, List.not_mem_nil, or_false] at hr
        rcases hr with rfl | rfl | rfl
        · exact ⟨0, hv, by decide⟩
        · exact ⟨20, hv, by decide⟩
        · exact ⟨1, hv, by decide⟩
      refine ⟨rfl, rfl, GLast.mk p [0, 0, 1] n, ⟨hp, .inl rfl, hn⟩, ⟨_, _, rfl, sb_F _ _ _ _ hb9 b10 hq', _, _, rfl, rfl, rfl⟩, fun u H11 e11 hu => ?_⟩
      refine ⟨by show 1 ≤ sizeLine; rw [sizeLine_eq]; omega, fun pp hpp => ?_⟩
      have hk : EvR (tTup (tCons (tC (.str "fine")) tNil)) [some (.ref l), some v0, some v1, some v2, x4, some vx] (upd H11 pp (.tup [.str "fine"])) (vW K ["fine"]) := evr_dispW (ws := ["fine"]) (evrs_cons evr_c evrs_nil) (Nat.le_of_ble_eq_true rfl)
      refine hk _ (Ex.refl _) _ fun y H12 e12 hy => ?_
      have okf : ∀ x ∈ (["fine"] : List Str), PyData.strOk x = true := by decide +kernel
      have e13 : Ex H11 H12 := (Ex.new hpp).trans e12
      have hw : (vW K ["fine"]).R (.ref pp) H12 := up ⟨pp, rfl, st_of upd_same⟩ e12
      refine ⟨_, _, vW_D hw, vW_D hy, shaped_dW okf, shaped_dW okf, ?_⟩
      rw [eqv_dW]
      have T9 : Tabs T H9 := T8.ext e9
      have T12 : Tabs T H12 := ((tabs_exB T9 hb9 b10).ext e11).ext e13
      refine q H12 ?_ ((hb10.ex e11).ex e13) T12
      have n02 : ExNB l H H2 := ExNB.ofB b02
      have n69 : ExNB l H6 H9 := (ExNB.ofN (l := l) e7).trans ((ExNB.ofN e8).trans (ExNB.ofN (exN_of e9)))
      have n912 : ExNB l H9 H12 := (ExNB.ofB b10).trans (ExNB.ofN ((exN_of e11).trans (exN_of e13)))
      exact n02.trans (n26.trans (n69.trans n912))
end
end K0
namespace K0
open PySem PySem.Spec PyProof.Rows L2 Kt M LamX
open Evl (Ex Ev EvL EvU EvT EvA EvO ex_l ex_t sq_of st_of sz_of sz_lt fresh_back given)
section
variable {g : List Code} {K : PySem.W.Frag} {C D CF : Addr} {mg : Str → Option Value} {H : Hp} {v : V} {r0 : Int}
def rsPr (K : PySem.W.Frag) : List VR := [vN, vI 0, vI 1, vI 4, vI 11, vI (-3), vB true, vS "3", vP K [3], vI (10 ^ 60)]
def rsPo (K : PySem.W.Frag) (r0 : Int) : List VR := [vN, vI 1, vS "x", vNw [vI 0, vI 1], vP K [0], vP K [1, 0], vP K [r0], vP K [-1], vT K [vB true], vT K [vS "1"], vT K [vI 0, vN], vP K (List.replicate 62 1), vDk]
theorem sb_rsPr : ∀ r ∈ rsPr K, SB r := allc sb_C (allc sb_C (allc sb_C (allc sb_C (allc sb_C (allc sb_C (allc sb_C (allc sb_C (allc sb_P (all1 sb_C)))))))))
theorem sb_rsPo : ∀ r ∈ rsPo K r0, SB r := allc sb_C (allc sb_C (allc sb_C (allc (sb_Nw (by simp) (allc sb_C (all1 sb_C))) (allc sb_P (allc sb_P (allc sb_P (allc sb_P (allc (sb_T (all1 sb_C)) (allc (sb_T (all1 sb_C)) (allc (sb_T (allc sb_C (all1 sb_C))) (allc sb_P (all1 sb_Dk))))))))))))
theorem pr_ok (h : ∃ r ∈ rsPr K, r.R v H) : ∃ d t, (vD K d).R v H ∧ BadP d ∧ Say g K H v t ∧ Tx t := by
  obtain ⟨r, hr, h⟩ := h
  have kI : ∀ n : Int, n.natAbs.log2 < 1920 → n ∉ ([2, 3, 5, 7] : List Int) → Tx (toString n) → (vI n).R v H → ∃ d t, (vD K d).R v H ∧ BadP d ∧ Say g K H v t ∧ Tx t := fun n h1 h2 h3 h => ⟨.int n, toString n, dp_c h fun _ => .int n, .inr ⟨n, rfl, h2⟩, say_c (c := .int n) h h1, h3⟩
  simp only [rsPr, List.mem_cons, List.not_mem_nil, or_false] at hr
  rcases hr with rfl | rfl | rfl | rfl | rfl | rfl | rfl | rfl | rfl | rfl
  · exact ⟨.none, "None", dp_c h fun _ => .non, .inl rfl, say_c (c := .non) h trivial, by decide +kernel, by decide +kernel⟩
  · exact kI 0 (by decide +kernel) (by decide) ⟨by decide +kernel, by decide +kernel⟩ h
  · exact kI 1 (by decide +kernel) (by decide) ⟨by decide +kernel, by decide +kernel⟩ h
  · exact kI 4 (by decide +kernel) (by decide) ⟨by decide +kernel, by decide +kernel⟩ h
  · exact kI 11 (by decide +kernel) (by decide) ⟨by decide +kernel, by decide +kernel⟩ h
  · exact kI (-3) (by decide +kernel) (by decide) ⟨by decide +kernel, by decide +kernel⟩ h
  · exact ⟨.bool true, "True", dp_c h fun _ => .bl true, .inl rfl, say_c (c := .bl true) h trivial, by decide +kernel, by decide +kernel⟩
  · exact ⟨.str "3", reprText "3", dp_c h fun _ => .str "3", .inl rfl, say_c (c := .str "3") h (by show (reprText "3").length ≤ sizeLine; rw [sizeLine_eq]; decide +kernel), by decide +kernel, by decide +kernel⟩
  · obtain ⟨t, h1, h2⟩ := say_P (g := g) h (by decide +kernel) ⟨by decide +kernel, by decide +kernel⟩
    exact ⟨dP [3], t, vP_D h, .inl rfl, h1, h2⟩
  · exact kI (10 ^ 60) (by decide +kernel) (by decide) ⟨by decide +kernel, by decide +kernel⟩ h
theorem dp_T2 {r r' : VR} {d e : PyData} (h : (vT K [r, r']).R v H) (hr : ∀ x, r.R x H → Dp K H x d) (hr' : ∀ x, r'.R x H → Dp K H x e) : (vD K (.tuple [d, e])).R v H := by
  obtain ⟨a, xs, rfl, hs, x, w, rfl, hx, y, w2, rfl, hy, hw⟩ := h
  obtain rfl : w2 = [] := hw
  exact .tup hs (.cons (hr x hx) (.cons (hr' y hy) .nil))
theorem po_ok (hp : Pr r0) (h : ∃ r ∈ rsPo K r0, r.R v H) : ∃ o, (vO K o).R v H ∧ hpf r0 o = false := by
  obtain ⟨r, hr, h⟩ := h
  simp only [rsPo, List.mem_cons, List.not_mem_nil, or_false] at hr
  rcases hr with rfl | rfl | rfl | rfl | rfl | rfl | rfl | rfl | rfl | rfl | rfl | rfl | rfl
  · exact ⟨.d .none, dp_c h fun _ => .non, rfl⟩
  · exact ⟨.d (.int 1), dp_c h fun _ => .int 1, rfl⟩
  · exact ⟨.d (.str "x"), dp_c h fun _ => .str "x", rfl⟩
  · refine ⟨.d (.list [.int 0, .int 1]), ?_, rfl⟩
    obtain ⟨a, xs, rfl, hs, x, w, rfl, hx, y, w2, rfl, hy, hw⟩ := h
    obtain rfl : w2 = [] := hw
    obtain rfl : x = .int 0 := hx
    obtain rfl : y = .int 1 := hy
    exact .lst (sq_of hs) (.cons (.int 0) (.cons (.int 1) .nil))
  · exact ⟨.d (dP [0]), vP_D h, by rcases hp with rfl | rfl | rfl | rfl <;> decide +kernel⟩
  · exact ⟨.d (dP [1, 0]), vP_D h, by rcases hp with rfl | rfl | rfl | rfl <;> decide +kernel⟩
  · exact ⟨.d (dP [r0]), vP_D h, by rcases hp with rfl | rfl | rfl | rfl <;> decide +kernel⟩
  · exact ⟨.d (dP [-1]), vP_D h, by rcases hp with rfl | rfl | rfl | rfl <;> decide +kernel⟩
  · exact ⟨.d (.tuple [.bool true]), dp_T1 h fun x hx => by obtain rfl : x = .bl true := hx; exact .bl true, by rcases hp with rfl | rfl | rfl | rfl <;> decide +kernel⟩
  · exact ⟨.d (.tuple [.str "1"]), dp_T1 h fun x hx => by obtain rfl : x = .str "1" := hx; exact .str "1", by rcases hp with rfl | rfl | rfl | rfl <;> decide +kernel⟩
  · exact ⟨.d (.tuple [.int 0, .none]), dp_T2 h (fun x hx => by obtain rfl : x = .int 0 := hx; exact .int 0) (fun x hx => by obtain rfl : x = .non := hx; exact .non), by rcases hp with rfl | rfl | rfl | rfl <;> decide +kernel⟩
  · exact ⟨.d (dP (List.replicate 62 1)), vP_D h, by rcases hp with rfl | rfl | rfl | rfl <;> decide +kernel⟩
  · exact ⟨.dict, h, rfl⟩
end
def sp__law_polys_right (T : List (Addr × Str)) : Sp := fun vs H Q _ => ∃ l, vs = [.ref l] ∧ Bag l H ∧ Tabs T H ∧ ∀ H', ExNB l H H' → Bag l H' → Tabs T H' → Q (.bl true) H'
section
variable {P : Program} {w : World} {K : PySem.W.Frag} {mg : Str → Option Value} {base : Heap} {C D CP CF CO CN c Pt : Addr} {T : List (Addr × Str)}
theorem evr_x60 {σ : L2.St} {H : Hp} : EvR (tOp (rCatA K) (tOp (rCatA K) (tTup (tCons (tC (.int 1)) tNil)) (tOp (rRepA K) (tTup (tCons (tC (.int 0)) tNil)) (tC (.int 59)))) (tTup (tCons (tC (.int 1)) tNil))) σ H (vP K x60) :=
  evr_op (evr_op (evr_disp (ns := [1]) (evrs_cons evr_c evrs_nil) (Nat.le_of_ble_eq_true rfl)) (evr_op (evr_disp (ns := [0]) (evrs_cons evr_c evrs_nil) (Nat.le_of_ble_eq_true rfl)) evr_c (op_repP ⟨by decide, by decide⟩)) (op_catP (by decide))) (evr_disp (ns := [1]) (evrs_cons evr_c evrs_nil) (Nat.le_of_ble_eq_true rfl)) (op_catP (by decide))
abbrev s__law_polys_right : Stmt := topS 103
abbrev N__law_polys_right : List Str := ["bag", "prime", "right", "some", "poly", "told", "number"]
theorem sc__law_polys_right : FnScope N__law_polys_right ["bag"] (defScope s__law_polys_right) := ⟨rfl, rfl, rfl, by decide +kernel, rfl, by decide +kernel, by decide +kernel⟩
theorem ok__law_polys_right {f : Addr} {fd : FuncData} (F : FunC K "_law_polys_right" "_law_polys_right" s__law_polys_right f fd c) (B : Bis mg) (Mx : Met K mg CP CF CO CN) (W : CodeT base mg T (lamName "_law_polys_right") c Pt)
    (D__law_one_of : De P w K mg base "_law_one_of" ["bag", "items"] 2 (sp__law_one_ofV K)) (X_log_slope : DeX P w K mg base "log_slope" ["prime", "poly"] 7 (sp_log_slopeX K CN CP CO)) (D_log_slope : De P w K mg base "log_slope" ["prime", "poly"] 11 (sp_log_slope K C)) : FnOk P w K mg base CX0 17 f fd ["bag"] (sp__law_polys_right T) := by
  refine F.okG sc__law_polys_right (fun vs H Q E h => ?_) (fun g A outer s H vs Q E hg hr h => ?_)
  · obtain ⟨_, rfl, _⟩ := h
    rfl
  · obtain ⟨l, rfl, hb, hT, q⟩ := h
    refine ⟨_, (pss_cons (ps_set (i := 1) sc__law_polys_right.nd rfl (Or.inr rfl) (pe_call D__law_one_of.ok (hr.mono (by decide)) (by rfl) D__law_one_of.g D__law_one_of.kp D__law_one_of.b .nil pass0 (pa_cons (pv 0) (pa_cons (pe_lst (pa_cons pe_non (pa_cons pe_int (pa_cons pe_int (pa_cons pe_int (pa_cons pe_int (pa_cons (pe_un un_neg pe_int) (pa_cons pe_bl (pa_cons pe_str (pa_cons (pe_tup (pa_cons pe_int pa_nil)) (pa_cons (pe_op op_pow pe_int pe_int) pa_nil))))))))))) pa_nil))))
      (pss_cons (ps_set (i := 2) sc__law_polys_right.nd rfl (Or.inr rfl) (pe_call D__law_one_of.ok (hr.mono (by decide)) (by rfl) D__law_one_of.g D__law_one_of.kp D__law_one_of.b .nil pass0 (pa_cons (pv 0) (pa_cons (pe_lst (pa_cons pe_int (pa_cons pe_int (pa_cons pe_int (pa_cons pe_int pa_nil))))) pa_nil))))
      (pss_cons (ps_set (i := 3) sc__law_polys_right.nd rfl (Or.inl rfl) (pe_lst (pa_cons pe_non (pa_cons pe_int (pa_cons pe_str (pa_cons (pe_lst (pa_cons pe_int (pa_cons pe_int pa_nil))) (pa_cons (pe_tup (pa_cons pe_int pa_nil)) (pa_cons (pe_tup (pa_cons pe_int (pa_cons pe_int pa_nil))) (pa_cons (pe_tup (pa_cons (pv 2) pa_nil)) (pa_cons (pe_tup (pa_cons (pe_un un_neg pe_int) pa_nil)) (pa_cons (pe_tup (pa_cons pe_bl pa_nil)) (pa_cons (pe_tup (pa_cons pe_str pa_nil)) (pa_cons (pe_tup (pa_cons pe_int (pa_cons pe_non pa_nil))) (pa_cons (pe_op (r := rRepA K) op_repA (pe_tup (pa_cons pe_int pa_nil)) pe_int) (pa_cons pe_dnewK pa_nil)))))))))))))))
      (pss_cons (ps_set (i := 4) sc__law_polys_right.nd rfl (Or.inr rfl) (pe_call D__law_one_of.ok (hr.mono (by decide)) (by rfl) D__law_one_of.g D__law_one_of.kp D__law_one_of.b .nil pass0 (pa_cons (pv 0) (pa_cons (pv 3) pa_nil))))
      (pss_cons (ps_set (i := 5) sc__law_polys_right.nd rfl (Or.inl rfl) (pe_lst (pa_cons (pe_metB Mx W rfl hg (k := 14) (hr.mono (by decide)) B rfl (lamS_by (sc := defScope s__law_polys_right) (by decide +kernel)) rfl (fun _ _ _ _ _ => rfl) (fun _ _ _ _ _ _ _ hr => (pe_call X_log_slope.ok (hr.mono (by decide)) (by rfl) X_log_slope.g X_log_slope.kp X_log_slope.b .nil (passes_call (takes_of rfl rfl rfl rfl) (fun _ _ _ _ h => h)) (pa_cons (pv 1) (pa_cons (pv 4) pa_nil))))) pa_nil)))
      (pss_cons (ps_expr (pe_bm PySem.F.plainAttrs_list PySem.F.slot_list_append PySem.F.type_list_append mt_append (pv 5) (pa_cons (pe_metB Mx W rfl hg (k := 14) (hr.mono (by decide)) B rfl (lamS_by (sc := defScope s__law_polys_right) (by decide +kernel)) rfl (fun _ _ _ _ _ => rfl) (fun _ _ _ _ _ _ _ hr => (pe_call X_log_slope.ok (hr.mono (by decide)) (by rfl) X_log_slope.g X_log_slope.kp X_log_slope.b .nil (passes_call (takes_of rfl rfl rfl rfl) (fun _ _ _ _ h => h)) (pa_cons (pv 1) (pa_cons (pe_tup pa_nil) pa_nil))))) pa_nil)))
      (pss_cons (ps_expr (pe_bm PySem.F.plainAttrs_list PySem.F.slot_list_append PySem.F.type_list_append mt_append (pv 5) (pa_cons (pe_metB Mx W rfl hg (k := 14) (hr.mono (by decide)) B rfl (lamS_by (sc := defScope s__law_polys_right) (by decide +kernel)) rfl (fun _ _ _ _ _ => rfl) (fun _ _ _ _ _ _ _ hr => (pe_call X_log_slope.ok (hr.mono (by decide)) (by rfl) X_log_slope.g X_log_slope.kp X_log_slope.b .nil (passes_call (takes_of rfl rfl rfl rfl) (fun _ _ _ _ h => h)) (pa_cons (pv 2) (pa_cons (pv 4) pa_nil))))) pa_nil)))
      (pss_cons (ps_expr (pe_bm PySem.F.plainAttrs_list PySem.F.slot_list_append PySem.F.type_list_append mt_append (pv 5) (pa_cons (pe_metB Mx W rfl hg (k := 14) (hr.mono (by decide)) B rfl (lamS_by (sc := defScope s__law_polys_right) (by decide +kernel)) rfl (fun _ _ _ _ _ => rfl) (fun _ _ _ _ _ _ _ hr => (pe_call X_log_slope.ok (hr.mono (by decide)) (by rfl) X_log_slope.g X_log_slope.kp X_log_slope.b .nil (passes_call (takes_of rfl rfl rfl rfl) (fun _ _ _ _ h => h)) (pa_cons (pv 2) (pa_cons (pe_tup pa_nil) pa_nil))))) pa_nil)))
      (pss_cons (ps_expr (pe_bm PySem.F.plainAttrs_list PySem.F.slot_list_append PySem.F.type_list_append mt_append (pv 5) (pa_cons (pe_metB Mx W rfl hg (k := 14) (hr.mono (by decide)) B rfl (lamS_by (sc := defScope s__law_polys_right) (by decide +kernel)) rfl (fun _ _ _ _ _ => rfl) (fun _ _ _ _ _ _ _ hr => (pe_call D_log_slope.ok (hr.mono (by decide)) (by rfl) D_log_slope.g D_log_slope.kp D_log_slope.b .nil pass0 (pa_cons (pv 2) (pa_cons (pe_op (r := rCatA K) op_catA (pe_op (r := rCatA K) op_catA (pe_tup (pa_cons pe_int pa_nil)) (pe_op (r := rRepA K) op_repA (pe_tup (pa_cons pe_int pa_nil)) pe_int)) (pe_tup (pa_cons pe_int pa_nil))) pa_nil))))) pa_nil)))
      (pss_cons (ps_set (i := 6) sc__law_polys_right.nd rfl (Or.inl rfl) (pe_tup (pa_cons pe_str (pa_cons pe_str (pa_cons (pe_callB (id := "repr") (r := rSay g K) (call_sayR hg hr.units) (by rfl) (B "repr" (by decide +kernel)) (by decide +kernel) (pa_cons (pv 1) pa_nil)) pa_nil)))))
      (pss_one (ps_ret (pe_cmpR (r := rEqD K) (op_eqD hr.units) (pv 5) (pe_lst (pa_cons (pv 6) (pa_cons (pv 6) (pa_cons (pe_tup (pa_cons pe_str (pa_cons pe_str pa_nil))) (pa_cons (pe_tup (pa_cons pe_str (pa_cons pe_str pa_nil))) (pa_cons (pe_tup (pa_cons pe_str pa_nil)) pa_nil)))))) (nomark _)))))))))))))), ?_⟩
    refine qb_oneof (rs := rsPr K) rfl hb (evrs_cons evr_c (evrs_cons evr_c (evrs_cons evr_c (evrs_cons evr_c (evrs_cons evr_c (evrs_cons (un_negI evr_c) (evrs_cons evr_c (evrs_cons evr_c (evrs_cons (evr_disp (ns := [3]) (evrs_cons evr_c evrs_nil) (Nat.le_of_ble_eq_true rfl)) (evrs_cons (evr_op evr_c evr_c (op_i ⟨by decide, by decide, by decide⟩)) evrs_nil)))))))))) (by simp [rsPr]) (Nat.le_of_ble_eq_true rfl) sb_rsPr fun v1 H1 h1 b1 hb1 => ?_
    refine qb_oneof (rs := [vI 2, vI 3, vI 5, vI 7]) rfl hb1 (evrs_cons evr_c (evrs_cons evr_c (evrs_cons evr_c (evrs_cons evr_c evrs_nil)))) (by simp) (Nat.le_of_ble_eq_true rfl) (allc sb_C (allc sb_C (allc sb_C (all1 sb_C)))) fun vp H2 hp2 b2 hb2 => ?_
    obtain ⟨p, rfl, hp⟩ : ∃ p, vp = .int p ∧ Pr p := by
      obtain ⟨r, hr, hv⟩ := hp2
      simp only [List.mem_cons, List.not_mem_nil, or_false] at hr
      rcases hr with rfl | rfl | rfl | rfl
      · exact ⟨2, hv, .inl rfl⟩
      · exact ⟨3, hv, .inr (.inl rfl)⟩
      · exact ⟨5, hv, .inr (.inr (.inl rfl))⟩
      · exact ⟨7, hv, .inr (.inr (.inr rfl))⟩
    refine qr_asgM (rs := rsPo K p) (em_disp (evrs_cons evr_c (evrs_cons evr_c (evrs_cons evr_c (evrs_cons (evr_nw (em_disp (rs := [vI 0, vI 1]) (evrs_cons evr_c (evrs_cons evr_c evrs_nil)) (Nat.le_of_ble_eq_true rfl))) (evrs_cons (evr_disp (ns := [0]) (evrs_cons evr_c evrs_nil) (Nat.le_of_ble_eq_true rfl)) (evrs_cons (evr_disp (ns := [1, 0]) (evrs_cons evr_c (evrs_cons evr_c evrs_nil)) (Nat.le_of_ble_eq_true rfl)) (evrs_cons (evr_disp (ns := [p]) (evrs_cons (evr_var rfl rfl) evrs_nil) (Nat.le_of_ble_eq_true rfl)) (evrs_cons (evr_disp (ns := [-1]) (evrs_cons (un_negI evr_c) evrs_nil) (Nat.le_of_ble_eq_true rfl)) (evrs_cons (evr_dispT (evrs_cons evr_c evrs_nil) (Nat.le_of_ble_eq_true rfl)) (evrs_cons (evr_dispT (evrs_cons evr_c evrs_nil) (Nat.le_of_ble_eq_true rfl)) (evrs_cons (evr_dispT (evrs_cons evr_c (evrs_cons evr_c evrs_nil)) (Nat.le_of_ble_eq_true rfl)) (evrs_cons (evr_op (evr_disp (ns := [1]) (evrs_cons evr_c evrs_nil) (Nat.le_of_ble_eq_true rfl)) evr_c (op_repP ⟨by decide, by decide⟩)) (evrs_cons (show EvR _ _ _ vDk from evr_dict (K := K)) evrs_nil))))))))))))) (Nat.le_of_ble_eq_true rfl)) fun ls xs H3 n3 e3 h3 al3 => ?_
    have hb3 := hb2.ex e3
    refine eb_oneofV (rs := rsPo K p) rfl rfl hb3 h3 al3 (by simp [rsPo]) (by simp [rsPo]) (Nat.le_of_ble_eq_true rfl) sb_rsPo fun v4 H4 h4 b4 hb4 => ?_
    have b04 : ExB l H H4 := ((b1.trans b2).trans (ExB.of e3)).trans b4
    have hT4 : Tabs T H4 := tabs_exB hT hb b04
    have h1' : ∃ r ∈ rsPr K, r.R v1 H4 := by
      obtain ⟨r, hr, hv⟩ := h1
      exact ⟨r, hr, sb_rsPr r hr _ _ _ _ hb3 b4 (r.st e3 (sb_rsPr r hr _ _ _ _ hb1 b2 hv))⟩
    obtain ⟨d1, t1, hd1, hB1, hs1, x1⟩ := pr_ok (g := g) (K := K) h1'
    obtain ⟨o4, ho4, hf4⟩ := po_ok hp h4
    have z1 : ∀ t, Oc.num t1 = .num t → t.length ≤ 100000 := fun t z => by cases z; have := x1.l; omega
    have zp : ∀ t, Oc.poly = .num t → t.length ≤ 100000 := nofun
    have zo : ∀ t, Oc.oper = .num t → t.length ≤ 100000 := nofun
    have zf : ∀ t, Oc.fine = .num t → t.length ≤ 100000 := nofun
    obtain ⟨po, ps⟩ := x60_ok hp
    have nx : x60 ≠ [] := by decide +kernel
    have hnil : ∀ (σ : L2.St) H, EvR (tTup tNil) σ H (vP K []) := fun σ H => evr_disp (ns := []) evrs_nil (Nat.le_of_ble_eq_true rfl)
    refine qn_told hT4 (evn_met (o := .num t1) (fun H5 e5 E Q k => ⟨v1, rfl, v4, rfl, .prime rfl (sn_D _ _ _ e5 hd1) hB1 (k.given (say_exN e5 hs1))⟩) z1) fun tl H5 I5 => ?_
    refine qn_app I5 rfl (evn_met (o := .num t1) (fun H6 e6 E Q k => ⟨v1, rfl, hnil _ H6 H6 (Ex.refl H6) _ fun u H7 e7 hu => .prime rfl (up (sn_D _ _ _ (I5.ext.trans e6) hd1) e7) hB1 ((k.given (say_exN (I5.ext.trans e6) hs1)).ex e7)⟩) z1) (Nat.le_of_ble_eq_true rfl) fun H6 I6 => ?_
    refine qn_app I6 rfl (evn_met (o := .poly) (fun H7 e7 E Q k => ⟨_, rfl, v4, rfl, .poly rfl hp (sn_O _ _ _ (I6.ext.trans e7) ho4) hf4 k.poly'⟩) zp) (Nat.le_of_ble_eq_true rfl) fun H7 I7 => ?_
    refine qn_app I7 rfl (evn_met (o := .oper) (fun H8 e8 E Q k => ⟨_, rfl, hnil _ H8 H8 (Ex.refl H8) _ fun u H9 e9 hu => .zero rfl hp hu (k.oper'.ex e9)⟩) zo) (Nat.le_of_ble_eq_true rfl) fun H8 I8 => ?_
    refine qn_app I8 rfl (evn_met (o := .fine) (LamR.good fun H9 e9 E => evr_call (GP.mk p x60) ⟨hp, po, ps, nx⟩ (evrs_cons (evr_var rfl rfl) (evrs_cons evr_x60 evrs_nil))) zf) (Nat.le_of_ble_eq_true rfl) fun H9 I9 => ?_
    refine qr_asg (r := vW K ["refused", "number", t1]) (evr_dispW (ws := ["refused", "number", t1]) (evrs_cons evr_c (evrs_cons evr_c (evrs_cons (evr_say (evr_var (r := vC v1) rfl rfl) (say_exN I9.ext hs1)) evrs_nil))) (Nat.le_of_ble_eq_true rfl)) fun vn H10 e10 hn => ?_
    have I10 := I9.mono e10
    have ok : okW [["refused", "number", t1], ["refused", "number", t1], ["refused", "poly"], ["refused", "operation"], ["fine"]] := fun u hu => by
      simp only [List.mem_cons, List.not_mem_nil, or_false] at hu
      rcases hu with rfl | rfl | rfl | rfl | rfl
      · exact ok_WN x1
      · exact ok_WN x1
      all_goals decide +kernel
    refine sr_ret (evr_toldEq ok (evr_var (r := vD K _) rfl I10.data) (em_disp (evrs_cons (evr_var rfl hn) (evrs_cons (evr_var rfl hn) (evrs_cons (evr_dispW (ws := ["refused", "poly"]) (evrs_cons evr_c (evrs_cons evr_c evrs_nil)) (Nat.le_of_ble_eq_true rfl)) (evrs_cons (evr_dispW (ws := ["refused", "operation"]) (evrs_cons evr_c (evrs_cons evr_c evrs_nil)) (Nat.le_of_ble_eq_true rfl)) (evrs_cons (evr_dispW (ws := ["fine"]) (evrs_cons evr_c evrs_nil) (Nat.le_of_ble_eq_true rfl)) evrs_nil))))) (Nat.le_of_ble_eq_true rfl))) fun v H11 e11 hv => ?_
    obtain rfl : v = .bl true := hv
    have I11 := I10.mono e11
    exact q H11 (ExNB.of b04 I11.ext) (bag_exN hb4 I11.ext) I11.tabs
def sp_law (T : List (Addr × Str)) (K : PySem.W.Frag) : Sp := fun vs H Q _ => ∃ (ns : List Int) (v : V), vs = [v] ∧ (vL K ns).R v H ∧ Tabs T H ∧ ∀ H', Q (.bl true) H'
abbrev s_law : Stmt := topS 104
abbrev N_law : List Str := ["script", "spot", "bag"]
theorem sc_law : FnScope N_law ["script"] (defScope s_law) := ⟨rfl, rfl, rfl, by decide +kernel, rfl, by decide +kernel, by decide +kernel⟩
theorem ok_law {f : Addr} {fd : FuncData} (F : Fun K "law" "law" s_law f fd) (B : Bis mg) (cf : CFm K mg C) (C_MAX_SHRUNK : GI mg "MAX_SHRUNK" 20) (D__law_bag : De P w K mg base "_law_bag" ["script", "spot"] 1 (sp__law_bag K)) (D__law_functions_right : De P w K mg base "_law_functions_right" ["bag"] 17 (sp__law_functions_right T)) (D__law_polys_right : De P w K mg base "_law_polys_right" ["bag"] 17 (sp__law_polys_right T)) (D_log_slope : De P w K mg base "log_slope" ["prime", "poly"] 11 (sp_log_slope K C))
    (M___init__ : Dm P w K mg base C "__init__" ["self", "prime", "top", "bottom"] 7 (sp_F___init__ K C)) (M___eq__ : Dm P w K mg base C "__eq__" ["self", "other"] 1 (sp_F___eq__ K C)) : FnOk P w K mg base CX0 18 f fd ["script"] (sp_law T K) := by
  refine F.ok sc_law (fun vs H Q E h => ?_) (fun cdv A outer s H vs Q E hr h => ?_)
  · obtain ⟨_, _, rfl, _⟩ := h
    rfl
  · obtain ⟨ns, v_script, rfl, h_script, hT, q⟩ := h
    refine ⟨_, (pss_cons (ps_for PassesOwn.never rfl (pi_range1 (by rfl) (B "range" (by decide +kernel)) (pa_cons (pe_callB (call_max2 rfl) (by rfl) (B "max" (by decide +kernel)) (by decide +kernel) (pa_cons pe_int (pa_cons (pe_callB (call_min2 rfl) (by rfl) (B "min" (by decide +kernel)) (by decide +kernel) (pa_cons pe_int (pa_cons (pe_callB call_len_seq (by rfl) (B "len" (by decide +kernel)) (by decide +kernel) (pa_cons (pv 0) pa_nil)) pa_nil))) pa_nil))) pa_nil)) (pg_name (i := 1) sc_law.nd rfl (Or.inl rfl)) (pss_cons (ps_set (i := 2) sc_law.nd rfl (Or.inl rfl) (pe_call D__law_bag.ok (hr.mono (by decide)) (by rfl) D__law_bag.g D__law_bag.kp D__law_bag.b .nil pass0 (pa_cons (pv 0) (pa_cons (pv 1) pa_nil))))
      (pss_one (ps_if (PW.pt (pw_or (pt_not (pt_val (pe_call D__law_functions_right.ok (hr.mono (by decide)) (by rfl) D__law_functions_right.g D__law_functions_right.kp D__law_functions_right.b .nil pass0 (pa_cons (pv 2) pa_nil)))) (pw_or (pt_not (pt_val (pe_call D__law_polys_right.ok (hr.mono (by decide)) (by rfl) D__law_polys_right.g D__law_polys_right.kp D__law_polys_right.b .nil pass0 (pa_cons (pv 2) pa_nil)))) (pw_or1 (pt_not (pt_val (pe_call D__law_polys_right.ok (hr.mono (by decide)) (by rfl) D__law_polys_right.g D__law_polys_right.kp D__law_polys_right.b .nil pass0 (pa_cons (pv 2) pa_nil)))))))) (pss_one (ps_ret pe_bl)) pss_nil))))
      (pss_one (ps_ret (pe_and (pe_cmpR op_eq (pe_gi C_MAX_SHRUNK (by rfl)) pe_int (nomark _)) (pe_one (pe_cmpR (eq_own M___eq__.own cf.notF (Nat.lt_of_succ_lt (hu_of hr)) M___eq__.ok (hr.mono (by decide)) M___eq__.b pass0) (pe_call D_log_slope.ok (hr.mono (by decide)) (by rfl) D_log_slope.g D_log_slope.kp D_log_slope.b .nil pass0 (pa_cons pe_int (pa_cons (pe_op (r := rCatA K) op_catA (pe_op (r := rCatA K) op_catA (pe_tup (pa_cons pe_int pa_nil)) (pe_op (r := rRepA K) op_repA (pe_tup (pa_cons pe_int pa_nil)) pe_int)) (pe_tup (pa_cons pe_int pa_nil))) pa_nil))) (pe_make (cf.mkr M___init__.own) M___init__.ok (hr.mono (by decide)) (by rfl) cf.mg M___init__.b .nil pass0 (pa_cons pe_int (pa_cons (pe_tup pa_nil) (pa_cons (pe_tup (pa_cons pe_int pa_nil)) pa_nil)))) (nomark _))))))), ?_⟩
    refine Evl.q_forR1 (n := max 1 (if (ns.length : Int) < 4 then (ns.length : Int) else 4)) (ea_of (evrs_cons (evr_cb (evrs_cons evr_c (evrs_cons (evr_cb (evrs_cons evr_c (evrs_cons (evr_lenR rfl (EvR.kL (evr_var rfl h_script))) evrs_nil)) (cb_min rfl)) evrs_nil)) (cb_max rfl)) evrs_nil)) (by split <;> omega) (fun i σ' H' => ∃ x1 x2, σ' = [some v_script, x1, x2] ∧ ExtN H H' ∧ Tabs T H') ?_ ?_ ?_
    · intro H1 e1
      exact ⟨none, none, rfl, exN_of e1, hT.ext e1⟩
    · rintro i σ' H' hi ⟨x1, x2, rfl, e', T'⟩
      refine ⟨v_script, rfl, .int (i : Int), rfl, ns, i, v_script, rfl, sn_L _ _ _ e' h_script, by split at hi <;> omega, fun p H1 hp e1 b1 => ?_⟩
      refine ⟨.ref p, rfl, p, rfl, b1, T'.ext e1, fun H4 n4 b4 T4 => ⟨true, rfl, iteF ?_⟩⟩
      refine ⟨.ref p, rfl, p, rfl, b4, T4, fun H5 n5 b5 T5 => ⟨true, rfl, iteF ?_⟩⟩
      refine ⟨.ref p, rfl, p, rfl, b5, T5, fun H6 n6 b6 T6 => ⟨true, rfl, iteF ?_⟩⟩
      exact ⟨_, _, rfl, e'.trans (ExNB.out hp e1 ((n4.trans n5).trans n6)), T6⟩
    · rintro σ' H' ⟨x1, x2, rfl, e', T'⟩
      have p2 : Pr 2 := .inl rfl
      obtain ⟨po, ps⟩ := x60_ok p2
      have nx : x60 ≠ [] := by decide +kernel
      have e1 : nf 2 [] [1] = ([], [1]) := by decide +kernel
      have e2 : nf 2 (slopeOf 2 x60) x60 = ([], [1]) := by decide +kernel
      have q1 : EvR (tMake C (sp_F___init__ K C) [] E0 (tCons (tC (.int 2)) (tCons (tTup tNil) (tCons (tTup (tCons (tC (.int 1)) tNil)) tNil)))) [some v_script, x1, x2] H' (vF K C 2 ([], [1])) := by
        have z := evr_make (K := K) (C := C) (E := E0) (σ := [some v_script, x1, x2]) (H := H') (p := 2) (xs := []) (ys := [1]) p2 poly_nil (okP1 p2) (by simp) (evrs_cons evr_c (evrs_cons (evr_disp (ns := []) evrs_nil (Nat.le_of_ble_eq_true rfl)) (evrs_cons (evr_disp (ns := [1]) (evrs_cons evr_c evrs_nil) (Nat.le_of_ble_eq_true rfl)) evrs_nil)))
        rw [e1] at z
        exact z
      have q2 : EvR (tCall (sp_log_slope K C) [] E0 (tCons (tC (.int 2)) (tCons (tOp (rCatA K) (tOp (rCatA K) (tTup (tCons (tC (.int 1)) tNil)) (tOp (rRepA K) (tTup (tCons (tC (.int 0)) tNil)) (tC (.int 59)))) (tTup (tCons (tC (.int 1)) tNil))) tNil))) [some v_script, x1, x2] H' (vF K C 2 ([], [1])) := by
        have z : EvR (tCall (sp_log_slope K C) [] E0 (tCons (tC (.int 2)) (tCons (tOp (rCatA K) (tOp (rCatA K) (tTup (tCons (tC (.int 1)) tNil)) (tOp (rRepA K) (tTup (tCons (tC (.int 0)) tNil)) (tC (.int 59)))) (tTup (tCons (tC (.int 1)) tNil))) tNil))) [some v_script, x1, x2] H' (vF K C 2 (nf 2 (slopeOf 2 x60) x60)) := evr_call (GP.mk 2 x60) ⟨p2, po, ps, nx⟩ (evrs_cons evr_c (evrs_cons evr_x60 evrs_nil))
        rw [e2] at z
        exact z
      refine sr_ret (evr_and (b := true) (c := true) (EvR.eqB (evr_op evr_c evr_c (op_eqS rfl)) (by decide)) fun _ => EvR.eqB (evr_op q2 q1 (op_ownV (GFF.mk 2 ([], [1]) 2 ([], [1])) trivial rfl)) (by decide)) fun v H2 e3 hv => ?_
      have hv' : v = .bl true := hv
      rw [hv']
      exact q H2
end
end K0
namespace K0
open PySem PySem.Spec PyProof.Rows L2 Kt
open Evl (Ex Ev EvL EvU EvT EvA EvO ex_l ex_t sq_of st_of sz_of sz_lt fresh_back)
section
variable {P : Program} {w : World} {K : PySem.W.Frag} {mg : Str → Option Value} {base : Heap}
abbrev s_slope_of : Stmt := topS 30
abbrev N_slope_of : List Str := ["prime", "poly", "place", "number"]
theorem sc_slope_of : FnScope N_slope_of ["prime", "poly"] (defScope s_slope_of) := ⟨rfl, rfl, rfl, by decide +kernel, rfl, by decide +kernel, by decide +kernel⟩
theorem ok_slope_of {f : Addr} {fd : FuncData} (F : Fun K "slope_of" "slope_of" s_slope_of f fd) (B : Bis mg) (D_trimmed : De P w K mg base "trimmed" ["numbers"] 1 (sp_trimmed K)) : FnOk P w K mg base CX0 2 f fd ["prime", "poly"] (sp_slope_of K) := by
  refine F.ok sc_slope_of (fun vs H Q E h => ?_) (fun cdv A outer s H vs Q E hr h => ?_)
  · obtain ⟨g, _, ha, _⟩ := h
    exact ha.len
  · obtain ⟨⟨p, xs⟩, ⟨hp, hl, hsm⟩, ⟨_, _, rfl, rfl, ⟨v_poly, _, rfl, h_poly, rfl⟩⟩, q⟩ := h
    dsimp only at *
    refine ⟨_, (pss_one (ps_ret (pe_call D_trimmed.ok (hr.mono (by decide)) (by rfl) D_trimmed.g D_trimmed.kp D_trimmed.b .nil pass0 (pa_cons (pe_slice sl_list (pe_lc (own := [("place", 2), ("number", 3)]) (g := (gTup K 2 (gCons (gName 2) (gCons (gName 3) gNil)))) (tt := tYes) rfl sc_slope_of.nd (pi_enumK true (by rfl) (B "enumerate" (by decide +kernel)) (pa_cons (pv 1) pa_nil)) (blkOk_by (own := [("place", 2), ("number", 3)]) (N := N_slope_of) (sc := defScope s_slope_of) (by decide +kernel)) (fun _ _ _ _ _ => (pg_tup rfl (pgs_cons (pg_name (i := 2) sc_slope_of.nd rfl (Or.inl rfl)) (pgs_cons (pg_name (i := 3) sc_slope_of.nd rfl (Or.inl rfl)) pgs_nil)))) (fun _ _ _ _ _ => pts_nil) (fun _ _ _ _ _ => (pe_op op_mod (pe_op op_mul (pv 2) (pv 3)) (pv 0)))) (po_some pe_int) po_none) pa_nil)))), ?_⟩
    refine sr_ret (evr_call ((xs.mapIdx fun i n => (i : Int) * n % p).drop 1) ?_ (evrs_cons ?_ evrs_nil)) fun v H2 e2 hv => q v H2 e2 hv
    · show (List.drop 1 _).length ≤ 100000
      rw [List.length_drop, List.length_mapIdx]
      omega
    · rw [← cutI_drop (ns := xs.mapIdx fun i n => (i : Int) * n % p) (m := 1)]
      refine evr_slL (evr_list (er_enumI (wk_enumK (evrs_cons (EvR.kP (evr_var rfl h_poly)) evrs_nil)) (fun i n => (i : Int) * n % p) (by omega) (fun x y => rfl) ?_) rfl) (eo_some evr_c) eo_none
      intro i x hx H1 e1
      have := hsm x (List.mem_of_getElem? hx)
      exact evr_op (evr_op (evr_var rfl rfl) (evr_var rfl rfl) (op_i (.inr (by omega)))) (evr_var rfl rfl) (op_i hp)
end
end K0
namespace K0
open PySem PySem.Spec PyProof.Rows L2 Kt M
section
variable {P : Program} {w : World} {K : PySem.W.Frag} {mg : Str → Option Value} {base : Heap}
theorem funOf {x qual : Str} {st : Stmt} {f : Addr} {fd : FuncData} (F : FunD K x qual (defArgs st) (defBody st) (defScope st) [] [] f fd) : Fun K x qual st f fd := He5.fun_of F
theorem says_f (c : He5.SaysA faAll fnAll K) {f : He.Fa} (h : f ∈ faAll) : f.ok K = true := List.all_eq_true.mp (He.ba (show ((faAll.all fun f => f.ok K) && fnAll.all fun d => d.ok K) = true from congrArg (fun z : He.AlD => z.1) c)).1 f h
theorem says_glo {h : Heap} (X : K.In h) (G : h.Ns mainGlobals mg) (c : He5.SaysA faAll fnAll K) {x : Str} (hx : x ∈ glAll) : mg x = some (.ref (He.ga K x)) :=
  He.glo_ok X G (says_f c (List.mem_append_right _ (List.mem_append_left _ (List.mem_map_of_mem hx))))
theorem says_cl (c : He5.SaysA faAll fnAll K) {f : He.Fa} (h : f ∈ clAll) : f.ok K = true := says_f c (List.mem_append_right _ (List.mem_append_right _ (List.mem_append_left _ h)))
theorem says_mt (c : He5.SaysA faAll fnAll K) {x : Str} (hx : x ∈ mtAll) : OwnM K (fC K) x (He.ma K (fC K) x) := by
  have z := He.meth_ok (says_f c (f := He.Fa.meth "Function" x) (List.mem_append_right _ (List.mem_append_right _ (List.mem_append_right _ (List.mem_append_left _ (List.mem_map_of_mem hx))))))
  exact ⟨z.at_, z.fn⟩
theorem says_mth (c : He5.SaysA faAll fnAll K) {x : Str} (hx : x ∈ mtAll) : Meth K (fC K) x (He.ma K (fC K) x) := He.meth_ok (says_f c (f := He.Fa.meth "Function" x) (List.mem_append_right _ (List.mem_append_right _ (List.mem_append_right _ (List.mem_append_left _ (List.mem_map_of_mem hx))))))
theorem says_int {h : Heap} (X : K.In h) (G : h.Ns mainGlobals mg) (c : He5.SaysA faAll fnAll K) {x : Str} {n : Int} (hx : (x, n) ∈ inAll) : GI mg x n :=
  He.int_ok X G (says_f c (f := .int x n) (List.mem_append_right _ (List.mem_append_right _ (List.mem_append_right _ (List.mem_append_right _ (List.mem_map.mpr ⟨(x, n), hx, rfl⟩))))))
theorem says_bis {h : Heap} (X : K.In h) (G : h.Ns mainGlobals mg) (c : He5.SaysA faAll fnAll K) : Bis mg := fun x hx =>
  He.free_ok X G (says_f c (List.mem_append_left _ (List.mem_map_of_mem hx)))
theorem ex_at (e : exAll K = true) (i : Nat) {b : Bool} (h : (exL K)[i]? = some b) : b = true := List.all_eq_true.mp (show ((exL K).all id) = true from e) b (List.mem_of_getElem? h)
theorem prop_of {C : Addr} {m : Str} (h : propB K C m = true) : PropOf K C m (He.ma K C m) (He5.wf K C "property" m) := by
  obtain ⟨h1, h⟩ := He.ba h
  obtain ⟨h2, h⟩ := He.ba h
  obtain ⟨h3, h4⟩ := He.ba h
  refine ⟨of_decide_eq_true h1, of_decide_eq_true h2, of_decide_eq_true h3, ?_⟩
  unfold He5.wf
  split at h4
  · rename_i f r e
    exact ⟨r, by rw [e]⟩
  · cases h4
theorem cfm {h : Heap} (X : K.In h) (G : h.Ns mainGlobals mg) (c : He5.SaysA faAll fnAll K) (e : exAll K = true) : CFm K mg (fC K) := by
  have cl : Cls K (fC K) := He.cls_ok (says_cl c (f := .cls "Function") (by simp [clAll]))
  have mk := He.mkr_ok (says_cl c (f := .mkr "Function") (by simp [clAll]))
  exact {
    c := ⟨cl, He.noat_ok (says_cl c (f := .noat "Function" "_prime") (by simp [clAll])), He.noat_ok (says_cl c (f := .noat "Function" "_top") (by simp [clAll])), He.noat_ok (says_cl c (f := .noat "Function" "_bottom") (by simp [clAll]))⟩
    mg := He.glo_ok X G (says_cl c (f := .glo "Function") (by simp [clAll]))
    kp := mk.kp
    mks := mk.makes
    ins := ⟨cl, of_decide_eq_true (ex_at e 2 rfl), of_decide_eq_true (ex_at e 3 rfl), of_decide_eq_true (ex_at e 4 rfl), of_decide_eq_true (ex_at e 5 rfl), of_decide_eq_true (ex_at e 6 rfl)⟩
    first := ex_at e 7 rfl
    notF := ex_at e 8 rfl
    notT := ex_at e 9 rfl
    nn := ⟨of_decide_eq_true (ex_at e 10 rfl), of_decide_eq_true (ex_at e 11 rfl)⟩
    oi := ⟨ex_at e 7 rfl, of_decide_eq_true (ex_at e 12 rfl), of_decide_eq_true (ex_at e 13 rfl), Option.isSome_iff_exists.mp (ex_at e 14 rfl), Option.isSome_iff_exists.mp (ex_at e 15 rfl)⟩
    kt := of_decide_eq_true (ex_at e 16 rfl) }
theorem says_primes {h : Heap} (X : K.In h) (G : h.Ns mainGlobals mg) (c : He5.SaysA faAll fnAll K) (e : exAll K = true) : GT mg K "PRIMES" [2, 3, 5, 7] :=
  ⟨_, He.glo_ok X G (says_cl c (f := .glo "PRIMES") (by simp [clAll])), fun H => He.tupB_ok (ex_at e 0 rfl) H⟩
theorem says_lanes {h : Heap} (X : K.In h) (G : h.Ns mainGlobals mg) (c : He5.SaysA faAll fnAll K) (e : exAll K = true) : GTS mg K "LANES" lanes7 :=
  ⟨_, He.glo_ok X G (says_cl c (f := .glo "LANES") (by simp [clAll])), fun H => He.tupB_ok (ex_at e 1 rfl) H⟩
theorem says_pr (e : exAll K = true) {x : Str} (hx : x ∈ prAll) : PropOf K (fC K) x (He.ma K (fC K) x) (He5.wf K (fC K) "property" x) := prop_of (List.all_eq_true.mp (ex_at e 17 rfl) x hx)
theorem says_cm (e : exAll K = true) {x : Str} (hx : x ∈ cmAll) : ClX.CMet K (fC K) (.type "type") x (He.ma K (fC K) x) (He5.wf K (fC K) "classmethod" x) := by
  have z := List.all_eq_true.mp (ex_at e 18 rfl) x hx
  obtain ⟨z1, z2⟩ := He.ba z
  exact He5.cmet_of z1 z2
theorem says_rd (e : exAll K = true) : ClX.CRead K (fC K) (.type "type") := ⟨ex_at e 19 rfl, of_decide_eq_true (ex_at e 20 rfl)⟩
theorem rzl {h : Heap} (X : K.In h) (G : h.Ns mainGlobals mg) (c : He5.SaysA faAll fnAll K) {x : Str} (hx : He.Fa.glo x ∈ clAll) (hr : (rzL K (He.ga K x)).all id = true) : Rz K mg x (He.ga K x) := by
  have z : ∀ i b, (rzL K (He.ga K x))[i]? = some b → b = true := fun i b h => List.all_eq_true.mp hr b (List.mem_of_getElem? h)
  exact ⟨z 0 _ rfl, He.glo_ok X G (says_cl c hx), z 1 _ rfl, of_decide_eq_true (z 2 _ rfl), of_decide_eq_true (z 3 _ rfl)⟩
theorem over_eq {t : List Value} : ∀ {l : List Value}, overB t l = true → PySem.KtX.over t l = true
  | [], h => h
  | v :: r, h => by
    cases v with
    | ref c => exact over_eq (l := r) h
    | _ => exact h
theorem exg_ok {C : Addr} (h : exgB K C = true) : ∃ nm q N bs bm sn sub ab col dd k0 k1 k2 k3 k5, K.lookup C = some (excClassObj nm q C N bs bm true sn sub ab col dd k0 k1 k2 k3 k5 "IndexError.__new__") ∧ PySem.KtX.over bmI bm = true := by
  unfold exgB at h
  split at h
  · rename_i tc dd cd sl e
    obtain ⟨h1, h⟩ := He.ba h
    obtain ⟨h2, h⟩ := He.ba h
    obtain ⟨h3, h⟩ := He.ba h
    obtain ⟨h4, h5⟩ := He.ba h
    obtain ⟨nm, bs, mro, ns, qn, hdc, sn, sub, ab, col, hdel⟩ := cd
    obtain rfl := of_decide_eq_true h1
    dsimp only at h2 h3 h4
    cases mro with
    | nil => cases h2
    | cons v bm =>
      cases v with
      | ref C' =>
        obtain ⟨h6, h7⟩ := He.ba h2
        obtain rfl := of_decide_eq_true h6
        split at h5
        · rename_i k0 k1 k2 k3 n k5 hs
          obtain rfl := of_decide_eq_true h5
          have e1 : sl = #[k0, k1, k2, k3, some (.builtin "IndexError.__new__"), k5] := by
            have := congrArg List.toArray hs
            simpa using this
          have e2 : hdel = false := by simpa using h4
          have e3 : hdc = true := h3
          subst e1 e2 e3
          exact ⟨nm, qn, ns, bs, bm, sn, sub, ab, col, dd, k0, k1, k2, k3, k5, e, over_eq h7⟩
        · cases h5
      | _ => cases h2
  · cases h
theorem exL_at (e : exAll K = true) {l : List Bool} {i : Nat} (h : (exL K)[i]? = some (l.all id)) {j : Nat} {b : Bool} (hb : l[j]? = some b) : b = true := List.all_eq_true.mp (ex_at e i h) b (List.mem_of_getElem? hb)
theorem exg (e : exAll K = true) : ExG K (cN K) "IndexError" "IndexError.__new__" "IndexError.__init__" bmI :=
  ⟨PySem.F.excBase_IndexError, PySem.F.store_IndexError, exg_ok (exL_at e (l := rnL K (cN K)) (i := 34) rfl (j := 0) rfl), of_decide_eq_true (exL_at e (l := rnL K (cN K)) (i := 34) rfl (j := 1) rfl), of_decide_eq_true (exL_at e (l := rnL K (cN K)) (i := 34) rfl (j := 2) rfl), of_decide_eq_true (exL_at e (l := rnL K (cN K)) (i := 34) rfl (j := 3) rfl), exL_at e (l := rnL K (cN K)) (i := 34) rfl (j := 4) rfl⟩
theorem metK (e : exAll K = true) : MetK K (cP K) (cF K) (cO K) (cN K) := by
  have z : ∀ i b, (exmL K)[i]? = some b → b = true := fun i b h => exL_at e (l := exmL K) (i := 35) rfl h
  exact ⟨of_decide_eq_true (z 0 _ rfl), of_decide_eq_true (z 1 _ rfl), of_decide_eq_true (z 2 _ rfl), of_decide_eq_true (z 3 _ rfl), of_decide_eq_true (z 4 _ rfl), of_decide_eq_true (z 5 _ rfl), of_decide_eq_true (z 6 _ rfl), of_decide_eq_true (z 7 _ rfl), of_decide_eq_true (z 8 _ rfl), of_decide_eq_true (z 9 _ rfl),
    xfB_ok (exL_at e (l := rnL K (cN K)) (i := 34) rfl (j := 7) rfl), of_decide_eq_true (exL_at e (l := rnL K (cN K)) (i := 34) rfl (j := 8) rfl)⟩
theorem nofn (e : exAll K = true) : NotFn K (fC K) :=
  ⟨fun m hm => of_decide_eq_true (List.all_eq_true.mp (exL_at e (l := nofL K (fC K)) (i := 36) rfl (j := 0) rfl) m hm), of_decide_eq_true (exL_at e (l := nofL K (fC K)) (i := 36) rfl (j := 1) rfl)⟩
theorem funC_of {x : Str} {st : Stmt} {fd : FuncData} (F : FunD K x x (defArgs st) (defBody st) (defScope st) [] [] (He.ga K x) fd) : FunC K x x st (He.ga K x) fd (He.cT K (x, none)).1 := by
  have F2 := funOf F
  obtain ⟨oc, od, kV, doc, pm, an, cdv, ct, osl, h1, h2, h3⟩ := F2.ex
  obtain ⟨c, rfl⟩ := He.codeIn_ref h3
  have e : (He.cT K (x, none)).1 = c := He.codeOf_eq (p := (x, none)) h2 (by rw [h1])
  rw [e]
  exact ⟨⟨oc, od, kV, doc, pm, an, ct, osl, h1, h2, h3⟩, F2.kp⟩
/-- the tables and the names in them -/
def tT (K : PySem.W.Frag) : List (Addr × Str) := [((He.cT K ("_law_functions_right", none)).2, lamName "_law_functions_right"), ((He.cT K ("_law_polys_right", none)).2, lamName "_law_polys_right")]
theorem codeTs (e : exAll K = true) {base : Heap} (hb : ∀ p ∈ tfAll.map (He.cT K), LamX.TabB base mg p.1 p.2) : CodeT base mg (tT K) (lamName "_law_functions_right") (He.cT K ("_law_functions_right", none)).1 (He.cT K ("_law_functions_right", none)).2 ∧ CodeT base mg (tT K) (lamName "_law_polys_right") (He.cT K ("_law_polys_right", none)).1 (He.cT K ("_law_polys_right", none)).2 := by
  have n0 := of_decide_eq_true (exL_at e (l := tabD K) (i := 37) rfl (j := 0) rfl)
  have b0 := hb _ (List.mem_map_of_mem (f := He.cT K) (show (("_law_functions_right", none) : He.Defn) ∈ tfAll from .head _))
  have b1 := hb _ (List.mem_map_of_mem (f := He.cT K) (show (("_law_polys_right", none) : He.Defn) ∈ tfAll from .tail _ (.head _)))
  refine ⟨⟨b0, by simp [tT], fun p hp h => ?_⟩, ⟨b1, by simp [tT], fun p hp h => ?_⟩⟩
  · simp only [tT, List.mem_cons, List.not_mem_nil, or_false] at hp
    rcases hp with rfl | rfl
    · rfl
    · exact absurd h.symm n0
  · simp only [tT, List.mem_cons, List.not_mem_nil, or_false] at hp
    rcases hp with rfl | rfl
    · exact absurd h n0
    · rfl
theorem says_mtD (c : He5.SaysA faAll fnAll K) {x : Str} (hx : He.Fa.meth "Operator" x ∈ clAll) : OwnM K (oC K) x (He.ma K (oC K) x) := by
  have z := He.meth_ok (says_cl c hx)
  exact ⟨z.at_, z.fn⟩
theorem says_cmD (e : exAll K = true) {x : Str} (hx : x ∈ cmAllD) : ClX.CMet K (oC K) (.type "type") x (He.ma K (oC K) x) (He5.wf K (oC K) "classmethod" x) := by
  have z := List.all_eq_true.mp (ex_at e 22 rfl) x hx
  obtain ⟨z1, z2⟩ := He.ba z
  exact He5.cmet_of z1 z2
theorem says_rdD (e : exAll K = true) : ClX.CRead K (oC K) (.type "type") := ⟨ex_at e 23 rfl, of_decide_eq_true (ex_at e 24 rfl)⟩
theorem says_prD (e : exAll K = true) {x : Str} (hx : x ∈ prAllD) : PropOf K (oC K) x (He.ma K (oC K) x) (He5.wf K (oC K) "property" x) := prop_of (List.all_eq_true.mp (ex_at e 21 rfl) x hx)
theorem insD {h : Heap} (c : He5.SaysA faAll fnAll K) (e : exAll K = true) : C8.InsC K (oC K) := ⟨He.cls_ok (says_cl c (f := .cls "Operator") (by simp [clAll])), of_decide_eq_true (ex_at e 25 rfl), of_decide_eq_true (ex_at e 26 rfl), of_decide_eq_true (ex_at e 27 rfl), of_decide_eq_true (ex_at e 28 rfl), of_decide_eq_true (ex_at e 29 rfl)⟩
theorem says_noD (e : exAll K = true) : PySem.W.kitOne K (.ref (oC K)) (.ref (fC K)) = some false := of_decide_eq_true (ex_at e 30 rfl)
theorem facts {h : Heap} (X : K.In h) (G : h.Ns mainGlobals mg) (c : He5.SaysA faAll fnAll K) (e : exAll K = true) {fa : Addr} (hfa : mg "law" = some (.ref fa)) :
    ∃ fd : FuncData, (∀ (s : Shared) (v : Value), BindsTo s fd ⟨[v], []⟩ [("script", v)]) ∧ ∀ base : Heap, (∀ p ∈ tfAll.map (He.cT K), LamX.TabB base mg p.1 p.2) → FnOk P w K mg base CX0 18 fa fd ["script"] (sp_law (tT K) K) := by
  have B := says_bis X G c
  have cf := cfm X G c e
  have nofn' := nofn e
  have rzP : Rz K mg "InvalidPoly" (cP K) := rzl X G c (x := "InvalidPoly") (by simp [clAll]) (ex_at e 31 rfl)
  have rzF : Rz K mg "InvalidFunction" (cF K) := rzl X G c (x := "InvalidFunction") (by simp [clAll]) (ex_at e 32 rfl)
  have rzO : Rz K mg "InvalidOperation" (cO K) := rzl X G c (x := "InvalidOperation") (by simp [clAll]) (ex_at e 33 rfl)
  have opk : OpK K mg (oC K) (fC K) := ⟨He.noat_ok (says_cl c (f := .noat "Operator" "_prime") (by simp [clAll])), He.noat_ok (says_cl c (f := .noat "Operator" "_entries") (by simp [clAll])), He.glo_ok X G (says_cl c (f := .glo "Operator") (by simp [clAll])), (He.mkr_ok (says_cl c (f := .mkr "Operator") (by simp [clAll]))).kp, (He.mkr_ok (says_cl c (f := .mkr "Operator") (by simp [clAll]))).makes, insD (h := h) c e, says_noD e⟩
  have C_BLOCK : GI mg "BLOCK" 90 := says_int X G c (by decide)
  have C_LANE : GI mg "LANE" 4 := says_int X G c (by decide)
  have C_MANY_STEPS : GI mg "MANY_STEPS" 10 := says_int X G c (by decide)
  have C_MAX_ENTRIES : GI mg "MAX_ENTRIES" 9 := says_int X G c (by decide)
  have C_MAX_POWER : GI mg "MAX_POWER" 60 := says_int X G c (by decide)
  have C_MAX_RAISED_functions : GI mg "MAX_RAISED_functions" 20 := says_int X G c (by decide)
  have C_MAX_SHRUNK : GI mg "MAX_SHRUNK" 20 := says_int X G c (by decide)
  have C_MOST_SUMMED : GI mg "MOST_SUMMED" 20 := says_int X G c (by decide)
  have C_SHORT : GI mg "SHORT" 5 := says_int X G c (by decide)
  have C_STEPS : GI mg "STEPS" 64 := says_int X G c (by decide)
  have C_PRIMES := says_primes X G c e
  have C_LANES := says_lanes X G c e
  obtain ⟨fdd_is_integer, Fd_is_integer⟩ := c.def_ 0 (d := d_is_integer) rfl
  have gd_is_integer := says_glo X G c (x := "is_integer") (by decide)
  have bd_is_integer : Binds K fdd_is_integer ["value"] [] := Fd_is_integer.bindsN fun _ _ _ _ _ _ us hl => match us, hl with | [_], _ => rfl
  obtain ⟨fdd_is_within, Fd_is_within⟩ := c.def_ 1 (d := d_is_within) rfl
  have gd_is_within := says_glo X G c (x := "is_within") (by decide)
  have bd_is_within : Binds K fdd_is_within ["value", "low", "high"] [] := Fd_is_within.bindsN fun _ _ _ _ _ _ us hl => match us, hl with | [_, _, _], _ => rfl
  obtain ⟨fdd_trimmed, Fd_trimmed⟩ := c.def_ 2 (d := d_trimmed) rfl
  have gd_trimmed := says_glo X G c (x := "trimmed") (by decide)
  have bd_trimmed : Binds K fdd_trimmed ["numbers"] [] := Fd_trimmed.bindsN fun _ _ _ _ _ _ us hl => match us, hl with | [_], _ => rfl
  obtain ⟨fdd_inverse, Fd_inverse⟩ := c.def_ 3 (d := d_inverse) rfl
  have gd_inverse := says_glo X G c (x := "inverse") (by decide)
  have bd_inverse : Binds K fdd_inverse ["prime", "number"] [] := Fd_inverse.bindsN fun _ _ _ _ _ _ us hl => match us, hl with | [_, _], _ => rfl
  obtain ⟨fdd_scale, Fd_scale⟩ := c.def_ 4 (d := d_scale) rfl
  have gd_scale := says_glo X G c (x := "scale") (by decide)
  have bd_scale : Binds K fdd_scale ["prime", "poly", "factor"] [] := Fd_scale.bindsN fun _ _ _ _ _ _ us hl => match us, hl with | [_, _, _], _ => rfl
  obtain ⟨fdd_make_monic, Fd_make_monic⟩ := c.def_ 5 (d := d_make_monic) rfl
  have gd_make_monic := says_glo X G c (x := "make_monic") (by decide)
  have bd_make_monic : Binds K fdd_make_monic ["prime", "poly"] [] := Fd_make_monic.bindsN fun _ _ _ _ _ _ us hl => match us, hl with | [_, _], _ => rfl
  obtain ⟨fdd_add_scaled, Fd_add_scaled⟩ := c.def_ 6 (d := d_add_scaled) rfl
  have gd_add_scaled := says_glo X G c (x := "add_scaled") (by decide)
  have bd_add_scaled : Binds K fdd_add_scaled ["prime", "one", "other", "factor"] [] := Fd_add_scaled.bindsN fun _ _ _ _ _ _ us hl => match us, hl with | [_, _, _, _], _ => rfl
  obtain ⟨fdd_multiply, Fd_multiply⟩ := c.def_ 7 (d := d_multiply) rfl
  have gd_multiply := says_glo X G c (x := "multiply") (by decide)
  have bd_multiply : Binds K fdd_multiply ["prime", "one", "other"] [] := Fd_multiply.bindsN fun _ _ _ _ _ _ us hl => match us, hl with | [_, _, _], _ => rfl
  obtain ⟨fdd_multiply_short, Fd_multiply_short⟩ := c.def_ 8 (d := d_multiply_short) rfl
  have gd_multiply_short := says_glo X G c (x := "multiply_short") (by decide)
  have bd_multiply_short : Binds K fdd_multiply_short ["prime", "one", "other"] [] := Fd_multiply_short.bindsN fun _ _ _ _ _ _ us hl => match us, hl with | [_, _, _], _ => rfl
  obtain ⟨fdd_multiply_long, Fd_multiply_long⟩ := c.def_ 9 (d := d_multiply_long) rfl
  have gd_multiply_long := says_glo X G c (x := "multiply_long") (by decide)
  have bd_multiply_long : Binds K fdd_multiply_long ["prime", "one", "other"] [] := Fd_multiply_long.bindsN fun _ _ _ _ _ _ us hl => match us, hl with | [_, _, _], _ => rfl
  obtain ⟨fdd_block_sum, Fd_block_sum⟩ := c.def_ 10 (d := d_block_sum) rfl
  have gd_block_sum := says_glo X G c (x := "block_sum") (by decide)
  have bd_block_sum : Binds K fdd_block_sum ["lefts", "rights", "place", "start", "stop"] [] := Fd_block_sum.bindsN fun _ _ _ _ _ _ us hl => match us, hl with | [_, _, _, _, _], _ => rfl
  obtain ⟨fdd_packed, Fd_packed⟩ := c.def_ 11 (d := d_packed) rfl
  have gd_packed := says_glo X G c (x := "packed") (by decide)
  have bd_packed : Binds K fdd_packed ["numbers"] [] := Fd_packed.bindsN fun _ _ _ _ _ _ us hl => match us, hl with | [_], _ => rfl
  obtain ⟨fdd_unpacked, Fd_unpacked⟩ := c.def_ 12 (d := d_unpacked) rfl
  have gd_unpacked := says_glo X G c (x := "unpacked") (by decide)
  have bd_unpacked : Binds K fdd_unpacked ["whole"] [] := Fd_unpacked.bindsN fun _ _ _ _ _ _ us hl => match us, hl with | [_], _ => rfl
  obtain ⟨fdd_divide, Fd_divide⟩ := c.def_ 13 (d := d_divide) rfl
  have gd_divide := says_glo X G c (x := "divide") (by decide)
  have bd_divide : Binds K fdd_divide ["prime", "one", "other"] [] := Fd_divide.bindsN fun _ _ _ _ _ _ us hl => match us, hl with | [_, _, _], _ => rfl
  obtain ⟨fdd_first_digits, Fd_first_digits⟩ := c.def_ 14 (d := d_first_digits) rfl
  have gd_first_digits := says_glo X G c (x := "first_digits") (by decide)
  have bd_first_digits : Binds K fdd_first_digits ["prime", "one", "other", "many"] [] := Fd_first_digits.bindsN fun _ _ _ _ _ _ us hl => match us, hl with | [_, _, _, _], _ => rfl
  obtain ⟨fdd_divide_short, Fd_divide_short⟩ := c.def_ 15 (d := d_divide_short) rfl
  have gd_divide_short := says_glo X G c (x := "divide_short") (by decide)
  have bd_divide_short : Binds K fdd_divide_short ["prime", "one", "other"] [] := Fd_divide_short.bindsN fun _ _ _ _ _ _ us hl => match us, hl with | [_, _, _], _ => rfl
  obtain ⟨fdd_quotient_of, Fd_quotient_of⟩ := c.def_ 16 (d := d_quotient_of) rfl
  have gd_quotient_of := says_glo X G c (x := "quotient_of") (by decide)
  have bd_quotient_of : Binds K fdd_quotient_of ["prime", "one", "other"] [] := Fd_quotient_of.bindsN fun _ _ _ _ _ _ us hl => match us, hl with | [_, _, _], _ => rfl
  obtain ⟨fdd_rest_of, Fd_rest_of⟩ := c.def_ 17 (d := d_rest_of) rfl
  have gd_rest_of := says_glo X G c (x := "rest_of") (by decide)
  have bd_rest_of : Binds K fdd_rest_of ["prime", "one", "other"] [] := Fd_rest_of.bindsN fun _ _ _ _ _ _ us hl => match us, hl with | [_, _, _], _ => rfl
  obtain ⟨fdd_common_divisor, Fd_common_divisor⟩ := c.def_ 18 (d := d_common_divisor) rfl
  have gd_common_divisor := says_glo X G c (x := "common_divisor") (by decide)
  have bd_common_divisor : Binds K fdd_common_divisor ["prime", "one", "other"] [] := Fd_common_divisor.bindsN fun _ _ _ _ _ _ us hl => match us, hl with | [_, _, _], _ => rfl
  obtain ⟨fdd_power_of, Fd_power_of⟩ := c.def_ 19 (d := d_power_of) rfl
  have gd_power_of := says_glo X G c (x := "power_of") (by decide)
  have bd_power_of : Binds K fdd_power_of ["prime", "poly", "many"] [] := Fd_power_of.bindsN fun _ _ _ _ _ _ us hl => match us, hl with | [_, _, _], _ => rfl
  obtain ⟨fdd_slope_of, Fd_slope_of⟩ := c.def_ 20 (d := d_slope_of) rfl
  have gd_slope_of := says_glo X G c (x := "slope_of") (by decide)
  have bd_slope_of : Binds K fdd_slope_of ["prime", "poly"] [] := Fd_slope_of.bindsN fun _ _ _ _ _ _ us hl => match us, hl with | [_, _], _ => rfl
  obtain ⟨fdd_check_prime, Fd_check_prime⟩ := c.def_ 21 (d := d_check_prime) rfl
  have gd_check_prime := says_glo X G c (x := "check_prime") (by decide)
  have bd_check_prime : Binds K fdd_check_prime ["prime"] [] := Fd_check_prime.bindsN fun _ _ _ _ _ _ us hl => match us, hl with | [_], _ => rfl
  obtain ⟨fdd_check_poly, Fd_check_poly⟩ := c.def_ 22 (d := d_check_poly) rfl
  have gd_check_poly := says_glo X G c (x := "check_poly") (by decide)
  have bd_check_poly : Binds K fdd_check_poly ["prime", "poly"] [] := Fd_check_poly.bindsN fun _ _ _ _ _ _ us hl => match us, hl with | [_, _], _ => rfl
  obtain ⟨fdd_has_poly_form, Fd_has_poly_form⟩ := c.def_ 23 (d := d_has_poly_form) rfl
  have gd_has_poly_form := says_glo X G c (x := "has_poly_form") (by decide)
  have bd_has_poly_form : Binds K fdd_has_poly_form ["prime", "value"] [] := Fd_has_poly_form.bindsN fun _ _ _ _ _ _ us hl => match us, hl with | [_, _], _ => rfl
  obtain ⟨fdd_made_function, Fd_made_function⟩ := c.def_ 24 (d := d_made_function) rfl
  have gd_made_function := says_glo X G c (x := "made_function") (by decide)
  have bd_made_function : Binds K fdd_made_function ["prime", "top", "bottom"] [] := Fd_made_function.bindsN fun _ _ _ _ _ _ us hl => match us, hl with | [_, _, _], _ => rfl
  obtain ⟨fdd_function_of, Fd_function_of⟩ := c.def_ 25 (d := d_function_of) rfl
  have gd_function_of := says_glo X G c (x := "function_of") (by decide)
  have bd_function_of : Binds K fdd_function_of ["prime", "top", "bottom"] [] := Fd_function_of.bindsN fun _ _ _ _ _ _ us hl => match us, hl with | [_, _, _], _ => rfl
  obtain ⟨fdd_lowest_terms, Fd_lowest_terms⟩ := c.def_ 26 (d := d_lowest_terms) rfl
  have gd_lowest_terms := says_glo X G c (x := "lowest_terms") (by decide)
  have bd_lowest_terms : Binds K fdd_lowest_terms ["prime", "top", "bottom"] [] := Fd_lowest_terms.bindsN fun _ _ _ _ _ _ us hl => match us, hl with | [_, _, _], _ => rfl
  obtain ⟨fdd_wide_top, Fd_wide_top⟩ := c.def_ 27 (d := d_wide_top) rfl
  have gd_wide_top := says_glo X G c (x := "wide_top") (by decide)
  have bd_wide_top : Binds K fdd_wide_top ["function"] [] := Fd_wide_top.bindsN fun _ _ _ _ _ _ us hl => match us, hl with | [_], _ => rfl
  obtain ⟨fdd_part_of_top, Fd_part_of_top⟩ := c.def_ 28 (d := d_part_of_top) rfl
  have gd_part_of_top := says_glo X G c (x := "part_of_top") (by decide)
  have bd_part_of_top : Binds K fdd_part_of_top ["function", "wide", "place"] [] := Fd_part_of_top.bindsN fun _ _ _ _ _ _ us hl => match us, hl with | [_, _, _], _ => rfl
  obtain ⟨fdd_check_function, Fd_check_function⟩ := c.def_ 29 (d := d_check_function) rfl
  have gd_check_function := says_glo X G c (x := "check_function") (by decide)
  have bd_check_function : Binds K fdd_check_function ["function"] [] := Fd_check_function.bindsN fun _ _ _ _ _ _ us hl => match us, hl with | [_], _ => rfl
  obtain ⟨fdd_is_slope, Fd_is_slope⟩ := c.def_ 30 (d := d_is_slope) rfl
  have gd_is_slope := says_glo X G c (x := "is_slope") (by decide)
  have bd_is_slope : Binds K fdd_is_slope ["function"] [] := Fd_is_slope.bindsN fun _ _ _ _ _ _ us hl => match us, hl with | [_], _ => rfl
  obtain ⟨fdd_slope_source, Fd_slope_source⟩ := c.def_ 31 (d := d_slope_source) rfl
  have gd_slope_source := says_glo X G c (x := "slope_source") (by decide)
  have bd_slope_source : Binds K fdd_slope_source ["function"] [] := Fd_slope_source.bindsN fun _ _ _ _ _ _ us hl => match us, hl with | [_], _ => rfl
  obtain ⟨fdd_shrunk, Fd_shrunk⟩ := c.def_ 32 (d := d_shrunk) rfl
  have gd_shrunk := says_glo X G c (x := "shrunk") (by decide)
  obtain ⟨ds_shrunk, dv_shrunk, bs_shrunk⟩ := binds_shrunk Fd_shrunk
  obtain ⟨fdd_is_log_slope, Fd_is_log_slope⟩ := c.def_ 33 (d := d_is_log_slope) rfl
  have gd_is_log_slope := says_glo X G c (x := "is_log_slope") (by decide)
  have bd_is_log_slope : Binds K fdd_is_log_slope ["function"] [] := Fd_is_log_slope.bindsN fun _ _ _ _ _ _ us hl => match us, hl with | [_], _ => rfl
  obtain ⟨fdd_log_source, Fd_log_source⟩ := c.def_ 34 (d := d_log_source) rfl
  have gd_log_source := says_glo X G c (x := "log_source") (by decide)
  have bd_log_source : Binds K fdd_log_source ["function"] [] := Fd_log_source.bindsN fun _ _ _ _ _ _ us hl => match us, hl with | [_], _ => rfl
  obtain ⟨fdd_log_slope, Fd_log_slope⟩ := c.def_ 35 (d := d_log_slope) rfl
  have gd_log_slope := says_glo X G c (x := "log_slope") (by decide)
  have bd_log_slope : Binds K fdd_log_slope ["prime", "poly"] [] := Fd_log_slope.bindsN fun _ _ _ _ _ _ us hl => match us, hl with | [_, _], _ => rfl
  obtain ⟨fdd_log_fault, Fd_log_fault⟩ := c.def_ 36 (d := d_log_fault) rfl
  have gd_log_fault := says_glo X G c (x := "log_fault") (by decide)
  have bd_log_fault : Binds K fdd_log_fault ["function"] [] := Fd_log_fault.bindsN fun _ _ _ _ _ _ us hl => match us, hl with | [_], _ => rfl
  obtain ⟨fdd_turn_of, Fd_turn_of⟩ := c.def_ 37 (d := d_turn_of) rfl
  have gd_turn_of := says_glo X G c (x := "turn_of") (by decide)
  have bd_turn_of : Binds K fdd_turn_of ["function"] [] := Fd_turn_of.bindsN fun _ _ _ _ _ _ us hl => match us, hl with | [_], _ => rfl
  obtain ⟨fdd_are_entries, Fd_are_entries⟩ := c.def_ 38 (d := d_are_entries) rfl
  have gd_are_entries := says_glo X G c (x := "are_entries") (by decide)
  have bd_are_entries : Binds K fdd_are_entries ["value"] [] := Fd_are_entries.bindsN fun _ _ _ _ _ _ us hl => match us, hl with | [_], _ => rfl
  obtain ⟨fdd__law_bag, Fd__law_bag⟩ := c.def_ 39 (d := d__law_bag) rfl
  have gd__law_bag := says_glo X G c (x := "_law_bag") (by decide)
  have bd__law_bag : Binds K fdd__law_bag ["script", "spot"] [] := Fd__law_bag.bindsN fun _ _ _ _ _ _ us hl => match us, hl with | [_, _], _ => rfl
  obtain ⟨fdd__law_grab, Fd__law_grab⟩ := c.def_ 40 (d := d__law_grab) rfl
  have gd__law_grab := says_glo X G c (x := "_law_grab") (by decide)
  have bd__law_grab : Binds K fdd__law_grab ["bag", "total"] [] := Fd__law_grab.bindsN fun _ _ _ _ _ _ us hl => match us, hl with | [_, _], _ => rfl
  obtain ⟨fdd__law_one_of, Fd__law_one_of⟩ := c.def_ 41 (d := d__law_one_of) rfl
  have gd__law_one_of := says_glo X G c (x := "_law_one_of") (by decide)
  have bd__law_one_of : Binds K fdd__law_one_of ["bag", "items"] [] := Fd__law_one_of.bindsN fun _ _ _ _ _ _ us hl => match us, hl with | [_, _], _ => rfl
  obtain ⟨fdd__law_met, Fd__law_met⟩ := c.def_ 42 (d := d__law_met) rfl
  have gd__law_met := says_glo X G c (x := "_law_met") (by decide)
  have bd__law_met : Binds K fdd__law_met ["call"] [] := Fd__law_met.bindsN fun _ _ _ _ _ _ us hl => match us, hl with | [_], _ => rfl
  obtain ⟨fdd__law_functions_right, Fd__law_functions_right⟩ := c.def_ 43 (d := d__law_functions_right) rfl
  have gd__law_functions_right := says_glo X G c (x := "_law_functions_right") (by decide)
  have bd__law_functions_right : Binds K fdd__law_functions_right ["bag"] [] := Fd__law_functions_right.bindsN fun _ _ _ _ _ _ us hl => match us, hl with | [_], _ => rfl
  obtain ⟨fdd__law_polys_right, Fd__law_polys_right⟩ := c.def_ 44 (d := d__law_polys_right) rfl
  have gd__law_polys_right := says_glo X G c (x := "_law_polys_right") (by decide)
  have bd__law_polys_right : Binds K fdd__law_polys_right ["bag"] [] := Fd__law_polys_right.bindsN fun _ _ _ _ _ _ us hl => match us, hl with | [_], _ => rfl
  obtain ⟨fdd_law, Fd_law⟩ := c.def_ 45 (d := d_law) rfl
  have gd_law := says_glo X G c (x := "law") (by decide)
  have bd_law : Binds K fdd_law ["script"] [] := Fd_law.bindsN fun _ _ _ _ _ _ us hl => match us, hl with | [_], _ => rfl
  obtain ⟨fde___init__, Fe___init__⟩ := c.def_ 46 (d := e___init__) rfl
  have be___init__ : Binds K fde___init__ ["self", "prime", "top", "bottom"] [] := Fe___init__.bindsN fun _ _ _ _ _ _ us hl => match us, hl with | [_, _, _, _], _ => rfl
  obtain ⟨fde_letter, Fe_letter⟩ := c.def_ 47 (d := e_letter) rfl
  have be_letter : Binds K fde_letter ["cls", "prime"] [] := Fe_letter.bindsN fun _ _ _ _ _ _ us hl => match us, hl with | [_, _], _ => rfl
  obtain ⟨fde_prime, Fe_prime⟩ := c.def_ 48 (d := e_prime) rfl
  have be_prime : Binds K fde_prime ["self"] [] := Fe_prime.bindsN fun _ _ _ _ _ _ us hl => match us, hl with | [_], _ => rfl
  obtain ⟨fde_top, Fe_top⟩ := c.def_ 49 (d := e_top) rfl
  have be_top : Binds K fde_top ["self"] [] := Fe_top.bindsN fun _ _ _ _ _ _ us hl => match us, hl with | [_], _ => rfl
  obtain ⟨fde_bottom, Fe_bottom⟩ := c.def_ 50 (d := e_bottom) rfl
  have be_bottom : Binds K fde_bottom ["self"] [] := Fe_bottom.bindsN fun _ _ _ _ _ _ us hl => match us, hl with | [_], _ => rfl
  obtain ⟨fde_last_part, Fe_last_part⟩ := c.def_ 51 (d := e_last_part) rfl
  have be_last_part : Binds K fde_last_part ["self"] [] := Fe_last_part.bindsN fun _ _ _ _ _ _ us hl => match us, hl with | [_], _ => rfl
  obtain ⟨fde___pow__, Fe___pow__⟩ := c.def_ 52 (d := e___pow__) rfl
  have be___pow__ : Binds K fde___pow__ ["self", "other"] [] := Fe___pow__.bindsN fun _ _ _ _ _ _ us hl => match us, hl with | [_, _], _ => rfl
  obtain ⟨fde___eq__, Fe___eq__⟩ := c.def_ 53 (d := e___eq__) rfl
  have be___eq__ : Binds K fde___eq__ ["self", "other"] [] := Fe___eq__.bindsN fun _ _ _ _ _ _ us hl => match us, hl with | [_, _], _ => rfl
  obtain ⟨fde___bool__, Fe___bool__⟩ := c.def_ 54 (d := e___bool__) rfl
  have be___bool__ : Binds K fde___bool__ ["self"] [] := Fe___bool__.bindsN fun _ _ _ _ _ _ us hl => match us, hl with | [_], _ => rfl
  obtain ⟨fdo___init__, Fo___init__⟩ := c.def_ 55 (d := o___init__) rfl
  have bo___init__ : Binds K fdo___init__ ["self", "prime", "entries"] [] := Fo___init__.bindsN fun _ _ _ _ _ _ us hl => match us, hl with | [_, _, _], _ => rfl
  obtain ⟨fdo_times, Fo_times⟩ := c.def_ 56 (d := o_times) rfl
  have bo_times : Binds K fdo_times ["cls", "function"] [] := Fo_times.bindsN fun _ _ _ _ _ _ us hl => match us, hl with | [_, _], _ => rfl
  obtain ⟨fde_given, Fe_given⟩ := c.def_ 57 (d := e_given) rfl
  have be_given : Binds K fde_given ["self", "given"] [] := Fe_given.bindsN fun _ _ _ _ _ _ us hl => match us, hl with | [_, _], _ => rfl
  have e1 := hfa.symm.trans gd_law
  have e2 : fa = He.ga K "law" := by
    injection e1 with e1
    injection e1
  subst e2
  have b := FunD.bindsA (ps := ["script"]) Fd_law fun _ _ _ _ _ _ us hl => match us, hl with | [_], _ => rfl
  refine ⟨fdd_law, fun s v => b s [v] rfl, fun base hTab => ?_⟩
  obtain ⟨W0, W1⟩ := codeTs e hTab
  have rn : Rn P w K mg base (cN K) := ⟨exg e, He.glo_ok X G (says_cl c (f := .glo "InvalidNumber") (by simp [clAll])), _, _, of_decide_eq_true (exL_at e (l := rnL K (cN K)) (i := 34) rfl (j := 5) rfl), of_decide_eq_true (exL_at e (l := rnL K (cN K)) (i := 34) rfl (j := 6) rfl), ok_given (funOf Fe_given) (exg e) (of_decide_eq_true (exL_at e (l := rnL K (cN K)) (i := 34) rfl (j := 8) rfl)), be_given⟩
  have mx : Met K mg (cP K) (cF K) (cO K) (cN K) := ⟨_, _, funOf Fd__law_met, gd__law_met, metK e, rzP.gC, rzF.gC, rzO.gC, rn.gC⟩
  have X__law_bag_De : De P w K mg base "_law_bag" ["script", "spot"] 1 (sp__law_bag K) := ⟨_, _, ok__law_bag (funOf Fd__law_bag) B, gd__law_bag, Fd__law_bag.kp, bd__law_bag⟩
  have X__law_grab_De : De P w K mg base "_law_grab" ["bag", "total"] 1 (sp__law_grab K) := ⟨_, _, ok__law_grab (funOf Fd__law_grab) B, gd__law_grab, Fd__law_grab.kp, bd__law_grab⟩
  have X__law_one_ofV_De : De P w K mg base "_law_one_of" ["bag", "items"] 2 (sp__law_one_ofV K) := ⟨_, _, ok__law_one_ofV (funOf Fd__law_one_of) B X__law_grab_De, gd__law_one_of, Fd__law_one_of.kp, bd__law_one_of⟩
  have X_is_integer_De : De P w K mg base "is_integer" ["value"] 1 (sp_is_integer K) := ⟨_, _, ok_is_integer (funOf Fd_is_integer) B, gd_is_integer, Fd_is_integer.kp, bd_is_integer⟩
  have X_check_prime_De : De P w K mg base "check_prime" ["prime"] 2 (sp_check_prime K) := ⟨_, _, ok_check_prime (funOf Fd_check_prime) B C_PRIMES X_is_integer_De, gd_check_prime, Fd_check_prime.kp, bd_check_prime⟩
  have X_is_within_De : De P w K mg base "is_within" ["value", "low", "high"] 2 (sp_is_within K) := ⟨_, _, ok_is_within (funOf Fd_is_within) B X_is_integer_De, gd_is_within, Fd_is_within.kp, bd_is_within⟩
  have X_has_poly_form_De : De P w K mg base "has_poly_form" ["prime", "value"] 3 (sp_has_poly_form K) := ⟨_, _, ok_has_poly_form (funOf Fd_has_poly_form) B C_MAX_POWER X_is_within_De, gd_has_poly_form, Fd_has_poly_form.kp, bd_has_poly_form⟩
  have X_check_poly_De : De P w K mg base "check_poly" ["prime", "poly"] 4 (sp_check_poly K) := ⟨_, _, ok_check_poly (funOf Fd_check_poly) B X_has_poly_form_De, gd_check_poly, Fd_check_poly.kp, bd_check_poly⟩
  have X_inverse_De : De P w K mg base "inverse" ["prime", "number"] 1 (sp_inverse K) := ⟨_, _, ok_inverse (funOf Fd_inverse) B, gd_inverse, Fd_inverse.kp, bd_inverse⟩
  have X_trimmed_De : De P w K mg base "trimmed" ["numbers"] 1 (sp_trimmed K) := ⟨_, _, ok_trimmed (funOf Fd_trimmed) B, gd_trimmed, Fd_trimmed.kp, bd_trimmed⟩
  have X_divide_short_De : De P w K mg base "divide_short" ["prime", "one", "other"] 2 (sp_divide_short K) := ⟨_, _, ok_divide_short (funOf Fd_divide_short) B X_inverse_De X_trimmed_De, gd_divide_short, Fd_divide_short.kp, bd_divide_short⟩
  have X_add_scaled_De : De P w K mg base "add_scaled" ["prime", "one", "other", "factor"] 2 (sp_add_scaled K) := ⟨_, _, ok_add_scaled (funOf Fd_add_scaled) B X_trimmed_De, gd_add_scaled, Fd_add_scaled.kp, bd_add_scaled⟩
  have X_divide_De : De P w K mg base "divide" ["prime", "one", "other"] 3 (sp_divide K) := ⟨_, _, ok_divide (funOf Fd_divide) B C_STEPS C_MANY_STEPS X_divide_short_De ⟨_, _, ok_F, gd_first_digits, Fd_first_digits.kp, bd_first_digits⟩ X_add_scaled_De ⟨_, _, ok_F, gd_multiply, Fd_multiply.kp, bd_multiply⟩ X_trimmed_De, gd_divide, Fd_divide.kp, bd_divide⟩
  have X_rest_of_De : De P w K mg base "rest_of" ["prime", "one", "other"] 4 (sp_rest_of K) := ⟨_, _, ok_rest_of (funOf Fd_rest_of) B X_divide_De, gd_rest_of, Fd_rest_of.kp, bd_rest_of⟩
  have X_scale_De : De P w K mg base "scale" ["prime", "poly", "factor"] 2 (sp_scale K) := ⟨_, _, ok_scale (funOf Fd_scale) B X_trimmed_De, gd_scale, Fd_scale.kp, bd_scale⟩
  have X_make_monic_De : De P w K mg base "make_monic" ["prime", "poly"] 3 (sp_make_monic K) := ⟨_, _, ok_make_monic (funOf Fd_make_monic) B X_scale_De X_inverse_De, gd_make_monic, Fd_make_monic.kp, bd_make_monic⟩
  have X_common_divisor_De : De P w K mg base "common_divisor" ["prime", "one", "other"] 5 (sp_common_divisor K) := ⟨_, _, ok_common_divisor (funOf Fd_common_divisor) B X_rest_of_De X_make_monic_De, gd_common_divisor, Fd_common_divisor.kp, bd_common_divisor⟩
  have X_quotient_of_De : De P w K mg base "quotient_of" ["prime", "one", "other"] 4 (sp_quotient_of K) := ⟨_, _, ok_quotient_of (funOf Fd_quotient_of) B X_divide_De, gd_quotient_of, Fd_quotient_of.kp, bd_quotient_of⟩
  have X_lowest_terms_De : De P w K mg base "lowest_terms" ["prime", "top", "bottom"] 6 (sp_lowest_terms K) := ⟨_, _, ok_lowest_terms (funOf Fd_lowest_terms) B cf X_common_divisor_De X_inverse_De X_scale_De X_quotient_of_De, gd_lowest_terms, Fd_lowest_terms.kp, bd_lowest_terms⟩
  have X_F___init___Dm : Dm P w K mg base (fC K) "__init__" ["self", "prime", "top", "bottom"] 7 (sp_F___init__ K (fC K)) := ⟨_, _, ok_F___init__ (funOf Fe___init__) B cf X_check_prime_De X_check_poly_De X_lowest_terms_De, be___init__, says_mt c (x := "__init__") (by decide)⟩
  have X_F_letter_Dk : Dk P w K mg base (fC K) "letter" ["cls", "prime"] 9 (sp_F_letter K (fC K)) := ⟨_, _, _, _, ok_F_letter (funOf Fe_letter) B cf X_F___init___Dm, be_letter, says_rd e, says_cm e (x := "letter") (by decide)⟩
  have X_check_function_De : De P w K mg base "check_function" ["function"] 1 (sp_check_function K (fC K)) := ⟨_, _, ok_check_function (funOf Fd_check_function) B cf, gd_check_function, Fd_check_function.kp, bd_check_function⟩
  have X_F_prime_Dg : Dg P w K mg base (fC K) "prime" ["self"] 1 (sp_F_prime K (fC K)) := ⟨_, _, _, ok_F_prime (funOf Fe_prime) B cf, be_prime, says_pr e (x := "prime") (by decide)⟩
  have X_F___bool___Dm : Dm P w K mg base (fC K) "__bool__" ["self"] 1 (sp_F___bool__ K (fC K)) := ⟨_, _, ok_F___bool__ (funOf Fe___bool__) B cf, be___bool__, says_mt c (x := "__bool__") (by decide)⟩
  have X_are_entries_De : De P w K mg base "are_entries" ["value"] 4 (sp_are_entries K (fC K)) := ⟨_, _, ok_are_entries (funOf Fd_are_entries) B cf C_MAX_ENTRIES X_F___bool___Dm, gd_are_entries, Fd_are_entries.kp, bd_are_entries⟩
  have X_O___init___Dm : Dm P w K mg base (oC K) "__init__" ["self", "prime", "entries"] 5 (sp_O___init__ K (fC K) (oC K)) := ⟨_, _, ok_O___init__ (funOf Fo___init__) B cf opk X_check_prime_De X_are_entries_De X_F_prime_Dg, bo___init__, says_mtD c (x := "__init__") (by simp [clAll])⟩
  have X_O_times_Dk : Dk P w K mg base (oC K) "times" ["cls", "function"] 7 (sp_O_times K (fC K) (oC K)) := ⟨_, _, _, _, ok_O_times (funOf Fo_times) B cf opk X_check_function_De X_F_prime_Dg X_F___bool___Dm X_O___init___Dm, bo_times, says_rdD e, says_cmD e (x := "times") (by decide)⟩
  have X_made_function_De : De P w K mg base "made_function" ["prime", "top", "bottom"] 9 (sp_made_function K (fC K)) := ⟨_, _, ok_made_function (funOf Fd_made_function) B cf X_F___init___Dm, gd_made_function, Fd_made_function.kp, bd_made_function⟩
  have X_multiply_short_De : De P w K mg base "multiply_short" ["prime", "one", "other"] 2 (sp_multiply_short K) := ⟨_, _, ok_multiply_short (funOf Fd_multiply_short) B X_trimmed_De, gd_multiply_short, Fd_multiply_short.kp, bd_multiply_short⟩
  have X_packed_De : De P w K mg base "packed" ["numbers"] 1 (sp_packed K) := ⟨_, _, ok_packed (funOf Fd_packed) B C_LANES, gd_packed, Fd_packed.kp, bd_packed⟩
  have X_unpacked_De : De P w K mg base "unpacked" ["whole"] 1 (sp_unpacked K) := ⟨_, _, ok_unpacked (funOf Fd_unpacked) B C_LANE, gd_unpacked, Fd_unpacked.kp, bd_unpacked⟩
  have X_block_sum_De : De P w K mg base "block_sum" ["lefts", "rights", "place", "start", "stop"] 1 (sp_block_sum K) := ⟨_, _, ok_block_sum (funOf Fd_block_sum) B, gd_block_sum, Fd_block_sum.kp, bd_block_sum⟩
  have X_multiply_long_De : De P w K mg base "multiply_long" ["prime", "one", "other"] 2 (sp_multiply_long K) := ⟨_, _, ok_multiply_long (funOf Fd_multiply_long) B C_BLOCK C_MOST_SUMMED X_packed_De X_unpacked_De X_block_sum_De X_trimmed_De, gd_multiply_long, Fd_multiply_long.kp, bd_multiply_long⟩
  have X_multiply_De : De P w K mg base "multiply" ["prime", "one", "other"] 4 (sp_multiply K) := ⟨_, _, ok_multiply (funOf Fd_multiply) B C_SHORT gd_multiply Fd_multiply.kp bd_multiply X_multiply_short_De X_multiply_long_De, gd_multiply, Fd_multiply.kp, bd_multiply⟩
  have X_power_of_De : De P w K mg base "power_of" ["prime", "poly", "many"] 5 (sp_power_of K) := ⟨_, _, ok_power_of (funOf Fd_power_of) B X_multiply_De, gd_power_of, Fd_power_of.kp, bd_power_of⟩
  have X_F___pow___Dm : Dm P w K mg base (fC K) "__pow__" ["self", "other"] 10 (sp_F___pow__ K (fC K)) := ⟨_, _, ok_F___pow__ (funOf Fe___pow__) B cf C_MAX_RAISED_functions X_is_within_De X_made_function_De X_power_of_De, be___pow__, says_mt c (x := "__pow__") (by decide)⟩
  have X_check_functionY_DeX : DeX P w K mg base "check_function" ["function"] 1 (sp_noF K (fC K) (cF K)) := ⟨_, _, ok_check_functionY (funOf Fd_check_function) B cf rzF, gd_check_function, Fd_check_function.kp, bd_check_function⟩
  have X_is_slopeX_DeX : DeX P w K mg base "is_slope" ["function"] 3 (sp_noF K (fC K) (cF K)) := ⟨_, _, ok_is_slopeX (funOf Fd_is_slope) X_check_functionY_DeX, gd_is_slope, Fd_is_slope.kp, bd_is_slope⟩
  have X_slope_sourceX_DeX : DeX P w K mg base "slope_source" ["function"] 3 (sp_noF K (fC K) (cF K)) := ⟨_, _, ok_slope_sourceX (funOf Fd_slope_source) X_check_functionY_DeX, gd_slope_source, Fd_slope_source.kp, bd_slope_source⟩
  have X_is_log_slopeX_DeX : DeX P w K mg base "is_log_slope" ["function"] 3 (sp_noF K (fC K) (cF K)) := ⟨_, _, ok_is_log_slopeX (funOf Fd_is_log_slope) X_check_functionY_DeX, gd_is_log_slope, Fd_is_log_slope.kp, bd_is_log_slope⟩
  have X_log_sourceX_DeX : DeX P w K mg base "log_source" ["function"] 5 (sp_noF K (fC K) (cF K)) := ⟨_, _, ok_log_sourceX (funOf Fd_log_source) X_is_log_slopeX_DeX, gd_log_source, Fd_log_source.kp, bd_log_source⟩
  have X_log_faultX_DeX : DeX P w K mg base "log_fault" ["function"] 3 (sp_noF K (fC K) (cF K)) := ⟨_, _, ok_log_faultX (funOf Fd_log_fault) X_check_functionY_DeX, gd_log_fault, Fd_log_fault.kp, bd_log_fault⟩
  have X_turn_ofX_DeX : DeX P w K mg base "turn_of" ["function"] 3 (sp_noF K (fC K) (cF K)) := ⟨_, _, ok_turn_ofX (funOf Fd_turn_of) X_check_functionY_DeX, gd_turn_of, Fd_turn_of.kp, bd_turn_of⟩
  have X_shrunkF_DsS : DsS P w K mg base (L2.CX P w) 3 (sp_shrunkF K (fC K) (cF K)) := ⟨_, _, ok_shrunkF Fd_shrunk X_check_functionY_DeX, ds_shrunk, dv_shrunk, bs_shrunk, kbn_shrunk Fd_shrunk, gd_shrunk, Fd_shrunk.kp⟩
  have X_shrunkN_DsS : DsS P w K mg base (L2.CX P w) 4 (sp_shrunkN K (fC K) (cN K)) := ⟨_, _, ok_shrunkN Fd_shrunk C_MAX_SHRUNK rn X_check_function_De X_is_within_De, ds_shrunk, dv_shrunk, bs_shrunk, kbn_shrunk Fd_shrunk, gd_shrunk, Fd_shrunk.kp⟩
  have X_function_of_De : De P w K mg base "function_of" ["prime", "top", "bottom"] 10 (sp_function_of K (fC K)) := ⟨_, _, ok_function_of (funOf Fd_function_of) B cf X_lowest_terms_De X_made_function_De, gd_function_of, Fd_function_of.kp, bd_function_of⟩
  have X_trimmedT_De : De P w K mg base "trimmed" ["numbers"] 1 (sp_trimmedT K) := ⟨_, _, ok_trimmedT (funOf Fd_trimmed) B, gd_trimmed, Fd_trimmed.kp, bd_trimmed⟩
  have X_F_bottom_Dg : Dg P w K mg base (fC K) "bottom" ["self"] 1 (sp_F_bottom K (fC K)) := ⟨_, _, _, ok_F_bottom (funOf Fe_bottom) B cf, be_bottom, says_pr e (x := "bottom") (by decide)⟩
  have X_part_of_top_De : De P w K mg base "part_of_top" ["function", "wide", "place"] 11 (sp_part_of_top K (fC K)) := ⟨_, _, ok_part_of_top (funOf Fd_part_of_top) B cf X_function_of_De X_trimmedT_De X_F_bottom_Dg X_F_prime_Dg, gd_part_of_top, Fd_part_of_top.kp, bd_part_of_top⟩
  have X_F_top_Dg : Dg P w K mg base (fC K) "top" ["self"] 1 (sp_F_top K (fC K)) := ⟨_, _, _, ok_F_top (funOf Fe_top) B cf, be_top, says_pr e (x := "top") (by decide)⟩
  have X_wide_top_De : De P w K mg base "wide_top" ["function"] 6 (sp_wide_top K (fC K)) := ⟨_, _, ok_wide_top (funOf Fd_wide_top) B cf X_multiply_De X_power_of_De X_F_bottom_Dg X_F_prime_Dg X_F_top_Dg, gd_wide_top, Fd_wide_top.kp, bd_wide_top⟩
  have X_F_last_part_DmL : DmL P w K mg base (fC K) "last_part" 12 (sp_F_last_part K (fC K)) := ⟨_, _, ok_F_last_part (funOf Fe_last_part) B cf X_part_of_top_De X_wide_top_De, be_last_part, says_mth c (x := "last_part") (by decide)⟩
  have X_shrunk_DsS : DsS P w K mg base CX0 13 (sp_shrunk K (fC K)) := ⟨_, _, ok_shrunk Fd_shrunk B cf C_MAX_SHRUNK X_check_function_De X_is_within_De X_F_last_part_DmL, ds_shrunk, dv_shrunk, bs_shrunk, kbn_shrunk Fd_shrunk, gd_shrunk, Fd_shrunk.kp⟩
  have X__law_functions_right_De : De P w K mg base "_law_functions_right" ["bag"] 17 (sp__law_functions_right (tT K)) := ⟨_, _, ok__law_functions_right (funC_of Fd__law_functions_right) B cf nofn' opk mx W0 X__law_one_ofV_De X_F_letter_Dk X_O_times_Dk X_F___pow___Dm X_is_slopeX_DeX X_slope_sourceX_DeX X_is_log_slopeX_DeX X_log_sourceX_DeX X_log_faultX_DeX X_turn_ofX_DeX X_shrunkF_DsS X_shrunkN_DsS X_shrunk_DsS, gd__law_functions_right, Fd__law_functions_right.kp, bd__law_functions_right⟩
  have X_check_primeX_DeX : DeX P w K mg base "check_prime" ["prime"] 4 (sp_check_primeX K (cN K)) := ⟨_, _, ok_check_primeX (funOf Fd_check_prime) B C_PRIMES rn X_is_integer_De, gd_check_prime, Fd_check_prime.kp, bd_check_prime⟩
  have X_check_polyX_DeX : DeX P w K mg base "check_poly" ["prime", "poly"] 4 (sp_check_polyX K (cP K)) := ⟨_, _, ok_check_polyX (funOf Fd_check_poly) B rzP X_has_poly_form_De, gd_check_poly, Fd_check_poly.kp, bd_check_poly⟩
  have X_log_slopeX_DeX : DeX P w K mg base "log_slope" ["prime", "poly"] 7 (sp_log_slopeX K (cN K) (cP K) (cO K)) := ⟨_, _, ok_log_slopeX (funOf Fd_log_slope) rzO X_check_prime_De X_check_poly_De X_check_primeX_DeX X_check_polyX_DeX, gd_log_slope, Fd_log_slope.kp, bd_log_slope⟩
  have X_slope_of_De : De P w K mg base "slope_of" ["prime", "poly"] 2 (sp_slope_of K) := ⟨_, _, ok_slope_of (funOf Fd_slope_of) B X_trimmed_De, gd_slope_of, Fd_slope_of.kp, bd_slope_of⟩
  have X_log_slope_De : De P w K mg base "log_slope" ["prime", "poly"] 11 (sp_log_slope K (fC K)) := ⟨_, _, ok_log_slope (funOf Fd_log_slope) X_check_prime_De X_check_poly_De X_function_of_De X_slope_of_De, gd_log_slope, Fd_log_slope.kp, bd_log_slope⟩
  have X__law_polys_right_De : De P w K mg base "_law_polys_right" ["bag"] 17 (sp__law_polys_right (tT K)) := ⟨_, _, ok__law_polys_right (funC_of Fd__law_polys_right) B mx W1 X__law_one_ofV_De X_log_slopeX_DeX X_log_slope_De, gd__law_polys_right, Fd__law_polys_right.kp, bd__law_polys_right⟩
  have X_F___eq___Dm : Dm P w K mg base (fC K) "__eq__" ["self", "other"] 1 (sp_F___eq__ K (fC K)) := ⟨_, _, ok_F___eq__ (funOf Fe___eq__) B cf, be___eq__, says_mt c (x := "__eq__") (by decide)⟩
  exact ok_law (funOf Fd_law) B cf C_MAX_SHRUNK X__law_bag_De X__law_functions_right_De X__law_polys_right_De X_log_slope_De X_F___init___Dm X_F___eq___Dm
end
end K0
open PySem PySem.W PySem.Calls PyProof.Rows
theorem PySem.Challenge.cw_slopewords_k17_errors_of_slopes_holds : PySem.Challenge.rw_slopewords_k17_errors_of_slopes.Holds := by
  w_on; o_law
  refine HandSHeadRun.head_any (r := OpenLaw.row PySem.Challenge.rw_slopewords_k17_errors_of_slopes) (q := K0.qv) (H := K0.hkAll) (ob := K0.obAll) (M := 20000) (loose := K0.nmAll) (d := HandSHeadRun.topDef (OpenLaw.row PySem.Challenge.rw_slopewords_k17_errors_of_slopes).prog 104) (kwd := []) K0.ob_eq
    (by kernel_rfl) (fun s => by kernel_rfl) K0.run (by kernel_rfl) (by kernel_rfl) (by kernel_rfl) (by rfl) (by first | assumption | decide +kernel) (by decide +kernel) ⟨rfl, rfl, rfl, rfl, rfl, by decide +kernel⟩ ?hw ?hc
  case hw => w_witness2
  case hc =>
    refine LamX.walk_ofTsE (l := PySem.Challenge.rw_slopewords_k17_errors_of_slopes) (n := 63) (k := 18) (x := "script") (CX := fun _ => L2.CX0) rfl (by decide) (by kernel_rfl) ⟨rfl, by decide, by decide⟩ ?F (fun _ _ _ _ _ z => z)
    intro w mg fa h Y G hmg0
    obtain ⟨K, KX, c⟩ := Y
    have hmg : mg ("law" : PySem.Str) = some (.ref fa) := by
      have e : (HandSHeadRun.topDef (OpenLaw.row PySem.Challenge.rw_slopewords_k17_errors_of_slopes).prog 104).name = ("law" : PySem.Str) := by kernel_rfl
      rw [← e]
      exact hmg0
    obtain ⟨fd, hb, hF⟩ := K0.facts (P := (PySem.Challenge.rw_slopewords_k17_errors_of_slopes).prog) (w := w) KX G (K0.says_join c.d1 c.d2 c.fa) c.more hmg
    refine ⟨K, KX, fd, K0.tfAll.map (He.cT K), K0.sp_law (K0.tT K) K, fun p hp => ?_, fun p hp => ?_, fun p hp => ?_, fun s u => hb s u, fun H a ns hl _ hT hS => ⟨ns, .ref a, rfl, ⟨a, rfl, hS⟩, fun p hp => ?_, fun _ => rfl⟩, fun base _ _ h2 => hF base h2⟩
    · obtain ⟨q, hq, rfl⟩ := List.mem_map.mp hp
      exact c.empty q hq
    · obtain ⟨q, hq, rfl⟩ := List.mem_map.mp hp
      exact c.out q hq
    · obtain ⟨q, hq, rfl⟩ := List.mem_map.mp hp
      exact PySem.W.codeHd_of_K KX (c.hd q hq)
    · simp only [K0.tT, List.mem_cons, List.not_mem_nil, or_false] at hp
      rcases hp with rfl | rfl
      · exact LamX.TabS.nil (hT (He.cT K ("_law_functions_right", none)) (List.mem_map_of_mem (by simp [K0.tfAll])))
      · exact LamX.TabS.nil (hT (He.cT K ("_law_polys_right", none)) (List.mem_map_of_mem (by simp [K0.tfAll])))
