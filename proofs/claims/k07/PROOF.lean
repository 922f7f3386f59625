import PyProof.Rows.All
import Wide.All
import OpenK.AllK
import Wide.FinOn
import HandS.ForMost
import HandS.Wide
import HandS.WideBits
import HandS.IsInst
import HandS.IntHex
import HandS.FStr
import HandS.StrMore
import HandS.Style
import HandS.SetFor
import HandS.TupLe
import KE.KIntText
import KE.KxField
import KE.GoesZip
import KE.GoesMore
import KE.GoesEnum
import PyProof.FString3
import PyProof.Rows.StrRev
import PySem.Challenge.RW_leanfigures_k07_rows_compared
set_option Elab.async false
set_option linter.all false
set_option maxRecDepth 100000
set_option maxHeartbeats 4000000
/-! int(text, 2), the text of any length. -/
namespace XB
open PySem PySem.NumText PySem.Calls L2

/-- binary signs alone -/
def Bits (cs : List Nat) : Prop := ∀ c ∈ cs, c = 48 ∨ c = 49
/-- what they are worth -/
def bitsVal (cs : List Nat) : Nat := cs.foldl (fun a c => 2 * a + (c - 48)) 0

theorem Bits.digits {cs : List Nat} (h : Bits cs) : AllDigits cs := fun c hc => by
  rcases h c hc with e | e <;> subst e <;> exact ⟨by decide, by decide⟩
theorem Bits.rev {cs : List Nat} (h : Bits cs) : Bits cs.reverse := fun c hc => h c (List.mem_reverse.mp hc)
theorem step2 {ds : Array Nat} {b : Bool} {c : Nat} (h : c = 48 ∨ c = 49) : PySem.NumText.step 2 (ds, b) c = some (ds.push (c - 48), true) := by
  rcases h with e | e <;> subst e <;> rfl
theorem fold2 : ∀ (cs : List Nat) (ds : Array Nat), Bits cs → List.foldlM (PySem.NumText.step 2) (ds, true) cs = some (List.foldl (fun acc c => acc.push (c - 48)) ds cs, true)
  | [], _, _ => rfl
  | c :: cs, ds, h => by
    rw [List.foldlM_cons, step2 (h c List.mem_cons_self)]
    exact fold2 cs (ds.push (c - 48)) fun d hd => h d (List.mem_cons_of_mem _ hd)
theorem digits2 {cs : List Nat} (h : Bits cs) (hne : cs ≠ []) : digits? 2 cs = some (List.foldl (fun acc c => acc.push (c - 48)) #[] cs) := by
  match cs, hne with
  | c :: r, _ =>
    unfold digits?
    rw [List.foldlM_cons, step2 (h c List.mem_cons_self)]
    have e := fold2 r ((#[] : Array Nat).push (c - 48)) fun d hd => h d (List.mem_cons_of_mem _ hd)
    show (List.foldlM (PySem.NumText.step 2) ((#[] : Array Nat).push (c - 48), true) r).bind _ = _
    rw [e]
    rfl
theorem pushed2 : ∀ (cs : List Nat) (ds : Array Nat), (List.foldl (fun acc c => acc.push (c - 48)) ds cs).foldl (fun acc d => acc * 2 + d) 0 =
    cs.foldl (fun a c => 2 * a + (c - 48)) (ds.foldl (fun acc d => acc * 2 + d) 0)
  | [], _ => rfl
  | c :: cs, ds => by
    rw [List.foldl_cons, pushed2 cs (ds.push (c - 48)), List.foldl_cons]
    congr 1
    simp [Nat.mul_comm]
theorem based2 {cs : List Nat} (h : Bits cs) : based 2 cs = (2, false, cs) := by
  match cs, h with
  | [], _ => rfl
  | [a], h =>
    rcases h a List.mem_cons_self with e | e <;> subst e <;> rfl
  | a :: c :: r, h =>
    have ha := h a List.mem_cons_self
    have hc := h c (List.mem_cons_of_mem _ List.mem_cons_self)
    rcases ha with e | e <;> rcases hc with e2 | e2 <;> subst e <;> subst e2 <;> rfl
theorem sign2 {cs : List Nat} (h : Bits cs) : sign cs = (false, cs) := by
  match cs, h with
  | [], _ => rfl
  | c :: r, h =>
    have := h c List.mem_cons_self
    exact sign_of (by omega) (by omega)
theorem read2 (limit : Nat) {cs : List Nat} (h : Bits cs) (hne : cs ≠ []) : (int_private% "readNumeral") limit 2 cs = (int_private% "Numeral.value") ((bitsVal cs : Nat) : Int) := by
  refine (readNumeral_eq limit 2 cs).trans ?_
  rw [dropWhile_digits h.digits, sign2 h]
  have e1 := based2 h
  show judge limit false (based 2 cs).1 (based 2 cs).2.1 (digits? (based 2 cs).1 (((based 2 cs).2.2.reverse.dropWhile blank).reverse)) = _
  rw [e1]
  show judge limit false 2 false (digits? 2 ((cs.reverse.dropWhile blank).reverse)) = _
  rw [dropWhile_digits h.rev.digits, List.reverse_reverse, digits2 h hne]
  have e2 := pushed2 cs #[]
  have z : (#[] : Array Nat).foldl (fun acc d => acc * 2 + d) 0 = 0 := by simp
  rw [z] at e2
  unfold judge
  dsimp only
  rw [e2]
  rfl
theorem seen2 {x : Str} (h : Bits x.cps.toList) : numTextOf x = x.cps.toList ∧ numSeenOf x = x.cps.toList :=
  numText_signs fun c hc => .inr (by have := h c hc; omega)

open PyProof.Rows in
theorem wp_maxDigits {M : Model} {A : Around} {E : Value → Shared → Prop} {s : Shared} {Q : Nat → Shared → Prop} (hn : s.heap.NoDigits) (h : Q 4300 s) : wpAny M A Builtin.intMaxStrDigits Q E s := by
  obtain ⟨mc, hns, hz⟩ := hn
  unfold Builtin.intMaxStrDigits
  refine wpAny_bind (wpAny_nsGet hns ?_)
  rw [hz]
  exact wpAny_pure h

theorem wp_text2 {M : Model} {A : Around} {E : Value → Shared → Prop} {s : Shared} {Q : Value → Shared → Prop} {v : Value} {text : List Nat} {n : Int}
    (hn : s.heap.NoDigits) (hr : ∀ limit, (int_private% "readNumeral") limit 2 (text.takeWhile (· != 0)) = (int_private% "Numeral.value") n)
    (ha : ((text.takeWhile (· != 0)).length == text.length) = true) (h : Q (.int n s.toks) { s with toks := s.toks + 1 }) :
    wpAny M A ((int_private% "intFromText") v text 2) Q E s := by
  obtain ⟨hp, g, d, tk, os⟩ := s
  by_cases hs : (text.takeWhile (· != 0)).length ≤ 640
  · exact Hx.wp_textB hs (hr 0) ha h
  · repeat (any_goals (first
      | assumption
      | (with_reducible refine wpAny_ite_false (decide_eq_false hs) ?_)
      | (with_reducible refine wpAny_ite_true (decide_eq_true ha) ?_)
      | ((with_reducible show wpAny _ _ Builtin.intMaxStrDigits _ _ _); refine wp_maxDigits hn ?_)
      | wp_step))
    all_goals (try rw [hr])
    all_goals (try dsimp only)
    repeat (any_goals (first
      | assumption
      | (with_reducible refine wpAny_ite_false (decide_eq_false hs) ?_)
      | (with_reducible refine wpAny_ite_true (decide_eq_true ha) ?_)
      | wp_step))

structure Held (p : Prop) : Prop where
  out : p
/-- what int(text, 2) wants of the state, and gives -/
def spec2 (n : Int) : Spec := fun _ R s => s.heap.NoDigits ∧ R (.ok (.ret (.int n s.toks))) { s with toks := s.toks + 1 }
set_option maxHeartbeats 4000000 in
theorem meets2 {x : PySem.Str} {u t : Tok} (h : Bits x.cps.toList) (hne : x.cps.toList ≠ []) :
    Meets (Builtin.«int.__new__» ⟨[.type "int", .str x u, .int 2 t], []⟩) (spec2 ((bitsVal x.cps.toList : Nat) : Int)) :=
  Meets.of_wp fun prog w A R s hQ => by
    obtain ⟨hp, g, d, tk, os⟩ := s
    have k1 := F.conv_sub_int
    have k2 := F.madeHere_int
    have k3 : typeOf (.str x u) = pure (.type "str") := rfl
    obtain ⟨e1, e2⟩ := seen2 h
    have hr : ∀ limit, (int_private% "readNumeral") limit 2 (numSeenOf x) = (int_private% "Numeral.value") ((bitsVal x.cps.toList : Nat) : Int) := by
      intro limit
      rw [e2]
      exact read2 limit h hne
    have ha : ((numSeenOf x).length == (numTextOf x).length) = true := by
      rw [e1, e2]
      exact beq_self_eq_true _
    have hk := Held.mk (And.intro hr (And.intro ha hQ))
    clear hr ha e1 e2 hne h hQ
    repeat (any_goals (first
      | assumption
      | ((with_reducible show wpAny _ _ ((int_private% "intFromText") _ _ _) _ _ _); refine wp_text2 hk.out.2.2.1 hk.out.1 hk.out.2.1 ?_)
      | wp_step))
    all_goals first | exact ⟨_, rfl, hk.out.2.2.2⟩ | skip
theorem call2 {prog : Program} {w : World} {A : Around} {E : Value → Shared → Prop} {s : Shared} {Q : Value → Shared → Prop} {x : PySem.Str} {u t : Tok} (hn : s.heap.NoDigits) (h : Bits x.cps.toList) (hne : x.cps.toList ≠ [])
    (hQ : Q (.int ((bitsVal x.cps.toList : Nat) : Int) s.toks) { s with toks := s.toks + 1 }) : wpAny (model prog w) A (call (.type "int") [.str x u, .int 2 t]) Q E s :=
  callType_new F.called_int F.newNe_int (Hx.typeCall_int_2 _ _) (Hx.newCall_int_2 _ _) (fun obj => F.initArgs_range_2 obj _ _) F.entry_int_new (meets2 h hne) ⟨hn, rfl, hQ⟩

/-- the facts of the written part: no limit on digits was set -/
theorem noDigits {K : PySem.W.Frag} {h : Heap} (X : K.In h) {mc : Str → Option Value} (G : h.Ns cStatics mc) (e : PySem.W.nsIn K cStatics "sys.int_max_str_digits" = some none) : h.NoDigits := by
  refine ⟨mc, G, ?_⟩
  obtain ⟨o, es, ep, ho, hd, _, hf⟩ := G
  unfold PySem.W.nsIn at e
  split at e
  · rename_i c d es' n' sl q
    have z := X _ _ q
    rw [ho] at z
    cases z
    cases hd
    split at e
    · exact nomatch e
    · rename_i hnone
      refine (hf "sys.int_max_str_digits").symm.trans ?_
      unfold nsFind
      unfold findBy
      rw [← Array.find?_toList, hnone]
      rfl
  · cases e
end XB
namespace L2
open PySem PySem.Spec PyProof.Rows
/-- int(text, 2), the text of binary signs -/
def rInt2 : List V → Hp → VK → Prop := fun xs H Q => ∃ x : Str, xs = [.str x, .int 2] ∧ XB.Bits x.cps.toList ∧ x.cps.toList ≠ [] ∧ Q (.int ((XB.bitsVal x.cps.toList : Nat) : Int)) H
theorem call_int2 {X : Cx} (e : PySem.W.nsIn X.K cStatics "sys.int_max_str_digits" = some none) : CallR X (.type "int") rInt2 := by
  intro pins s σ H xs us Q I r h
  obtain ⟨x, rfl, h1, h2, q⟩ := h
  obtain ⟨u, w', rfl, r1, r2⟩ := vals2 r
  obtain ⟨t1, rfl⟩ := r1
  obtain ⟨t2, rfl⟩ := r2
  obtain ⟨mc, G, _⟩ := I.nolimit
  exact XB.call2 (XB.noDigits I.kIn G e) h1 h2 ⟨.int _, H, I.tok _, ⟨_, rfl⟩, q⟩
end L2

namespace FG
open PySem PySem.Spec PyProof.Rows L2
/-! ### kinds of values -/
def intV : V → Bool
  | .int _ => true
  | _ => false
def figV : V → Bool
  | .int i => decide (-1 ≤ i) && decide (i ≤ 1)
  | _ => false
/-- what isinstance tells of a value: whether it is an int, a bool, a list -/
structure Kind (K : PySem.W.Frag) (H : Hp) (x : V) (i b l : Bool) : Prop where
  ex : ∃ t, TyX K H x t ∧ PySem.W.kitOne K t (.type "int") = some i ∧ PySem.W.kitOne K t (.type "bool") = some b ∧ PySem.W.kitOne K t (.type "list") = some l
section
variable {K : PySem.W.Frag} {H H' : Hp}
theorem same_upd {p : Addr} {o : HO} (h : H p = none) : Same H (upd H p o) := fun b x e => by
  have ne : b ≠ p := ne_of_none e h
  rw [upd_ne ne]
  exact e
theorem Same.tyx {x : V} {t : Value} (s : Same H H') (h : TyX K H x t) : TyX K H' x t := by
  cases h with
  | base b =>
    cases b with
    | non => exact .base .non
    | bl y => exact .base (.bl y)
    | int y => exact .base (.int y)
    | str y => exact .base (.str y)
    | flt y => exact .base (.flt y)
    | lst e => exact .base (.lst (s _ _ e))
    | frz e => exact .base (.frz (s _ _ e))
    | tup e => exact .base (.tup (s _ _ e))
    | dK e => exact .base (.dK (s _ _ e))
    | dT e => exact .base (.dT (s _ _ e))
    | ins e a b c d f => exact .base (.ins (s _ _ e) a b c d f)
  | byt y => exact .byt y
  | set e => exact .set (s _ _ e)
  | kList e c => exact .kList e c
  | kTuple e c => exact .kTuple e c
  | kDict e c => exact .kDict e c
  | fTuple e => exact .fTuple (s _ _ e)
  | fDict e => exact .fDict (s _ _ e)
theorem Kind.mono {x : V} {i b l : Bool} (k : Kind K H x i b l) (s : Same H H') : Kind K H' x i b l := by
  obtain ⟨t, h1, h2⟩ := k.ex
  exact ⟨⟨t, Same.tyx s h1, h2⟩⟩
theorem kind_of {x : V} {n : String} {i b l : Bool} (h : TyX K H x (.type n)) (h1 : kitB n "int" = some i) (h2 : kitB n "bool" = some b) (h3 : kitB n "list" = some l) : Kind K H x i b l :=
  ⟨⟨_, h, kit_ty h1, kit_ty h2, kit_ty h3⟩⟩
theorem kind_int (i : Int) : Kind K H (.int i) true false false := kind_of (.base (.int i)) (by decide +kernel) (by decide +kernel) (by decide +kernel)
theorem kind_bl (b : Bool) : Kind K H (.bl b) true true false := kind_of (.base (.bl b)) (by decide +kernel) (by decide +kernel) (by decide +kernel)
theorem kind_non : Kind K H .non false false false := kind_of (.base .non) (by decide +kernel) (by decide +kernel) (by decide +kernel)
theorem kind_str (x : Str) : Kind K H (.str x) false false false := kind_of (.base (.str x)) (by decide +kernel) (by decide +kernel) (by decide +kernel)
theorem kind_list {a : Addr} {xs : List V} (h : SqL K H a xs) : Kind K H (.ref a) false false true := by
  have z : TyX K H (.ref a) (.type "list") := by
    rcases h with h | ⟨o, its, n, hk, hc, _⟩
    · rcases h with h | ⟨o, h⟩
      · exact .base (.lst h)
      · exact .base (.frz h)
    · exact .kList hk hc
  exact kind_of z (by decide +kernel) (by decide +kernel) (by decide +kernel)
theorem kind_tup {a : Addr} {xs : List V} (h : H a = some (.tup xs)) : Kind K H (.ref a) false false false := kind_of (.base (.tup h)) (by decide +kernel) (by decide +kernel) (by decide +kernel)
theorem kind_dict {a : Addr} {kvs : List (Key × V)} (h : H a = some (.dK kvs)) : Kind K H (.ref a) false false false := kind_of (.base (.dK h)) (by decide +kernel) (by decide +kernel) (by decide +kernel)
/-- an int that is no bool: just the whole numbers -/
def Plain (K : PySem.W.Frag) (H : Hp) (x : V) : Prop := ∃ i b l, Kind K H x i b l ∧ (i && !b) = intV x
theorem Plain.mono {x : V} (h : Plain K H x) (s : Same H H') : Plain K H' x := let ⟨i, b, l, k, e⟩ := h; ⟨i, b, l, k.mono s, e⟩
theorem plain_int (i : Int) : Plain K H (.int i) := ⟨_, _, _, kind_int i, rfl⟩
theorem atI_getLast (xs : List V) (h : xs ≠ []) : atI xs (-1) = some (xs.getLast h) := by
  have e := atI_last xs.dropLast (xs.getLast h)
  rw [List.dropLast_concat_getLast] at e
  exact e
end

/-! ### rows of figures -/
/-- a row: figures alone, the last one other than 0 -/
def Row (ns : List Int) : Prop := (∀ n ∈ ns, -1 ≤ n ∧ n ≤ 1) ∧ ns.getLast? ≠ some 0
/-- what a row is worth -/
def val : List Int → Int
  | [] => 0
  | n :: r => n + 2 * val r
/-- the worth of a row's figures f alone, told by ones -/
def mk (f : Int) : List Int → Nat
  | [] => 0
  | n :: r => (if n = f then 1 else 0) + 2 * mk f r
theorem mk_val : ∀ ns : List Int, (∀ n ∈ ns, -1 ≤ n ∧ n ≤ 1) → ((mk 1 ns : Nat) : Int) - ((mk (-1) ns : Nat) : Int) = val ns
  | [], _ => rfl
  | n :: r, h => by
    have ih := mk_val r fun m hm => h m (List.mem_cons_of_mem _ hm)
    have hn := h n List.mem_cons_self
    show (((if n = 1 then 1 else 0) + 2 * mk 1 r : Nat) : Int) - (((if n = -1 then 1 else 0) + 2 * mk (-1) r : Nat) : Int) = n + 2 * val r
    have c : n = -1 ∨ n = 0 ∨ n = 1 := by omega
    rcases c with e | e | e <;> subst e <;> simp <;> omega
/-- the sign of a figure, asked for f -/
def sg (f n : Int) : Nat := if n = f then 49 else 48
theorem sg_bits (f : Int) (ns : List Int) : XB.Bits (48 :: ns.map (sg f)) := fun c hc => by
  rcases List.mem_cons.mp hc with e | e
  · exact .inl e
  · obtain ⟨n, _, e⟩ := List.mem_map.mp e
    subst e
    unfold sg
    split
    · exact .inr rfl
    · exact .inl rfl
theorem sg_val (f : Int) (ns : List Int) : XB.bitsVal (48 :: (ns.reverse.map (sg f))) = mk f ns := by
  unfold XB.bitsVal
  rw [List.foldl_cons, List.map_reverse, List.foldl_reverse]
  induction ns with
  | nil => rfl
  | cons n r ih =>
    rw [List.map_cons, List.foldr_cons, ih]
    show 2 * mk f r + (sg f n - 48) = (if n = f then 1 else 0) + 2 * mk f r
    unfold sg
    split <;> omega
/-! ### texts of signs -/
def sign1 (c : Nat) : Str := ⟨#[c]⟩
theorem joinL_nil : ∀ ls : List (List Nat), TL.joinL [] ls = ls.flatten
  | [] => rfl
  | [p] => by simp [TL.joinL]
  | p :: q :: r => by
    have ih := joinL_nil (q :: r)
    show p ++ ([] ++ TL.joinL [] (q :: r)) = (p :: q :: r).flatten
    rw [ih]
    simp
theorem joined_signs (e : Str) (he : e.cps.toList = []) (cs : List Nat) : (Txt.join e (cs.map sign1)).cps.toList = cs := by
  have h := TL.tl_join e (cs.map sign1)
  rw [← TL.join_eq] at h
  have h0 : TL.tl e = [] := he
  rw [h0, joinL_nil, List.map_map] at h
  refine Eq.trans h ?_
  induction cs with
  | nil => rfl
  | cons c r ih =>
    have h' := TL.tl_join e (r.map sign1)
    rw [← TL.join_eq, h0, joinL_nil, List.map_map] at h'
    rw [List.map_cons, List.flatten_cons, ih h']
    rfl
theorem app_list (a b : Str) : (a ++ b).cps.toList = a.cps.toList ++ b.cps.toList := by
  show (a.cps ++ b.cps).toList = _
  simp

/-! ### lists of whole numbers compared -/
def dI (ns : List Int) : PyData := .list (ns.map PyData.int)
theorem dI_depthAll : ∀ ns : List Int, PyData.depthAll (ns.map PyData.int) ≤ 1
  | [] => by simp [PyData.depthAll]
  | n :: r => by
    have ih := dI_depthAll r
    simp only [List.map_cons, PyData.depthAll, PyData.depth]
    omega
theorem dI_lay : ∀ ns : List Int, PyData.canLayAll0 (ns.map PyData.int) = true
  | [] => by simp [PyData.canLayAll0]
  | n :: r => by
    have ih := dI_lay r
    simp [PyData.canLayAll0, PyData.canLay0, ih]
theorem dI_shaped (ns : List Int) : SeqAt.shaped (dI ns) = true := by
  have h1 := dI_depthAll ns
  have h2 : PyData.depth (dI ns) ≤ 64 := by
    simp only [dI, PyData.depth]
    omega
  unfold SeqAt.shaped
  rw [Bool.and_eq_true]
  exact ⟨by simp only [dI, PyData.canLay0]; exact dI_lay ns, decide_eq_true h2⟩
theorem dI_eqvAll : ∀ ns ms : List Int, PyData.eqvAll (ns.map PyData.int) (ms.map PyData.int) = decide (ns = ms)
  | [], [] => by simp [PyData.eqvAll]
  | [], _ :: _ => by simp [PyData.eqvAll]
  | _ :: _, [] => by simp [PyData.eqvAll]
  | n :: r, m :: t => by
    have ih := dI_eqvAll r t
    simp only [List.map_cons, PyData.eqvAll, PyData.eqv, ih]
    by_cases h1 : n = m
    · by_cases h2 : r = t
      · simp [h1, h2]
      · simp [h1, h2]
    · simp [h1]
theorem dI_eqv (ns ms : List Int) : PyData.eqv (dI ns) (dI ms) = decide (ns = ms) := by
  show PyData.eqvAll _ _ = _
  exact dI_eqvAll ns ms
theorem dpAll {K : PySem.W.Frag} {H : Hp} : ∀ ns : List Int, DpAll K H (ns.map V.int) (ns.map PyData.int)
  | [] => .nil
  | n :: r => .cons (.int n) (dpAll r)
theorem dp_ints {K : PySem.W.Frag} {H : Hp} {a : Addr} {ns : List Int} (h : SqL K H a (ns.map V.int)) : Dp K H (.ref a) (dI ns) := .lst h (dpAll ns)
/-- the item behind the last but none: xs[-1:] -/
theorem cutLast (ns : List Int) : cutV (ns.map V.int) (some (-1)) none = (ns.drop (ns.length - 1)).map V.int := by
  have e : HT.sIx (ns.map V.int).length 0 (some (-1)) = ns.length - 1 := by
    show (if (-1 : Int) < 0 then ((-1 : Int) + ((ns.map V.int).length : Int)).toNat else min (-1 : Int).toNat (ns.map V.int).length) = _
    rw [if_pos (by decide), List.length_map]
    show ((-1 : Int) + (ns.length : Int)).toNat = ns.length - 1
    omega
  unfold cutV
  rw [e, HT.sIx_none, List.map_drop]
  apply List.take_of_length_le
  rw [List.length_drop, List.length_map]
  omega
theorem last_zero {ns : List Int} (h : ns.getLast? ≠ some 0) : ns.drop (ns.length - 1) ≠ [0] := fun e => by
  apply h
  rw [List.getLast?_eq_getElem?]
  have z := congrArg (fun l => l[0]?) e
  simp only [List.getElem?_drop] at z
  simpa using z
theorem val_append : ∀ (a b : List Int), val (a ++ b) = val a + 2 ^ a.length * val b
  | [], b => by simp [val]
  | n :: r, b => by
    have ih := val_append r b
    show n + 2 * val (r ++ b) = n + 2 * val r + 2 ^ (r.length + 1) * val b
    rw [ih, Int.pow_succ, Int.mul_add]
    have : (2 : Int) ^ r.length * 2 * val b = 2 * (2 ^ r.length * val b) := by
      rw [Int.mul_comm ((2 : Int) ^ r.length) 2, Int.mul_assoc]
    omega
theorem val_take {ns : List Int} {i : Nat} (h : i < ns.length) : val (ns.take (i + 1)) = val (ns.take i) + ns[i] * 2 ^ i := by
  rw [List.take_add_one, List.getElem?_eq_getElem h, val_append]
  have e : (ns.take i).length = i := by
    rw [List.length_take]
    omega
  rw [e]
  show _ + 2 ^ i * (ns[i] + 2 * 0) = _
  rw [Int.mul_zero, Int.add_zero, Int.mul_comm]

/-- a loop over enumerate of a list: Inv by the turn -/
theorem for_enum {K : PySem.W.Frag} {a : Addr} {xs : List V} {g : TG} {tb : TS} {D : Ends} {σ : L2.St} {H : Hp} (Iv : Nat → L2.St → Hp → Prop) (start : Iv 0 σ H) (still : ∀ i σ H, Iv i σ H → SqL K H a xs)
    (turn : ∀ (i : Nat) (x : V) (t : Addr) (σ : L2.St) (H : Hp), xs[i]? = some x → Iv i σ H → H t = none → g (.ref t) σ (upd H t (.tup [.int (i : Nat), x])) fun σ2 H2 => tb { D with nx := Iv (i + 1), ct := Iv (i + 1), bk := D.nx } σ2 H2)
    (stop : ∀ σ H, Iv xs.length σ H → D.nx σ H) :
    ∃ W : Nat → Nat → L2.St → Hp → Prop, (∃ m, W 0 m σ H) ∧ ∀ i m σ H, W i m σ H →
      ((Ite K a).stop i H ∧ D.nx σ H) ∨ ((Ite K a).go i H ∧ ∃ N : L2.St → Hp → Prop, (∀ σ' H', N σ' H' → ∃ m', m' < m ∧ W (i + 1) m' σ' H') ∧ ∀ v H', (Ite K a).yld i H v H' → g v σ H' fun σ2 H2 => tb { D with nx := N, ct := N, bk := D.nx } σ2 H2) := by
  refine ⟨fun i m σ H => i + m = xs.length ∧ Iv i σ H, ⟨xs.length, Nat.zero_add _, start⟩, fun i m σ H hW => ?_⟩
  obtain ⟨em, iv⟩ := hW
  have sq := still i σ H iv
  by_cases hi : i < xs.length
  · refine .inr ⟨⟨xs, xs[i], sq, List.getElem?_eq_getElem hi⟩, Iv (i + 1), fun σ' H' h' => ⟨m - 1, by omega, by omega, h'⟩, fun v H' hy => ?_⟩
    obtain ⟨t, x, rfl, nt, rfl, fx⟩ := hy
    exact turn i x t σ H (fx _ sq) iv nt
  · have e : i = xs.length := by omega
    subst e
    exact .inl ⟨⟨xs, sq, Nat.le_refl _⟩, stop σ H iv⟩
theorem small_ok {n : Nat} (h : n ≤ 64) : n ≤ sizeLine := Nat.le_trans h (by decide)
/-- of each two neighbours one is 0 -/
def gaps : List Int → Bool
  | x :: y :: r => (decide (x = 0) || decide (y = 0)) && gaps (y :: r)
  | _ => true
/-- a row is handed in at a -/
def RowAt (K : PySem.W.Frag) (H : Hp) (a : Addr) (ns : List Int) : Prop := SqL K H a (ns.map V.int) ∧ Row ns ∧ ns.length ≤ 4000000
theorem RowAt.mono {K : PySem.W.Frag} {H H' : Hp} {a : Addr} {ns : List Int} (r : RowAt K H a ns) (s : Same H H') : RowAt K H' a ns := ⟨s.seq r.1, r.2⟩
end FG

namespace FG
open PySem PySem.Spec PyProof.Rows L2
/-- list + list, each one a list that is read, the script too -/
def rCatS (K : PySem.W.Frag) : R2 := fun x y H Q => ∃ l b xs zs, x = .ref l ∧ y = .ref b ∧ SqL K H l xs ∧ SqL K H b zs ∧ xs.length + zs.length ≤ sizeLine ∧ ∀ p, H p = none → Q (.ref p) (upd H p (.lst (xs ++ zs)))
theorem op_catS {X : Cx} : OpR X (binaryOp .Add) (rCatS X.K) := by
  intro pins s σ H x y v u Q I rx ry h
  obtain ⟨l, b, xs, zs, rfl, rfl, h1, h2, hz, q⟩ := h
  cases rx
  cases ry
  obtain ⟨its, r1, p1, _⟩ := I.list h1
  obtain ⟨jts, r2, p2, _⟩ := I.list h2
  obtain ⟨⟨c1, e1, d1, t1⟩, g1, k1, n1, w1⟩ := p1.isList
  obtain ⟨⟨c2, e2, d2, t2⟩, g2, k2, n2, w2⟩ := p2.isList
  simp only at k1 w1 k2 w2
  subst k1
  subst w1
  subst k2
  subst w2
  have hl1 := r1.length
  have hl2 := r2.length
  have e : its.toArray ++ jts.toArray = (its ++ jts).toArray := by simp
  refine concat_meets ⟨_, g1, rfl⟩ ⟨_, g2, rfl⟩ noFill_list_add seq_list_add PySem.F.slot_list_add PySem.F.entry_list_add (PySem.F.args_list_add_2 _ _)
    (list_addW l b its.toArray jts.toArray n1 n2 e1 e2 t1 t2 (by rw [List.size_toArray, List.size_toArray]; omega)) ⟨g1, g2, ?_⟩
  rw [e]
  exact ⟨.ref _, _, I.lnew (t' := s.toks) (r1.append r2) (by rw [List.length_append]; omega), rfl, q _ I.fresh⟩
end FG

set_option maxHeartbeats 4000000
/-! lists and pairs of lists of whole numbers, as data; many rows at many places -/
namespace FG
open PySem PySem.Spec PyProof.Rows L2
theorem dI_depth (ns : List Int) : PyData.depth (dI ns) ≤ 2 := by
  have := dI_depthAll ns
  simp only [dI, PyData.depth]
  omega
theorem dLs_depth : ∀ rs : List (List Int), PyData.depthAll (rs.map dI) ≤ 2
  | [] => by simp [PyData.depthAll]
  | r :: rs => by
    have ih := dLs_depth rs
    have h := dI_depth r
    simp only [List.map_cons, PyData.depthAll]
    omega
theorem dI_lay1 (ns : List Int) : PyData.canLay0 (dI ns) = true := by
  simp only [dI, PyData.canLay0]
  exact dI_lay ns
theorem dLs_lay : ∀ rs : List (List Int), PyData.canLayAll0 (rs.map dI) = true
  | [] => by simp [PyData.canLayAll0]
  | r :: rs => by
    have ih := dLs_lay rs
    simp [PyData.canLayAll0, dI_lay1, ih]
theorem dLs_eqvAll : ∀ rs ts : List (List Int), PyData.eqvAll (rs.map dI) (ts.map dI) = decide (rs = ts)
  | [], [] => by simp [PyData.eqvAll]
  | [], _ :: _ => by simp [PyData.eqvAll]
  | _ :: _, [] => by simp [PyData.eqvAll]
  | r :: rs, t :: ts => by
    have ih := dLs_eqvAll rs ts
    simp only [List.map_cons, PyData.eqvAll, dI_eqv, ih]
    by_cases h1 : r = t
    · by_cases h2 : rs = ts
      · simp [h1, h2]
      · simp [h1, h2]
    · simp [h1]
/-- a list of lists of whole numbers -/
def dL (rs : List (List Int)) : PyData := .list (rs.map dI)
/-- a tuple of them -/
def dT (rs : List (List Int)) : PyData := .tuple (rs.map dI)
theorem dL_shaped (rs : List (List Int)) : SeqAt.shaped (dL rs) = true := by
  have h1 := dLs_depth rs
  have h2 : PyData.depth (dL rs) ≤ 64 := by
    simp only [dL, PyData.depth]
    omega
  unfold SeqAt.shaped
  rw [Bool.and_eq_true]
  exact ⟨by simp only [dL, PyData.canLay0]; exact dLs_lay rs, decide_eq_true h2⟩
theorem dT_shaped (rs : List (List Int)) : SeqAt.shaped (dT rs) = true := by
  have h1 := dLs_depth rs
  have h2 : PyData.depth (dT rs) ≤ 64 := by
    simp only [dT, PyData.depth]
    omega
  unfold SeqAt.shaped
  rw [Bool.and_eq_true]
  exact ⟨by simp only [dT, PyData.canLay0]; exact dLs_lay rs, decide_eq_true h2⟩
theorem dL_eqv (rs ts : List (List Int)) : PyData.eqv (dL rs) (dL ts) = decide (rs = ts) := by
  show PyData.eqvAll _ _ = _
  exact dLs_eqvAll rs ts
theorem dT_eqv (rs ts : List (List Int)) : PyData.eqv (dT rs) (dT ts) = decide (rs = ts) := by
  show PyData.eqvAll _ _ = _
  exact dLs_eqvAll rs ts
/-- lists of whole numbers, one at each place -/
inductive IntsAt (K : PySem.W.Frag) (H : Hp) : List Addr → List (List Int) → Prop
  | nil : IntsAt K H [] []
  | cons {a : Addr} {ns : List Int} {as : List Addr} {rs : List (List Int)} : SqL K H a (ns.map V.int) → IntsAt K H as rs → IntsAt K H (a :: as) (ns :: rs)
section
variable {K : PySem.W.Frag} {H H' : Hp}
theorem IntsAt.mono {as : List Addr} {rs : List (List Int)} (h : IntsAt K H as rs) (s : Same H H') : IntsAt K H' as rs := by
  induction h with
  | nil => exact .nil
  | cons h1 _ ih => exact .cons (s.seq h1) ih
theorem IntsAt.len {as : List Addr} {rs : List (List Int)} (h : IntsAt K H as rs) : as.length = rs.length := by
  induction h with
  | nil => rfl
  | cons _ _ ih => simp [ih]
theorem IntsAt.get {as : List Addr} {rs : List (List Int)} (h : IntsAt K H as rs) : ∀ {i : Nat} {x : V}, (as.map V.ref)[i]? = some x → ∃ a ns, x = .ref a ∧ as[i]? = some a ∧ rs[i]? = some ns ∧ SqL K H a (ns.map V.int) := by
  induction h with
  | nil => exact fun e => nomatch e
  | cons h1 _ ih =>
    intro i x e
    cases i with
    | zero => exact ⟨_, _, (Option.some.inj e).symm, rfl, rfl, h1⟩
    | succ i => exact ih e
theorem IntsAt.snoc {as : List Addr} {rs : List (List Int)} {a : Addr} {ns : List Int} (h : IntsAt K H as rs) (h1 : SqL K H a (ns.map V.int)) : IntsAt K H (as ++ [a]) (rs ++ [ns]) := by
  induction h with
  | nil => exact .cons h1 .nil
  | cons h2 _ ih => exact .cons h2 ih
theorem IntsAt.reverse {as : List Addr} {rs : List (List Int)} (h : IntsAt K H as rs) : IntsAt K H as.reverse rs.reverse := by
  induction h with
  | nil => exact .nil
  | cons h1 _ ih =>
    rw [List.reverse_cons, List.reverse_cons]
    exact ih.snoc h1
theorem IntsAt.take {as : List Addr} {rs : List (List Int)} (h : IntsAt K H as rs) : ∀ i : Nat, IntsAt K H (as.take i) (rs.take i) := by
  induction h with
  | nil => intro i; rw [List.take_nil, List.take_nil]; exact .nil
  | cons h1 _ ih =>
    intro i
    cases i with
    | zero => exact .nil
    | succ i => exact .cons h1 (ih i)
theorem IntsAt.drop {as : List Addr} {rs : List (List Int)} (h : IntsAt K H as rs) : ∀ i : Nat, IntsAt K H (as.drop i) (rs.drop i) := by
  induction h with
  | nil => intro i; rw [List.drop_nil, List.drop_nil]; exact .nil
  | cons h1 h2 ih =>
    intro i
    cases i with
    | zero => exact .cons h1 h2
    | succ i => exact ih i
theorem IntsAt.dp {as : List Addr} {rs : List (List Int)} (h : IntsAt K H as rs) : DpAll K H (as.map V.ref) (rs.map dI) := by
  induction h with
  | nil => exact .nil
  | cons h1 _ ih => exact .cons (dp_ints h1) ih
theorem dp_lists {p : Addr} {as : List Addr} {rs : List (List Int)} (hp : SqL K H p (as.map V.ref)) (h : IntsAt K H as rs) : Dp K H (.ref p) (dL rs) := .lst hp h.dp
theorem dp_tup {p : Addr} {as : List Addr} {rs : List (List Int)} (hp : SqT K H p (as.map V.ref)) (h : IntsAt K H as rs) : Dp K H (.ref p) (dT rs) := .tup hp h.dp
theorem seqT {t : Addr} {xs : List V} (s : Same H H') (h : SqT K H t xs) : SqT K H' t xs := by
  rcases h with h | h
  · rcases h with h | ⟨ob, h⟩
    · exact .inl (.inl (s _ _ h))
    · exact .inl (.inr ⟨ob, s _ _ h⟩)
  · exact .inr h
end
end FG

/-! a pair's [::-1] -/
namespace XTupRev
open PySem PySem.Spec PyProof.Rows PySem.Builtin L2 HT
section
variable {prog : Program} {w : World} {A : Around} {E : Value → Shared → Prop} {s : Shared}
theorem parts_back {sl : Addr} {u : Tok} {Q : Int × Int × Nat → Shared → Prop} (hs : s.heap.IsSliceOf sl .none .none (.int (-1) u))
    (h : Q (1, -1, 2) s) : wpAny (model prog w) A (Builtin.Slice.sliceApplied (.ref sl) (pure (2 : Int))) Q E s := by
  obtain ⟨os, hos, hcs, hds⟩ := id hs
  unfold Builtin.Slice.sliceApplied Builtin.Slice.sliceFields
  refine wpAny_bind (wpAny_bind (wpAny_field hos hds (x := .none) rfl (wpAny_bind (wpAny_field hos hds (x := .none) rfl (wpAny_bind (wpAny_field hos hds (x := .int (-1) u) rfl (wpAny_pure ?_)))))))
  refine wpAny_bind (slicePart_int ?_)
  show wpAny _ _ (if ((-1 : Int) == 0) = true then _ else _) _ _ s
  rw [if_neg (by decide)]
  refine wpAny_bind (slicePart_none (wpAny_bind (slicePart_none (wpAny_bind (wpAny_pure ?_)))))
  exact wpAny_pure h
theorem pair_rev {t sl : Addr} {a b : Value} {u : Tok} {Q : Value → Shared → Prop} (ht : IsTup s.heap t #[a, b]) (hs : s.heap.IsSliceOf sl .none .none (.int (-1) u))
    (h : Q (.ref s.heap.objs.size) { s with heap := s.heap.push { cls := .type "tuple", data := .seq #[b, a] } }) : wpAny (model prog w) A (getItem (.ref t) (.ref sl)) Q E s := by
  have htake : sizeOk (.seq #[b, a]) := by
    show 2 ≤ sizeLine
    decide
  obtain ⟨os, hos, hcs, hds⟩ := id hs
  have hTs : s.TypeIs (.ref sl) "slice" := ⟨os, hos, hcs⟩
  unfold getItem
  try with_reducible refine wpAny_holding ?_
  first | refine wpAny_bind (wpAny_pure ?_) | skip
  refine wpAny_bind (wpAny_sequenceKey ht.typeIs (by decide) ?_)
  refine wpAny_bind (wpAny_callSpecial?_slot (name := Str.ofString "__getitem__") ht.typeIs PyProof.Rows.slot_tuple_getitem
    (wpAny_call_entry PyProof.Rows.slot_tuple_getitem ht.typeIs entry_tuple_getitem ?_ (args_tuple_getitem _ _)))
  show wpAny _ _ (Builtin.Tuple.tupleItemsOf (.ref t) >>= _) _ _ s
  refine wpAny_bind (tupleItemsOf_ ht ?_)
  refine wpAny_bind (wpAny_typeOf hTs ?_)
  rw [if_pos (by decide)]
  refine wpAny_bind (parts_back hs ?_)
  show wpAny _ _ (if (((1 : Int) == 0) && ((-1 : Int) == 1) && ((2 : Nat) == 2)) = true then _ else _) _ _ s
  rw [if_neg (by decide)]
  have e : ((List.range 2).filterMap fun (m : Nat) => #[a, b][((1 : Int) + (m : Int) * -1).toNat]?).toArray = #[b, a] := rfl
  rw [e]
  first
    | exact wpAny_bind (m := Builtin.Tuple.tupleExact _) (wpAny_newObj_type (wpAny_pure ⟨_, rfl, wpAny_pure h⟩) htake)
    | exact wpAny_bind (m := Builtin.Tuple.tupleExact _) (wpAny_newObj_type (wpAny_bind (wpAny_pure (wpAny_pure ⟨_, rfl, wpAny_pure h⟩))) htake)
    | exact wpAny_bind (wpAny_bind (m := Builtin.Tuple.tupleExact _) (wpAny_newObj_type (wpAny_pure (wpAny_pure ⟨_, rfl, wpAny_pure h⟩)) htake))
    | exact wpAny_bind (wpAny_bind (m := Builtin.Tuple.tupleExact _) (wpAny_newObj_type (wpAny_pure ⟨_, rfl, wpAny_pure h⟩) htake))
end
def tRevP (K : PySem.W.Frag) (te : TE) : TE := fun σ H Q => te σ H fun x H1 => ∃ a y z, x = .ref a ∧ SqT K H1 a [y, z] ∧ ∀ p, H1 p = none → Q (.ref p) (upd H1 p (.tup [z, y]))
theorem pe_revP {X : Cx} {e : Expr} {te : TE} {k : Nat} {p1 p2 p3 pos : Pos} (he : PE X e te) : PE X (.Subscript e (.Slice none none (some (.UnaryOp .USub (.Constant (.int 1) k p1) p2)) p3) pos) (tRevP X.K te) := by
  refine ⟨fun pins s σ H Q I h => ?_⟩
  refine Subscript_ (thn (he.run pins s σ H _ I h) fun v s1 ⟨x, H1, I1, r1, q1⟩ => ?_)
  obtain ⟨a, y, z, ex, hx, q⟩ := q1
  subst ex
  cases r1
  have hst : PO X (some (.UnaryOp .USub (.Constant (.int 1) k p1) p2)) (tPart (tUn (rU fun i => .int (-i)) (tC (.int 1)))) := po_some (pe_un un_neg pe_int)
  refine wpAny_Slice (thn (po_none.run pins s1 σ H1 (fun o H2 => o = none ∧ H2 = H1) I1 ⟨rfl, rfl⟩) fun vl s2 ⟨l, H2, I2, pl, el, e2⟩ => ?_)
  subst el e2
  refine thn (po_none.run pins s2 σ H2 (fun o H3 => o = none ∧ H3 = H2) I2 ⟨rfl, rfl⟩) fun vu s3 ⟨u, H3, I3, pu, eu, e3⟩ => ?_
  subst eu e3
  refine thn (hst.run pins s3 σ H3 (fun o H4 => o = some (-1) ∧ H4 = H3) I3 ⟨1, rfl, -1, rfl, rfl, rfl⟩) fun vs s4 ⟨o, H4, I4, ps, eo, e4⟩ => ?_
  subst eo e4
  have I5 : Inv X pins σ H4 { s4 with heap := s4.heap.push { cls := .type "slice", data := .fields #[vl, vu, vs] } } := I4.kept (t' := s4.toks) fun b ob q => Heap.get?_push_of_some _ q
  obtain ⟨its, r, ht, hz⟩ := I5.tuple hx
  cases r with
  | cons ry rr =>
    cases rr with
    | cons rz rr =>
      cases rr
      cases pl
      cases pu
      cases ps
      rename_i uy tk hx0
      show wpAny (model X.prog X.w) X.A (subscriptTail e (.Slice none none (some (.UnaryOp .USub (.Constant (.int 1) k p1) p2)) p3) (.ref a) (.ref s4.heap.objs.size)) (EP X pins σ Q) X.xe { s4 with heap := s4.heap.push { cls := .type "slice", data := .fields #[.none, .none, .int (-1) tk] } }
      refine tail_any (ops := [.ref a, .ref s4.heap.objs.size]) ht.typeIs (PyProof.Rows.slot_tuple_getitem.lookup) ?_ (by with_unfolding_all rfl)
      refine pair_rev ht (Heap.IsSliceOf.new _ .none .none (.int (-1) tk)) ?_
      refine ⟨.ref _, _, I5.laid (t' := s4.toks) (o := .tup [z, y]) (fun b ob q => Heap.get?_push_of_some _ q) (Nat.le_refl _) ?_, rfl, q _ (I5.hok.fresh (Nat.le_refl _))⟩
      exact ⟨by show 2 ≤ sizeLine; decide, _, .cons rz (.cons ry .nil), IsTup.new _ _⟩
end XTupRev

namespace K07
open PySem PySem.Spec PyProof.Rows L2 FG 
/-! ### the text -/
def topS (i : Nat) : Stmt := PySem.Challenge.pw_leanfigures_k07_rows_compared.main.body.getD i (.Pass ⟨0, 0, 0, 0⟩)
abbrev t_is_whole : Stmt := topS 4
abbrev p_is_whole : List Str := ["thing"]
theorem sc_is_whole : FnScope ["thing"] p_is_whole (defScope t_is_whole) := ⟨rfl, rfl, rfl, by decide +kernel, rfl, by decide +kernel, by decide +kernel⟩
abbrev t_is_figure : Stmt := topS 5
abbrev p_is_figure : List Str := ["thing"]
theorem sc_is_figure : FnScope ["thing"] p_is_figure (defScope t_is_figure) := ⟨rfl, rfl, rfl, by decide +kernel, rfl, by decide +kernel, by decide +kernel⟩
abbrev t_is_row : Stmt := topS 6
abbrev p_is_row : List Str := ["thing"]
theorem sc_is_row : FnScope ["thing", "item"] p_is_row (defScope t_is_row) := ⟨rfl, rfl, rfl, by decide +kernel, rfl, by decide +kernel, by decide +kernel⟩
abbrev t_refuse_no_row : Stmt := topS 7
abbrev p_refuse_no_row : List Str := ["thing"]
theorem sc_refuse_no_row : FnScope ["thing"] p_refuse_no_row (defScope t_refuse_no_row) := ⟨rfl, rfl, rfl, by decide +kernel, rfl, by decide +kernel, by decide +kernel⟩
abbrev t_worth : Stmt := topS 8
abbrev p_worth : List Str := ["row"]
theorem sc_worth : FnScope ["row"] p_worth (defScope t_worth) := ⟨rfl, rfl, rfl, by decide +kernel, rfl, by decide +kernel, by decide +kernel⟩
abbrev t_marked : Stmt := topS 9
abbrev p_marked : List Str := ["row", "figure"]
theorem sc_marked : FnScope ["row", "figure", "marks", "item"] p_marked (defScope t_marked) := ⟨rfl, rfl, rfl, by decide +kernel, rfl, by decide +kernel, by decide +kernel⟩
abbrev t_compared : Stmt := topS 11
abbrev p_compared : List Str := ["one", "other"]
theorem sc_compared : FnScope ["one", "other", "first", "second"] p_compared (defScope t_compared) := ⟨rfl, rfl, rfl, by decide +kernel, rfl, by decide +kernel, by decide +kernel⟩
abbrev t_Lmixed : Stmt := topS 14
abbrev p_Lmixed : List Str := ["_law_cell", "_law_k"]
theorem sc_Lmixed : FnScope ["_law_cell", "_law_k", "_law_number_here"] p_Lmixed (defScope t_Lmixed) := ⟨rfl, rfl, rfl, by decide +kernel, rfl, by decide +kernel, by decide +kernel⟩
abbrev t_Lwhole : Stmt := topS 15
abbrev p_Lwhole : List Str := ["_law_found"]
theorem sc_Lwhole : FnScope ["_law_found"] p_Lwhole (defScope t_Lwhole) := ⟨rfl, rfl, rfl, by decide +kernel, rfl, by decide +kernel, by decide +kernel⟩
abbrev t_Lnumber : Stmt := topS 16
abbrev p_Lnumber : List Str := ["_law_cell"]
theorem sc_Lnumber : FnScope ["_law_cell", "_law_more", "_law_power", "_law_turn", "_law_some", "_law_wide"] p_Lnumber (defScope t_Lnumber) := ⟨rfl, rfl, rfl, by decide +kernel, rfl, by decide +kernel, by decide +kernel⟩
abbrev t_Lrow : Stmt := topS 20
abbrev p_Lrow : List Str := ["_law_number_here", "_law_cell"]
theorem sc_Lrow : FnScope ["_law_number_here", "_law_cell", "_law_sign", "_law_left", "_law_found"] p_Lrow (defScope t_Lrow) := ⟨rfl, rfl, rfl, by decide +kernel, rfl, by decide +kernel, by decide +kernel⟩
abbrev t_Lorder : Stmt := topS 21
abbrev p_Lorder : List Str := ["_law_one", "_law_other"]
theorem sc_Lorder : FnScope ["_law_one", "_law_other"] p_Lorder (defScope t_Lorder) := ⟨rfl, rfl, rfl, by decide +kernel, rfl, by decide +kernel, by decide +kernel⟩
abbrev t_Lright : Stmt := topS 22
abbrev p_Lright : List Str := ["_law_one", "_law_other", "_law_numbers"]
theorem sc_Lright : FnScope ["_law_one", "_law_other", "_law_numbers", "_law_some", "_law_due", "_law_handed", "_law_found"] p_Lright (defScope t_Lright) := ⟨rfl, rfl, rfl, by decide +kernel, rfl, by decide +kernel, by decide +kernel⟩
abbrev t_law : Stmt := topS 23
abbrev p_law : List Str := ["_law_script"]
theorem sc_law : FnScope ["_law_script", "_law_last", "_law_k", "_law_cell", "_law_number_here", "_law_more", "_law_near", "_law_row_here"] p_law (defScope t_law) := ⟨rfl, rfl, rfl, by decide +kernel, rfl, by decide +kernel, by decide +kernel⟩
/-- what the top has left: where each def stands, and that the built-in names are still the built-in ones -/
structure Txt (K : PySem.W.Frag) (mg : Str → Option Value) where
  a_is_whole : Addr
  d_is_whole : FuncData
  F_is_whole : Fun K "is_whole" "is_whole" t_is_whole a_is_whole d_is_whole
  b_is_whole : Binds K d_is_whole p_is_whole []
  g_is_whole : mg "is_whole" = some (.ref a_is_whole)
  a_is_figure : Addr
  d_is_figure : FuncData
  F_is_figure : Fun K "is_figure" "is_figure" t_is_figure a_is_figure d_is_figure
  b_is_figure : Binds K d_is_figure p_is_figure []
  g_is_figure : mg "is_figure" = some (.ref a_is_figure)
  a_is_row : Addr
  d_is_row : FuncData
  F_is_row : Fun K "is_row" "is_row" t_is_row a_is_row d_is_row
  b_is_row : Binds K d_is_row p_is_row []
  g_is_row : mg "is_row" = some (.ref a_is_row)
  a_refuse_no_row : Addr
  d_refuse_no_row : FuncData
  F_refuse_no_row : Fun K "refuse_no_row" "refuse_no_row" t_refuse_no_row a_refuse_no_row d_refuse_no_row
  b_refuse_no_row : Binds K d_refuse_no_row p_refuse_no_row []
  g_refuse_no_row : mg "refuse_no_row" = some (.ref a_refuse_no_row)
  a_worth : Addr
  d_worth : FuncData
  F_worth : Fun K "worth" "worth" t_worth a_worth d_worth
  b_worth : Binds K d_worth p_worth []
  g_worth : mg "worth" = some (.ref a_worth)
  a_marked : Addr
  d_marked : FuncData
  F_marked : Fun K "marked" "marked" t_marked a_marked d_marked
  b_marked : Binds K d_marked p_marked []
  g_marked : mg "marked" = some (.ref a_marked)
  a_compared : Addr
  d_compared : FuncData
  F_compared : Fun K "compared" "compared" t_compared a_compared d_compared
  b_compared : Binds K d_compared p_compared []
  g_compared : mg "compared" = some (.ref a_compared)
  a_Lmixed : Addr
  d_Lmixed : FuncData
  F_Lmixed : Fun K "_law_mixed" "_law_mixed" t_Lmixed a_Lmixed d_Lmixed
  b_Lmixed : Binds K d_Lmixed p_Lmixed []
  g_Lmixed : mg "_law_mixed" = some (.ref a_Lmixed)
  a_Lwhole : Addr
  d_Lwhole : FuncData
  F_Lwhole : Fun K "_law_whole" "_law_whole" t_Lwhole a_Lwhole d_Lwhole
  b_Lwhole : Binds K d_Lwhole p_Lwhole []
  g_Lwhole : mg "_law_whole" = some (.ref a_Lwhole)
  a_Lnumber : Addr
  d_Lnumber : FuncData
  F_Lnumber : Fun K "_law_number" "_law_number" t_Lnumber a_Lnumber d_Lnumber
  b_Lnumber : Binds K d_Lnumber p_Lnumber []
  g_Lnumber : mg "_law_number" = some (.ref a_Lnumber)
  a_Lrow : Addr
  d_Lrow : FuncData
  F_Lrow : Fun K "_law_row" "_law_row" t_Lrow a_Lrow d_Lrow
  b_Lrow : Binds K d_Lrow p_Lrow []
  g_Lrow : mg "_law_row" = some (.ref a_Lrow)
  a_Lorder : Addr
  d_Lorder : FuncData
  F_Lorder : Fun K "_law_order" "_law_order" t_Lorder a_Lorder d_Lorder
  b_Lorder : Binds K d_Lorder p_Lorder []
  g_Lorder : mg "_law_order" = some (.ref a_Lorder)
  a_Lright : Addr
  d_Lright : FuncData
  F_Lright : Fun K "_law_right" "_law_right" t_Lright a_Lright d_Lright
  b_Lright : Binds K d_Lright p_Lright []
  g_Lright : mg "_law_right" = some (.ref a_Lright)
  a_law : Addr
  d_law : FuncData
  F_law : Fun K "law" "law" t_law a_law d_law
  b_law : Binds K d_law p_law []
  g_law : mg "law" = some (.ref a_law)
  z_isinstance : mg "isinstance" = none
  z_int : mg "int" = none
  z_bool : mg "bool" = none
  z_list : mg "list" = none
  z_all : mg "all" = none
  z_len : mg "len" = none
  z_reversed : mg "reversed" = none
  z_range : mg "range" = none
  z_abs : mg "abs" = none
  z_enumerate : mg "enumerate" = none
  c_LeanError : Addr
  gc_LeanError : mg "LeanError" = some (.ref c_LeanError)
  c_NoRow : Addr
  gc_NoRow : mg "NoRow" = some (.ref c_NoRow)
  digits : PySem.W.nsIn K cStatics "sys.int_max_str_digits" = some none
section
variable {P : Program} {w : World} {K : PySem.W.Frag} {mg : Str → Option Value} {base : Heap}
/-! ### is_whole -/
def sp_is_whole (K : PySem.W.Frag) : Sp := fun vs H Q _ => ∃ x, vs = [x] ∧ Plain K H x ∧ Q (.bl (intV x)) H
theorem ok_is_whole (T : Txt K mg) : FnOk P w K mg base CX0 1 T.a_is_whole T.d_is_whole p_is_whole (sp_is_whole K) := by
  refine T.F_is_whole.ok sc_is_whole (fun vs H Q E h => ?_) (fun cdv A outer s H vs Q E hr h => ?_)
  · obtain ⟨x, rfl, _⟩ := h
    rfl
  · obtain ⟨x, rfl, ⟨i, b, l, k, e⟩, q⟩ := h
    obtain ⟨t, ty, h1, h2, _⟩ := k.ex
    refine ⟨_, pss_one (ps_ret (pe_and (pe_callB call_isi (by rfl) T.z_isinstance (by decide +kernel) (pa_cons (pv 0) (pa_cons (pe_bltn (v := .ty "int") (by rfl) T.z_int (by decide +kernel) rfl) pa_nil)))
      (pe_one (pe_not (pe_callB call_isi (by rfl) T.z_isinstance (by decide +kernel) (pa_cons (pv 0) (pa_cons (pe_bltn (v := .ty "bool") (by rfl) T.z_bool (by decide +kernel) rfl) pa_nil))))))), ?_⟩
    refine ⟨x, rfl, x, _, t, _, i, rfl, .ty _, ty, h1, i, rfl, ?_⟩
    cases i with
    | true => exact iteT ⟨x, rfl, x, _, t, _, b, rfl, .ty _, ty, h2, b, rfl, by rw [← e] at q; exact q⟩
    | false => exact iteF (by rw [← e] at q; exact q)
/-! ### is_figure -/
def sp_is_figure (K : PySem.W.Frag) : Sp := fun vs H Q _ => ∃ x, vs = [x] ∧ Plain K H x ∧ Q (.bl (figV x)) H
theorem ok_is_figure (T : Txt K mg) : FnOk P w K mg base CX0 2 T.a_is_figure T.d_is_figure p_is_figure (sp_is_figure K) := by
  refine T.F_is_figure.ok sc_is_figure (fun vs H Q E h => ?_) (fun cdv A outer s H vs Q E hr h => ?_)
  · obtain ⟨x, rfl, _⟩ := h
    rfl
  · obtain ⟨x, rfl, k, q⟩ := h
    refine ⟨_, pss_one (ps_ret (pe_and (pe_call (ok_is_whole T) hr (by rfl) T.g_is_whole T.F_is_whole.kp T.b_is_whole .nil pass0 (pa_cons (pv 0) pa_nil))
      (pe_one (pe_chain op_le op_le (pe_un un_neg pe_int) (pv 0) pe_int)))), ?_⟩
    refine ⟨x, rfl, x, rfl, k, _, rfl, ?_⟩
    cases x with
    | int i =>
      refine iteT ⟨1, rfl, .int i, rfl, _, _, rfl, rfl, _, rfl, ?_⟩
      by_cases h0 : -1 ≤ i
      · rw [decide_eq_true h0]
        refine iteT ⟨_, _, rfl, rfl, ?_⟩
        have e : figV (.int i) = decide (i ≤ 1) := by simp [figV, h0]
        rw [e] at q
        exact q
      · rw [decide_eq_false h0]
        have e : figV (.int i) = false := by simp [figV, h0]
        rw [e] at q
        exact iteF q
    | _ => exact iteF q
/-! ### is_row -/
/-- what a list of known things is told -/
def rowB (xs : List V) : Bool := xs.all figV && (xs.isEmpty || !decide (xs.getLast? = some (.int 0)))
def sp_is_row (K : PySem.W.Frag) : Sp := fun vs H Q _ => ∃ x, vs = [x] ∧
  ((∃ i b, Kind K H x i b false ∧ Q (.bl false) H) ∨ ∃ a xs, x = .ref a ∧ SqL K H a xs ∧ (∀ y ∈ xs, Plain K H y) ∧ xs.length ≤ 4000000 ∧ ∀ H', Same H H' → Q (.bl (rowB xs)) H')
theorem ok_is_row (T : Txt K mg) : FnOk P w K mg base CX0 3 T.a_is_row T.d_is_row p_is_row (sp_is_row K) := by
  refine T.F_is_row.ok sc_is_row (fun vs H Q E h => ?_) (fun cdv A outer s H vs Q E hr h => ?_)
  · obtain ⟨x, rfl, _⟩ := h
    rfl
  · obtain ⟨x, rfl, h⟩ := h
    refine ⟨_, pss_cons (ps_if (pt_not (pt_val (pe_callB call_isi (by rfl) T.z_isinstance (by decide +kernel) (pa_cons (pv 0) (pa_cons (pe_bltn (v := .ty "list") (by rfl) T.z_list (by decide +kernel) rfl) pa_nil))))) (pss_one (ps_ret pe_bl)) pss_nil)
      (pss_cons (ps_if (pt_not (pt_val (pe_callB (cr_all rfl) (by rfl) T.z_all (by decide +kernel) (pa_cons (pe_lc (own := [("item", 1)]) (g := gName 1) (tt := tYes) (by rfl) sc_is_row.nd (pi_list (pv 0)) (blkOk_by (N := ["thing", "item"]) (own := [("item", 1)]) (sc := defScope t_is_row) (by decide +kernel))
          (fun _ _ _ _ _ => pg_name (i := 1) sc_is_row.nd rfl (Or.inl rfl)) (fun _ _ _ _ _ => pts_nil)
          (fun _ _ _ _ _ => pe_call (ok_is_figure T) (by exact hr) (by rfl) T.g_is_figure T.F_is_figure.kp T.b_is_figure .nil pass0 (pa_cons (pv 1) pa_nil))) pa_nil)))) (pss_one (ps_ret pe_bl)) pss_nil)
      (pss_one (ps_ret (pe_or (pe_cmpR op_eq (pe_callB call_len_seq (by rfl) T.z_len PySem.boot_len (pa_cons (pv 0) pa_nil)) pe_int (nomark _))
        (pe_one (pe_cmpR op_ne (pe_ix ix_list (pv 0) (pe_un un_neg pe_int) (fun _ _ => rfl)) pe_int (nomark _))))))), ?_⟩
    rcases h with ⟨i, b, k, q⟩ | ⟨a, xs, rfl, hS, hp, hl, q⟩
    · obtain ⟨t, ty, _, _, h3⟩ := k.ex
      refine ⟨x, rfl, x, _, t, _, false, rfl, .ty _, ty, h3, false, rfl, ?_⟩
      exact iteT q
    · obtain ⟨t, ty, _, _, h3⟩ := (kind_list (K := K) (H := H) hS).ex
      refine ⟨.ref a, rfl, .ref a, _, t, _, true, rfl, .ty _, ty, h3, true, rfl, ?_⟩
      refine iteF ?_
      refine ⟨.ref a, rfl, a, rfl, ⟨_, hS⟩, fun D nD => ?_⟩
      have sD : ∀ ys, Same H (upd H D (.lst ys)) := fun ys => same_upd nD
      refine lc_list (K := K) (a := a) (xs := xs) (fun i H1 => H1 = upd H D (.lst ((xs.take i).map fun y => .bl (figV y)))) rfl (fun i H1 _ e => by rw [e]; exact (sD _).seq hS) (fun i y H1 hy e => ?_) (fun H1 e => ?_)
      · subst e
        have py := (hp y (List.mem_of_getElem? hy)).mono (sD ((xs.take i).map fun y => .bl (figV y)))
        refine ⟨rfl, y, rfl, y, rfl, py, _, upd_same, ?_, ?_⟩
        · rw [List.length_map, List.length_take]
          have : xs.length < sizeLine := Nat.lt_of_le_of_lt hl (by decide)
          omega
        · rw [upd_upd, List.take_add_one, hy, List.map_append]
          rfl
      · subst e
        rw [List.take_length]
        have hD : SqL K (upd H D (.lst (xs.map fun y => .bl (figV y)))) D ((xs.map figV).map V.bl) := by
          rw [List.map_map]
          exact SqL.of upd_same
        refine ⟨D, xs.map figV, rfl, hD, _, rfl, ?_⟩
        have ea : (xs.map figV).all id = xs.all figV := by
          rw [List.all_map]
          rfl
        rw [ea]
        have sH : Same H (upd H D (.lst (xs.map fun y => .bl (figV y)))) := sD _
        have q' := q _ sH
        cases hb : xs.all figV with
        | false =>
          have er : rowB xs = false := by simp [rowB, hb]
          rw [er] at q'
          exact iteT q'
        | true =>
          refine iteF ?_
          refine ⟨.ref a, rfl, a, xs, rfl, .inl (sH.seq hS), rfl, _, rfl, ?_⟩
          by_cases h0 : xs = []
          · subst h0
            refine iteT ?_
            exact q'
          · have hne : ¬ ((V.int (xs.length : Int)) = V.int 0) := fun z => h0 (List.length_eq_zero_iff.mp (by have := V.int.inj z; omega))
            rw [decide_eq_false hne]
            have hg := atI_getLast xs h0
            refine iteF ⟨.ref a, rfl, 1, rfl, a, xs, -1, _, rfl, rfl, sH.seq hS, hg, ?_⟩
            have hm : figV (xs.getLast h0) = true := List.all_eq_true.mp hb _ (List.getLast_mem h0)
            have er : rowB xs = !decide (xs.getLast h0 = .int 0) := by
              have e1 : xs.isEmpty = false := by simp [h0]
              simp [rowB, hb, e1, List.getLast?_eq_getLast h0]
            rw [er] at q'
            cases hv : xs.getLast h0 with
            | int j =>
              rw [hv] at q'
              exact ⟨rfl, q'⟩
            | _ => rw [hv] at hm; cases hm
/-! ### refuse_no_row, of rows -/
theorem row_all {ns : List Int} (r : Row ns) : (ns.map V.int).all figV = true := by
  rw [List.all_map, List.all_eq_true]
  intro n hn
  have := r.1 n hn
  simp [figV, this]
theorem row_yes {ns : List Int} (r : Row ns) : rowB (ns.map V.int) = true := by
  have h1 := row_all r
  have h2 : decide ((ns.map V.int).getLast? = some (.int 0)) = false := by
    rw [decide_eq_false_iff_not, List.getLast?_map]
    intro z
    cases e : ns.getLast? with
    | none => rw [e] at z; exact nomatch z
    | some n =>
      rw [e] at z
      have z2 : V.int n = V.int 0 := Option.some.inj z
      exact r.2 (by rw [e, V.int.inj z2])
  unfold rowB
  rw [h1, h2]
  simp
theorem RowAt.plain {K : PySem.W.Frag} {H : Hp} {ns : List Int} : ∀ y ∈ ns.map V.int, Plain K H y := fun y hy => by
  obtain ⟨n, _, rfl⟩ := List.mem_map.mp hy
  exact plain_int n
def sp_refuse (K : PySem.W.Frag) : Sp := fun vs H Q _ => ∃ a ns, vs = [.ref a] ∧ RowAt K H a ns ∧ ∀ H', Same H H' → Q .non H'
theorem ok_refuse_no_row (T : Txt K mg) : FnOk P w K mg base CX0 4 T.a_refuse_no_row T.d_refuse_no_row p_refuse_no_row (sp_refuse K) := by
  refine T.F_refuse_no_row.ok sc_refuse_no_row (fun vs H Q E h => ?_) (fun cdv A outer s H vs Q E hr h => ?_)
  · obtain ⟨x, _, rfl, _⟩ := h
    rfl
  · obtain ⟨a, ns, rfl, hS, q⟩ := h
    refine ⟨_, pss_one (ps_if (pt_not (pt_val (pe_call (ok_is_row T) hr (by rfl) T.g_is_row T.F_is_row.kp T.b_is_row .nil pass0 (pa_cons (pv 0) pa_nil)))) (pss_one ps_never) pss_nil), ?_⟩
    refine ⟨.ref a, rfl, .ref a, rfl, .inr ⟨a, ns.map V.int, rfl, hS.1, RowAt.plain, by rw [List.length_map]; exact hS.2.2, fun H' s' => ?_⟩⟩
    refine ⟨_, rfl, ?_⟩
    rw [row_yes hS.2.1]
    exact iteF (q _ s')
/-! ### marked -/
def sp_marked (K : PySem.W.Frag) : Sp := fun vs H Q _ => ∃ a ns f, vs = [.ref a, .int f] ∧ SqL K H a (ns.map V.int) ∧ ns.length ≤ 4000000 ∧ ∀ H', Same H H' → Q (.int ((mk f ns : Nat) : Int)) H'
theorem ok_marked (T : Txt K mg) : FnOk P w K mg base CX0 1 T.a_marked T.d_marked p_marked (sp_marked K) := by
  refine T.F_marked.ok sc_marked (fun vs H Q E h => ?_) (fun cdv A outer s H vs Q E hr h => ?_)
  · obtain ⟨_, _, _, rfl, _⟩ := h
    rfl
  · obtain ⟨a, ns, f, rfl, hS, hl, q⟩ := h
    refine ⟨_, pss_cons (ps_setLc (i := 2) (own := [("item", 3)]) (g := gName 3) (tt := tYes) (by rfl) sc_marked.nd rfl rfl (sw_true rfl rfl rfl (by decide +kernel)) (pi_reversed (by rfl) T.z_reversed (pa_cons (pv 0) pa_nil))
        (blkOk_by (N := ["row", "figure", "marks", "item"]) (own := [("item", 3)]) (sc := defScope t_marked) (by decide +kernel))
        (fun _ _ _ _ _ => pg_name (i := 3) sc_marked.nd rfl (Or.inl rfl)) (fun _ _ _ _ _ => pts_nil)
        (fun _ _ _ _ _ => pe_ifExp (pt_cmpR op_eq (pv 3) (pv 1) (nomark _)) pe_str pe_str))
      (pss_one (ps_ret (pe_callTy (call_int2 T.digits) (by rfl) T.z_int (by decide +kernel) (pa_cons (pe_op op_add_str pe_str (pe_join pe_str (pv 2))) (pa_cons pe_int pa_nil))))), ?_⟩
    refine ⟨.ref a, rfl, a, ns.map V.int, rfl, hS, fun D nD => ?_⟩
    have sD : ∀ ys, Same H (upd H D (.lst ys)) := fun ys => same_upd nD
    have el : (ns.map V.int).length = ns.length := List.length_map ..
    refine ⟨fun i m H1 => i + m = ns.length ∧ H1 = upd H D (.lst (((ns.reverse.take i).map fun n => .str (sign1 (sg f n))))), ⟨ns.length, by omega, rfl⟩, fun i m H1 hW => ?_⟩
    obtain ⟨em, rfl⟩ := hW
    by_cases hi : i < ns.length
    · have hj : ns.length - 1 - i < ns.length := by omega
      have g : (ns.map V.int)[(ns.map V.int).length - 1 - i]? = some (.int ns[ns.length - 1 - i]) := by
        rw [el, List.getElem?_map, List.getElem?_eq_getElem hj]
        rfl
      have gr : ns.reverse[i]? = some ns[ns.length - 1 - i] := by
        rw [List.getElem?_reverse hi, List.getElem?_eq_getElem hj]
      refine .inr ⟨⟨by rw [el]; exact hi, _, _, (sD _).seq hS, g⟩, fun H' => H' = upd H D (.lst (((ns.reverse.take (i + 1)).map fun n => .str (sign1 (sg f n))))), fun H' e => ⟨m - 1, by omega, by omega, e⟩, fun x H' hy => ?_⟩
      obtain ⟨rfl, fx⟩ := hy
      have ex := Option.some.inj ((fx _ ((sD _).seq hS)).symm.trans g)
      subst ex
      have fin : ∀ z : V, z = .str (sign1 (sg f ns[ns.length - 1 - i])) → ∃ acc, (upd H D (.lst (((ns.reverse.take i).map fun n => .str (sign1 (sg f n)))))) D = some (.lst acc) ∧ acc.length < sizeLine ∧
          upd (upd H D (.lst (((ns.reverse.take i).map fun n => .str (sign1 (sg f n)))))) D (.lst (acc ++ [z])) = upd H D (.lst (((ns.reverse.take (i + 1)).map fun n => .str (sign1 (sg f n))))) := fun z ez => by
        subst ez
        refine ⟨_, upd_same, ?_, ?_⟩
        · rw [List.length_map, List.length_take]
          have : ns.length < sizeLine := Nat.lt_of_le_of_lt hl (by decide)
          omega
        · rw [upd_upd, List.take_add_one, gr, List.map_append]
          rfl
      refine ⟨rfl, .int ns[ns.length - 1 - i], rfl, .int f, rfl, rfl, _, rfl, ?_⟩
      by_cases hf : ns[ns.length - 1 - i] = f
      · rw [decide_eq_true (show V.int ns[ns.length - 1 - i] = V.int f by rw [hf])]
        refine iteT (fin _ ?_)
        rw [show sg f ns[ns.length - 1 - i] = 49 from if_pos hf]
        rfl
      · rw [decide_eq_false (show ¬ V.int ns[ns.length - 1 - i] = V.int f from fun z => hf (V.int.inj z))]
        refine iteF (fin _ ?_)
        rw [show sg f ns[ns.length - 1 - i] = 48 from if_neg hf]
        rfl
    · refine .inl ⟨(show (ns.map V.int).length ≤ i by rw [el]; omega), ?_⟩
      have et : ns.reverse.take i = ns.reverse := List.take_of_length_le (by rw [List.length_reverse]; omega)
      rw [et]
      have hD : SqL K (upd H D (.lst (ns.reverse.map fun n => V.str (sign1 (sg f n))))) D (((ns.reverse.map (sg f)).map sign1).map V.str) := by
        rw [List.map_map, List.map_map]
        exact SqL.of upd_same
      have e1 := joined_signs Str.empty rfl (ns.reverse.map (sg f))
      have l1 : (Txt.join Str.empty ((ns.reverse.map (sg f)).map sign1)).length = ns.length := by
        have := congrArg List.length e1
        rw [Array.length_toList, List.length_map, List.length_reverse] at this
        exact this
      have lim : (16777216 : Nat) = sizeLine := by decide
      refine ⟨⟨_, rfl⟩, .ref D, rfl, Str.empty, D, (ns.reverse.map (sg f)).map sign1, rfl, rfl, .inl hD, ?_, _, _, rfl, rfl, ?_, ?_⟩
      · have e2 : (((ns.reverse.map (sg f)).map sign1).map (·.length)) = List.replicate ns.length 1 := by
          rw [List.map_map, List.map_map]
          refine List.eq_replicate_iff.mpr ⟨by rw [List.length_map, List.length_reverse], fun b hb => ?_⟩
          obtain ⟨n, _, rfl⟩ := List.mem_map.mp hb
          rfl
        rw [e2, List.sum_replicate_nat]
        show ns.length * 1 + _ * 0 ≤ 16777216
        omega
      · rw [l1]
        show 1 + ns.length ≤ sizeLine
        omega
      · have e3 : ((("0" : Str) ++ Txt.join Str.empty ((ns.reverse.map (sg f)).map sign1))).cps.toList = 48 :: (ns.reverse.map (sg f)) := by
          rw [app_list, e1]
          rfl
        refine ⟨_, rfl, ?_, ?_, ?_⟩
        · rw [e3]
          exact sg_bits f ns.reverse
        · rw [e3]
          exact fun z => nomatch z
        · rw [e3, sg_val]
          exact q _ (sD _)
/-! ### worth -/
def sp_worth (K : PySem.W.Frag) : Sp := fun vs H Q _ => ∃ a ns, vs = [.ref a] ∧ RowAt K H a ns ∧ ∀ H', Same H H' → Q (.int (val ns)) H'
theorem ok_worth (T : Txt K mg) : FnOk P w K mg base CX0 5 T.a_worth T.d_worth p_worth (sp_worth K) := by
  refine T.F_worth.ok sc_worth (fun vs H Q E h => ?_) (fun cdv A outer s H vs Q E hr h => ?_)
  · obtain ⟨_, _, rfl, _⟩ := h
    rfl
  · obtain ⟨a, ns, rfl, hS, q⟩ := h
    refine ⟨_, pss_cons (ps_expr (pe_call (ok_refuse_no_row T) hr (by rfl) T.g_refuse_no_row T.F_refuse_no_row.kp T.b_refuse_no_row .nil pass0 (pa_cons (pv 0) pa_nil)))
      (pss_one (ps_ret (pe_op op_sub (pe_call (ok_marked T) (hr.mono (by decide)) (by rfl) T.g_marked T.F_marked.kp T.b_marked .nil pass0 (pa_cons (pv 0) (pa_cons pe_int pa_nil)))
        (pe_call (ok_marked T) (hr.mono (by decide)) (by rfl) T.g_marked T.F_marked.kp T.b_marked .nil pass0 (pa_cons (pv 0) (pa_cons (pe_un un_neg pe_int) pa_nil)))))), ?_⟩
    refine ⟨.ref a, rfl, a, ns, rfl, hS, fun H1 s1 => ?_⟩
    refine ⟨.ref a, rfl, a, ns, 1, rfl, s1.seq hS.1, hS.2.2, fun H2 s2 => ?_⟩
    refine ⟨.ref a, rfl, 1, rfl, a, ns, -1, rfl, s2.seq (s1.seq hS.1), hS.2.2, fun H3 s3 => ?_⟩
    refine ⟨_, _, rfl, rfl, ?_⟩
    show Q (.int (((mk 1 ns : Nat) : Int) - ((mk (-1) ns : Nat) : Int))) H3
    rw [mk_val ns hS.2.1.1]
    exact q _ (s1.trans (s2.trans s3))
/-! ### compared -/
def cmpI (a b : Int) : Int := if a > b then 1 else if a < b then -1 else 0
def sp_compared (K : PySem.W.Frag) : Sp := fun vs H Q _ => ∃ a b ns ms, vs = [.ref a, .ref b] ∧ RowAt K H a ns ∧ RowAt K H b ms ∧ ∀ H', Same H H' → Q (.int (cmpI (val ns) (val ms))) H'
theorem ok_compared (T : Txt K mg) : FnOk P w K mg base CX0 6 T.a_compared T.d_compared p_compared (sp_compared K) := by
  refine T.F_compared.ok sc_compared (fun vs H Q E h => ?_) (fun cdv A outer s H vs Q E hr h => ?_)
  · obtain ⟨_, _, _, _, rfl, _⟩ := h
    rfl
  · obtain ⟨a, b, ns, ms, rfl, hA, hB, q⟩ := h
    refine ⟨_, pss_cons (ps_par (i := 2) (j := 3) (by rfl) sc_compared.nd rfl rfl (by decide) rfl rfl (pa_cons (pe_call (ok_worth T) hr (by rfl) T.g_worth T.F_worth.kp T.b_worth .nil pass0 (pa_cons (pv 0) pa_nil)) (pa_cons (pe_call (ok_worth T) hr (by rfl) T.g_worth T.F_worth.kp T.b_worth .nil pass0 (pa_cons (pv 1) pa_nil)) pa_nil)) (by rfl))
      (pss_cons (ps_if (pt_cmpR op_gt (pv 2) (pv 3) (nomark _)) (pss_one (ps_ret pe_int)) pss_nil)
      (pss_cons (ps_if (pt_cmpR op_lt (pv 2) (pv 3) (nomark _)) (pss_one (ps_ret (pe_un un_neg pe_int))) pss_nil)
      (pss_one (ps_ret pe_int)))), ?_⟩
    refine ⟨.ref a, rfl, a, ns, rfl, hA, fun H1 s1 => ?_⟩
    refine ⟨.ref b, rfl, b, ms, rfl, hB.mono s1, fun H2 s2 => ?_⟩
    have q2 := q H2 (s1.trans s2)
    unfold cmpI at q2
    refine ⟨_, _, rfl, ?_⟩
    refine ⟨.int (val ns), rfl, .int (val ms), rfl, _, _, rfl, rfl, _, rfl, ?_⟩
    by_cases h1 : val ns > val ms
    · rw [if_pos h1] at q2
      rw [decide_eq_true h1]
      exact iteT q2
    · rw [if_neg h1] at q2
      rw [decide_eq_false h1]
      refine iteF ⟨.int (val ns), rfl, .int (val ms), rfl, _, _, rfl, rfl, _, rfl, ?_⟩
      by_cases h2 : val ns < val ms
      · rw [if_pos h2] at q2
        rw [decide_eq_true h2]
        exact iteT ⟨1, rfl, q2⟩
      · rw [if_neg h2] at q2
        rw [decide_eq_false h2]
        exact iteF q2
/-! ### the law's mixed -/
def mixA (c : Int) : Int := (c % 1000000007 + 1) * 48271 % 2147483647
def mixd (c k : Int) : Int := mixA c * (16807 + 7919 * k * k + 31 * k) % 2147483629 / 7
theorem mixA_b (c : Int) : 0 ≤ mixA c ∧ mixA c < 2147483647 := ⟨Int.emod_nonneg _ (by decide), Int.emod_lt_of_pos _ (by decide)⟩
theorem mixd_b (c k : Int) : 0 ≤ mixd c k ∧ mixd c k < 2147483629 := by
  have h1 := Int.emod_nonneg (mixA c * (16807 + 7919 * k * k + 31 * k)) (show (2147483629 : Int) ≠ 0 by decide)
  have h2 := Int.emod_lt_of_pos (mixA c * (16807 + 7919 * k * k + 31 * k)) (show (0 : Int) < 2147483629 by decide)
  unfold mixd
  omega
def sp_Lmixed (K : PySem.W.Frag) : Sp := fun vs H Q _ => ∃ c k : Int, vs = [.int c, .int k] ∧ 0 ≤ k ∧ k ≤ 1000 ∧ Q (.int (mixd c k)) H
theorem ok_Lmixed (T : Txt K mg) : FnOk P w K mg base CX0 1 T.a_Lmixed T.d_Lmixed p_Lmixed (sp_Lmixed K) := by
  refine T.F_Lmixed.ok sc_Lmixed (fun vs H Q E h => ?_) (fun cdv A outer s H vs Q E hr h => ?_)
  · obtain ⟨_, _, rfl, _⟩ := h
    rfl
  · obtain ⟨c, k, rfl, h0, h1, q⟩ := h
    refine ⟨_, pss_cons (ps_set (i := 2) sc_Lmixed.nd rfl (.inl rfl) (pe_op op_mod (pe_op op_mul (pe_op op_add (pe_op op_mod (pv 0) pe_int) pe_int) pe_int) pe_int))
      (pss_one (ps_ret (pe_op op_fdiv (pe_op op_mod (pe_op op_mul (pv 2) (pe_op op_add (pe_op op_add pe_int (pe_op op_mul (pe_op op_mul pe_int (pv 1)) (pv 1))) (pe_op op_mul pe_int (pv 1)))) pe_int) pe_int))), ?_⟩
    have b1 := Int.emod_nonneg c (show (1000000007 : Int) ≠ 0 by decide)
    have b2 := Int.emod_lt_of_pos c (show (0 : Int) < 1000000007 by decide)
    refine ⟨.int c, rfl, _, _, rfl, rfl, (by show (0 : Int) < 1000000007; decide), _, _, rfl, rfl, _, _, rfl, rfl, .inr (by show -(2 ^ 64 : Int) < 48271 ∧ (48271 : Int) < 2 ^ 64; decide), _, _, rfl, rfl, (by show (0 : Int) < 2147483647; decide), ?_⟩
    have b3 := mixA_b c
    refine ⟨.int (mixA c), rfl, .int k, rfl, _, _, rfl, rfl, .inl (by show -(2 ^ 64 : Int) < 7919 ∧ (7919 : Int) < 2 ^ 64; decide), .int k, rfl, _, _, rfl, rfl, .inr (by show -(2 ^ 64 : Int) < k ∧ k < 2 ^ 64; omega), _, _, rfl, rfl, .int k, rfl, _, _, rfl, rfl, .inl (by show -(2 ^ 64 : Int) < 31 ∧ (31 : Int) < 2 ^ 64; decide),
      _, _, rfl, rfl, _, _, rfl, rfl, .inl (by show -(2 ^ 64 : Int) < mixA c ∧ mixA c < 2 ^ 64; omega), _, _, rfl, rfl, (by show (0 : Int) < 2147483629; decide), _, _, rfl, rfl, ⟨by decide, by decide⟩, ?_⟩
    exact q
/-! ### the law's whole -/
def sp_Lwhole (K : PySem.W.Frag) : Sp := fun vs H Q _ => ∃ x, vs = [x] ∧ Plain K H x ∧ Q (.bl (intV x)) H
theorem ok_Lwhole (T : Txt K mg) : FnOk P w K mg base CX0 1 T.a_Lwhole T.d_Lwhole p_Lwhole (sp_Lwhole K) := by
  refine T.F_Lwhole.ok sc_Lwhole (fun vs H Q E h => ?_) (fun cdv A outer s H vs Q E hr h => ?_)
  · obtain ⟨x, rfl, _⟩ := h
    rfl
  · obtain ⟨x, rfl, ⟨i, b, l, k, e⟩, q⟩ := h
    obtain ⟨t, ty, h1, h2, _⟩ := k.ex
    refine ⟨_, pss_one (ps_ret (pe_and (pe_callB call_isi (by rfl) T.z_isinstance (by decide +kernel) (pa_cons (pv 0) (pa_cons (pe_bltn (v := .ty "int") (by rfl) T.z_int (by decide +kernel) rfl) pa_nil)))
      (pe_one (pe_not (pe_callB call_isi (by rfl) T.z_isinstance (by decide +kernel) (pa_cons (pv 0) (pa_cons (pe_bltn (v := .ty "bool") (by rfl) T.z_bool (by decide +kernel) rfl) pa_nil))))))), ?_⟩
    refine ⟨x, rfl, x, _, t, _, i, rfl, .ty _, ty, h1, i, rfl, ?_⟩
    cases i with
    | true => exact iteT ⟨x, rfl, x, _, t, _, b, rfl, .ty _, ty, h2, b, rfl, by rw [← e] at q; exact q⟩
    | false => exact iteF (by rw [← e] at q; exact q)
/-! ### the law's number -/
theorem abs_lt {z : Int} {k : Nat} {b : Int} (h1 : -b < z) (h2 : z < b) (hb : b = ((2 ^ k : Nat) : Int)) : z.natAbs < 2 ^ k := by omega
theorem two_le {k m : Nat} (h : k ≤ m) : (2 : Int) ^ k ≤ 2 ^ m := by
  have z := Nat.pow_le_pow_right (n := 2) (by decide) h
  have c1 : ((2 ^ k : Nat) : Int) = (2 : Int) ^ k := Int.natCast_pow 2 k
  have c2 : ((2 ^ m : Nat) : Int) = (2 : Int) ^ m := Int.natCast_pow 2 m
  omega
def sp_Lnumber (K : PySem.W.Frag) : Sp := fun vs H Q _ => ∃ c : Int, vs = [.int c] ∧ ∀ H' z, Same H H' → z.natAbs < 2 ^ 210 → Q (.int z) H'
theorem ok_Lnumber (T : Txt K mg) : FnOk P w K mg base CX0 1 T.a_Lnumber T.d_Lnumber p_Lnumber (sp_Lnumber K) := by
  refine T.F_Lnumber.ok sc_Lnumber (fun vs H Q E h => ?_) (fun cdv A outer s H vs Q E hr h => ?_)
  · obtain ⟨_, rfl, _⟩ := h
    rfl
  · obtain ⟨c, rfl, q⟩ := h
    refine ⟨_, pss_cons (ps_set (i := 1) sc_Lnumber.nd rfl (.inl rfl) (pe_op op_fdiv (pv 0) pe_int))
      (pss_cons (ps_set (i := 2) sc_Lnumber.nd rfl (.inl rfl) pe_int)
      (pss_cons (ps_for PassesOwn.never rfl (pi_range1 (by rfl) T.z_range (pa_cons (pe_op op_mod (pe_op op_fdiv (pv 1) pe_int) pe_int) pa_nil)) (pg_name (i := 3) sc_Lnumber.nd rfl (.inl rfl))
        (pss_one (ps_set (i := 2) sc_Lnumber.nd rfl (.inl rfl) (pe_op op_mul (pv 2) pe_int))))
      (pss_cons (ps_set (i := 4) sc_Lnumber.nd rfl (.inl rfl) (pe_lst (pa_cons (pe_op op_sub (pe_op op_mod (pv 1) pe_int) pe_int)
        (pa_cons (pe_op op_sub (pe_op op_add (pv 2) (pe_op op_mod (pv 1) pe_int)) pe_int)
        (pa_cons (pe_op op_sub (pe_op op_add (pe_op op_fdiv (pv 2) pe_int) (pe_op op_mod (pv 1) pe_int)) pe_int)
        (pa_cons (pe_op op_sub (pe_op op_add (pe_op op_sub pe_int (pv 2)) (pe_op op_mod (pv 1) pe_int)) pe_int) pa_nil))))))
      (pss_cons (ps_set (i := 5) sc_Lnumber.nd rfl (.inl rfl) (pe_op op_sub (pe_op op_mod (pe_op op_mul (pv 1) pe_int) (pe_op op_add (pe_op op_mul pe_int (pe_op op_pow pe_int pe_int)) pe_int)) (pe_op op_pow pe_int pe_int)))
      (pss_one (ps_ret (pe_ix ix_list (pe_op op_cat (pv 4) (pe_lst (pa_cons (pv 5) (pa_cons (pv 5) (pa_cons (pe_op op_sub (pe_op op_mod (pv 0) (pe_op op_add (pe_op op_mul pe_int (pe_op op_pow pe_int pe_int)) pe_int)) (pe_op op_pow pe_int pe_int))
        (pa_cons (pe_op op_sub (pe_op op_mod (pv 1) pe_int) pe_int) pa_nil)))))) (pe_op op_mod (pv 0) pe_int) (fun _ _ => rfl)))))))), ?_⟩
    have big : (2 * 10 ^ 60 + 1 : Int) = 2000000000000000000000000000000000000000000000000000000000001 := by decide
    have ten : (10 : Int) ^ (60 : Int).toNat = 1000000000000000000000000000000000000000000000000000000000000 := by decide
    refine ⟨.int c, rfl, _, _, rfl, rfl, ⟨by decide, by decide⟩, ?_⟩
    have m0 := Int.emod_nonneg (c / 8 / 9) (show (200 : Int) ≠ 0 by decide)
    have m1 := Int.emod_lt_of_pos (c / 8 / 9) (show (0 : Int) < 200 by decide)
    refine ⟨.int (c / 8), rfl, _, _, rfl, rfl, ⟨by decide, by decide⟩, _, _, rfl, rfl, (by show (0 : Int) < 200; decide), c / 8 / 9 % 200, rfl, by omega, by omega, ?_⟩
    refine for_range (lo := 0) (n := (c / 8 / 9 % 200).toNat) (fun i σ H1 => H1 = H ∧ ∃ y, σ = [some (.int c), some (.int (c / 8)), some (.int (2 ^ i)), y, none, none]) ⟨rfl, _, rfl⟩ (fun i σ H1 hi e => ?_) (fun σ H1 e => ?_)
    · obtain ⟨rfl, y, rfl⟩ := e
      exact ⟨_, rfl, _, _, rfl, rfl, .inr (by show -(2 ^ 64 : Int) < 2 ∧ (2 : Int) < 2 ^ 64; decide), rfl, _, rfl⟩
    · obtain ⟨rfl, y, rfl⟩ := e
      have hN : (c / 8 / 9 % 200).toNat ≤ 200 := by omega
      have p0 : (0 : Int) < 2 ^ (c / 8 / 9 % 200).toNat := Int.pow_pos (by decide)
      have p1 : (2 : Int) ^ (c / 8 / 9 % 200).toNat ≤ 2 ^ 200 := two_le hN
      generalize (2 : Int) ^ (c / 8 / 9 % 200).toNat = p at p0 p1
      have e200 : (2 : Int) ^ 200 = 1606938044258990275541962092341162602522202993782792835301376 := by decide
      rw [e200] at p1
      have e210 : ((2 ^ 210 : Nat) : Int) = 1645504557321206042154969182557350504982735865633579863348609024 := by decide
      refine ⟨.int (c / 8), rfl, _, _, rfl, rfl, (by show (0 : Int) < 23; decide), _, _, rfl, rfl, .int p, rfl, .int (c / 8), rfl, _, _, rfl, rfl, (by show (0 : Int) < 9; decide), _, _, rfl, rfl, _, _, rfl, rfl,
        .int p, rfl, _, _, rfl, rfl, ⟨by decide, by decide⟩, .int (c / 8), rfl, _, _, rfl, rfl, (by show (0 : Int) < 5; decide), _, _, rfl, rfl, _, _, rfl, rfl,
        .int p, rfl, _, _, rfl, rfl, .int (c / 8), rfl, _, _, rfl, rfl, (by show (0 : Int) < 9; decide), _, _, rfl, rfl, _, _, rfl, rfl, small_ok (by simp), fun l nl => ?_⟩
      have s1 : Same H1 (upd H1 l (.lst [.int (c / 8 % 23 - 11), .int (p + c / 8 % 9 - 4), .int (p / 3 + c / 8 % 5 - 2), .int (0 - p + c / 8 % 9 - 4)])) := same_upd nl
      have k1 : (upd H1 l (.lst [.int (c / 8 % 23 - 11), .int (p + c / 8 % 9 - 4), .int (p / 3 + c / 8 % 5 - 2), .int (0 - p + c / 8 % 9 - 4)])) l = some (.lst ([c / 8 % 23 - 11, p + c / 8 % 9 - 4, p / 3 + c / 8 % 5 - 2, 0 - p + c / 8 % 9 - 4].map V.int)) := upd_same
      generalize upd H1 l (.lst [.int (c / 8 % 23 - 11), .int (p + c / 8 % 9 - 4), .int (p / 3 + c / 8 % 5 - 2), .int (0 - p + c / 8 % 9 - 4)]) = H2 at s1 k1
      refine ⟨.int (c / 8), rfl, _, _, rfl, rfl, .inr (by show -(2 ^ 64 : Int) < 48271 ∧ (48271 : Int) < 2 ^ 64; decide), _, _, rfl, rfl, ⟨by decide, by decide, by decide⟩, _, _, rfl, rfl, .inl (by show -(2 ^ 64 : Int) < 2 ∧ (2 : Int) < 2 ^ 64; decide), _, _, rfl, rfl, _, _, rfl, rfl, ?_, _, _, rfl, rfl, ⟨by decide, by decide, by decide⟩, _, _, rfl, rfl, ?_⟩
      · show (0 : Int) < 2 * 10 ^ (60 : Int).toNat + 1
        rw [ten]
        decide
      refine ⟨.ref l, rfl, .int (c / 8 * 48271 % (2 * 10 ^ (60 : Int).toNat + 1) - 10 ^ (60 : Int).toNat), rfl, .int (c / 8 * 48271 % (2 * 10 ^ (60 : Int).toNat + 1) - 10 ^ (60 : Int).toNat), rfl, .int c, rfl, _, _, rfl, rfl, ⟨by decide, by decide, by decide⟩, _, _, rfl, rfl, .inl (by show -(2 ^ 64 : Int) < 2 ∧ (2 : Int) < 2 ^ 64; decide), _, _, rfl, rfl, _, _, rfl, rfl, ?_, _, _, rfl, rfl, ⟨by decide, by decide, by decide⟩, _, _, rfl, rfl,
        .int (c / 8), rfl, _, _, rfl, rfl, (by show (0 : Int) < 2000001; decide), _, _, rfl, rfl, small_ok (by simp), fun l2 nl2 => ?_⟩
      · show (0 : Int) < 2 * 10 ^ (60 : Int).toNat + 1
        rw [ten]
        decide
      have s2 := same_upd (o := .lst [V.int (c / 8 * 48271 % (2 * 10 ^ (60 : Int).toNat + 1) - 10 ^ (60 : Int).toNat), .int (c / 8 * 48271 % (2 * 10 ^ (60 : Int).toNat + 1) - 10 ^ (60 : Int).toNat), .int (c % (2 * 10 ^ (60 : Int).toNat + 1) - 10 ^ (60 : Int).toNat), .int (c / 8 % 2000001 - 1000000)]) nl2
      refine ⟨l, l2, _, _, rfl, rfl, s2 _ _ k1, upd_same, small_ok (by simp), fun l3 nl3 => ?_⟩
      have s3 := same_upd (o := .lst ([c / 8 % 23 - 11, p + c / 8 % 9 - 4, p / 3 + c / 8 % 5 - 2, 0 - p + c / 8 % 9 - 4].map V.int ++ [V.int (c / 8 * 48271 % (2 * 10 ^ (60 : Int).toNat + 1) - 10 ^ (60 : Int).toNat), .int (c / 8 * 48271 % (2 * 10 ^ (60 : Int).toNat + 1) - 10 ^ (60 : Int).toNat), .int (c % (2 * 10 ^ (60 : Int).toNat + 1) - 10 ^ (60 : Int).toNat), .int (c / 8 % 2000001 - 1000000)])) nl3
      have st := s1.trans (s2.trans s3)
      have f0 := Int.emod_nonneg c (show (8 : Int) ≠ 0 by decide)
      have f1 := Int.emod_lt_of_pos c (show (0 : Int) < 8 by decide)
      have w0 := Int.emod_nonneg (c / 8 * 48271) (show (2000000000000000000000000000000000000000000000000000000000001 : Int) ≠ 0 by decide)
      have w1 := Int.emod_lt_of_pos (c / 8 * 48271) (show (0 : Int) < 2000000000000000000000000000000000000000000000000000000000001 by decide)
      have v0 := Int.emod_nonneg c (show (2000000000000000000000000000000000000000000000000000000000001 : Int) ≠ 0 by decide)
      have v1 := Int.emod_lt_of_pos c (show (0 : Int) < 2000000000000000000000000000000000000000000000000000000000001 by decide)
      have eten : (2 * 10 ^ (60 : Int).toNat + 1 : Int) = 2000000000000000000000000000000000000000000000000000000000001 := by rw [ten]; decide
      rw [eten, ten] at st ⊢
      have fin : ∃ z : Int, z.natAbs < 2 ^ 210 ∧ atI ([c / 8 % 23 - 11, p + c / 8 % 9 - 4, p / 3 + c / 8 % 5 - 2, 0 - p + c / 8 % 9 - 4].map V.int ++ [V.int (c / 8 * 48271 % 2000000000000000000000000000000000000000000000000000000000001 - 1000000000000000000000000000000000000000000000000000000000000), .int (c / 8 * 48271 % 2000000000000000000000000000000000000000000000000000000000001 - 1000000000000000000000000000000000000000000000000000000000000), .int (c % 2000000000000000000000000000000000000000000000000000000000001 - 1000000000000000000000000000000000000000000000000000000000000), .int (c / 8 % 2000001 - 1000000)]) (c % 8) = some (.int z) := by
        have cc : c % 8 = ((0 : Nat) : Int) ∨ c % 8 = ((1 : Nat) : Int) ∨ c % 8 = ((2 : Nat) : Int) ∨ c % 8 = ((3 : Nat) : Int) ∨ c % 8 = ((4 : Nat) : Int) ∨ c % 8 = ((5 : Nat) : Int) ∨ c % 8 = ((6 : Nat) : Int) ∨ c % 8 = ((7 : Nat) : Int) := by omega
        rcases cc with e | e | e | e | e | e | e | e <;> rw [e]
        · exact ⟨c / 8 % 23 - 11, abs_lt (b := 1645504557321206042154969182557350504982735865633579863348609024) (by omega) (by omega) e210.symm, atI_nat rfl⟩
        · exact ⟨p + c / 8 % 9 - 4, abs_lt (b := 1645504557321206042154969182557350504982735865633579863348609024) (by omega) (by omega) e210.symm, atI_nat rfl⟩
        · exact ⟨p / 3 + c / 8 % 5 - 2, abs_lt (b := 1645504557321206042154969182557350504982735865633579863348609024) (by omega) (by omega) e210.symm, atI_nat rfl⟩
        · exact ⟨0 - p + c / 8 % 9 - 4, abs_lt (b := 1645504557321206042154969182557350504982735865633579863348609024) (by omega) (by omega) e210.symm, atI_nat rfl⟩
        · exact ⟨_, abs_lt (b := 1645504557321206042154969182557350504982735865633579863348609024) (by omega) (by omega) e210.symm, atI_nat rfl⟩
        · exact ⟨_, abs_lt (b := 1645504557321206042154969182557350504982735865633579863348609024) (by omega) (by omega) e210.symm, atI_nat rfl⟩
        · exact ⟨_, abs_lt (b := 1645504557321206042154969182557350504982735865633579863348609024) (by omega) (by omega) e210.symm, atI_nat rfl⟩
        · exact ⟨c / 8 % 2000001 - 1000000, abs_lt (b := 1645504557321206042154969182557350504982735865633579863348609024) (by omega) (by omega) e210.symm, atI_nat rfl⟩
      obtain ⟨z, hz, hat⟩ := fin
      exact ⟨.int c, rfl, _, _, rfl, rfl, (by show (0 : Int) < 8; decide), l3, _, c % 8, .int z, rfl, rfl, SqL.of upd_same, hat, q _ z st hz⟩
/-! ### the law's row: a row of a number's worth -/
theorem row_step {l : List Int} {d t : Int} {L : Nat} (hl : l.length = L) : val (l ++ [d]) + 2 ^ (L + 1) * t = val l + 2 ^ L * (d + 2 * t) := by
  rw [val_append, hl, Int.pow_succ, Int.mul_add]
  show val l + 2 ^ L * (d + 2 * 0) + 2 ^ L * 2 * t = val l + (2 ^ L * d + 2 ^ L * (2 * t))
  rw [Int.mul_zero, Int.add_zero, Int.mul_assoc, Int.add_assoc]
def sp_Lrow (K : PySem.W.Frag) : Sp := fun vs H Q _ => ∃ (n c : Int) (N : Nat), vs = [.int n, .int c] ∧ n.natAbs < 2 ^ N ∧ N ≤ 1000 ∧ ∀ H' p r, Same H H' → H p = none → Row r → val r = n → r.length ≤ N + 1 → H' p = some (.lst (r.map V.int)) → Q (.ref p) H'
theorem ok_Lrow (T : Txt K mg) : FnOk P w K mg base CX0 2 T.a_Lrow T.d_Lrow p_Lrow (sp_Lrow K) := by
  refine T.F_Lrow.ok sc_Lrow (fun vs H Q E h => ?_) (fun cdv A outer s H vs Q E hr h => ?_)
  · obtain ⟨_, _, _, rfl, _⟩ := h
    rfl
  · obtain ⟨n, c, N, rfl, hn, hN, q⟩ := h
    refine ⟨_, pss_cons (ps_set (i := 2) sc_Lrow.nd rfl (.inl rfl) (pe_op op_sub pe_int (pe_op op_mul pe_int (pe_callTy call_int1 (by rfl) T.z_int (by decide +kernel) (pa_cons (pe_cmpR op_lt (pv 0) pe_int (nomark _)) pa_nil)))))
      (pss_cons (ps_set (i := 3) sc_Lrow.nd rfl (.inl rfl) (pe_callB call_abs (by rfl) T.z_abs (by decide +kernel) (pa_cons (pv 0) pa_nil)))
      (pss_cons (ps_set (i := 4) sc_Lrow.nd rfl (.inl rfl) (pe_lst pa_nil))
      (pss_cons (ps_while PassesOwn.never (pt_cmpR op_gt (pv 3) pe_int (nomark _))
        (pss_cons (ps_if (PW.pt (pw_and (pt_cmpR op_eq (pe_op op_mod (pv 3) pe_int) pe_int (nomark _)) (pw_and (pt_cmpR op_gt (pv 3) pe_int (nomark _))
              (pw_and1 (pt_cmpR op_eq (pe_op op_mod (pe_call (ok_Lmixed T) hr (by rfl) T.g_Lmixed T.F_Lmixed.kp T.b_Lmixed .nil pass0 (pa_cons (pv 1) (pa_cons (pe_op op_mod (pe_callB call_len_seq (by rfl) T.z_len PySem.boot_len (pa_cons (pv 4) pa_nil)) pe_int) pa_nil))) pe_int) pe_int (nomark _))))))
          (pss_cons (ps_expr (pe_bm PySem.F.plainAttrs_list PySem.F.slot_list_append PySem.F.type_list_append mt_append (pv 4) (pa_cons (pe_op op_sub pe_int (pv 2)) pa_nil)))
            (pss_one (ps_set (i := 3) sc_Lrow.nd rfl (.inl rfl) (pe_op op_add (pv 3) pe_int))))
          (pss_one (ps_expr (pe_bm PySem.F.plainAttrs_list PySem.F.slot_list_append PySem.F.type_list_append mt_append (pv 4) (pa_cons (pe_op op_mul (pe_op op_mod (pv 3) pe_int) (pv 2)) pa_nil)))))
        (pss_one (ps_set (i := 3) sc_Lrow.nd rfl (.inl rfl) (pe_op op_fdiv (pv 3) pe_int)))))
      (pss_one (ps_ret (pv 4)))))), ?_⟩
    have ea : (if n < 0 then -n else n) = ((n.natAbs : Nat) : Int) := by
      split <;> omega
    have sg : ∃ s : Int, (s = 1 ∨ s = -1) ∧ 1 - 2 * (if decide (n < 0) = true then (1 : Int) else 0) = s ∧ s * ((n.natAbs : Nat) : Int) = n := by
      by_cases h : n < 0
      · exact ⟨-1, .inr rfl, by rw [decide_eq_true h, if_pos rfl]; rfl, by omega⟩
      · exact ⟨1, .inl rfl, by rw [decide_eq_false h, if_neg Bool.false_ne_true]; rfl, by omega⟩
    obtain ⟨s1, hs, es, en⟩ := sg
    refine ⟨.int n, rfl, _, _, rfl, rfl, .inr ⟨_, rfl, _, _, rfl, rfl, .inl (by show -(2 ^ 64 : Int) < 2 ∧ (2 : Int) < 2 ^ 64; decide), _, _, rfl, rfl, ?_⟩⟩
    refine ⟨.int n, rfl, n, rfl, ?_⟩
    refine ⟨Nat.zero_le _, fun o no => ?_⟩
    refine ⟨fun m σ H1 => ∃ (L : Nat) (l : List Int), l.length = L ∧ ((∃ k, L + k = N ∧ m ≤ 2 ^ k) ∨ (L = N + 1 ∧ m = 0)) ∧ (∀ z ∈ l, -1 ≤ z ∧ z ≤ 1) ∧ (m = 0 → l.getLast? ≠ some 0) ∧
        val l + 2 ^ L * (s1 * (m : Int)) = n ∧ Same H H1 ∧ H1 o = some (.lst (l.map V.int)) ∧ σ = [some (.int n), some (.int c), some (.int s1), some (.int (m : Int)), some (.ref o)],
      ⟨n.natAbs, 0, [], rfl, .inl ⟨N, by omega, by omega⟩, (fun _ hz => nomatch hz), (fun _ z => nomatch z), ?_, same_upd no, upd_same, ?_⟩, fun m σ H1 hW => ?_⟩
    · show (0 : Int) + 2 ^ 0 * (s1 * ((n.natAbs : Nat) : Int)) = n
      rw [en]
      omega
    · rw [← ea, ← es]
      rfl
    obtain ⟨L, l, hL, hk, hfig, hlast, hval, sH, eo, rfl⟩ := hW
    have lenL : L ≤ N + 1 := by
      rcases hk with ⟨k, k1, _⟩ | ⟨k1, _⟩ <;> omega
    have lim : (2000 : Nat) ≤ sizeLine := by decide
    have lml : (l.map V.int).length = l.length := List.length_map ..
    refine ⟨.int m, rfl, _, _, rfl, rfl, _, rfl, ?_⟩
    by_cases h0 : 0 < m
    · have h0' : (m : Int) > 0 := by omega
      rw [decide_eq_true h0']
      refine iteT ⟨fun σ' H' => ∃ (m' : Nat) (d : Int), m' < m ∧ m' ≤ (m + 1) / 2 ∧ (m = 1 → m' = 0) ∧ -1 ≤ d ∧ d ≤ 1 ∧ s1 * (m : Int) = d + 2 * (s1 * (m' : Int)) ∧ (m' = 0 → d ≠ 0) ∧ Same H H' ∧ H' o = some (.lst (l.map V.int ++ [.int d])) ∧
          σ' = [some (.int n), some (.int c), some (.int s1), some (.int (m' : Int)), some (.ref o)], fun σ' H' hN => ?_, ?_⟩
      · obtain ⟨m', d, a0, a1, a2, a3, a4, a5, a6, a7, a8, rfl⟩ := hN
        refine ⟨m', a0, L + 1, l ++ [d], by simp [hL], ?_, fun z hz => ?_, fun b1 => ?_, ?_, a7, by rw [a8, List.map_append]; rfl, rfl⟩
        · rcases hk with ⟨k, k1, k2⟩ | ⟨k1, k2⟩
          · cases k with
            | zero =>
              have e0 : (2 : Nat) ^ 0 = 1 := rfl
              exact .inr ⟨by omega, a2 (by omega)⟩
            | succ k =>
              refine .inl ⟨k, by omega, ?_⟩
              rw [Nat.pow_succ] at k2
              omega
          · omega
        · rcases List.mem_append.mp hz with h | h
          · exact hfig z h
          · rw [List.mem_singleton.mp h]
            exact ⟨a3, a4⟩
        · rw [List.getLast?_append]
          have := a6 b1
          simpa using this
        · rw [row_step hL, ← a5]
          exact hval
      · have sO : ∀ x, Same H (upd H1 o (.lst (l.map V.int ++ [.int x]))) := fun x b u e => by
          have nb : b ≠ o := ne_of_none e no
          rw [upd_ne nb]
          exact sH _ _ e
        have half : (m : Int) / 2 = ((m / 2 : Nat) : Int) := by omega
        have way2 : ∃ (m' : Nat) (d : Int), m' < m ∧ m' ≤ (m + 1) / 2 ∧ (m = 1 → m' = 0) ∧ -1 ≤ d ∧ d ≤ 1 ∧ s1 * (m : Int) = d + 2 * (s1 * (m' : Int)) ∧ (m' = 0 → d ≠ 0) ∧ Same H (upd H1 o (.lst (l.map V.int ++ [.int ((m : Int) % 2 * s1)]))) ∧ (upd H1 o (.lst (l.map V.int ++ [.int ((m : Int) % 2 * s1)]))) o = some (.lst (l.map V.int ++ [.int d])) ∧
            [some (V.int n), some (.int c), some (.int s1), some (.int ((m : Int) / 2)), some (.ref o)] = [some (.int n), some (.int c), some (.int s1), some (.int (m' : Int)), some (.ref o)] := by
          refine ⟨m / 2, (m : Int) % 2 * s1, by omega, by omega, by omega, ?_, ?_, ?_, ?_, sO _, upd_same, by rw [half]⟩
          all_goals
            have z : (m : Int) % 2 = 0 ∨ (m : Int) % 2 = 1 := by omega
            rcases hs with e | e <;> subst e <;> rcases z with z | z <;> rw [z] <;> omega
        refine ⟨.int m, rfl, _, _, rfl, rfl, (by show (0 : Int) < 2; decide), rfl, _, rfl, ?_⟩
        by_cases hh : (m : Int) % 2 = 1
        · rw [decide_eq_true (show V.int ((m : Int) % 2) = V.int 1 by rw [hh])]
          refine iteT ?_
          refine ⟨.int m, rfl, _, _, rfl, rfl, _, rfl, ?_⟩
          by_cases h1 : (m : Int) > 1
          · rw [decide_eq_true h1]
            refine iteT ?_
            refine ⟨.int c, rfl, .ref o, rfl, o, _, rfl, .inl (SqL.of eo), _, _, rfl, rfl, (by show (0 : Int) < 97; decide), c, ((l.map V.int).length : Int) % 97, rfl, by omega, by omega, _, _, rfl, rfl, (by show (0 : Int) < 3; decide), rfl, _, rfl, ?_⟩
            by_cases hm3 : V.int (mixd c (((l.map V.int).length : Int) % 97) % 3) = V.int 1
            · rw [decide_eq_true hm3]
              refine iteT ?_
              refine ⟨.ref o, rfl, .inl ⟨rfl, _, SqL.of eo⟩, .int s1, rfl, _, _, rfl, rfl, o, _, _, rfl, rfl, eo, by rw [lml]; omega, .int m, rfl, _, _, rfl, rfl, _, rfl, _, _, rfl, rfl, ⟨by decide, by decide⟩, ?_⟩
              refine ⟨(m + 1) / 2, 0 - s1, by omega, by omega, by omega, ?_, ?_, ?_, ?_, sO _, upd_same, ?_⟩
              · rcases hs with e | e <;> subst e <;> decide
              · rcases hs with e | e <;> subst e <;> decide
              · rcases hs with e | e <;> subst e <;> omega
              · intro z
                omega
              · have e1 : ((m : Int) + 1) / 2 = (((m + 1) / 2 : Nat) : Int) := by omega
                rw [← e1]
                rfl
            · rw [decide_eq_false hm3]
              refine iteF ?_
              exact ⟨.ref o, rfl, .inl ⟨rfl, _, SqL.of eo⟩, .int m, rfl, _, _, rfl, rfl, (by show (0 : Int) < 2; decide), .int s1, rfl, _, _, rfl, rfl, .inl (by show -(2 ^ 64 : Int) < (m : Int) % 2 ∧ (m : Int) % 2 < 2 ^ 64; omega), o, _, _, rfl, rfl, eo, by rw [lml]; omega,
                .int m, rfl, _, _, rfl, rfl, ⟨by decide, by decide⟩, way2⟩
          · rw [decide_eq_false h1]
            refine iteF (iteF ?_)
            exact ⟨.ref o, rfl, .inl ⟨rfl, _, SqL.of eo⟩, .int m, rfl, _, _, rfl, rfl, (by show (0 : Int) < 2; decide), .int s1, rfl, _, _, rfl, rfl, .inl (by show -(2 ^ 64 : Int) < (m : Int) % 2 ∧ (m : Int) % 2 < 2 ^ 64; omega), o, _, _, rfl, rfl, eo, by rw [lml]; omega,
              .int m, rfl, _, _, rfl, rfl, ⟨by decide, by decide⟩, way2⟩
        · rw [decide_eq_false (show ¬ V.int ((m : Int) % 2) = V.int 1 from fun z => hh (V.int.inj z))]
          refine iteF (iteF ?_)
          exact ⟨.ref o, rfl, .inl ⟨rfl, _, SqL.of eo⟩, .int m, rfl, _, _, rfl, rfl, (by show (0 : Int) < 2; decide), .int s1, rfl, _, _, rfl, rfl, .inl (by show -(2 ^ 64 : Int) < (m : Int) % 2 ∧ (m : Int) % 2 < 2 ^ 64; omega), o, _, _, rfl, rfl, eo, by rw [lml]; omega,
            .int m, rfl, _, _, rfl, rfl, ⟨by decide, by decide⟩, way2⟩
    · have m0 : m = 0 := by omega
      subst m0
      rw [decide_eq_false (show ¬ (((0 : Nat) : Int) > 0) by decide)]
      refine iteF ⟨.ref o, rfl, ?_⟩
      have hv : val l = n := by
        have e : ((0 : Nat) : Int) = 0 := rfl
        rw [e, Int.mul_zero, Int.mul_zero, Int.add_zero] at hval
        exact hval
      exact q H1 o l sH no ⟨hfig, hlast rfl⟩ hv (by omega) eo
/-! ### the law's order -/
def sp_Lorder : Sp := fun vs H Q _ => ∃ a b : Int, vs = [.int a, .int b] ∧ Q (.int (cmpI a b)) H
theorem ok_Lorder (T : Txt K mg) : FnOk P w K mg base CX0 1 T.a_Lorder T.d_Lorder p_Lorder sp_Lorder := by
  refine T.F_Lorder.ok sc_Lorder (fun vs H Q E h => ?_) (fun cdv A outer s H vs Q E hr h => ?_)
  · obtain ⟨_, _, rfl, _⟩ := h
    rfl
  · obtain ⟨a, b, rfl, q⟩ := h
    refine ⟨_, pss_one (ps_ret (pe_op op_sub (pe_callTy call_int1 (by rfl) T.z_int (by decide +kernel) (pa_cons (pe_cmpR op_gt (pv 0) (pv 1) (nomark _)) pa_nil)) (pe_callTy call_int1 (by rfl) T.z_int (by decide +kernel) (pa_cons (pe_cmpR op_lt (pv 0) (pv 1) (nomark _)) pa_nil)))), ?_⟩
    refine ⟨.int a, rfl, .int b, rfl, _, _, rfl, rfl, .inr ⟨_, rfl, ?_⟩⟩
    refine ⟨.int a, rfl, .int b, rfl, _, _, rfl, rfl, .inr ⟨_, rfl, _, _, rfl, rfl, ?_⟩⟩
    have e : cmpI a b = (if decide (a > b) = true then (1 : Int) else 0) - (if decide (a < b) = true then (1 : Int) else 0) := by
      unfold cmpI
      by_cases h1 : a > b
      · have h2 : ¬ a < b := by omega
        simp [h1, h2]
      · by_cases h2 : a < b
        · simp [h1, h2]
        · simp [h1, h2]
    rw [e] at q
    exact q
/-! ### the law's right -/
def sp_Lright (K : PySem.W.Frag) : Sp := fun vs H Q _ => ∃ a b t ns ms, vs = [.ref a, .ref b, .ref t] ∧ RowAt K H a ns ∧ RowAt K H b ms ∧ SqT K H t [.int (val ns), .int (val ms)] ∧ ∀ H', Same H H' → Q (.bl true) H'
theorem ok_Lright (T : Txt K mg) : FnOk P w K mg base CX0 7 T.a_Lright T.d_Lright p_Lright (sp_Lright K) := by
  refine T.F_Lright.ok sc_Lright (fun vs H Q E h => ?_) (fun cdv A outer s H vs Q E hr h => ?_)
  · obtain ⟨_, _, _, _, _, rfl, _⟩ := h
    rfl
  · obtain ⟨a, b, t, ns, ms, rfl, hA, hB, hT, q⟩ := h
    refine ⟨_, pss_cons (ps_for PassesOwn.never rfl (pi_list (pe_lst (pa_cons (pe_tup (pa_cons (pe_tup (pa_cons (pv 0) (pa_cons (pv 1) pa_nil))) (pa_cons (pv 2) pa_nil)))
          (pa_cons (pe_tup (pa_cons (pe_tup (pa_cons (pv 1) (pa_cons (pv 0) pa_nil))) (pa_cons (XTupRev.pe_revP (pv 2)) pa_nil))) pa_nil))))
          (pg_tup rfl (pgs_cons (pg_name (i := 3) sc_Lright.nd rfl (.inl rfl)) (pgs_cons (pg_name (i := 4) sc_Lright.nd rfl (.inl rfl)) pgs_nil)))
        (pss_cons (ps_set (i := 5) sc_Lright.nd rfl (.inl rfl) (pe_tup (pa_cons (pe_callTy call_list_of (by rfl) T.z_list (by decide +kernel) (pa_cons (pe_ix (r := rIxT K) ix_tup (pv 3) pe_int (fun _ _ => rfl)) pa_nil))
            (pa_cons (pe_callTy call_list_of (by rfl) T.z_list (by decide +kernel) (pa_cons (pe_ix (r := rIxT K) ix_tup (pv 3) pe_int (fun _ _ => rfl)) pa_nil)) pa_nil))))
        (pss_cons (ps_set (i := 6) sc_Lright.nd rfl (.inl rfl) (pe_call (ok_compared T) hr (by rfl) T.g_compared T.F_compared.kp T.b_compared .nil pass0 (pa_cons (pe_ix ix_tup (pv 5) pe_int (fun _ _ => rfl)) (pa_cons (pe_ix ix_tup (pv 5) pe_int (fun _ _ => rfl)) pa_nil))))
        (pss_one (ps_if (PW.pt (pw_or (pt_not (pt_val (pe_call (ok_Lwhole T) (hr.mono (by decide)) (by rfl) T.g_Lwhole T.F_Lwhole.kp T.b_Lwhole .nil pass0 (pa_cons (pv 6) pa_nil))))
          (pw_or (pt_cmpR op_ne (pv 6) (pe_call (ok_Lorder T) (hr.mono (by decide)) (by rfl) T.g_Lorder T.F_Lorder.kp T.b_Lorder .nil pass0 (pa_cons (pe_ix ix_tup (pv 4) pe_int (fun _ _ => rfl)) (pa_cons (pe_ix ix_tup (pv 4) pe_int (fun _ _ => rfl)) pa_nil))) (nomark _))
          (pw_or1 (pt_cmpR (op_neD hr.units) (pv 5) (pv 3) (nomark _)))))) (pss_one (ps_ret pe_bl)) pss_nil)))))
      (pss_one (ps_ret pe_bl)), ?_⟩
    refine ⟨.ref a, rfl, .ref b, rfl, (by show 2 ≤ sizeLine; decide), fun p1 n1 => ?_⟩
    have s1 : Same H (upd H p1 (.tup [.ref a, .ref b])) := same_upd n1
    have k1 : SqT K (upd H p1 (.tup [.ref a, .ref b])) p1 [.ref a, .ref b] := SqT.of upd_same
    generalize upd H p1 (.tup [.ref a, .ref b]) = H1 at s1 k1
    refine ⟨.ref t, rfl, (by show 2 ≤ sizeLine; decide), fun t1 n2 => ?_⟩
    have s2 : Same H1 (upd H1 t1 (.tup [.ref p1, .ref t])) := same_upd n2
    have k2 : SqT K (upd H1 t1 (.tup [.ref p1, .ref t])) t1 [.ref p1, .ref t] := SqT.of upd_same
    generalize upd H1 t1 (.tup [.ref p1, .ref t]) = H2 at s2 k2
    refine ⟨.ref b, rfl, .ref a, rfl, (by show 2 ≤ sizeLine; decide), fun p2 n3 => ?_⟩
    have s3 : Same H2 (upd H2 p2 (.tup [.ref b, .ref a])) := same_upd n3
    have k3 : SqT K (upd H2 p2 (.tup [.ref b, .ref a])) p2 [.ref b, .ref a] := SqT.of upd_same
    generalize upd H2 p2 (.tup [.ref b, .ref a]) = H3 at s3 k3
    have t3 := s1.trans (s2.trans s3)
    refine ⟨.ref t, rfl, t, _, _, rfl, seqT t3 hT, fun r n4 => ?_⟩
    have s4 : Same H3 (upd H3 r (.tup [.int (val ms), .int (val ns)])) := same_upd n4
    have k4 : SqT K (upd H3 r (.tup [.int (val ms), .int (val ns)])) r [.int (val ms), .int (val ns)] := SqT.of upd_same
    generalize upd H3 r (.tup [.int (val ms), .int (val ns)]) = H4 at s4 k4
    refine ⟨(by show 2 ≤ sizeLine; decide), fun t2 n5 => ?_⟩
    have s5 : Same H4 (upd H4 t2 (.tup [.ref p2, .ref r])) := same_upd n5
    have k5 : SqT K (upd H4 t2 (.tup [.ref p2, .ref r])) t2 [.ref p2, .ref r] := SqT.of upd_same
    generalize upd H4 t2 (.tup [.ref p2, .ref r]) = H5 at s5 k5
    refine ⟨(by show 2 ≤ sizeLine; decide), fun l n6 => ?_⟩
    have s6 : Same H5 (upd H5 l (.lst [.ref t1, .ref t2])) := same_upd n6
    have k6 : SqL K (upd H5 l (.lst [.ref t1, .ref t2])) l [.ref t1, .ref t2] := SqL.of upd_same
    generalize upd H5 l (.lst [.ref t1, .ref t2]) = H6 at s6 k6
    have u5 := s5.trans s6
    have u4 := s4.trans u5
    have u3 := s3.trans u4
    have u2 := s2.trans u3
    have u0 := t3.trans u4
    refine ⟨l, rfl, ⟨_, k6⟩, ?_⟩
    refine for_list (xs := [.ref t1, .ref t2]) (fun i σ H7 => Same H6 H7 ∧ ∃ y3 y4 y5 y6, σ = [some (.ref a), some (.ref b), some (.ref t), y3, y4, y5, y6]) ⟨Same.refl _, _, _, _, _, rfl⟩ (fun i σ H7 _ e => by exact e.1.seq k6) (fun i x σ H7 hx e => ?_) (fun σ H7 e => ?_)
    · obtain ⟨s7, y3, y4, y5, y6, rfl⟩ := e
      have one : ∃ (ti pi ri c d : Addr) (us vs : List Int), x = .ref ti ∧ SqT K H7 ti [.ref pi, .ref ri] ∧ SqT K H7 pi [.ref c, .ref d] ∧ SqT K H7 ri [.int (val us), .int (val vs)] ∧ RowAt K H7 c us ∧ RowAt K H7 d vs := by
        have hm : x ∈ [V.ref t1, .ref t2] := List.mem_of_getElem? hx
        rcases List.mem_cons.mp hm with h | hm
        · exact ⟨t1, p1, t, a, b, ns, ms, h, seqT (u3.trans s7) k2, seqT (u2.trans s7) k1, seqT (u0.trans s7) hT, hA.mono (u0.trans s7), hB.mono (u0.trans s7)⟩
        · exact ⟨t2, p2, r, b, a, ms, ns, List.mem_singleton.mp hm, seqT (s6.trans s7) k5, seqT (u4.trans s7) k3, seqT (u5.trans s7) k4, hB.mono (u0.trans s7), hA.mono (u0.trans s7)⟩
      obtain ⟨ti, pi, ri, c, d, us, vs, rfl, h1, h2, h3, h4, h5⟩ := one
      refine ⟨ti, _, rfl, h1, rfl, _, _, rfl, _, _, rfl, rfl, ?_⟩
      refine ⟨.ref pi, rfl, pi, _, 0, .ref c, rfl, rfl, h2, atI_nat (j := 0) rfl, c, us.map V.int, rfl, .inl h4.1, fun l1 m1 => ?_⟩
      have v1 : Same H7 (upd H7 l1 (.lst (us.map V.int))) := same_upd m1
      have w1 : SqL K (upd H7 l1 (.lst (us.map V.int))) l1 (us.map V.int) := SqL.of upd_same
      generalize upd H7 l1 (.lst (us.map V.int)) = H8 at v1 w1
      refine ⟨.ref pi, rfl, pi, _, 1, .ref d, rfl, rfl, seqT v1 h2, atI_nat (j := 1) rfl, d, vs.map V.int, rfl, .inl (v1.seq h5.1), fun l2 m2 => ?_⟩
      have v2 : Same H8 (upd H8 l2 (.lst (vs.map V.int))) := same_upd m2
      have w2 : SqL K (upd H8 l2 (.lst (vs.map V.int))) l2 (vs.map V.int) := SqL.of upd_same
      generalize upd H8 l2 (.lst (vs.map V.int)) = H9 at v2 w2
      refine ⟨(by show 2 ≤ sizeLine; decide), fun t3 m3 => ?_⟩
      have v3 : Same H9 (upd H9 t3 (.tup [.ref l1, .ref l2])) := same_upd m3
      have w3 : SqT K (upd H9 t3 (.tup [.ref l1, .ref l2])) t3 [.ref l1, .ref l2] := SqT.of upd_same
      generalize upd H9 t3 (.tup [.ref l1, .ref l2]) = H10 at v3 w3
      have r1 : RowAt K H10 l1 us := ⟨v3.seq (v2.seq w1), h4.2⟩
      have r2 : RowAt K H10 l2 vs := ⟨v3.seq w2, h5.2⟩
      have v13 := v1.trans (v2.trans v3)
      refine ⟨.ref t3, rfl, t3, _, 0, .ref l1, rfl, rfl, w3, atI_nat (j := 0) rfl, .ref t3, rfl, t3, _, 1, .ref l2, rfl, rfl, w3, atI_nat (j := 1) rfl, l1, l2, us, vs, rfl, r1, r2, fun H11 s11 => ?_⟩
      refine ⟨.int (cmpI (val us) (val vs)), rfl, _, rfl, plain_int _, _, rfl, ?_⟩
      refine iteF ?_
      have v14 := v13.trans s11
      refine ⟨.int (cmpI (val us) (val vs)), rfl, .ref ri, rfl, ri, _, 0, .int (val us), rfl, rfl, seqT v14 h3, atI_nat (j := 0) rfl, .ref ri, rfl, ri, _, 1, .int (val vs), rfl, rfl, seqT v14 h3, atI_nat (j := 1) rfl, val us, val vs, rfl, rfl, _, rfl, ?_⟩
      rw [decide_eq_true rfl]
      refine iteF ?_
      refine ⟨.ref t3, rfl, .ref pi, rfl, dT [us, vs], dT [us, vs], dp_tup (as := [l1, l2]) (seqT s11 w3) (.cons (s11.seq r1.1) (.cons (s11.seq r2.1) .nil)), dp_tup (as := [c, d]) (seqT v14 h2) (.cons (v14.seq h4.1) (.cons (v14.seq h5.1) .nil)), dT_shaped _, dT_shaped _, _, rfl, ?_⟩
      rw [dT_eqv, decide_eq_true rfl]
      exact iteF ⟨s7.trans v14, _, _, _, _, rfl⟩
    · obtain ⟨s7, y3, y4, y5, y6, rfl⟩ := e
      exact q H7 (u0.trans s7)
/-! ### the law -/
theorem if_num {b A P : Int → Prop} {c : Bool} (go : ∀ n, b n → P n) (hA : ∀ z, b z → c = true → (∀ n, b n → P n) → A z) : ∀ z, b z → if c = true then A z else P z := fun z hz => by
  by_cases h : c = true
  · rw [if_pos h]
    exact hA z hz h go
  · rw [if_neg h]
    exact go z hz
theorem sign_small (z : Int) : -(2 ^ 64 : Int) < 1 - 2 * (if decide (z < 0) = true then (1 : Int) else 0) ∧ 1 - 2 * (if decide (z < 0) = true then (1 : Int) else 0) < 2 ^ 64 := by
  split <;> omega
theorem cut_lt {z m : Int} {k : Nat} (h : 0 < m) (hm : m ≤ ((2 ^ k : Nat) : Int)) : ((if z < 0 then -z else z) % m * (1 - 2 * (if decide (z < 0) = true then (1 : Int) else 0))).natAbs < 2 ^ k := by
  have h1 := Int.emod_nonneg (if z < 0 then -z else z) (show m ≠ 0 by omega)
  have h2 := Int.emod_lt_of_pos (if z < 0 then -z else z) h
  generalize (if z < 0 then -z else z) % m = r at h1 h2
  generalize 2 ^ k = P at hm
  split <;> omega
theorem near_lt {z n : Int} {k : Nat} (hn : n.natAbs < 2 ^ k) (h : z = 0 ∨ z = 1 ∨ z = -1 ∨ (-4 ≤ z ∧ z ≤ 4) ∨ z = 0 - 2 * n) : (n + z).natAbs < 2 ^ (k + 3) := by
  have e : 2 ^ (k + 3) = 8 * 2 ^ k := by rw [Nat.pow_add]; omega
  have p : 1 ≤ 2 ^ k := Nat.pow_pos (by decide)
  omega
def sp_law (K : PySem.W.Frag) : Sp := fun vs H Q _ => ∃ (a : Addr) (ns : List Int), vs = [.ref a] ∧ SqL K H a (ns.map V.int) ∧ ns.length ≤ 63 ∧ ∀ H', Q (.bl true) H'
theorem ok_law_at (T : Txt K mg) {f : Addr} {fd : FuncData} (F : Fun K "law" "law" t_law f fd) (b : Binds K fd p_law []) : FnOk P w K mg base CX0 8 f fd p_law (sp_law K) := by
  refine F.ok sc_law (fun vs H Q E h => ?_) (fun cdv A outer s H vs Q E hr h => ?_)
  · obtain ⟨_, _, rfl, _⟩ := h
    rfl
  · obtain ⟨a, ns, rfl, hS, hlen, q⟩ := h
    refine ⟨_, pss_cons (ps_set (i := 1) sc_law.nd rfl (.inl rfl) pe_int)
      (pss_cons (ps_for PassesOwn.never rfl (pi_enum (by rfl) T.z_enumerate (pa_cons (pe_op op_catS (pv 0) (pe_lst (pa_cons pe_int pa_nil))) pa_nil)) (pg_tup rfl (pgs_cons (pg_name (i := 2) sc_law.nd rfl (.inl rfl)) (pgs_cons (pg_name (i := 3) sc_law.nd rfl (.inl rfl)) pgs_nil)))
        (pss_cons (ps_set (i := 4) sc_law.nd rfl (.inl rfl) (pe_call (ok_Lnumber T) (hr.mono (by decide)) (by rfl) T.g_Lnumber T.F_Lnumber.kp T.b_Lnumber .nil pass0 (pa_cons (pv 3) pa_nil)))
        (pss_cons (ps_set (i := 5) sc_law.nd rfl (.inl rfl) (pe_call (ok_Lmixed T) (hr.mono (by decide)) (by rfl) T.g_Lmixed T.F_Lmixed.kp T.b_Lmixed .nil pass0 (pa_cons (pv 3) (pa_cons (pe_op op_mod (pv 2) pe_int) pa_nil))))
        (pss_cons (ps_if (pt_cmpR op_gt (pv 2) pe_int (nomark _)) (pss_one (ps_set (i := 4) sc_law.nd rfl (.inl rfl) (pe_op op_mul (pe_op op_mod (pe_callB call_abs (by rfl) T.z_abs (by decide +kernel) (pa_cons (pv 4) pa_nil)) (pe_op op_add (pe_op op_pow pe_int pe_int) pe_int))
            (pe_op op_sub pe_int (pe_op op_mul pe_int (pe_callTy call_int1 (by rfl) T.z_int (by decide +kernel) (pa_cons (pe_cmpR op_lt (pv 4) pe_int (nomark _)) pa_nil)))))) ) pss_nil)
        (pss_cons (ps_set (i := 6) sc_law.nd rfl (.inl rfl) (pe_op op_add (pv 4) (pe_ix ix_list (pe_lst (pa_cons pe_int (pa_cons pe_int (pa_cons (pe_un un_neg pe_int) (pa_cons (pe_op op_sub (pe_op op_mod (pv 5) pe_int) pe_int)
            (pa_cons (pe_op op_sub pe_int (pe_op op_mul pe_int (pv 4))) pa_nil)))))) (pe_op op_mod (pe_op op_fdiv (pv 5) pe_int) pe_int) (fun _ _ => rfl))))
        (pss_cons (ps_set (i := 7) sc_law.nd rfl (.inl rfl) (pe_call (ok_Lrow T) (hr.mono (by decide)) (by rfl) T.g_Lrow T.F_Lrow.kp T.b_Lrow .nil pass0 (pa_cons (pv 4) (pa_cons (pv 5) pa_nil))))
        (pss_cons (ps_if (pt_not (pt_val (pe_call (ok_Lright T) hr (by rfl) T.g_Lright T.F_Lright.kp T.b_Lright .nil pass0 (pa_cons (pv 7) (pa_cons (pe_call (ok_Lrow T) (hr.mono (by decide)) (by rfl) T.g_Lrow T.F_Lrow.kp T.b_Lrow .nil pass0 (pa_cons (pv 6) (pa_cons (pe_op op_fdiv (pv 5) pe_int) pa_nil)))
            (pa_cons (pe_tup (pa_cons (pv 4) (pa_cons (pv 6) pa_nil))) pa_nil)))))) (pss_one (ps_ret pe_bl)) pss_nil)
        (pss_cons (ps_if (PW.pt (pw_or (pt_not (pt_val (pe_call (ok_Lright T) hr (by rfl) T.g_Lright T.F_Lright.kp T.b_Lright .nil pass0 (pa_cons (pv 7) (pa_cons (pe_call (ok_Lrow T) (hr.mono (by decide)) (by rfl) T.g_Lrow T.F_Lrow.kp T.b_Lrow .nil pass0 (pa_cons (pv 1) (pa_cons (pe_op op_fdiv (pv 5) pe_int) pa_nil)))
            (pa_cons (pe_tup (pa_cons (pv 4) (pa_cons (pv 1) pa_nil))) pa_nil))))))
          (pw_or1 (pt_not (pt_val (pe_call (ok_Lright T) hr (by rfl) T.g_Lright T.F_Lright.kp T.b_Lright .nil pass0 (pa_cons (pv 7) (pa_cons (pe_lst pa_nil) (pa_cons (pe_tup (pa_cons (pv 4) (pa_cons pe_int pa_nil))) pa_nil))))))))) (pss_one (ps_ret pe_bl)) pss_nil)
        (pss_cons (ps_if (pt_not (pt_val (pe_call (ok_Lright T) hr (by rfl) T.g_Lright T.F_Lright.kp T.b_Lright .nil pass0 (pa_cons (pv 7) (pa_cons (pe_call (ok_Lrow T) (hr.mono (by decide)) (by rfl) T.g_Lrow T.F_Lrow.kp T.b_Lrow .nil pass0 (pa_cons (pv 4) (pa_cons (pe_op op_fdiv (pv 5) pe_int) pa_nil)))
            (pa_cons (pe_tup (pa_cons (pv 4) (pa_cons (pv 4) pa_nil))) pa_nil)))))) (pss_one (ps_ret pe_bl)) pss_nil)
        (pss_one (ps_set (i := 1) sc_law.nd rfl (.inl rfl) (pv 4))))))))))))
      (pss_one (ps_ret (pe_cmpR op_eq (pe_call (ok_compared T) (hr.mono (by decide)) (by rfl) T.g_compared T.F_compared.kp T.b_compared .nil pass0 (pa_cons (pe_lst pa_nil) (pa_cons (pe_lst pa_nil) pa_nil))) pe_int (nomark _))))), ?_⟩
    have e0 : Row [] := ⟨(fun _ hm => nomatch hm), fun z => nomatch z⟩
    refine ⟨.ref a, rfl, small_ok (by simp), fun l nl => ?_⟩
    have s1 : Same H (upd H l (.lst [.int 2])) := same_upd nl
    have el : SqL K (upd H l (.lst [.int 2])) l [.int 2] := SqL.of upd_same
    generalize upd H l (.lst [.int 2]) = H1 at s1 el
    have lm : (ns.map V.int).length = ns.length := List.length_map ..
    refine ⟨a, l, ns.map V.int, [.int 2], rfl, rfl, s1.seq hS, el, small_ok (by rw [lm]; show ns.length + 1 ≤ 64; omega), fun m nm => ?_⟩
    have s2 : Same H1 (upd H1 m (.lst (ns.map V.int ++ [.int 2]))) := same_upd nm
    have em : SqL K (upd H1 m (.lst (ns.map V.int ++ [.int 2]))) m ((ns ++ [2]).map V.int) := by
      rw [List.map_append]
      exact SqL.of upd_same
    generalize upd H1 m (.lst (ns.map V.int ++ [.int 2])) = H2 at s2 em
    refine ⟨m, _, rfl, em, ?_⟩
    refine for_enum (xs := (ns ++ [2]).map V.int) (fun i σ H3 => Same H2 H3 ∧ ∃ last y2 y3 y4 y5 y6 y7, last.natAbs < 2 ^ 210 ∧ σ = [some (.ref a), some (.int last), y2, y3, y4, y5, y6, y7]) ⟨Same.refl _, 0, _, _, _, _, _, _, by decide +kernel, rfl⟩ (fun i σ H3 e => by exact e.1.seq em) (fun i x t σ H3 hx e nt => ?_) (fun σ H3 e => ?_)
    · obtain ⟨s3, last, y2, y3, y4, y5, y6, y7, hlast, rfl⟩ := e
      obtain ⟨c, _, rfl⟩ := List.mem_map.mp (List.mem_of_getElem? hx)
      have s4 : Same H3 (upd H3 t (.tup [.int ((i : Nat) : Int), .int c])) := same_upd nt
      refine ⟨t, _, rfl, SqT.of upd_same, rfl, _, _, rfl, _, _, rfl, rfl, ?_⟩
      generalize upd H3 t (.tup [.int ((i : Nat) : Int), .int c]) = H4 at s4
      refine ⟨.int c, rfl, c, rfl, fun H5 z s5 hz => ?_⟩
      refine ⟨.int c, rfl, .int i, rfl, _, _, rfl, rfl, (by show (0 : Int) < 64; decide), c, (i : Int) % 64, rfl, by omega, by omega, ?_⟩
      obtain ⟨m0, m1⟩ := mixd_b c ((i : Int) % 64)
      generalize mixd c ((i : Int) % 64) = M at m0 m1
      have s35 := s3.trans (s4.trans s5)
      clear s5
      refine ⟨.int i, rfl, _, _, rfl, rfl, _, rfl, ?_⟩
      show ite _ _ _
      revert z
      refine if_num (fun n hn => ?_) (fun z hz c1 go => ?_)
      · have near : ∃ d : Int, (d = 0 ∨ d = 1 ∨ d = -1 ∨ (-4 ≤ d ∧ d ≤ 4) ∨ d = 0 - 2 * n) ∧ atI [V.int 0, .int 1, .int (-1), .int (M % 9 - 4), .int (0 - 2 * n)] (M / 9 % 5) = some (.int d) := by
          have cc : M / 9 % 5 = ((0 : Nat) : Int) ∨ M / 9 % 5 = ((1 : Nat) : Int) ∨ M / 9 % 5 = ((2 : Nat) : Int) ∨ M / 9 % 5 = ((3 : Nat) : Int) ∨ M / 9 % 5 = ((4 : Nat) : Int) := by omega
          rcases cc with e | e | e | e | e <;> rw [e]
          · exact ⟨0, by omega, atI_nat rfl⟩
          · exact ⟨1, by omega, atI_nat rfl⟩
          · exact ⟨-1, by omega, atI_nat rfl⟩
          · exact ⟨M % 9 - 4, by omega, atI_nat rfl⟩
          · exact ⟨0 - 2 * n, by omega, atI_nat rfl⟩
        obtain ⟨d, hd, hat⟩ := near
        have nd := near_lt hn hd
        refine ⟨.int n, rfl, 1, rfl, .int M, rfl, _, _, rfl, rfl, (by show (0 : Int) < 9; decide), _, _, rfl, rfl, .int n, rfl, _, _, rfl, rfl, .inl (by show -(2 ^ 64 : Int) < 2 ∧ (2 : Int) < 2 ^ 64; decide), _, _, rfl, rfl, small_ok (by simp), fun o no => ?_⟩
        have s6 : Same H5 (upd H5 o (.lst [.int 0, .int 1, .int (-1), .int (M % 9 - 4), .int (0 - 2 * n)])) := same_upd no
        have k6 : SqL K (upd H5 o (.lst [.int 0, .int 1, .int (-1), .int (M % 9 - 4), .int (0 - 2 * n)])) o [.int 0, .int 1, .int (-1), .int (M % 9 - 4), .int (0 - 2 * n)] := SqL.of upd_same
        refine ⟨.int M, rfl, _, _, rfl, rfl, ⟨by decide, by decide⟩, _, _, rfl, rfl, (by show (0 : Int) < 5; decide), o, _, M / 9 % 5, .int d, rfl, rfl, k6, hat, n, d, rfl, rfl, ?_⟩
        generalize upd H5 o (.lst [.int 0, .int 1, .int (-1), .int (M % 9 - 4), .int (0 - 2 * n)]) = H6 at s6 k6
        refine ⟨.int n, rfl, .int M, rfl, n, M, 210, rfl, hn, by decide, fun H7 p rs s7 np rr rv rl ep => ?_⟩
        have rP : RowAt K H7 p rs := ⟨SqL.of ep, rr, by omega⟩
        refine ⟨.ref p, rfl, .int (n + d), rfl, .int M, rfl, _, _, rfl, rfl, ⟨by decide, by decide⟩, n + d, M / 3, 213, rfl, nd, by decide, fun H8 p2 r2 s8 np2 rr2 rv2 rl2 ep2 => ?_⟩
        refine ⟨.int n, rfl, .int (n + d), rfl, (by show 2 ≤ sizeLine; decide), fun t1 nt1 => ?_⟩
        have s9 : Same H8 (upd H8 t1 (.tup [.int n, .int (n + d)])) := same_upd nt1
        have k9 : SqT K (upd H8 t1 (.tup [.int n, .int (n + d)])) t1 [.int n, .int (n + d)] := SqT.of upd_same
        generalize upd H8 t1 (.tup [.int n, .int (n + d)]) = H9 at s9 k9
        have rP2 : RowAt K H9 p2 r2 := ⟨s9.seq (SqL.of ep2), rr2, by omega⟩
        have t9 := s8.trans s9
        refine ⟨p, p2, t1, rs, r2, rfl, rP.mono t9, rP2, by rw [rv, rv2]; exact k9, fun H10 s10 => ⟨true, rfl, ?_⟩⟩
        refine iteF ?_
        have t10 := t9.trans s10
        refine ⟨.ref p, rfl, .int last, rfl, .int M, rfl, _, _, rfl, rfl, ⟨by decide, by decide⟩, last, M / 5, 210, rfl, hlast, by decide, fun H11 p3 r3 s11 np3 rr3 rv3 rl3 ep3 => ?_⟩
        refine ⟨.int n, rfl, .int last, rfl, (by show 2 ≤ sizeLine; decide), fun t2 nt2 => ?_⟩
        have s12 : Same H11 (upd H11 t2 (.tup [.int n, .int last])) := same_upd nt2
        have k12 : SqT K (upd H11 t2 (.tup [.int n, .int last])) t2 [.int n, .int last] := SqT.of upd_same
        generalize upd H11 t2 (.tup [.int n, .int last]) = H12 at s12 k12
        have rP3 : RowAt K H12 p3 r3 := ⟨s12.seq (SqL.of ep3), rr3, by omega⟩
        have t12 := t10.trans (s11.trans s12)
        refine ⟨p, p3, t2, rs, r3, rfl, rP.mono t12, rP3, by rw [rv, rv3]; exact k12, fun H13 s13 => ⟨true, rfl, ?_⟩⟩
        refine iteF ?_
        have t13 := t12.trans s13
        refine ⟨.ref p, rfl, Nat.zero_le _, fun l4 nl4 => ?_⟩
        have s14 : Same H13 (upd H13 l4 (.lst [])) := same_upd nl4
        have k14 : RowAt K (upd H13 l4 (.lst [])) l4 [] := ⟨SqL.of upd_same, e0, Nat.zero_le _⟩
        generalize upd H13 l4 (.lst []) = H14 at s14 k14
        refine ⟨.int n, rfl, (by show 2 ≤ sizeLine; decide), fun t3 nt3 => ?_⟩
        have s15 : Same H14 (upd H14 t3 (.tup [.int n, .int 0])) := same_upd nt3
        have k15 : SqT K (upd H14 t3 (.tup [.int n, .int 0])) t3 [.int n, .int 0] := SqT.of upd_same
        generalize upd H14 t3 (.tup [.int n, .int 0]) = H15 at s15 k15
        have t15 := t13.trans (s14.trans s15)
        refine ⟨p, l4, t3, rs, [], rfl, rP.mono t15, k14.mono s15, by rw [rv]; exact k15, fun H16 s16 => ⟨true, rfl, ?_⟩⟩
        refine iteF ?_
        have t16 := t15.trans s16
        refine ⟨.ref p, rfl, .int n, rfl, .int M, rfl, _, _, rfl, rfl, ⟨by decide, by decide⟩, n, M / 7, 210, rfl, hn, by decide, fun H17 p5 r5 s17 np5 rr5 rv5 rl5 ep5 => ?_⟩
        refine ⟨.int n, rfl, .int n, rfl, (by show 2 ≤ sizeLine; decide), fun t4 nt4 => ?_⟩
        have s18 : Same H17 (upd H17 t4 (.tup [.int n, .int n])) := same_upd nt4
        have k18 : SqT K (upd H17 t4 (.tup [.int n, .int n])) t4 [.int n, .int n] := SqT.of upd_same
        generalize upd H17 t4 (.tup [.int n, .int n]) = H18 at s18 k18
        have rP5 : RowAt K H18 p5 r5 := ⟨s18.seq (SqL.of ep5), rr5, by omega⟩
        have t18 := t16.trans (s17.trans s18)
        refine ⟨p, p5, t4, rs, r5, rfl, rP.mono t18, rP5, by rw [rv, rv5]; exact k18, fun H19 s19 => ⟨true, rfl, ?_⟩⟩
        refine iteF ?_
        exact ⟨.int n, rfl, s35.trans (s6.trans (s7.trans (t18.trans s19))), n, _, _, _, _, _, _, hn, rfl⟩
      · refine ⟨.int z, rfl, z, rfl, _, _, rfl, rfl, ⟨by decide, by decide, by decide⟩, _, _, rfl, rfl, _, _, rfl, rfl, (by show (0 : Int) < 10 ^ (9 : Int).toNat + 7; decide), .int z, rfl, _, _, rfl, rfl, .inr ⟨_, rfl, _, _, rfl, rfl, .inl (by show -(2 ^ 64 : Int) < 2 ∧ (2 : Int) < 2 ^ 64; decide), _, _, rfl, rfl, _, _, rfl, rfl, .inr (sign_small z), ?_⟩⟩
        exact go _ (cut_lt (by decide) (by decide +kernel))
    · obtain ⟨s3, last, y2, y3, y4, y5, y6, y7, hlast, rfl⟩ := e
      refine ⟨Nat.zero_le _, fun p np => ?_⟩
      have s4 : Same H3 (upd H3 p (.lst [])) := same_upd np
      have k4 : RowAt K (upd H3 p (.lst [])) p [] := ⟨SqL.of upd_same, e0, Nat.zero_le _⟩
      generalize upd H3 p (.lst []) = H4 at s4 k4
      refine ⟨Nat.zero_le _, fun o no => ?_⟩
      have s5 : Same H4 (upd H4 o (.lst [])) := same_upd no
      have k5 : RowAt K (upd H4 o (.lst [])) o [] := ⟨SqL.of upd_same, e0, Nat.zero_le _⟩
      generalize upd H4 o (.lst []) = H5 at s5 k5
      refine ⟨p, o, [], [], rfl, k4.mono s5, k5, fun H6 s6 => ⟨rfl, ?_⟩⟩
      exact q H6
end
/-! ### what the top has written; the law's own head -/
theorem all_mk {l : PySem.W.OpenLaw} {w : World} {K : PySem.W.Frag} {h : Heap} {mg : Str → Option Value} {fa : Addr} (X : K.In h) (G : h.Ns mainGlobals mg) (hfa : mg "law" = some (.ref fa))
    {f_is_whole : Addr} {od_is_whole an_is_whole : Option Addr} {sl_is_whole : Array (Option Value)} {oc_is_whole kV_is_whole dc_is_whole pm_is_whole cd_is_whole ct_is_whole : Value}
    (a_is_whole : PySem.W.nsIn K mainGlobals "is_whole" = some (some (.ref f_is_whole)))
    (l_is_whole : K.lookup f_is_whole = some ⟨oc_is_whole, od_is_whole, .func (PySem.W.fnOf "is_whole" "is_whole" (defArgs t_is_whole) (defBody t_is_whole) (defScope t_is_whole) .none kV_is_whole dc_is_whole pm_is_whole an_is_whole cd_is_whole ct_is_whole), sl_is_whole⟩)
    (c_is_whole : PySem.W.codeIn K cd_is_whole "is_whole" = true) (k_is_whole : PySem.W.keepIn K (.ref f_is_whole) = true)
    {f_is_figure : Addr} {od_is_figure an_is_figure : Option Addr} {sl_is_figure : Array (Option Value)} {oc_is_figure kV_is_figure dc_is_figure pm_is_figure cd_is_figure ct_is_figure : Value}
    (a_is_figure : PySem.W.nsIn K mainGlobals "is_figure" = some (some (.ref f_is_figure)))
    (l_is_figure : K.lookup f_is_figure = some ⟨oc_is_figure, od_is_figure, .func (PySem.W.fnOf "is_figure" "is_figure" (defArgs t_is_figure) (defBody t_is_figure) (defScope t_is_figure) .none kV_is_figure dc_is_figure pm_is_figure an_is_figure cd_is_figure ct_is_figure), sl_is_figure⟩)
    (c_is_figure : PySem.W.codeIn K cd_is_figure "is_figure" = true) (k_is_figure : PySem.W.keepIn K (.ref f_is_figure) = true)
    {f_is_row : Addr} {od_is_row an_is_row : Option Addr} {sl_is_row : Array (Option Value)} {oc_is_row kV_is_row dc_is_row pm_is_row cd_is_row ct_is_row : Value}
    (a_is_row : PySem.W.nsIn K mainGlobals "is_row" = some (some (.ref f_is_row)))
    (l_is_row : K.lookup f_is_row = some ⟨oc_is_row, od_is_row, .func (PySem.W.fnOf "is_row" "is_row" (defArgs t_is_row) (defBody t_is_row) (defScope t_is_row) .none kV_is_row dc_is_row pm_is_row an_is_row cd_is_row ct_is_row), sl_is_row⟩)
    (c_is_row : PySem.W.codeIn K cd_is_row "is_row" = true) (k_is_row : PySem.W.keepIn K (.ref f_is_row) = true)
    {f_refuse_no_row : Addr} {od_refuse_no_row an_refuse_no_row : Option Addr} {sl_refuse_no_row : Array (Option Value)} {oc_refuse_no_row kV_refuse_no_row dc_refuse_no_row pm_refuse_no_row cd_refuse_no_row ct_refuse_no_row : Value}
    (a_refuse_no_row : PySem.W.nsIn K mainGlobals "refuse_no_row" = some (some (.ref f_refuse_no_row)))
    (l_refuse_no_row : K.lookup f_refuse_no_row = some ⟨oc_refuse_no_row, od_refuse_no_row, .func (PySem.W.fnOf "refuse_no_row" "refuse_no_row" (defArgs t_refuse_no_row) (defBody t_refuse_no_row) (defScope t_refuse_no_row) .none kV_refuse_no_row dc_refuse_no_row pm_refuse_no_row an_refuse_no_row cd_refuse_no_row ct_refuse_no_row), sl_refuse_no_row⟩)
    (c_refuse_no_row : PySem.W.codeIn K cd_refuse_no_row "refuse_no_row" = true) (k_refuse_no_row : PySem.W.keepIn K (.ref f_refuse_no_row) = true)
    {f_worth : Addr} {od_worth an_worth : Option Addr} {sl_worth : Array (Option Value)} {oc_worth kV_worth dc_worth pm_worth cd_worth ct_worth : Value}
    (a_worth : PySem.W.nsIn K mainGlobals "worth" = some (some (.ref f_worth)))
    (l_worth : K.lookup f_worth = some ⟨oc_worth, od_worth, .func (PySem.W.fnOf "worth" "worth" (defArgs t_worth) (defBody t_worth) (defScope t_worth) .none kV_worth dc_worth pm_worth an_worth cd_worth ct_worth), sl_worth⟩)
    (c_worth : PySem.W.codeIn K cd_worth "worth" = true) (k_worth : PySem.W.keepIn K (.ref f_worth) = true)
    {f_marked : Addr} {od_marked an_marked : Option Addr} {sl_marked : Array (Option Value)} {oc_marked kV_marked dc_marked pm_marked cd_marked ct_marked : Value}
    (a_marked : PySem.W.nsIn K mainGlobals "marked" = some (some (.ref f_marked)))
    (l_marked : K.lookup f_marked = some ⟨oc_marked, od_marked, .func (PySem.W.fnOf "marked" "marked" (defArgs t_marked) (defBody t_marked) (defScope t_marked) .none kV_marked dc_marked pm_marked an_marked cd_marked ct_marked), sl_marked⟩)
    (c_marked : PySem.W.codeIn K cd_marked "marked" = true) (k_marked : PySem.W.keepIn K (.ref f_marked) = true)
    {f_compared : Addr} {od_compared an_compared : Option Addr} {sl_compared : Array (Option Value)} {oc_compared kV_compared dc_compared pm_compared cd_compared ct_compared : Value}
    (a_compared : PySem.W.nsIn K mainGlobals "compared" = some (some (.ref f_compared)))
    (l_compared : K.lookup f_compared = some ⟨oc_compared, od_compared, .func (PySem.W.fnOf "compared" "compared" (defArgs t_compared) (defBody t_compared) (defScope t_compared) .none kV_compared dc_compared pm_compared an_compared cd_compared ct_compared), sl_compared⟩)
    (c_compared : PySem.W.codeIn K cd_compared "compared" = true) (k_compared : PySem.W.keepIn K (.ref f_compared) = true)
    {f_Lmixed : Addr} {od_Lmixed an_Lmixed : Option Addr} {sl_Lmixed : Array (Option Value)} {oc_Lmixed kV_Lmixed dc_Lmixed pm_Lmixed cd_Lmixed ct_Lmixed : Value}
    (a_Lmixed : PySem.W.nsIn K mainGlobals "_law_mixed" = some (some (.ref f_Lmixed)))
    (l_Lmixed : K.lookup f_Lmixed = some ⟨oc_Lmixed, od_Lmixed, .func (PySem.W.fnOf "_law_mixed" "_law_mixed" (defArgs t_Lmixed) (defBody t_Lmixed) (defScope t_Lmixed) .none kV_Lmixed dc_Lmixed pm_Lmixed an_Lmixed cd_Lmixed ct_Lmixed), sl_Lmixed⟩)
    (c_Lmixed : PySem.W.codeIn K cd_Lmixed "_law_mixed" = true) (k_Lmixed : PySem.W.keepIn K (.ref f_Lmixed) = true)
    {f_Lwhole : Addr} {od_Lwhole an_Lwhole : Option Addr} {sl_Lwhole : Array (Option Value)} {oc_Lwhole kV_Lwhole dc_Lwhole pm_Lwhole cd_Lwhole ct_Lwhole : Value}
    (a_Lwhole : PySem.W.nsIn K mainGlobals "_law_whole" = some (some (.ref f_Lwhole)))
    (l_Lwhole : K.lookup f_Lwhole = some ⟨oc_Lwhole, od_Lwhole, .func (PySem.W.fnOf "_law_whole" "_law_whole" (defArgs t_Lwhole) (defBody t_Lwhole) (defScope t_Lwhole) .none kV_Lwhole dc_Lwhole pm_Lwhole an_Lwhole cd_Lwhole ct_Lwhole), sl_Lwhole⟩)
    (c_Lwhole : PySem.W.codeIn K cd_Lwhole "_law_whole" = true) (k_Lwhole : PySem.W.keepIn K (.ref f_Lwhole) = true)
    {f_Lnumber : Addr} {od_Lnumber an_Lnumber : Option Addr} {sl_Lnumber : Array (Option Value)} {oc_Lnumber kV_Lnumber dc_Lnumber pm_Lnumber cd_Lnumber ct_Lnumber : Value}
    (a_Lnumber : PySem.W.nsIn K mainGlobals "_law_number" = some (some (.ref f_Lnumber)))
    (l_Lnumber : K.lookup f_Lnumber = some ⟨oc_Lnumber, od_Lnumber, .func (PySem.W.fnOf "_law_number" "_law_number" (defArgs t_Lnumber) (defBody t_Lnumber) (defScope t_Lnumber) .none kV_Lnumber dc_Lnumber pm_Lnumber an_Lnumber cd_Lnumber ct_Lnumber), sl_Lnumber⟩)
    (c_Lnumber : PySem.W.codeIn K cd_Lnumber "_law_number" = true) (k_Lnumber : PySem.W.keepIn K (.ref f_Lnumber) = true)
    {f_Lrow : Addr} {od_Lrow an_Lrow : Option Addr} {sl_Lrow : Array (Option Value)} {oc_Lrow kV_Lrow dc_Lrow pm_Lrow cd_Lrow ct_Lrow : Value}
    (a_Lrow : PySem.W.nsIn K mainGlobals "_law_row" = some (some (.ref f_Lrow)))
    (l_Lrow : K.lookup f_Lrow = some ⟨oc_Lrow, od_Lrow, .func (PySem.W.fnOf "_law_row" "_law_row" (defArgs t_Lrow) (defBody t_Lrow) (defScope t_Lrow) .none kV_Lrow dc_Lrow pm_Lrow an_Lrow cd_Lrow ct_Lrow), sl_Lrow⟩)
    (c_Lrow : PySem.W.codeIn K cd_Lrow "_law_row" = true) (k_Lrow : PySem.W.keepIn K (.ref f_Lrow) = true)
    {f_Lorder : Addr} {od_Lorder an_Lorder : Option Addr} {sl_Lorder : Array (Option Value)} {oc_Lorder kV_Lorder dc_Lorder pm_Lorder cd_Lorder ct_Lorder : Value}
    (a_Lorder : PySem.W.nsIn K mainGlobals "_law_order" = some (some (.ref f_Lorder)))
    (l_Lorder : K.lookup f_Lorder = some ⟨oc_Lorder, od_Lorder, .func (PySem.W.fnOf "_law_order" "_law_order" (defArgs t_Lorder) (defBody t_Lorder) (defScope t_Lorder) .none kV_Lorder dc_Lorder pm_Lorder an_Lorder cd_Lorder ct_Lorder), sl_Lorder⟩)
    (c_Lorder : PySem.W.codeIn K cd_Lorder "_law_order" = true) (k_Lorder : PySem.W.keepIn K (.ref f_Lorder) = true)
    {f_Lright : Addr} {od_Lright an_Lright : Option Addr} {sl_Lright : Array (Option Value)} {oc_Lright kV_Lright dc_Lright pm_Lright cd_Lright ct_Lright : Value}
    (a_Lright : PySem.W.nsIn K mainGlobals "_law_right" = some (some (.ref f_Lright)))
    (l_Lright : K.lookup f_Lright = some ⟨oc_Lright, od_Lright, .func (PySem.W.fnOf "_law_right" "_law_right" (defArgs t_Lright) (defBody t_Lright) (defScope t_Lright) .none kV_Lright dc_Lright pm_Lright an_Lright cd_Lright ct_Lright), sl_Lright⟩)
    (c_Lright : PySem.W.codeIn K cd_Lright "_law_right" = true) (k_Lright : PySem.W.keepIn K (.ref f_Lright) = true)
    {f_law : Addr} {od_law an_law : Option Addr} {sl_law : Array (Option Value)} {oc_law kV_law dc_law pm_law cd_law ct_law : Value}
    (a_law : PySem.W.nsIn K mainGlobals "law" = some (some (.ref f_law)))
    (l_law : K.lookup f_law = some ⟨oc_law, od_law, .func (PySem.W.fnOf "law" "law" (defArgs t_law) (defBody t_law) (defScope t_law) .none kV_law dc_law pm_law an_law cd_law ct_law), sl_law⟩)
    (c_law : PySem.W.codeIn K cd_law "law" = true) (k_law : PySem.W.keepIn K (.ref f_law) = true)
    (z_isinstance : PySem.W.nsIn K mainGlobals "isinstance" = some none)
    (z_int : PySem.W.nsIn K mainGlobals "int" = some none)
    (z_bool : PySem.W.nsIn K mainGlobals "bool" = some none)
    (z_list : PySem.W.nsIn K mainGlobals "list" = some none)
    (z_all : PySem.W.nsIn K mainGlobals "all" = some none)
    (z_len : PySem.W.nsIn K mainGlobals "len" = some none)
    (z_reversed : PySem.W.nsIn K mainGlobals "reversed" = some none)
    (z_range : PySem.W.nsIn K mainGlobals "range" = some none)
    (z_abs : PySem.W.nsIn K mainGlobals "abs" = some none)
    (z_enumerate : PySem.W.nsIn K mainGlobals "enumerate" = some none)
    {C_LeanError : Addr} (x_LeanError : PySem.W.nsIn K mainGlobals "LeanError" = some (some (.ref C_LeanError)))
    {C_NoRow : Addr} (x_NoRow : PySem.W.nsIn K mainGlobals "NoRow" = some (some (.ref C_NoRow)))
    (dg : PySem.W.nsIn K cStatics "sys.int_max_str_digits" = some none) :
    ∃ fd : FuncData, (∀ (s : Shared) (v : Value), BindsTo s fd ⟨[v], []⟩ [("_law_script", v)]) ∧ ∀ base : Heap, K.In base → base.Ns mainGlobals mg → FnOk l.prog w K mg base CX0 8 fa fd p_law (sp_law K) := by
  have e := hfa.symm.trans (PySem.W.mg_of X G a_law)
  cases e
  have F_is_whole := fun_mk (st := t_is_whole) l_is_whole c_is_whole k_is_whole
  have b_is_whole := F_is_whole.binds (ps := p_is_whole) fun _ _ _ _ _ _ us hl => match us, hl with | [_], _ => rfl
  have F_is_figure := fun_mk (st := t_is_figure) l_is_figure c_is_figure k_is_figure
  have b_is_figure := F_is_figure.binds (ps := p_is_figure) fun _ _ _ _ _ _ us hl => match us, hl with | [_], _ => rfl
  have F_is_row := fun_mk (st := t_is_row) l_is_row c_is_row k_is_row
  have b_is_row := F_is_row.binds (ps := p_is_row) fun _ _ _ _ _ _ us hl => match us, hl with | [_], _ => rfl
  have F_refuse_no_row := fun_mk (st := t_refuse_no_row) l_refuse_no_row c_refuse_no_row k_refuse_no_row
  have b_refuse_no_row := F_refuse_no_row.binds (ps := p_refuse_no_row) fun _ _ _ _ _ _ us hl => match us, hl with | [_], _ => rfl
  have F_worth := fun_mk (st := t_worth) l_worth c_worth k_worth
  have b_worth := F_worth.binds (ps := p_worth) fun _ _ _ _ _ _ us hl => match us, hl with | [_], _ => rfl
  have F_marked := fun_mk (st := t_marked) l_marked c_marked k_marked
  have b_marked := F_marked.binds (ps := p_marked) fun _ _ _ _ _ _ us hl => match us, hl with | [_, _], _ => rfl
  have F_compared := fun_mk (st := t_compared) l_compared c_compared k_compared
  have b_compared := F_compared.binds (ps := p_compared) fun _ _ _ _ _ _ us hl => match us, hl with | [_, _], _ => rfl
  have F_Lmixed := fun_mk (st := t_Lmixed) l_Lmixed c_Lmixed k_Lmixed
  have b_Lmixed := F_Lmixed.binds (ps := p_Lmixed) fun _ _ _ _ _ _ us hl => match us, hl with | [_, _], _ => rfl
  have F_Lwhole := fun_mk (st := t_Lwhole) l_Lwhole c_Lwhole k_Lwhole
  have b_Lwhole := F_Lwhole.binds (ps := p_Lwhole) fun _ _ _ _ _ _ us hl => match us, hl with | [_], _ => rfl
  have F_Lnumber := fun_mk (st := t_Lnumber) l_Lnumber c_Lnumber k_Lnumber
  have b_Lnumber := F_Lnumber.binds (ps := p_Lnumber) fun _ _ _ _ _ _ us hl => match us, hl with | [_], _ => rfl
  have F_Lrow := fun_mk (st := t_Lrow) l_Lrow c_Lrow k_Lrow
  have b_Lrow := F_Lrow.binds (ps := p_Lrow) fun _ _ _ _ _ _ us hl => match us, hl with | [_, _], _ => rfl
  have F_Lorder := fun_mk (st := t_Lorder) l_Lorder c_Lorder k_Lorder
  have b_Lorder := F_Lorder.binds (ps := p_Lorder) fun _ _ _ _ _ _ us hl => match us, hl with | [_, _], _ => rfl
  have F_Lright := fun_mk (st := t_Lright) l_Lright c_Lright k_Lright
  have b_Lright := F_Lright.binds (ps := p_Lright) fun _ _ _ _ _ _ us hl => match us, hl with | [_, _, _], _ => rfl
  have F_law := fun_mk (st := t_law) l_law c_law k_law
  have b_law := F_law.binds (ps := p_law) fun _ _ _ _ _ _ us hl => match us, hl with | [_], _ => rfl
  have T : Txt K mg := {
    a_is_whole := _, d_is_whole := _, F_is_whole := F_is_whole, b_is_whole := b_is_whole, g_is_whole := PySem.W.mg_of X G a_is_whole,
    a_is_figure := _, d_is_figure := _, F_is_figure := F_is_figure, b_is_figure := b_is_figure, g_is_figure := PySem.W.mg_of X G a_is_figure,
    a_is_row := _, d_is_row := _, F_is_row := F_is_row, b_is_row := b_is_row, g_is_row := PySem.W.mg_of X G a_is_row,
    a_refuse_no_row := _, d_refuse_no_row := _, F_refuse_no_row := F_refuse_no_row, b_refuse_no_row := b_refuse_no_row, g_refuse_no_row := PySem.W.mg_of X G a_refuse_no_row,
    a_worth := _, d_worth := _, F_worth := F_worth, b_worth := b_worth, g_worth := PySem.W.mg_of X G a_worth,
    a_marked := _, d_marked := _, F_marked := F_marked, b_marked := b_marked, g_marked := PySem.W.mg_of X G a_marked,
    a_compared := _, d_compared := _, F_compared := F_compared, b_compared := b_compared, g_compared := PySem.W.mg_of X G a_compared,
    a_Lmixed := _, d_Lmixed := _, F_Lmixed := F_Lmixed, b_Lmixed := b_Lmixed, g_Lmixed := PySem.W.mg_of X G a_Lmixed,
    a_Lwhole := _, d_Lwhole := _, F_Lwhole := F_Lwhole, b_Lwhole := b_Lwhole, g_Lwhole := PySem.W.mg_of X G a_Lwhole,
    a_Lnumber := _, d_Lnumber := _, F_Lnumber := F_Lnumber, b_Lnumber := b_Lnumber, g_Lnumber := PySem.W.mg_of X G a_Lnumber,
    a_Lrow := _, d_Lrow := _, F_Lrow := F_Lrow, b_Lrow := b_Lrow, g_Lrow := PySem.W.mg_of X G a_Lrow,
    a_Lorder := _, d_Lorder := _, F_Lorder := F_Lorder, b_Lorder := b_Lorder, g_Lorder := PySem.W.mg_of X G a_Lorder,
    a_Lright := _, d_Lright := _, F_Lright := F_Lright, b_Lright := b_Lright, g_Lright := PySem.W.mg_of X G a_Lright,
    a_law := _, d_law := _, F_law := F_law, b_law := b_law, g_law := PySem.W.mg_of X G a_law,
    z_isinstance := PySem.W.mg_none_of X G z_isinstance,
    z_int := PySem.W.mg_none_of X G z_int,
    z_bool := PySem.W.mg_none_of X G z_bool,
    z_list := PySem.W.mg_none_of X G z_list,
    z_all := PySem.W.mg_none_of X G z_all,
    z_len := PySem.W.mg_none_of X G z_len,
    z_reversed := PySem.W.mg_none_of X G z_reversed,
    z_range := PySem.W.mg_none_of X G z_range,
    z_abs := PySem.W.mg_none_of X G z_abs,
    z_enumerate := PySem.W.mg_none_of X G z_enumerate,
    c_LeanError := _, gc_LeanError := PySem.W.mg_of X G x_LeanError,
    c_NoRow := _, gc_NoRow := PySem.W.mg_of X G x_NoRow,
    digits := dg }
  exact ⟨_, fun s v => .of_eq rfl, fun base _ _ => ok_law_at T F_law b_law⟩
end K07
open PySem PySem.W PyProof.Rows
set_option maxHeartbeats 0 in
theorem PySem.Challenge.cw_leanfigures_k07_rows_compared_holds : PySem.Challenge.rw_leanfigures_k07_rows_compared.Holds := by
  w_on; o_law; k_head; (case hw => w_witness2)
  k_fill
  refine L2.walk_of (l := PySem.Challenge.rw_leanfigures_k07_rows_compared) (n := 63) (k := 8) (x := "_law_script") (CX := fun _ => L2.CX0) (sp := fun w => K07.sp_law _) rfl (by decide) rfl ⟨rfl, by decide, by decide⟩ (fun w h Y => PySem.W.kIn_of Y) ?F (fun _ _ a ns hl _ hS => ⟨a, ns, rfl, hS, hl, fun _ => rfl⟩) (fun _ _ _ _ _ h => h)
  case F =>
    intro w mg fa h KX G hmg
    refine' K07.all_mk KX G hmg ?a_is_whole ?l_is_whole ?c_is_whole ?k_is_whole ?a_is_figure ?l_is_figure ?c_is_figure ?k_is_figure ?a_is_row ?l_is_row ?c_is_row ?k_is_row ?a_refuse_no_row ?l_refuse_no_row ?c_refuse_no_row ?k_refuse_no_row ?a_worth ?l_worth ?c_worth ?k_worth ?a_marked ?l_marked ?c_marked ?k_marked ?a_compared ?l_compared ?c_compared ?k_compared ?a_Lmixed ?l_Lmixed ?c_Lmixed ?k_Lmixed ?a_Lwhole ?l_Lwhole ?c_Lwhole ?k_Lwhole ?a_Lnumber ?l_Lnumber ?c_Lnumber ?k_Lnumber ?a_Lrow ?l_Lrow ?c_Lrow ?k_Lrow ?a_Lorder ?l_Lorder ?c_Lorder ?k_Lorder ?a_Lright ?l_Lright ?c_Lright ?k_Lright ?a_law ?l_law ?c_law ?k_law ?z_isinstance ?z_int ?z_bool ?z_list ?z_all ?z_len ?z_reversed ?z_range ?z_abs ?z_enumerate ?x_LeanError ?x_NoRow ?dg
    (case a_is_whole => k_is)
    (case l_is_whole => k_is)
    (case c_is_whole => k_is)
    (case k_is_whole => k_is)
    (case a_is_figure => k_is)
    (case l_is_figure => k_is)
    (case c_is_figure => k_is)
    (case k_is_figure => k_is)
    (case a_is_row => k_is)
    (case l_is_row => k_is)
    (case c_is_row => k_is)
    (case k_is_row => k_is)
    (case a_refuse_no_row => k_is)
    (case l_refuse_no_row => k_is)
    (case c_refuse_no_row => k_is)
    (case k_refuse_no_row => k_is)
    (case a_worth => k_is)
    (case l_worth => k_is)
    (case c_worth => k_is)
    (case k_worth => k_is)
    (case a_marked => k_is)
    (case l_marked => k_is)
    (case c_marked => k_is)
    (case k_marked => k_is)
    (case a_compared => k_is)
    (case l_compared => k_is)
    (case c_compared => k_is)
    (case k_compared => k_is)
    (case a_Lmixed => k_is)
    (case l_Lmixed => k_is)
    (case c_Lmixed => k_is)
    (case k_Lmixed => k_is)
    (case a_Lwhole => k_is)
    (case l_Lwhole => k_is)
    (case c_Lwhole => k_is)
    (case k_Lwhole => k_is)
    (case a_Lnumber => k_is)
    (case l_Lnumber => k_is)
    (case c_Lnumber => k_is)
    (case k_Lnumber => k_is)
    (case a_Lrow => k_is)
    (case l_Lrow => k_is)
    (case c_Lrow => k_is)
    (case k_Lrow => k_is)
    (case a_Lorder => k_is)
    (case l_Lorder => k_is)
    (case c_Lorder => k_is)
    (case k_Lorder => k_is)
    (case a_Lright => k_is)
    (case l_Lright => k_is)
    (case c_Lright => k_is)
    (case k_Lright => k_is)
    (case a_law => k_is)
    (case l_law => k_is)
    (case c_law => k_is)
    (case k_law => k_is)
    (case z_isinstance => k_is)
    (case z_int => k_is)
    (case z_bool => k_is)
    (case z_list => k_is)
    (case z_all => k_is)
    (case z_len => k_is)
    (case z_reversed => k_is)
    (case z_range => k_is)
    (case z_abs => k_is)
    (case z_enumerate => k_is)
    (case x_LeanError => k_is)
    (case x_NoRow => k_is)
    (case dg => k_is)
