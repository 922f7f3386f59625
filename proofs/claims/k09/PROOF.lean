import PyProof.Rows.All
import Wide.All
import OpenK.AllK
import Wide.FinOn
import HandS.ForMost
import HandS.ForExc
import HandS.TryMany
import HandS.ExcValue
import HandS.ExcIs
import HandS.Wide
import HandS.WideBits
import HandS.IsInst
import HandS.IntHex
import HandS.FStr
import HandS.StrMore
import HandS.Style
import HandS.SetFor
import HandS.TupLe
import KE.KIntText
import KE.KxField
import KE.GoesZip
import KE.GoesMore
import KE.GoesEnum
import PyProof.FString3
import PyProof.Rows.StrRev
import PySem.Challenge.RW_leanfigures_k09_deeds_done
set_option Elab.async false
set_option linter.all false
set_option maxRecDepth 100000
set_option maxHeartbeats 4000000
/-! int(text, 2), the text of any length. -/
namespace XB
open PySem PySem.NumText PySem.Calls L2

/-- binary signs alone -/
def Bits (cs : List Nat) : Prop := ∀ c ∈ cs, c = 48 ∨ c = 49
/-- what they are worth -/
def bitsVal (cs : List Nat) : Nat := cs.foldl (fun a c => 2 * a + (c - 48)) 0

theorem Bits.digits {cs : List Nat} (h : Bits cs) : AllDigits cs := fun c hc => by
  rcases h c hc with e | e <;> subst e <;> exact ⟨by decide, by decide⟩
theorem Bits.rev {cs : List Nat} (h : Bits cs) : Bits cs.reverse := fun c hc => h c (List.mem_reverse.mp hc)
theorem step2 {ds : Array Nat} {b : Bool} {c : Nat} (h : c = 48 ∨ c = 49) : PySem.NumText.step 2 (ds, b) c = some (ds.push (c - 48), true) := by
  rcases h with e | e <;> subst e <;> rfl
theorem fold2 : ∀ (cs : List Nat) (ds : Array Nat), Bits cs → List.foldlM (PySem.NumText.step 2) (ds, true) cs = some (List.foldl (fun acc c => acc.push (c - 48)) ds cs, true)
  | [], _, _ => rfl
  | c :: cs, ds, h => by
    rw [List.foldlM_cons, step2 (h c List.mem_cons_self)]
    exact fold2 cs (ds.push (c - 48)) fun d hd => h d (List.mem_cons_of_mem _ hd)
theorem digits2 {cs : List Nat} (h : Bits cs) (hne : cs ≠ []) : digits? 2 cs = some (List.foldl (fun acc c => acc.push (c - 48)) #[] cs) := by
  match cs, hne with
  | c :: r, _ =>
    unfold digits?
    rw [List.foldlM_cons, step2 (h c List.mem_cons_self)]
    have e := fold2 r ((#[] : Array Nat).push (c - 48)) fun d hd => h d (List.mem_cons_of_mem _ hd)
    show (List.foldlM (PySem.NumText.step 2) ((#[] : Array Nat).push (c - 48), true) r).bind _ = _
    rw [e]
    rfl
theorem pushed2 : ∀ (cs : List Nat) (ds : Array Nat), (List.foldl (fun acc c => acc.push (c - 48)) ds cs).foldl (fun acc d => acc * 2 + d) 0 =
    cs.foldl (fun a c => 2 * a + (c - 48)) (ds.foldl (fun acc d => acc * 2 + d) 0)
  | [], _ => rfl
  | c :: cs, ds => by
    rw [List.foldl_cons, pushed2 cs (ds.push (c - 48)), List.foldl_cons]
    congr 1
    simp [Nat.mul_comm]
theorem based2 {cs : List Nat} (h : Bits cs) : based 2 cs = (2, false, cs) := by
  match cs, h with
  | [], _ => rfl
  | [a], h =>
    rcases h a List.mem_cons_self with e | e <;> subst e <;> rfl
  | a :: c :: r, h =>
    have ha := h a List.mem_cons_self
    have hc := h c (List.mem_cons_of_mem _ List.mem_cons_self)
    rcases ha with e | e <;> rcases hc with e2 | e2 <;> subst e <;> subst e2 <;> rfl
theorem sign2 {cs : List Nat} (h : Bits cs) : sign cs = (false, cs) := by
  match cs, h with
  | [], _ => rfl
  | c :: r, h =>
    have := h c List.mem_cons_self
    exact sign_of (by omega) (by omega)
theorem read2 (limit : Nat) {cs : List Nat} (h : Bits cs) (hne : cs ≠ []) : (int_private% "readNumeral") limit 2 cs = (int_private% "Numeral.value") ((bitsVal cs : Nat) : Int) := by
  refine (readNumeral_eq limit 2 cs).trans ?_
  rw [dropWhile_digits h.digits, sign2 h]
  have e1 := based2 h
  show judge limit false (based 2 cs).1 (based 2 cs).2.1 (digits? (based 2 cs).1 (((based 2 cs).2.2.reverse.dropWhile blank).reverse)) = _
  rw [e1]
  show judge limit false 2 false (digits? 2 ((cs.reverse.dropWhile blank).reverse)) = _
  rw [dropWhile_digits h.rev.digits, List.reverse_reverse, digits2 h hne]
  have e2 := pushed2 cs #[]
  have z : (#[] : Array Nat).foldl (fun acc d => acc * 2 + d) 0 = 0 := by simp
  rw [z] at e2
  unfold judge
  dsimp only
  rw [e2]
  rfl
theorem seen2 {x : Str} (h : Bits x.cps.toList) : numTextOf x = x.cps.toList ∧ numSeenOf x = x.cps.toList :=
  numText_signs fun c hc => .inr (by have := h c hc; omega)

open PyProof.Rows in
theorem wp_maxDigits {M : Model} {A : Around} {E : Value → Shared → Prop} {s : Shared} {Q : Nat → Shared → Prop} (hn : s.heap.NoDigits) (h : Q 4300 s) : wpAny M A Builtin.intMaxStrDigits Q E s := by
  obtain ⟨mc, hns, hz⟩ := hn
  unfold Builtin.intMaxStrDigits
  refine wpAny_bind (wpAny_nsGet hns ?_)
  rw [hz]
  exact wpAny_pure h

theorem wp_text2 {M : Model} {A : Around} {E : Value → Shared → Prop} {s : Shared} {Q : Value → Shared → Prop} {v : Value} {text : List Nat} {n : Int}
    (hn : s.heap.NoDigits) (hr : ∀ limit, (int_private% "readNumeral") limit 2 (text.takeWhile (· != 0)) = (int_private% "Numeral.value") n)
    (ha : ((text.takeWhile (· != 0)).length == text.length) = true) (h : Q (.int n s.toks) { s with toks := s.toks + 1 }) :
    wpAny M A ((int_private% "intFromText") v text 2) Q E s := by
  obtain ⟨hp, g, d, tk, os⟩ := s
  by_cases hs : (text.takeWhile (· != 0)).length ≤ 640
  · exact Hx.wp_textB hs (hr 0) ha h
  · repeat (any_goals (first
      | assumption
      | (with_reducible refine wpAny_ite_false (decide_eq_false hs) ?_)
      | (with_reducible refine wpAny_ite_true (decide_eq_true ha) ?_)
      | ((with_reducible show wpAny _ _ Builtin.intMaxStrDigits _ _ _); refine wp_maxDigits hn ?_)
      | wp_step))
    all_goals (try rw [hr])
    all_goals (try dsimp only)
    repeat (any_goals (first
      | assumption
      | (with_reducible refine wpAny_ite_false (decide_eq_false hs) ?_)
      | (with_reducible refine wpAny_ite_true (decide_eq_true ha) ?_)
      | wp_step))

structure Held (p : Prop) : Prop where
  out : p
/-- what int(text, 2) wants of the state, and gives -/
def spec2 (n : Int) : Spec := fun _ R s => s.heap.NoDigits ∧ R (.ok (.ret (.int n s.toks))) { s with toks := s.toks + 1 }
set_option maxHeartbeats 4000000 in
theorem meets2 {x : PySem.Str} {u t : Tok} (h : Bits x.cps.toList) (hne : x.cps.toList ≠ []) :
    Meets (Builtin.«int.__new__» ⟨[.type "int", .str x u, .int 2 t], []⟩) (spec2 ((bitsVal x.cps.toList : Nat) : Int)) :=
  Meets.of_wp fun prog w A R s hQ => by
    obtain ⟨hp, g, d, tk, os⟩ := s
    have k1 := F.conv_sub_int
    have k2 := F.madeHere_int
    have k3 : typeOf (.str x u) = pure (.type "str") := rfl
    obtain ⟨e1, e2⟩ := seen2 h
    have hr : ∀ limit, (int_private% "readNumeral") limit 2 (numSeenOf x) = (int_private% "Numeral.value") ((bitsVal x.cps.toList : Nat) : Int) := by
      intro limit
      rw [e2]
      exact read2 limit h hne
    have ha : ((numSeenOf x).length == (numTextOf x).length) = true := by
      rw [e1, e2]
      exact beq_self_eq_true _
    have hk := Held.mk (And.intro hr (And.intro ha hQ))
    clear hr ha e1 e2 hne h hQ
    repeat (any_goals (first
      | assumption
      | ((with_reducible show wpAny _ _ ((int_private% "intFromText") _ _ _) _ _ _); refine wp_text2 hk.out.2.2.1 hk.out.1 hk.out.2.1 ?_)
      | wp_step))
    all_goals first | exact ⟨_, rfl, hk.out.2.2.2⟩ | skip
theorem call2 {prog : Program} {w : World} {A : Around} {E : Value → Shared → Prop} {s : Shared} {Q : Value → Shared → Prop} {x : PySem.Str} {u t : Tok} (hn : s.heap.NoDigits) (h : Bits x.cps.toList) (hne : x.cps.toList ≠ [])
    (hQ : Q (.int ((bitsVal x.cps.toList : Nat) : Int) s.toks) { s with toks := s.toks + 1 }) : wpAny (model prog w) A (call (.type "int") [.str x u, .int 2 t]) Q E s :=
  callType_new F.called_int F.newNe_int (Hx.typeCall_int_2 _ _) (Hx.newCall_int_2 _ _) (fun obj => F.initArgs_range_2 obj _ _) F.entry_int_new (meets2 h hne) ⟨hn, rfl, hQ⟩

/-- the facts of the written part: no limit on digits was set -/
theorem noDigits {K : PySem.W.Frag} {h : Heap} (X : K.In h) {mc : Str → Option Value} (G : h.Ns cStatics mc) (e : PySem.W.nsIn K cStatics "sys.int_max_str_digits" = some none) : h.NoDigits := by
  refine ⟨mc, G, ?_⟩
  obtain ⟨o, es, ep, ho, hd, _, hf⟩ := G
  unfold PySem.W.nsIn at e
  split at e
  · rename_i c d es' n' sl q
    have z := X _ _ q
    rw [ho] at z
    cases z
    cases hd
    split at e
    · exact nomatch e
    · rename_i hnone
      refine (hf "sys.int_max_str_digits").symm.trans ?_
      unfold nsFind
      unfold findBy
      rw [← Array.find?_toList, hnone]
      rfl
  · cases e
end XB
namespace L2
open PySem PySem.Spec PyProof.Rows
/-- int(text, 2), the text of binary signs -/
def rInt2 : List V → Hp → VK → Prop := fun xs H Q => ∃ x : Str, xs = [.str x, .int 2] ∧ XB.Bits x.cps.toList ∧ x.cps.toList ≠ [] ∧ Q (.int ((XB.bitsVal x.cps.toList : Nat) : Int)) H
theorem call_int2 {X : Cx} (e : PySem.W.nsIn X.K cStatics "sys.int_max_str_digits" = some none) : CallR X (.type "int") rInt2 := by
  intro pins s σ H xs us Q I r h
  obtain ⟨x, rfl, h1, h2, q⟩ := h
  obtain ⟨u, w', rfl, r1, r2⟩ := vals2 r
  obtain ⟨t1, rfl⟩ := r1
  obtain ⟨t2, rfl⟩ := r2
  obtain ⟨mc, G, _⟩ := I.nolimit
  exact XB.call2 (XB.noDigits I.kIn G e) h1 h2 ⟨.int _, H, I.tok _, ⟨_, rfl⟩, q⟩
end L2

namespace FG
open PySem PySem.Spec PyProof.Rows L2
/-! ### kinds of values -/
def intV : V → Bool
  | .int _ => true
  | _ => false
def figV : V → Bool
  | .int i => decide (-1 ≤ i) && decide (i ≤ 1)
  | _ => false
/-- what isinstance tells of a value: whether it is an int, a bool, a list -/
structure Kind (K : PySem.W.Frag) (H : Hp) (x : V) (i b l : Bool) : Prop where
  ex : ∃ t, TyX K H x t ∧ PySem.W.kitOne K t (.type "int") = some i ∧ PySem.W.kitOne K t (.type "bool") = some b ∧ PySem.W.kitOne K t (.type "list") = some l
section
variable {K : PySem.W.Frag} {H H' : Hp}
theorem same_upd {p : Addr} {o : HO} (h : H p = none) : Same H (upd H p o) := fun b x e => by
  have ne : b ≠ p := ne_of_none e h
  rw [upd_ne ne]
  exact e
theorem Same.tyx {x : V} {t : Value} (s : Same H H') (h : TyX K H x t) : TyX K H' x t := by
  cases h with
  | base b =>
    cases b with
    | non => exact .base .non
    | bl y => exact .base (.bl y)
    | int y => exact .base (.int y)
    | str y => exact .base (.str y)
    | flt y => exact .base (.flt y)
    | lst e => exact .base (.lst (s _ _ e))
    | frz e => exact .base (.frz (s _ _ e))
    | tup e => exact .base (.tup (s _ _ e))
    | dK e => exact .base (.dK (s _ _ e))
    | dT e => exact .base (.dT (s _ _ e))
    | ins e a b c d f => exact .base (.ins (s _ _ e) a b c d f)
  | byt y => exact .byt y
  | set e => exact .set (s _ _ e)
  | kList e c => exact .kList e c
  | kTuple e c => exact .kTuple e c
  | kDict e c => exact .kDict e c
  | fTuple e => exact .fTuple (s _ _ e)
  | fDict e => exact .fDict (s _ _ e)
theorem Kind.mono {x : V} {i b l : Bool} (k : Kind K H x i b l) (s : Same H H') : Kind K H' x i b l := by
  obtain ⟨t, h1, h2⟩ := k.ex
  exact ⟨⟨t, Same.tyx s h1, h2⟩⟩
theorem kind_of {x : V} {n : String} {i b l : Bool} (h : TyX K H x (.type n)) (h1 : kitB n "int" = some i) (h2 : kitB n "bool" = some b) (h3 : kitB n "list" = some l) : Kind K H x i b l :=
  ⟨⟨_, h, kit_ty h1, kit_ty h2, kit_ty h3⟩⟩
theorem kind_int (i : Int) : Kind K H (.int i) true false false := kind_of (.base (.int i)) (by decide +kernel) (by decide +kernel) (by decide +kernel)
theorem kind_bl (b : Bool) : Kind K H (.bl b) true true false := kind_of (.base (.bl b)) (by decide +kernel) (by decide +kernel) (by decide +kernel)
theorem kind_non : Kind K H .non false false false := kind_of (.base .non) (by decide +kernel) (by decide +kernel) (by decide +kernel)
theorem kind_str (x : Str) : Kind K H (.str x) false false false := kind_of (.base (.str x)) (by decide +kernel) (by decide +kernel) (by decide +kernel)
theorem kind_list {a : Addr} {xs : List V} (h : SqL K H a xs) : Kind K H (.ref a) false false true := by
  have z : TyX K H (.ref a) (.type "list") := by
    rcases h with h | ⟨o, its, n, hk, hc, _⟩
    · rcases h with h | ⟨o, h⟩
      · exact .base (.lst h)
      · exact .base (.frz h)
    · exact .kList hk hc
  exact kind_of z (by decide +kernel) (by decide +kernel) (by decide +kernel)
theorem kind_tup {a : Addr} {xs : List V} (h : H a = some (.tup xs)) : Kind K H (.ref a) false false false := kind_of (.base (.tup h)) (by decide +kernel) (by decide +kernel) (by decide +kernel)
theorem kind_dict {a : Addr} {kvs : List (Key × V)} (h : H a = some (.dK kvs)) : Kind K H (.ref a) false false false := kind_of (.base (.dK h)) (by decide +kernel) (by decide +kernel) (by decide +kernel)
/-- an int that is no bool: just the whole numbers -/
def Plain (K : PySem.W.Frag) (H : Hp) (x : V) : Prop := ∃ i b l, Kind K H x i b l ∧ (i && !b) = intV x
theorem Plain.mono {x : V} (h : Plain K H x) (s : Same H H') : Plain K H' x := let ⟨i, b, l, k, e⟩ := h; ⟨i, b, l, k.mono s, e⟩
theorem plain_int (i : Int) : Plain K H (.int i) := ⟨_, _, _, kind_int i, rfl⟩
theorem atI_getLast (xs : List V) (h : xs ≠ []) : atI xs (-1) = some (xs.getLast h) := by
  have e := atI_last xs.dropLast (xs.getLast h)
  rw [List.dropLast_concat_getLast] at e
  exact e
end

/-! ### rows of figures -/
/-- a row: figures alone, the last one other than 0 -/
def Row (ns : List Int) : Prop := (∀ n ∈ ns, -1 ≤ n ∧ n ≤ 1) ∧ ns.getLast? ≠ some 0
/-- what a row is worth -/
def val : List Int → Int
  | [] => 0
  | n :: r => n + 2 * val r
/-- the worth of a row's figures f alone, told by ones -/
def mk (f : Int) : List Int → Nat
  | [] => 0
  | n :: r => (if n = f then 1 else 0) + 2 * mk f r
theorem mk_val : ∀ ns : List Int, (∀ n ∈ ns, -1 ≤ n ∧ n ≤ 1) → ((mk 1 ns : Nat) : Int) - ((mk (-1) ns : Nat) : Int) = val ns
  | [], _ => rfl
  | n :: r, h => by
    have ih := mk_val r fun m hm => h m (List.mem_cons_of_mem _ hm)
    have hn := h n List.mem_cons_self
    show (((if n = 1 then 1 else 0) + 2 * mk 1 r : Nat) : Int) - (((if n = -1 then 1 else 0) + 2 * mk (-1) r : Nat) : Int) = n + 2 * val r
    have c : n = -1 ∨ n = 0 ∨ n = 1 := by omega
    rcases c with e | e | e <;> subst e <;> simp <;> omega
/-- the sign of a figure, asked for f -/
def sg (f n : Int) : Nat := if n = f then 49 else 48
theorem sg_bits (f : Int) (ns : List Int) : XB.Bits (48 :: ns.map (sg f)) := fun c hc => by
  rcases List.mem_cons.mp hc with e | e
  · exact .inl e
  · obtain ⟨n, _, e⟩ := List.mem_map.mp e
    subst e
    unfold sg
    split
    · exact .inr rfl
    · exact .inl rfl
theorem sg_val (f : Int) (ns : List Int) : XB.bitsVal (48 :: (ns.reverse.map (sg f))) = mk f ns := by
  unfold XB.bitsVal
  rw [List.foldl_cons, List.map_reverse, List.foldl_reverse]
  induction ns with
  | nil => rfl
  | cons n r ih =>
    rw [List.map_cons, List.foldr_cons, ih]
    show 2 * mk f r + (sg f n - 48) = (if n = f then 1 else 0) + 2 * mk f r
    unfold sg
    split <;> omega
/-! ### texts of signs -/
def sign1 (c : Nat) : Str := ⟨#[c]⟩
theorem joinL_nil : ∀ ls : List (List Nat), TL.joinL [] ls = ls.flatten
  | [] => rfl
  | [p] => by simp [TL.joinL]
  | p :: q :: r => by
    have ih := joinL_nil (q :: r)
    show p ++ ([] ++ TL.joinL [] (q :: r)) = (p :: q :: r).flatten
    rw [ih]
    simp
theorem joined_signs (e : Str) (he : e.cps.toList = []) (cs : List Nat) : (Txt.join e (cs.map sign1)).cps.toList = cs := by
  have h := TL.tl_join e (cs.map sign1)
  rw [← TL.join_eq] at h
  have h0 : TL.tl e = [] := he
  rw [h0, joinL_nil, List.map_map] at h
  refine Eq.trans h ?_
  induction cs with
  | nil => rfl
  | cons c r ih =>
    have h' := TL.tl_join e (r.map sign1)
    rw [← TL.join_eq, h0, joinL_nil, List.map_map] at h'
    rw [List.map_cons, List.flatten_cons, ih h']
    rfl
theorem app_list (a b : Str) : (a ++ b).cps.toList = a.cps.toList ++ b.cps.toList := by
  show (a.cps ++ b.cps).toList = _
  simp

/-! ### lists of whole numbers compared -/
def dI (ns : List Int) : PyData := .list (ns.map PyData.int)
theorem dI_depthAll : ∀ ns : List Int, PyData.depthAll (ns.map PyData.int) ≤ 1
  | [] => by simp [PyData.depthAll]
  | n :: r => by
    have ih := dI_depthAll r
    simp only [List.map_cons, PyData.depthAll, PyData.depth]
    omega
theorem dI_lay : ∀ ns : List Int, PyData.canLayAll0 (ns.map PyData.int) = true
  | [] => by simp [PyData.canLayAll0]
  | n :: r => by
    have ih := dI_lay r
    simp [PyData.canLayAll0, PyData.canLay0, ih]
theorem dI_shaped (ns : List Int) : SeqAt.shaped (dI ns) = true := by
  have h1 := dI_depthAll ns
  have h2 : PyData.depth (dI ns) ≤ 64 := by
    simp only [dI, PyData.depth]
    omega
  unfold SeqAt.shaped
  rw [Bool.and_eq_true]
  exact ⟨by simp only [dI, PyData.canLay0]; exact dI_lay ns, decide_eq_true h2⟩
theorem dI_eqvAll : ∀ ns ms : List Int, PyData.eqvAll (ns.map PyData.int) (ms.map PyData.int) = decide (ns = ms)
  | [], [] => by simp [PyData.eqvAll]
  | [], _ :: _ => by simp [PyData.eqvAll]
  | _ :: _, [] => by simp [PyData.eqvAll]
  | n :: r, m :: t => by
    have ih := dI_eqvAll r t
    simp only [List.map_cons, PyData.eqvAll, PyData.eqv, ih]
    by_cases h1 : n = m
    · by_cases h2 : r = t
      · simp [h1, h2]
      · simp [h1, h2]
    · simp [h1]
theorem dI_eqv (ns ms : List Int) : PyData.eqv (dI ns) (dI ms) = decide (ns = ms) := by
  show PyData.eqvAll _ _ = _
  exact dI_eqvAll ns ms
theorem dpAll {K : PySem.W.Frag} {H : Hp} : ∀ ns : List Int, DpAll K H (ns.map V.int) (ns.map PyData.int)
  | [] => .nil
  | n :: r => .cons (.int n) (dpAll r)
theorem dp_ints {K : PySem.W.Frag} {H : Hp} {a : Addr} {ns : List Int} (h : SqL K H a (ns.map V.int)) : Dp K H (.ref a) (dI ns) := .lst h (dpAll ns)
/-- the item behind the last but none: xs[-1:] -/
theorem cutLast (ns : List Int) : cutV (ns.map V.int) (some (-1)) none = (ns.drop (ns.length - 1)).map V.int := by
  have e : HT.sIx (ns.map V.int).length 0 (some (-1)) = ns.length - 1 := by
    show (if (-1 : Int) < 0 then ((-1 : Int) + ((ns.map V.int).length : Int)).toNat else min (-1 : Int).toNat (ns.map V.int).length) = _
    rw [if_pos (by decide), List.length_map]
    show ((-1 : Int) + (ns.length : Int)).toNat = ns.length - 1
    omega
  unfold cutV
  rw [e, HT.sIx_none, List.map_drop]
  apply List.take_of_length_le
  rw [List.length_drop, List.length_map]
  omega
theorem last_zero {ns : List Int} (h : ns.getLast? ≠ some 0) : ns.drop (ns.length - 1) ≠ [0] := fun e => by
  apply h
  rw [List.getLast?_eq_getElem?]
  have z := congrArg (fun l => l[0]?) e
  simp only [List.getElem?_drop] at z
  simpa using z
theorem val_append : ∀ (a b : List Int), val (a ++ b) = val a + 2 ^ a.length * val b
  | [], b => by simp [val]
  | n :: r, b => by
    have ih := val_append r b
    show n + 2 * val (r ++ b) = n + 2 * val r + 2 ^ (r.length + 1) * val b
    rw [ih, Int.pow_succ, Int.mul_add]
    have : (2 : Int) ^ r.length * 2 * val b = 2 * (2 ^ r.length * val b) := by
      rw [Int.mul_comm ((2 : Int) ^ r.length) 2, Int.mul_assoc]
    omega
theorem val_take {ns : List Int} {i : Nat} (h : i < ns.length) : val (ns.take (i + 1)) = val (ns.take i) + ns[i] * 2 ^ i := by
  rw [List.take_add_one, List.getElem?_eq_getElem h, val_append]
  have e : (ns.take i).length = i := by
    rw [List.length_take]
    omega
  rw [e]
  show _ + 2 ^ i * (ns[i] + 2 * 0) = _
  rw [Int.mul_zero, Int.add_zero, Int.mul_comm]

/-- a loop over enumerate of a list: Inv by the turn -/
theorem for_enum {K : PySem.W.Frag} {a : Addr} {xs : List V} {g : TG} {tb : TS} {D : Ends} {σ : L2.St} {H : Hp} (Iv : Nat → L2.St → Hp → Prop) (start : Iv 0 σ H) (still : ∀ i σ H, Iv i σ H → SqL K H a xs)
    (turn : ∀ (i : Nat) (x : V) (t : Addr) (σ : L2.St) (H : Hp), xs[i]? = some x → Iv i σ H → H t = none → g (.ref t) σ (upd H t (.tup [.int (i : Nat), x])) fun σ2 H2 => tb { D with nx := Iv (i + 1), ct := Iv (i + 1), bk := D.nx } σ2 H2)
    (stop : ∀ σ H, Iv xs.length σ H → D.nx σ H) :
    ∃ W : Nat → Nat → L2.St → Hp → Prop, (∃ m, W 0 m σ H) ∧ ∀ i m σ H, W i m σ H →
      ((Ite K a).stop i H ∧ D.nx σ H) ∨ ((Ite K a).go i H ∧ ∃ N : L2.St → Hp → Prop, (∀ σ' H', N σ' H' → ∃ m', m' < m ∧ W (i + 1) m' σ' H') ∧ ∀ v H', (Ite K a).yld i H v H' → g v σ H' fun σ2 H2 => tb { D with nx := N, ct := N, bk := D.nx } σ2 H2) := by
  refine ⟨fun i m σ H => i + m = xs.length ∧ Iv i σ H, ⟨xs.length, Nat.zero_add _, start⟩, fun i m σ H hW => ?_⟩
  obtain ⟨em, iv⟩ := hW
  have sq := still i σ H iv
  by_cases hi : i < xs.length
  · refine .inr ⟨⟨xs, xs[i], sq, List.getElem?_eq_getElem hi⟩, Iv (i + 1), fun σ' H' h' => ⟨m - 1, by omega, by omega, h'⟩, fun v H' hy => ?_⟩
    obtain ⟨t, x, rfl, nt, rfl, fx⟩ := hy
    exact turn i x t σ H (fx _ sq) iv nt
  · have e : i = xs.length := by omega
    subst e
    exact .inl ⟨⟨xs, sq, Nat.le_refl _⟩, stop σ H iv⟩
theorem small_ok {n : Nat} (h : n ≤ 64) : n ≤ sizeLine := Nat.le_trans h (by decide)
/-- of each two neighbours one is 0 -/
def gaps : List Int → Bool
  | x :: y :: r => (decide (x = 0) || decide (y = 0)) && gaps (y :: r)
  | _ => true
/-- a row is handed in at a -/
def RowAt (K : PySem.W.Frag) (H : Hp) (a : Addr) (ns : List Int) : Prop := SqL K H a (ns.map V.int) ∧ Row ns ∧ ns.length ≤ 4000000
theorem RowAt.mono {K : PySem.W.Frag} {H H' : Hp} {a : Addr} {ns : List Int} (r : RowAt K H a ns) (s : Same H H') : RowAt K H' a ns := ⟨s.seq r.1, r.2⟩
end FG

/-! an f-string with the field {n:b} -/
namespace XB
open PySem PySem.Calls PySem.W Builtin Builtin.Int Builtin.Float PyProof.Rows

/-- the signs of a number at twos, a minus ahead -/
def binSigns (a : Int) : List Nat := (if decide (a < 0) = true then [45] else []) ++ (Nat.toDigits 2 a.natAbs).map Char.toNat
def binText (a : Int) : PySem.Str := ⟨(binSigns a).toArray⟩

theorem toDigits_ne (n : Nat) : (Nat.toDigits 2 n).isEmpty = false := by
  cases e : Nat.toDigits 2 n with
  | cons c r => rfl
  | nil => 
    have := Nat.toDigits_ne_nil (n := n) (b := 2)
    exact absurd e this

/-- a field without width, fill or sign -/
theorem plainField (f : FormatSpec) (a : Int) (hd : (Nat.toDigits 2 a.natAbs).isEmpty = false) (h1 : f.width = none) (h2 : f.sign = none) (h3 : f.grouping = none) (h4 : f.align = 62) (h5 : f.fill = 32) :
    intField' f (decide (a < 0)) [] ((Nat.toDigits 2 a.natAbs).map fun c => (if (98 : Nat) == 88 then c.toUpper else c).toNat) [] 4 = binText a := by
  have e0 : ((Nat.toDigits 2 a.natAbs).map fun c => (if (98 : Nat) == 88 then c.toUpper else c).toNat) = (Nat.toDigits 2 a.natAbs).map Char.toNat := rfl
  rw [e0]
  have e1 : ((Nat.toDigits 2 a.natAbs).map Char.toNat).isEmpty = false := by simpa using hd
  unfold intField' binText binSigns
  simp only [h1, h2, h3, h4, h5, e1]
  by_cases hn : a < 0
  · simp [hn]
  · simp [hn]

set_option maxHeartbeats 4000000 in
theorem meets_b (a : Int) (t u : Tok) (hl : (binText a).length ≤ sizeLine) : Meets (Builtin.«int.__format__» ⟨[.int a t, .str (Str.ofString "b") u], []⟩) (fun _ R s => ∀ t' k, R (.ok (.ret (.str (binText a) t'))) { s with toks := k }) := by
  apply KPc.meets_of
  intro prog w A R s Q hQ
  unfold Builtin.«int.__format__»
  refine wpAny_bind (wpAny_of_eq (a := (_, _)) rfl ?_)
  refine wpAny_bind (wpAny_of_eq (a := a) rfl ?_)
  kxf_if
  refine wpAny_bind (wpAny_typeNameOf (T := "str") (typeIs_str _ _ _) (by decide) fun _ => ?_)
  refine wpAny_bind (wpAny_of_eq (a := some _) rfl ?_)
  kxf_if
  kxf_if
  refine wpAny_bind (wpAny_typeNameOfCut_int ?_)
  have ep : ∃ f, parseFormatSpec (Str.ofString "b").cps.toList "int" 62 = .ok f ∧ f.type = some 98 ∧ f.precision = none ∧ f.noNeg0 = false ∧ f.width = none ∧ f.alt = false ∧ f.sign = none ∧ f.grouping = none ∧ f.align = 62 ∧ f.fill = 32 := ⟨_, rfl, rfl, rfl, rfl, rfl, rfl, rfl, rfl, rfl, rfl⟩
  obtain ⟨f, e0, e1, e2, e3, e4, e5, e6, e7, e8, e9⟩ := ep
  have hf := fun hd => plainField f a hd e4 e6 e7 e8 e9
  have hd := toDigits_ne a.natAbs
  rw [e0]
  dsimp only
  rw [e1]
  kxf_if
  cases f
  dsimp only at e1 e2 e3 e4 e5 e6 e7 e8 e9
  subst e1 e2 e3 e4 e5 e6 e7 e8 e9
  exact KXf.ret_text (hf hd) (Nat.le_trans (Nat.le_of_eq (congrArg PySem.Str.length (hf hd))) hl) hQ
theorem field_b {prog : Program} {w : World} {A : Around} {E : Value → Shared → Prop} {s : Shared} {Q : Value → Shared → Prop} {a : Int} {t : Tok} (hl : (binText a).length ≤ sizeLine)
    (h : ∀ t' k, Q (.str (binText a) t') { s with toks := k }) : wpAny (model prog w) A (formatField (.int a t) (Str.ofString "b")) Q E s :=
  KXf.field_int rfl (by decide +kernel) (by decide +kernel) (fun u => meets_b a t u hl) h
end XB
namespace L2
open PySem PySem.Spec PyProof.Rows
/-- {n:b}: a whole number at twos -/
def tFmtB (te : TE) : TE := fun σ H Q => te σ H fun x H1 => ∃ i : Int, x = .int i ∧ (XB.binText i).length ≤ sizeLine ∧ Q (.str (XB.binText i)) H1
theorem pe_fmtB {X : Cx} {e : Expr} {te : TE} {pos p1 p2 : Pos} {k : Nat} (he : PE X e te) : PE X (.FormattedValue e (-1) (some (.JoinedStr [.Constant (.str (Str.ofString "b")) k p1] p2)) pos) (tFmtB te) := by
  refine ⟨fun pins s σ H Q I h => ?_⟩
  refine wpAny_FormattedValue_spec (thn (he.run pins s σ H _ I h) fun v s1 hv => ?_)
  obtain ⟨x, H1, I1, r1, i, rfl, hz, q⟩ := hv
  obtain ⟨t, rfl⟩ := r1
  refine wpAny_JoinedStr_one (Calls.Constant_str ⟨_, _, rfl, ?_⟩)
  exact XB.field_b hz fun t' k' => ⟨.str (XB.binText i), H1, I1.tok _, ⟨_, rfl⟩, q⟩
end L2

/-! text[::-1] -/
namespace L2
open PySem PySem.Spec PyProof.Rows PySem.Builtin PySem.Builtin.Str
/-- the signs of a text, turned round -/
theorem turned_list (x : Str) (u : Tok) : (Txt.sliceBy x none none (-1, u)).cps.toList = x.cps.toList.reverse := by
  rw [step_rev_list]
  apply List.ext_getElem
  · rw [List.length_map, List.length_range, List.length_reverse, Array.length_toList]
    rfl
  · intro i h1 h2
    have hi : i < x.cps.size := by simpa using h2
    have e : x.length = x.cps.size := rfl
    rw [List.getElem_map, List.getElem_range, List.getElem_reverse, e]
    have hj : x.cps.size - 1 - i < x.cps.size := by omega
    simp [Array.getD, hj]
def tRevT (te : TE) : TE := fun σ H Q => te σ H fun x H1 => ∃ z : Str, x = .str z ∧ z.length ≤ sizeLine ∧ ∀ y : Str, y.cps.toList = z.cps.toList.reverse → Q (.str y) H1
theorem pe_revT {X : Cx} {e : Expr} {te : TE} {k : Nat} {p1 p2 p3 pos : Pos} (he : PE X e te) : PE X (.Subscript e (.Slice none none (some (.UnaryOp .USub (.Constant (.int 1) k p1) p2)) p3) pos) (tRevT te) := by
  refine ⟨fun pins s σ H Q I h => ?_⟩
  refine Subscript_ (thn (he.run pins s σ H _ I h) fun v s1 ⟨x, H1, I1, r1, z, ex, hz, q⟩ => ?_)
  subst ex
  obtain ⟨t, rfl⟩ := r1
  have hst : PO X (some (.UnaryOp .USub (.Constant (.int 1) k p1) p2)) (tPart (tUn (rU fun i => .int (-i)) (tC (.int 1)))) := po_some (pe_un un_neg pe_int)
  refine wpAny_Slice (thn (po_none.run pins s1 σ H1 (fun o H2 => o = none ∧ H2 = H1) I1 ⟨rfl, rfl⟩) fun vl s2 ⟨l, H2, I2, pl, el, e2⟩ => ?_)
  subst el
  subst e2
  refine thn (po_none.run pins s2 σ H2 (fun o H3 => o = none ∧ H3 = H2) I2 ⟨rfl, rfl⟩) fun vu s3 ⟨u, H3, I3, pu, eu, e3⟩ => ?_
  subst eu
  subst e3
  refine thn (hst.run pins s3 σ H3 (fun o H4 => o = some (-1) ∧ H4 = H3) I3 ⟨1, rfl, -1, rfl, rfl, rfl⟩) fun vs s4 ⟨o, H4, I4, ps, eo, e4⟩ => ?_
  subst eo
  subst e4
  obtain ⟨l', h1, h2⟩ := IsPart.raw pl
  obtain ⟨u', h3, h4⟩ := IsPart.raw pu
  obtain ⟨st', h5, h6⟩ := IsPart.raw ps
  cases l' with
  | some y => exact nomatch h2
  | none =>
    cases u' with
    | some y => exact nomatch h4
    | none =>
      cases st' with
      | none => exact nomatch h6
      | some y =>
        obtain ⟨j, tj⟩ := y
        have ej : j = -1 := Option.some.inj h6
        subst ej
        subst h1
        subst h3
        subst h5
        have I5 : Inv X pins σ H4 { s4 with heap := s4.heap.push { cls := .type "slice", data := .fields #[.none, .none, .int (-1) tj] } } := I4.kept (t' := s4.toks) fun b ob g => Heap.get?_push_of_some _ g
        refine tail_any (ops := [.ref s4.heap.objs.size, .str z t]) (typeIs_str _ _ _) PySem.F.slot_str_getitem.lookup ?_ (by with_unfolding_all rfl)
        refine wpAny_getItem_str_slice (l := none) (u := none) (st := some (-1, tj)) ⟨_, Heap.get?_push_size _ rfl, rfl, rfl⟩ rfl ?_
        refine post_val_or_str ⟨Nat.le_trans (Txt.sliceBy_le z none none (-1, tj) (show (-1 : Int) ≠ 0 by decide)) hz, fun t' c => ?_⟩
        exact ⟨.str (Txt.sliceBy z none none (-1, tj)), H4, I5.tok _, ⟨_, rfl⟩, q _ (turned_list z tj)⟩
end L2

set_option maxHeartbeats 4000000
/-! for a, b in zip(x, y), x and y two texts -/
namespace FG
open PySem PySem.Spec PyProof.Rows L2
/-- two texts, sign by sign, the signs in new pairs -/
def ItzS (x y : Str) : It :=
  ⟨fun i _ => i < x.cps.size ∧ i < y.cps.size, fun i H v H' => ∃ t c d, v = .ref t ∧ H t = none ∧ H' = upd H t (.tup [.str (sign1 c), .str (sign1 d)]) ∧ x.cps[i]? = some c ∧ y.cps[i]? = some d,
    fun i _ => x.cps.size ≤ i ∨ y.cps.size ≤ i⟩
/-- where the zip stands at its turn -/
def StzS (z q1 q2 i1 i2 : Addr) (x y : Str) (t u : Tok) (i : Nat) (h : Heap) : Prop :=
  i ≤ x.cps.size ∧ i ≤ y.cps.size ∧ IsZip h z q1 q2 .none ∧ IsTupOf2 h q1 (.ref i1) (.ref i2) ∧ (∃ a b, IsTupOf2 h q2 a b) ∧ h.IsStrIter i1 (strIterType x) x t i ∧ h.IsStrIter i2 (strIterType y) y u i
theorem turn_zipS {P : Program} {w : World} {K : PySem.W.Frag} {elts : List Expr} {kk : Nat} {tpos : Pos} {z q1 q2 i1 i2 : Addr} {x y : Str} {t u : Tok} (D : ZipSep2 z q1 q2 i1 i2 [i1] [i2]) :
    Turn P w K (.Tuple elts kk tpos) (ItzS x y) [z, q1, q2, i1, i2] z (StzS z q1 q2 i1 i2 x y t u) where
  mem := by simp
  obj := fun i h st c hc => by
    obtain ⟨_, _, hz, h1, ⟨a, b, h2⟩, ⟨o1, g1, _, d1⟩, ⟨o2, g2, _, d2⟩⟩ := st
    have hc' : c = z ∨ c = q1 ∨ c = q2 ∨ c = i1 ∨ c = i2 := by simpa using hc
    rcases hc' with e | e | e | e | e <;> subst e
    · exact ⟨_, hz, fun v q => nomatch q⟩
    · exact ⟨_, h1, fun v q => nomatch q⟩
    · exact ⟨_, h2, fun v q => nomatch q⟩
    · exact ⟨o1, g1, fun v q => by rw [d1] at q; exact nomatch q⟩
    · exact ⟨o2, g2, fun v q => by rw [d2] at q; exact nomatch q⟩
  keep := fun i h h' st k => by
    obtain ⟨l1, l2, hz, h1, ⟨a, b, h2⟩, g1, g2⟩ := st
    obtain ⟨o1, e1, r1⟩ := g1
    obtain ⟨o2, e2, r2⟩ := g2
    exact ⟨l1, l2, k z (by simp) _ hz, k q1 (by simp) _ h1, ⟨a, b, k q2 (by simp) _ h2⟩, ⟨o1, k i1 (by simp) _ e1, r1⟩, ⟨o2, k i2 (by simp) _ e2, r2⟩⟩
  item := by
    intro X hP hw hK hc i pins s σ H E I hf st hg
    subst hP
    subst hw
    subst hK
    obtain ⟨l1, l2, hz, h1, ⟨a, b, h2⟩, g1, g2⟩ := st
    have hh := I.ok.hd hc
    have zl : z < s.heap.objs.size := Heap.lt_size hz
    refine wpAny_pyNext_zipD2_item D (Draws.text (A := X.A.in1) hh i1 x t) (Draws.text (A := X.A.in1) hh i2 y u) hz h1 h2 g1 g2 hg.1 hg.2 fun v1 v2 h' tk p1 p2 z' h2' g1' g2' hT hsz hk => ?_
    obtain ⟨c, u1, ec, rfl⟩ := p1
    obtain ⟨d, u2, ed, rfl⟩ := p2
    refine ⟨_, rfl, wpAny_letOwnedTupleGo_zip (s := { s with heap := h', toks := tk }) z' fun h'' z'' sb => ?_⟩
    have far : s.heap.objs.size ≠ z := Nat.ne_of_gt zl
    have hT2 := (sb.2 _ far).trans hT
    have new : ObjOk X.prog X.w (upd H s.heap.objs.size (.tup [.str (sign1 c), .str (sign1 d)])) h'' s.heap.objs.size (.tup [.str (sign1 c), .str (sign1 d)]) :=
      ⟨small_ok (by simp), [_, _], .cons ⟨u1, rfl⟩ (.cons ⟨u2, rfl⟩ .nil), ⟨_, hT2, rfl, _, rfl⟩⟩
    have I1 : Inv X pins σ (upd H s.heap.objs.size (.tup [.str (sign1 c), .str (sign1 d)])) { s with heap := h'', toks := tk } :=
      I.turnedNew (t' := tk) (ch := [z, q1, q2, i1, i2]) (fun b o hb e => (sb.2 b fun r => hb (by simp [r])).trans (hk b o (fun r => hb (by simp [r])) (fun r => hb (by simp [r])) (fun r => hb (by simp [r])) (fun r => hb (by simp [r])) e)) hf (Nat.le_refl _) new
    have keepI : ∀ {j : Addr} {w : Str} {v : Tok} {m : Nat}, j ≠ z → h'.IsStrIter j (strIterType w) w v m → h''.IsStrIter j (strIterType w) w v m := fun nj ⟨o, e, r⟩ => ⟨o, (sb.2 _ nj).trans e, r⟩
    refine ⟨.ref s.heap.objs.size, _, I1, rfl, ⟨_, c, d, rfl, I.hok.fresh (Nat.le_refl _), rfl, ec, ed⟩, ⟨hg.1, hg.2, z'', ?_, ⟨.str ⟨#[c]⟩ u1, .str ⟨#[d]⟩ u2, ?_⟩, keepI D.zi1.symm g1', keepI D.zi2.symm g2'⟩, fun b hb => ?_⟩
    · exact (sb.2 _ D.TIz).trans (hk _ _ D.TIz D.TITO D.TIi1 D.TIi2 h1)
    · exact (sb.2 _ D.TOz).trans h2'
    · have lb : b < s.heap.objs.size := by
        obtain ⟨o1, e1, _⟩ := g1
        obtain ⟨o2, e2, _⟩ := g2
        have hb' : b = z ∨ b = q1 ∨ b = q2 ∨ b = i1 ∨ b = i2 := by simpa using hb
        rcases hb' with r | r | r | r | r <;> rw [r]
        · exact zl
        · exact Heap.lt_size h1
        · exact Heap.lt_size h2
        · exact Heap.lt_size e1
        · exact Heap.lt_size e2
      rw [upd_ne (Nat.ne_of_lt lb)]
      exact (hf b hb).1
  done := by
    intro X hP hw hK hc i pins s σ H E I hf st hg
    subst hP
    subst hw
    subst hK
    obtain ⟨l1, l2, hz, h1, ⟨a, b, h2⟩, g1, g2⟩ := st
    have hh := I.ok.hd hc
    have he : i = x.cps.size ∨ i = y.cps.size := by
      rcases hg with e | e
      · exact .inl (Nat.le_antisymm l1 e)
      · exact .inr (Nat.le_antisymm l2 e)
    exact wpAny_pyNext_zipD2_end D (Draws.text (A := X.A.in1) hh i1 x t) (Draws.text (A := X.A.in1) hh i2 y u) hz h1 h2 g1 g2 l1 l2 he fun h' tk hk => ⟨rfl, I.turnedL (t' := tk) (ch := [z, q1, q2, i1, i2]) (fun c o hb e =>
      hk c o (fun r => hb (by simp [r])) (fun r => hb (by simp [r])) (fun r => hb (by simp [r])) (fun r => hb (by simp [r])) e) hf⟩
  self := fun A i s Q E st h => wpAny_pyIter_zip st.2.2.1 h
def iZipS (ta : TA) : TI := fun σ H R => ta σ H fun vs H1 => ∃ x y : Str, vs = [.str x, .str y] ∧ R (ItzS x y) H1
theorem pi_zipS {X : Cx} {e e2 : Expr} {ta : TA} {p pos tpos : Pos} {elts : List Expr} {kk : Nat} (hg : Gl X "zip") (hm : X.mg "zip" = none) (ha : PA X [e, e2] ta)
    (hs : starEach [e, e2] X.env = (false, eval e X.env) :: starEach [e2] X.env := by rfl) (hpl : (backTo pos (starEach [e2] X.env)).any (·.1) = false := by rfl) :
    PI X (.Tuple elts kk tpos) (.Call (.Name "zip" p) [e, e2] [] pos) (iZipS ta) := by
  refine ⟨fun pins s σ H R I h => ?_⟩
  refine Call_ (ld_blt I hg hm PyProof.Rows.boot_zip (PyProof.Rows.callWith_type1 (thn (ha.run pos pins s σ H _ I h) fun us s1 ⟨vs, H1, I1, r1, x, y, ev, q⟩ => ?_) hs hpl))
  subst ev
  obtain ⟨v1, v2, rfl, g1, g2⟩ := vals2 r1
  obtain ⟨t, rfl⟩ := g1
  obtain ⟨u, rfl⟩ := g2
  refine zip_begins2 (begins_text x t) (begins_text y u) trivial trivial fun h' hz h1 h2 e1 e2 hsz hk => wpAny_pyIter_zip hz ?_
  have I2 : Inv X pins σ H1 { s1 with heap := h' } := I1.kept (t' := s1.toks) hk
  have D : ZipSep2 (s1.heap.objs.size + 4) (s1.heap.objs.size + 2) (s1.heap.objs.size + 3) s1.heap.objs.size (s1.heap.objs.size + 1) [s1.heap.objs.size] [s1.heap.objs.size + 1] :=
    zip_sep2 (N := s1.heap.objs.size) (fp1 := []) (fp2 := []) (fun b hb => nomatch hb) (fun b hb => nomatch hb)
  refine ⟨s1.heap.objs.size + 4, [s1.heap.objs.size + 4, s1.heap.objs.size + 2, s1.heap.objs.size + 3, s1.heap.objs.size, s1.heap.objs.size + 1], _, _, H1, rfl, I2, turn_zipS (x := x) (y := y) (t := t) (u := u) D,
    ⟨Nat.zero_le _, Nat.zero_le _, hz, h1, ⟨_, _, h2⟩, ⟨_, e1, rfl, rfl⟩, ⟨_, e2, rfl, rfl⟩⟩, fun b hb => ?_, q⟩
  have hb' : b = s1.heap.objs.size + 4 ∨ b = s1.heap.objs.size + 2 ∨ b = s1.heap.objs.size + 3 ∨ b = s1.heap.objs.size ∨ b = s1.heap.objs.size + 1 := by simpa using hb
  have lb : s1.heap.objs.size ≤ b := by
    rcases hb' with r | r | r | r | r <;> rw [r]
    · exact Nat.le_add_right _ _
    · exact Nat.le_add_right _ _
    · exact Nat.le_add_right _ _
    · exact Nat.le_refl _
    · exact Nat.le_add_right _ _
  exact I1.fpOk lb (I1.hok.fresh lb)
end FG

namespace FG
open PySem PySem.Spec PyProof.Rows L2
/-- list + list, each one a list that is read, the script too -/
def rCatS (K : PySem.W.Frag) : R2 := fun x y H Q => ∃ l b xs zs, x = .ref l ∧ y = .ref b ∧ SqL K H l xs ∧ SqL K H b zs ∧ xs.length + zs.length ≤ sizeLine ∧ ∀ p, H p = none → Q (.ref p) (upd H p (.lst (xs ++ zs)))
theorem op_catS {X : Cx} : OpR X (binaryOp .Add) (rCatS X.K) := by
  intro pins s σ H x y v u Q I rx ry h
  obtain ⟨l, b, xs, zs, rfl, rfl, h1, h2, hz, q⟩ := h
  cases rx
  cases ry
  obtain ⟨its, r1, p1, _⟩ := I.list h1
  obtain ⟨jts, r2, p2, _⟩ := I.list h2
  obtain ⟨⟨c1, e1, d1, t1⟩, g1, k1, n1, w1⟩ := p1.isList
  obtain ⟨⟨c2, e2, d2, t2⟩, g2, k2, n2, w2⟩ := p2.isList
  simp only at k1 w1 k2 w2
  subst k1
  subst w1
  subst k2
  subst w2
  have hl1 := r1.length
  have hl2 := r2.length
  have e : its.toArray ++ jts.toArray = (its ++ jts).toArray := by simp
  refine concat_meets ⟨_, g1, rfl⟩ ⟨_, g2, rfl⟩ noFill_list_add seq_list_add PySem.F.slot_list_add PySem.F.entry_list_add (PySem.F.args_list_add_2 _ _)
    (list_addW l b its.toArray jts.toArray n1 n2 e1 e2 t1 t2 (by rw [List.size_toArray, List.size_toArray]; omega)) ⟨g1, g2, ?_⟩
  rw [e]
  exact ⟨.ref _, _, I.lnew (t' := s.toks) (r1.append r2) (by rw [List.length_append]; omega), rfl, q _ I.fresh⟩
end FG

set_option maxHeartbeats 4000000
namespace FG
open PySem PyProof.Rows L2
open PySem.Builtin (bitAnd bitOr bitXor bitNot)
/-! ### the places of whole numbers -/
theorem nat_and (a b : Nat) : a &&& b = 2 * (a / 2 &&& b / 2) + (a % 2) * (b % 2) := by
  have h1 := @Nat.and_div_two a b
  have h2 := @Nat.and_mod_two_eq_one a b
  have ha : a % 2 = 0 ∨ a % 2 = 1 := by omega
  have hb : b % 2 = 0 ∨ b % 2 = 1 := by omega
  rw [← h1]
  generalize a &&& b = W at h2 ⊢
  clear h1
  rcases ha with ha | ha <;> rcases hb with hb | hb <;> rw [ha, hb] at h2 ⊢ <;> omega
theorem nat_or (a b : Nat) : a ||| b = 2 * (a / 2 ||| b / 2) + (a % 2 + b % 2 - (a % 2) * (b % 2)) := by
  have h1 := @Nat.or_div_two a b
  have h2 := @Nat.or_mod_two_eq_one a b
  have ha : a % 2 = 0 ∨ a % 2 = 1 := by omega
  have hb : b % 2 = 0 ∨ b % 2 = 1 := by omega
  rw [← h1]
  generalize a ||| b = W at h2 ⊢
  clear h1
  rcases ha with ha | ha <;> rcases hb with hb | hb <;> rw [ha, hb] at h2 ⊢ <;> omega
theorem not_half (x : Int) : bitNot x / 2 = bitNot (x / 2) ∧ bitNot x % 2 = 1 - x % 2 := by
  unfold bitNot
  omega
theorem and_pp {x y : Int} (hx : 0 ≤ x) (hy : 0 ≤ y) : bitAnd x y = ((x.toNat &&& y.toNat : Nat) : Int) := by
  unfold bitAnd
  rw [decide_eq_true hx, decide_eq_true hy]
theorem and_pn {x y : Int} (hx : 0 ≤ x) (hy : y < 0) : bitAnd x y = x - ((x.toNat &&& (bitNot y).toNat : Nat) : Int) := by
  unfold bitAnd
  rw [decide_eq_true hx, decide_eq_false (by omega)]
theorem and_np {x y : Int} (hx : x < 0) (hy : 0 ≤ y) : bitAnd x y = y - ((y.toNat &&& (bitNot x).toNat : Nat) : Int) := by
  unfold bitAnd
  rw [decide_eq_false (by omega), decide_eq_true hy]
theorem and_nn {x y : Int} (hx : x < 0) (hy : y < 0) : bitAnd x y = bitNot (((bitNot x).toNat ||| (bitNot y).toNat : Nat) : Int) := by
  unfold bitAnd
  rw [decide_eq_false (by omega), decide_eq_false (by omega)]
theorem bit01 (x : Int) : x % 2 = 0 ∨ x % 2 = 1 := by omega
theorem nbit01 (x : Nat) : x % 2 = 0 ∨ x % 2 = 1 := by omega
theorem and_half (x y : Int) : bitAnd x y = 2 * bitAnd (x / 2) (y / 2) + (x % 2) * (y % 2) := by
  by_cases hx : 0 ≤ x <;> by_cases hy : 0 ≤ y
  · rw [and_pp hx hy, and_pp (x := x / 2) (y := y / 2) (by omega) (by omega), nat_and]
    have e1 : x.toNat / 2 = (x / 2).toNat := by omega
    have e2 : y.toNat / 2 = (y / 2).toNat := by omega
    rw [e1, e2]
    rcases bit01 x with h1 | h1 <;> rcases bit01 y with h2 | h2 <;> rw [h1, h2]
    all_goals
      have q1 : x.toNat % 2 = (x % 2).toNat := by omega
      have q2 : y.toNat % 2 = (y % 2).toNat := by omega
      rw [q1, q2, h1, h2]
      simp
  · have hy' : y < 0 := by omega
    rw [and_pn hx hy', and_pn (x := x / 2) (y := y / 2) (by omega) (by omega), nat_and]
    have n := not_half y
    have e1 : x.toNat / 2 = (x / 2).toNat := by omega
    have e2 : (bitNot y).toNat / 2 = (bitNot (y / 2)).toNat := by
      rw [← n.1]
      omega
    rw [e1, e2]
    have q1 : x.toNat % 2 = (x % 2).toNat := by omega
    have q2 : (bitNot y).toNat % 2 = (1 - y % 2).toNat := by
      have : 0 ≤ bitNot y := by unfold bitNot; omega
      omega
    rw [q1, q2]
    generalize ((x / 2).toNat &&& (bitNot (y / 2)).toNat) = W
    rcases bit01 x with h1 | h1 <;> rcases bit01 y with h2 | h2 <;> rw [h1, h2] <;> simp <;> omega
  · have hx' : x < 0 := by omega
    rw [and_np hx' hy, and_np (x := x / 2) (y := y / 2) (by omega) (by omega), nat_and]
    have n := not_half x
    have e1 : y.toNat / 2 = (y / 2).toNat := by omega
    have e2 : (bitNot x).toNat / 2 = (bitNot (x / 2)).toNat := by
      rw [← n.1]
      omega
    rw [e1, e2]
    have q1 : y.toNat % 2 = (y % 2).toNat := by omega
    have q2 : (bitNot x).toNat % 2 = (1 - x % 2).toNat := by
      have : 0 ≤ bitNot x := by unfold bitNot; omega
      omega
    rw [q1, q2]
    generalize ((y / 2).toNat &&& (bitNot (x / 2)).toNat) = W
    rcases bit01 x with h1 | h1 <;> rcases bit01 y with h2 | h2 <;> rw [h1, h2] <;> simp <;> omega
  · have hx' : x < 0 := by omega
    have hy' : y < 0 := by omega
    rw [and_nn hx' hy', and_nn (x := x / 2) (y := y / 2) (by omega) (by omega), nat_or]
    have n1 := not_half x
    have n2 := not_half y
    have e1 : (bitNot x).toNat / 2 = (bitNot (x / 2)).toNat := by
      rw [← n1.1]
      omega
    have e2 : (bitNot y).toNat / 2 = (bitNot (y / 2)).toNat := by
      rw [← n2.1]
      omega
    rw [e1, e2]
    have q1 : (bitNot x).toNat % 2 = (1 - x % 2).toNat := by
      have : 0 ≤ bitNot x := by unfold bitNot; omega
      omega
    have q2 : (bitNot y).toNat % 2 = (1 - y % 2).toNat := by
      have : 0 ≤ bitNot y := by unfold bitNot; omega
      omega
    rw [q1, q2]
    generalize ((bitNot (x / 2)).toNat ||| (bitNot (y / 2)).toNat) = W
    unfold bitNot
    rcases bit01 x with h1 | h1 <;> rcases bit01 y with h2 | h2 <;> rw [h1, h2] <;> simp <;> omega
theorem or_half (x y : Int) : bitOr x y = 2 * bitOr (x / 2) (y / 2) + (x % 2 + y % 2 - (x % 2) * (y % 2)) := by
  unfold bitOr
  have h := and_half (bitNot x) (bitNot y)
  have n1 := not_half x
  have n2 := not_half y
  rw [n1.1, n2.1, n1.2, n2.2] at h
  rw [h]
  generalize bitAnd (bitNot (x / 2)) (bitNot (y / 2)) = W
  unfold bitNot
  rcases bit01 x with h1 | h1 <;> rcases bit01 y with h2 | h2 <;> rw [h1, h2] <;> omega
theorem xor_half (x y : Int) : bitXor x y = 2 * bitXor (x / 2) (y / 2) + (x + y) % 2 := by
  unfold bitXor
  rw [and_half x y, or_half x y]
  generalize bitAnd (x / 2) (y / 2) = W
  generalize bitOr (x / 2) (y / 2) = Z
  rcases bit01 x with h1 | h1 <;> rcases bit01 y with h2 | h2 <;> rw [h1, h2] <;> omega
theorem xor_div (x y : Int) : bitXor x y / 2 = bitXor (x / 2) (y / 2) := by
  have := xor_half x y
  omega
theorem xor_mod (x y : Int) : bitXor x y % 2 = (x + y) % 2 := by
  have := xor_half x y
  omega
theorem and_div (x y : Int) : bitAnd x y / 2 = bitAnd (x / 2) (y / 2) := by
  have := and_half x y
  rcases bit01 x with h1 | h1 <;> rcases bit01 y with h2 | h2 <;> rw [h1, h2] at this <;> omega
theorem and_mod (x y : Int) : bitAnd x y % 2 = (x % 2) * (y % 2) := by
  have := and_half x y
  rcases bit01 x with h1 | h1 <;> rcases bit01 y with h2 | h2 <;> rw [h1, h2] at this ⊢ <;> omega
theorem and_bounds {x y : Int} (hy : 0 ≤ y) : 0 ≤ bitAnd x y ∧ bitAnd x y ≤ y := by
  by_cases hx : 0 ≤ x
  · rw [and_pp hx hy]
    have := @Nat.and_le_right x.toNat y.toNat
    omega
  · rw [and_np (by omega) hy]
    have := @Nat.and_le_left y.toNat (bitNot x).toNat
    omega
/-- two numbers on one side of nought -/
theorem xor_same {x y : Int} {N : Nat} (h : (0 ≤ x ∧ 0 ≤ y ∧ x < 2 ^ N ∧ y < 2 ^ N) ∨ (x < 0 ∧ y < 0 ∧ -(2 ^ N) ≤ x ∧ -(2 ^ N) ≤ y)) : 0 ≤ bitXor x y ∧ bitXor x y < 2 ^ N := by
  have key : ∀ a b : Nat, a < 2 ^ N → b < 2 ^ N → (0 : Int) ≤ ((a ||| b : Nat) : Int) - ((a &&& b : Nat) : Int) ∧ ((a ||| b : Nat) : Int) - ((a &&& b : Nat) : Int) < 2 ^ N := fun a b ha hb => by
    have h1 := Nat.or_lt_two_pow ha hb
    have h2 : a &&& b ≤ a := Nat.and_le_left
    have h3 : a ≤ a ||| b := Nat.left_le_or
    have h4 : ((a ||| b : Nat) : Int) < ((2 ^ N : Nat) : Int) := Int.ofNat_lt.mpr h1
    rw [Int.natCast_pow] at h4
    constructor
    · omega
    · have : ((2 : Nat) : Int) ^ N = (2 : Int) ^ N := rfl
      omega
  have nn : ∀ z : Int, bitNot (bitNot z) = z := fun z => by unfold bitNot; omega
  have c2 : ((2 ^ N : Nat) : Int) = (2 : Int) ^ N := Int.natCast_pow 2 N
  rcases h with ⟨hx, hy, bx, by'⟩ | ⟨hx, hy, bx, by'⟩
  · have e : bitXor x y = ((x.toNat ||| y.toNat : Nat) : Int) - ((x.toNat &&& y.toNat : Nat) : Int) := by
      unfold bitXor
      unfold bitOr
      rw [and_pp hx hy, and_nn (x := bitNot x) (y := bitNot y) (by unfold bitNot; omega) (by unfold bitNot; omega), nn, nn, nn]
    rw [e]
    exact key _ _ (by omega) (by omega)
  · have e : bitXor x y = (((bitNot x).toNat ||| (bitNot y).toNat : Nat) : Int) - (((bitNot x).toNat &&& (bitNot y).toNat : Nat) : Int) := by
      unfold bitXor
      unfold bitOr
      rw [and_nn hx hy, and_pp (x := bitNot x) (y := bitNot y) (by unfold bitNot; omega) (by unfold bitNot; omega)]
      generalize ((bitNot x).toNat ||| (bitNot y).toNat) = A
      generalize ((bitNot x).toNat &&& (bitNot y).toNat) = B
      unfold bitNot
      omega
    rw [e]
    have b1 : (bitNot x).toNat < 2 ^ N := by
      have : bitNot x < 2 ^ N := by unfold bitNot; omega
      omega
    have b2 : (bitNot y).toNat < 2 ^ N := by
      have : bitNot y < 2 ^ N := by unfold bitNot; omega
      omega
    exact key _ _ b1 b2
theorem xor_zero : ∀ (k : Nat) (x y : Int), x.natAbs + y.natAbs ≤ k → bitXor x y = 0 → x = y
  | 0, x, y, hk, h => by omega
  | k + 1, x, y, hk, h => by
    have h1 := xor_half x y
    rw [h] at h1
    have h2 : bitXor (x / 2) (y / 2) = 0 := by omega
    have h3 : (x + y) % 2 = 0 := by omega
    by_cases hs : (x = 0 ∨ x = -1) ∧ (y = 0 ∨ y = -1)
    · obtain ⟨a | a, b | b⟩ := hs <;> subst a <;> subst b
      · rfl
      · exact absurd h3 (by decide)
      · exact absurd h3 (by decide)
      · rfl
    · have := xor_zero k (x / 2) (y / 2) (by omega) h2
      omega
/-! ### the figures of two numbers' difference -/
def dig : Nat → Int → Int → List Int
  | 0, _, _ => []
  | L + 1, u, v => (u % 2 - v % 2) :: dig L (u / 2) (v / 2)
theorem dig_len : ∀ (L : Nat) (u v : Int), (dig L u v).length = L
  | 0, _, _ => rfl
  | L + 1, u, v => by
    show (dig L (u / 2) (v / 2)).length + 1 = L + 1
    rw [dig_len L]
theorem dig_fig : ∀ (L : Nat) (u v : Int), ∀ n ∈ dig L u v, -1 ≤ n ∧ n ≤ 1
  | 0, _, _, n, h => nomatch h
  | L + 1, u, v, n, h => by
    rcases List.mem_cons.mp h with e | e
    · omega
    · exact dig_fig L (u / 2) (v / 2) n e
theorem dig_val : ∀ (L : Nat) (u v : Int), 0 ≤ bitXor u v → bitXor u v < 2 ^ L → val (dig L u v) = u - v
  | 0, u, v, h0, h1 => by
    have : bitXor u v = 0 := by
      have e : (2 : Int) ^ 0 = 1 := rfl
      omega
    have := xor_zero _ u v (Nat.le_refl _) this
    show (0 : Int) = u - v
    omega
  | L + 1, u, v, h0, h1 => by
    have hx := xor_div u v
    have ih := dig_val L (u / 2) (v / 2) (by omega) (by rw [Int.pow_succ] at h1; omega)
    show (u % 2 - v % 2) + 2 * val (dig L (u / 2) (v / 2)) = u - v
    rw [ih]
    omega
theorem dig_last : ∀ (L : Nat) (u v : Int), 2 ^ L ≤ bitXor u v → bitXor u v < 2 ^ (L + 1) → (dig (L + 1) u v).getLast? ≠ some 0
  | 0, u, v, h0, h1 => by
    have e : bitXor u v = 1 := by
      have e0 : (2 : Int) ^ 0 = 1 := rfl
      have e1 : (2 : Int) ^ 1 = 2 := rfl
      omega
    have := xor_mod u v
    rw [e] at this
    show ([u % 2 - v % 2] : List Int).getLast? ≠ some 0
    simp
    omega
  | L + 1, u, v, h0, h1 => by
    have hx := xor_div u v
    have ih := dig_last L (u / 2) (v / 2) (by rw [Int.pow_succ] at h0; omega) (by rw [Int.pow_succ] at h1; omega)
    show ((u % 2 - v % 2) :: dig (L + 1) (u / 2) (v / 2)).getLast? ≠ some 0
    have e : dig (L + 1) (u / 2) (v / 2) = (u / 2 % 2 - v / 2 % 2) :: dig L (u / 2 / 2) (v / 2 / 2) := rfl
    rw [e, List.getLast?_cons_cons, ← e]
    exact ih
end FG

set_option maxHeartbeats 4000000
namespace FG
open PySem PyProof.Rows L2
open PySem.Builtin (bitAnd bitOr bitXor bitNot)
theorem gaps_cons {x : Int} {l : List Int} (h1 : x = 0 ∨ l.head? = some 0 ∨ l = []) (h2 : gaps l = true) : gaps (x :: l) = true := by
  match l, h1, h2 with
  | [], _, _ => rfl
  | y :: r, h1, h2 =>
    show ((decide (x = 0) || decide (y = 0)) && gaps (y :: r)) = true
    rw [h2]
    rcases h1 with h | h | h
    · simp [h]
    · simp at h
      simp [h]
    · exact nomatch h
theorem dig_gaps : ∀ (L : Nat) (u v e : Int), u = 3 * v + e → 0 ≤ e → e ≤ 2 → gaps (dig L u v) = true ∧ (e ≠ 1 → (dig L u v).head? = some 0 ∨ dig L u v = [])
  | 0, _, _, _, _, _, _ => ⟨rfl, fun _ => .inr rfl⟩
  | L + 1, u, v, e, he, h0, h2 => by
    have ih := dig_gaps L (u / 2) (v / 2) ((3 * (v % 2) + e) / 2) (by omega) (by omega) (by omega)
    constructor
    · show gaps ((u % 2 - v % 2) :: dig L (u / 2) (v / 2)) = true
      refine gaps_cons ?_ ih.1
      by_cases h1 : e = 1
      · exact .inr (ih.2 (by omega))
      · exact .inl (by omega)
    · intro h1
      refine .inl ?_
      show some (u % 2 - v % 2) = some 0
      congr 1
      omega
/-! ### a lean row is the only one of its worth -/
theorem val_ne : ∀ r : List Int, (∀ n ∈ r, -1 ≤ n ∧ n ≤ 1) → r.getLast? ≠ some 0 → r ≠ [] → val r ≠ 0
  | [], _, _, h => absurd rfl h
  | [d], _, h, _ => by
    show d + 2 * 0 ≠ 0
    have : d ≠ 0 := fun e => h (by rw [e]; rfl)
    omega
  | d :: x :: t, hb, h, _ => by
    have ih := val_ne (x :: t) (fun n hn => hb n (List.mem_cons_of_mem _ hn)) (by rw [List.getLast?_cons_cons] at h; exact h) (by simp)
    have hd := hb d List.mem_cons_self
    show d + 2 * val (x :: t) ≠ 0
    omega
theorem gaps_tail {x : Int} {l : List Int} (h : gaps (x :: l) = true) : gaps l = true := by
  match l, h with
  | [], _ => rfl
  | y :: r, h =>
    have h' : ((decide (x = 0) || decide (y = 0)) && gaps (y :: r)) = true := h
    exact (Bool.and_eq_true_iff.mp h').2
theorem row_tail {x : Int} {l : List Int} (r : Row (x :: l)) : Row l := by
  refine ⟨fun n hn => r.1 n (List.mem_cons_of_mem _ hn), ?_⟩
  match l, r with
  | [], _ => exact fun z => nomatch z
  | y :: t, r =>
    have := r.2
    rw [List.getLast?_cons_cons] at this
    exact this
theorem odd_next {x : Int} {l : List Int} (h : gaps (x :: l) = true) (hx : x ≠ 0) : val l % 2 = 0 := by
  match l, h with
  | [], _ => rfl
  | y :: r, h =>
    have h' : ((decide (x = 0) || decide (y = 0)) && gaps (y :: r)) = true := h
    have h1 := (Bool.and_eq_true_iff.mp h').1
    have hy : y = 0 := by simpa [hx] using h1
    show (y + 2 * val r) % 2 = 0
    omega
theorem lean_only : ∀ (r t : List Int), Row r → Row t → gaps r = true → gaps t = true → val r = val t → r = t
  | [], [], _, _, _, _, _ => rfl
  | [], y :: t, _, ht, _, _, e => absurd e.symm (val_ne (y :: t) ht.1 ht.2 (by simp))
  | x :: r, [], hr, _, _, _, e => absurd e (val_ne (x :: r) hr.1 hr.2 (by simp))
  | x :: r, y :: t, hr, ht, gr, gt, e => by
    have hx := hr.1 x List.mem_cons_self
    have hy := ht.1 y List.mem_cons_self
    have e' : x + 2 * val r = y + 2 * val t := e
    have same : x = y := by
      by_cases x0 : x = 0
      · omega
      · by_cases y0 : y = 0
        · omega
        · have o1 := odd_next gr x0
          have o2 := odd_next gt y0
          omega
    subst same
    have ih := lean_only r t (row_tail hr) (row_tail ht) (gaps_tail gr) (gaps_tail gt) (by omega)
    rw [ih]
/-! ### the places of a number as a text -/
def bitsLE : Nat → Nat → List Nat
  | 0, _ => []
  | L + 1, x => (x % 2 + 48) :: bitsLE L (x / 2)
theorem bitsLE_len : ∀ (L x : Nat), (bitsLE L x).length = L
  | 0, _ => rfl
  | L + 1, x => congrArg (· + 1) (bitsLE_len L (x / 2))
theorem bitsLE_zero : ∀ L : Nat, bitsLE L 0 = List.replicate L 48
  | 0 => rfl
  | L + 1 => by
    show (0 % 2 + 48) :: bitsLE L (0 / 2) = _
    rw [Nat.zero_div, bitsLE_zero L]
    rfl
def digs (x : Nat) : List Nat := ((Nat.toDigits 2 x).map Char.toNat).reverse
theorem digs_small {x : Nat} (h : x < 2) : digs x = [x + 48] := by
  unfold digs
  rw [Nat.toDigits_of_lt_base h]
  have c : x = 0 ∨ x = 1 := by omega
  rcases c with e | e <;> subst e <;> rfl
theorem digs_step {x : Nat} (h : 2 ≤ x) : digs x = (x % 2 + 48) :: digs (x / 2) := by
  have e := @Nat.toDigits_append_toDigits 2 (x / 2) (x % 2) (by decide) (by omega) (by omega)
  have e2 : 2 * (x / 2) + x % 2 = x := by omega
  rw [e2] at e
  have e3 := digs_small (x := x % 2) (by omega)
  unfold digs at e3 ⊢
  rw [← e, List.map_append, List.reverse_append, e3]
  rfl
theorem digs_bits : ∀ (L x : Nat), x < 2 ^ (L + 1) → (digs x).length ≤ L + 1 ∧ digs x ++ List.replicate (L + 1 - (digs x).length) 48 = bitsLE (L + 1) x
  | 0, x, h => by
    have hx : x < 2 := by simpa using h
    rw [digs_small hx]
    refine ⟨Nat.le_refl _, ?_⟩
    show [x + 48] ++ [] = [x % 2 + 48]
    rw [List.append_nil, Nat.mod_eq_of_lt hx]
  | L + 1, x, h => by
    by_cases hx : x < 2
    · rw [digs_small hx]
      refine ⟨by simp, ?_⟩
      show (x + 48) :: List.replicate (L + 1 + 1 - 1) 48 = (x % 2 + 48) :: bitsLE (L + 1) (x / 2)
      have e : x / 2 = 0 := by omega
      rw [e, bitsLE_zero, Nat.mod_eq_of_lt hx]
      rfl
    · have h2 : 2 ≤ x := by omega
      have ih := digs_bits L (x / 2) (by rw [Nat.pow_succ] at h; omega)
      rw [digs_step h2]
      refine ⟨by simp only [List.length_cons]; omega, ?_⟩
      show (x % 2 + 48) :: (digs (x / 2) ++ List.replicate (L + 1 + 1 - ((digs (x / 2)).length + 1)) 48) = (x % 2 + 48) :: bitsLE (L + 1) (x / 2)
      have e : L + 1 + 1 - ((digs (x / 2)).length + 1) = L + 1 - (digs (x / 2)).length := by omega
      rw [e, ih.2]
theorem binText_list (x : Nat) : (XB.binText (x : Int)).cps.toList = (digs x).reverse := by
  unfold XB.binText XB.binSigns digs
  have h : decide (((x : Nat) : Int) < 0) = false := decide_eq_false (by omega)
  rw [h]
  simp
theorem binText_len (x : Nat) : (XB.binText (x : Int)).length = (digs x).length := by
  have := congrArg List.length (binText_list x)
  rw [Array.length_toList, List.length_reverse] at this
  exact this
theorem digs_head (x : Nat) : ∀ c ∈ digs x, c = 48 ∨ c = 49 := by
  induction x using Nat.strongRecOn with
  | _ x ih =>
    intro c hc
    by_cases hx : x < 2
    · rw [digs_small hx] at hc
      have := List.mem_singleton.mp hc
      omega
    · rw [digs_step (by omega)] at hc
      rcases List.mem_cons.mp hc with e | e
      · omega
      · exact ih (x / 2) (by omega) c e
/-- filled up with 0 and turned round: the places, the lowest first -/
theorem filled {L x : Nat} (h : x < 2 ^ (L + 1)) : (Txt.zfill (XB.binText (x : Int)) ((L + 1 : Nat) : Int)).cps.toList.reverse = bitsLE (L + 1) x := by
  obtain ⟨h1, h2⟩ := digs_bits L x h
  have el := binText_len x
  unfold Txt.zfill
  by_cases hc : ((L + 1 : Nat) : Int) ≤ ((XB.binText (x : Int)).length : Int)
  · rw [if_pos hc, binText_list, List.reverse_reverse, ← h2]
    have : L + 1 - (digs x).length = 0 := by omega
    rw [this]
    simp
  · rw [if_neg hc]
    have first : ∀ c, (XB.binText (x : Int)).cps[0]? = some c → c = 48 ∨ c = 49 := fun c hc => by
      have : c ∈ (XB.binText (x : Int)).cps.toList := by
        rw [← Array.getElem?_toList] at hc
        exact List.mem_of_getElem? hc
      rw [binText_list] at this
      exact digs_head x c (List.mem_reverse.mp this)
    have eP : zfilled (XB.binText (x : Int)) ((((L + 1 : Nat) : Int)).toNat - (XB.binText (x : Int)).length) = Builtin.Str.padded (XB.binText (x : Int)) ((((L + 1 : Nat) : Int)).toNat - (XB.binText (x : Int)).length) 0 48 := by
      unfold zfilled
      split
      · rename_i e
        have := first _ e
        omega
      · rename_i e
        have := first _ e
        omega
      · rfl
    rw [eP, el, Int.toNat_natCast, ← h2]
    have eq : (Builtin.Str.padded (XB.binText (x : Int)) (L + 1 - (digs x).length) 0 48).cps.toList = List.replicate (L + 1 - (digs x).length) 48 ++ (XB.binText (x : Int)).cps.toList := by
      unfold Builtin.Str.padded
      simp
    rw [eq, List.reverse_append, binText_list, List.reverse_reverse]
    simp
/-- the two texts' figures, one taken from the other -/
theorem bits_dig : ∀ (L : Nat) (u v : Int), 0 ≤ bitXor u v →
    List.zipWith (fun a b : Nat => (a : Int) - (b : Int)) (bitsLE L (bitAnd u (bitXor u v)).toNat) (bitsLE L (bitAnd v (bitXor u v)).toNat) = dig L u v
  | 0, _, _, _ => rfl
  | L + 1, u, v, h => by
    have hx := xor_div u v
    have hm := xor_mod u v
    have ih := bits_dig L (u / 2) (v / 2) (by omega)
    have a1 := and_bounds (x := u) h
    have b1 := and_bounds (x := v) h
    have a2 := and_div u (bitXor u v)
    have b2 := and_div v (bitXor u v)
    have a3 := and_mod u (bitXor u v)
    have b3 := and_mod v (bitXor u v)
    rw [hx] at a2 b2
    rw [hm] at a3 b3
    have e1 : (bitAnd u (bitXor u v)).toNat / 2 = (bitAnd (u / 2) (bitXor (u / 2) (v / 2))).toNat := by omega
    have e2 : (bitAnd v (bitXor u v)).toNat / 2 = (bitAnd (v / 2) (bitXor (u / 2) (v / 2))).toNat := by omega
    show ((((bitAnd u (bitXor u v)).toNat % 2 + 48 : Nat) : Int) - (((bitAnd v (bitXor u v)).toNat % 2 + 48 : Nat) : Int)) :: List.zipWith _ (bitsLE L ((bitAnd u (bitXor u v)).toNat / 2)) (bitsLE L ((bitAnd v (bitXor u v)).toNat / 2)) = (u % 2 - v % 2) :: dig L (u / 2) (v / 2)
    rw [e1, e2, ih]
    congr 1
    have c1 : (((bitAnd u (bitXor u v)).toNat % 2 : Nat) : Int) = bitAnd u (bitXor u v) % 2 := by omega
    have c2 : (((bitAnd v (bitXor u v)).toNat % 2 : Nat) : Int) = bitAnd v (bitXor u v) % 2 := by omega
    have c3 : ((((bitAnd u (bitXor u v)).toNat % 2 + 48 : Nat) : Int) - (((bitAnd v (bitXor u v)).toNat % 2 + 48 : Nat) : Int)) = bitAnd u (bitXor u v) % 2 - bitAnd v (bitXor u v) % 2 := by omega
    rw [c3, a3, b3]
    rcases bit01 u with p | p <;> rcases bit01 v with q | q
    all_goals
      have z : (u + v) % 2 = (u % 2 + v % 2) % 2 := by omega
      rw [z, p, q]
      rfl
theorem bitsLE_get : ∀ (L x i : Nat), i < L → ∃ c, (bitsLE L x)[i]? = some c ∧ (c = 48 ∨ c = 49)
  | 0, _, _, h => absurd h (Nat.not_lt_zero _)
  | L + 1, x, 0, _ => ⟨x % 2 + 48, rfl, by omega⟩
  | L + 1, x, i + 1, h => bitsLE_get L (x / 2) i (by omega)
/-- what lean's numbers are: the parts of three halves -/
theorem lean_facts {n : Int} {N : Nat} (h : n.natAbs < 2 ^ N) : 0 ≤ bitXor (n + n / 2) (n / 2) ∧ bitXor (n + n / 2) (n / 2) < 2 ^ (N + 1) := by
  refine xor_same ?_
  have e : (2 : Int) ^ (N + 1) = 2 * 2 ^ N := by rw [Int.pow_succ, Int.mul_comm]
  have c : ((2 ^ N : Nat) : Int) = (2 : Int) ^ N := Int.natCast_pow 2 N
  rw [e]
  by_cases h0 : 0 ≤ n
  · exact .inl ⟨by omega, by omega, by omega, by omega⟩
  · exact .inr ⟨by omega, by omega, by omega, by omega⟩
/-- the row that lean tells -/
theorem lean_row {n : Int} (hn : n ≠ 0) {N : Nat} (h : n.natAbs < 2 ^ N) :
    ∃ L, Builtin.Int.intBits (bitXor (n + n / 2) (n / 2)) = L + 1 ∧ L + 1 ≤ N + 1 ∧ (bitAnd (n + n / 2) (bitXor (n + n / 2) (n / 2))).toNat < 2 ^ (L + 1) ∧ (bitAnd (n / 2) (bitXor (n + n / 2) (n / 2))).toNat < 2 ^ (L + 1) ∧
      Row (dig (L + 1) (n + n / 2) (n / 2)) ∧ gaps (dig (L + 1) (n + n / 2) (n / 2)) = true ∧ val (dig (L + 1) (n + n / 2) (n / 2)) = n := by
  obtain ⟨x0, x1⟩ := lean_facts h
  have xn : bitXor (n + n / 2) (n / 2) ≠ 0 := fun e => by
    have := xor_zero _ _ _ (Nat.le_refl _) e
    omega
  generalize hX : bitXor (n + n / 2) (n / 2) = X at x0 x1 xn
  have hb : Builtin.Int.intBits X = X.natAbs.log2 + 1 := by
    unfold Builtin.Int.intBits
    rw [if_neg (by simpa using xn)]
  have hx' : X.natAbs ≠ 0 := by omega
  have l1 := Nat.log2_self_le hx'
  have l2 : X.natAbs < 2 ^ (X.natAbs.log2 + 1) := (Nat.log2_lt hx').mp (Nat.lt_succ_self _)
  have l3 : X.natAbs.log2 < N + 1 := by
    refine (Nat.log2_lt hx').mpr ?_
    have c : ((2 ^ (N + 1) : Nat) : Int) = (2 : Int) ^ (N + 1) := Int.natCast_pow 2 (N + 1)
    omega
  generalize X.natAbs.log2 = L at hb l1 l2 l3
  have c1 : ((2 ^ L : Nat) : Int) = (2 : Int) ^ L := Int.natCast_pow 2 L
  have c2 : ((2 ^ (L + 1) : Nat) : Int) = (2 : Int) ^ (L + 1) := Int.natCast_pow 2 (L + 1)
  have a1 := and_bounds (x := n + n / 2) (y := X) x0
  have b1 := and_bounds (x := n / 2) (y := X) x0
  refine ⟨L, hb, by omega, by omega, by omega, ⟨dig_fig _ _ _, ?_⟩, ?_, ?_⟩
  · exact dig_last L _ _ (by rw [hX]; omega) (by rw [hX]; omega)
  · exact (dig_gaps (L + 1) (n + n / 2) (n / 2) (n % 2) (by omega) (by omega) (by omega)).1
  · rw [dig_val (L + 1) _ _ (by rw [hX]; exact x0) (by rw [hX]; omega)]
    omega
end FG

set_option maxHeartbeats 4000000
namespace FG
open PySem PyProof.Rows L2
theorem gaps_mid : ∀ (a : List Int) {b : List Int}, gaps a = true → gaps (0 :: b) = true → gaps (a ++ 0 :: b) = true
  | [], _, _, h => h
  | [x], b, _, h => gaps_cons (.inr (.inl rfl)) h
  | x :: y :: r, b, ha, h => by
    have ha' : ((decide (x = 0) || decide (y = 0)) && gaps (y :: r)) = true := ha
    obtain ⟨h1, h2⟩ := Bool.and_eq_true_iff.mp ha'
    have ih := gaps_mid (y :: r) h2 h
    show ((decide (x = 0) || decide (y = 0)) && gaps ((y :: r) ++ 0 :: b)) = true
    rw [h1, ih]
    rfl
/-- rows of 0 alone ahead of a row -/
theorem gaps_zeros : ∀ (g : Nat) {b : List Int}, gaps b = true → gaps (List.replicate g 0 ++ b) = true
  | 0, _, h => h
  | g + 1, b, h => by
    rw [List.replicate_succ, List.cons_append]
    exact gaps_cons (.inl rfl) (gaps_zeros g h)
theorem gaps_left : ∀ (a : List Int) {b : List Int}, gaps (a ++ b) = true → gaps a = true
  | [], _, _ => rfl
  | [x], _, _ => rfl
  | x :: y :: r, b, h => by
    have h' : ((decide (x = 0) || decide (y = 0)) && gaps ((y :: r) ++ b)) = true := h
    obtain ⟨h1, h2⟩ := Bool.and_eq_true_iff.mp h'
    show ((decide (x = 0) || decide (y = 0)) && gaps (y :: r)) = true
    rw [h1, gaps_left (y :: r) h2]
    rfl
theorem gaps_right : ∀ (a : List Int) {b : List Int}, gaps (a ++ b) = true → gaps b = true
  | [], _, h => h
  | x :: r, b, h => gaps_right r (gaps_tail h)
/-- another head in a row's place -/
theorem gaps_swap {a : List Int} {r s : Int} {b : List Int} (h : gaps (a ++ r :: b) = true) (hr : r ≠ 0) : gaps (a ++ s :: b) = true := by
  have hb : b.head? = some 0 ∨ b = [] := by
    have h1 := gaps_right a h
    match b, h1 with
    | [], _ => exact .inr rfl
    | y :: t, h1 =>
      have h' : ((decide (r = 0) || decide (y = 0)) && gaps (y :: t)) = true := h1
      have h2 := (Bool.and_eq_true_iff.mp h').1
      have hy : y = 0 := by simpa [hr] using h2
      exact .inl (by rw [hy]; rfl)
  have hs : gaps (s :: b) = true := by
    refine gaps_cons ?_ (gaps_tail (gaps_right a h))
    rcases hb with h | h
    · exact .inr (.inl h)
    · exact .inr (.inr h)
  -- the figure ahead of r is 0
  induction a with
  | nil => exact hs
  | cons x t ih =>
    have ht := ih (gaps_tail h)
    match t, h, ht with
    | [], h, ht =>
      have h' : ((decide (x = 0) || decide (r = 0)) && gaps (r :: b)) = true := h
      have h2 := (Bool.and_eq_true_iff.mp h').1
      have hx : x = 0 := by simpa [hr] using h2
      exact gaps_cons (.inl hx) ht
    | y :: u, h, ht =>
      have h' : ((decide (x = 0) || decide (y = 0)) && gaps ((y :: u) ++ r :: b)) = true := h
      have h2 := (Bool.and_eq_true_iff.mp h').1
      show ((decide (x = 0) || decide (y = 0)) && gaps ((y :: u) ++ s :: b)) = true
      rw [h2, ht]
      rfl
theorem gaps_behind {r : Int} {b : List Int} (h : gaps (r :: b) = true) (hr : r ≠ 0) : b.head? = some 0 ∨ b = [] := by
  match b, h with
  | [], _ => exact .inr rfl
  | y :: t, h =>
    have h' : ((decide (r = 0) || decide (y = 0)) && gaps (y :: t)) = true := h
    have h2 := (Bool.and_eq_true_iff.mp h').1
    have hy : y = 0 := by simpa [hr] using h2
    exact .inl (by rw [hy]; rfl)
/-- a row's figure moved up by a place -/
theorem gaps_move {a : List Int} {r : Int} {b : List Int} (h : gaps (a ++ r :: b) = true) (hr : r ≠ 0) : gaps (a ++ 0 :: r :: b) = true := by
  have h1 := gaps_right a h
  exact gaps_mid a (gaps_left a h) (gaps_cons (.inl rfl) h1)
/-- the row without the 0 at its end -/
def strip (l : List Int) : List Int := if l.getLast? = some 0 then strip l.dropLast else l
termination_by l.length
decreasing_by
  rename_i h
  cases l with
  | nil => exact nomatch h
  | cons x t => simp
theorem val_snoc0 (l : List Int) : val (l ++ [0]) = val l := by
  rw [val_append]
  show val l + 2 ^ l.length * (0 + 2 * 0) = val l
  simp
theorem last_split {l : List Int} {x : Int} (h : l.getLast? = some x) : l = l.dropLast ++ [x] := by
  cases l with
  | nil => exact nomatch h
  | cons y t =>
    have e := List.getLast?_eq_getLast (List.cons_ne_nil y t)
    rw [e] at h
    have h' := Option.some.inj h
    rw [← h']
    exact (List.dropLast_concat_getLast _).symm
theorem val_abs : ∀ l : List Int, (∀ n ∈ l, -1 ≤ n ∧ n ≤ 1) → (val l).natAbs < 2 ^ l.length
  | [], _ => by decide
  | n :: r, h => by
    have ih := val_abs r fun m hm => h m (List.mem_cons_of_mem _ hm)
    have hn := h n List.mem_cons_self
    show (n + 2 * val r).natAbs < 2 ^ (r.length + 1)
    rw [Nat.pow_succ]
    omega
theorem row_drop1 {l : List Int} (h1 : ∀ n ∈ l, -1 ≤ n ∧ n ≤ 1) (h2 : l.getLast? ≠ some 0) : Row (l.drop 1) := by
  cases l with
  | nil => exact ⟨fun n hn => (nomatch hn), fun z => (nomatch z)⟩
  | cons x t => exact row_tail ⟨h1, h2⟩
theorem ne_neg {A B : List Int} {r : Int} (hr : r = 1 ∨ r = -1) : val (A ++ (0 - r) :: B) ≠ val (A ++ r :: B) := by
  rw [val_append, val_append]
  have p : (0 : Int) < 2 ^ A.length := Int.pow_pos (by decide)
  show val A + 2 ^ A.length * (0 - r + 2 * val B) ≠ val A + 2 ^ A.length * (r + 2 * val B)
  intro e
  have e2 : (2 : Int) ^ A.length * (0 - r + 2 * val B) = 2 ^ A.length * (r + 2 * val B) := by omega
  have e3 := Int.eq_of_mul_eq_mul_left (by omega) e2
  omega
theorem ne_out {A B : List Int} {r : Int} (hr : r = 1 ∨ r = -1) : val (A ++ 0 :: B) ≠ val (A ++ r :: B) := by
  rw [val_append, val_append]
  have p : (0 : Int) < 2 ^ A.length := Int.pow_pos (by decide)
  show val A + 2 ^ A.length * (0 + 2 * val B) ≠ val A + 2 ^ A.length * (r + 2 * val B)
  intro e
  have e2 : (2 : Int) ^ A.length * (0 + 2 * val B) = 2 ^ A.length * (r + 2 * val B) := by omega
  have e3 := Int.eq_of_mul_eq_mul_left (by omega) e2
  omega
theorem ne_move {A B : List Int} {r : Int} (hr : r = 1 ∨ r = -1) : val (A ++ 0 :: r :: B) ≠ val (A ++ r :: B) := by
  rw [val_append, val_append]
  have p : (0 : Int) < 2 ^ A.length := Int.pow_pos (by decide)
  show val A + 2 ^ A.length * (0 + 2 * (r + 2 * val B)) ≠ val A + 2 ^ A.length * (r + 2 * val B)
  intro e
  have e2 : (2 : Int) ^ A.length * (0 + 2 * (r + 2 * val B)) = 2 ^ A.length * (r + 2 * val B) := by omega
  have e3 := Int.eq_of_mul_eq_mul_left (by omega) e2
  omega
theorem rep_zero : ∀ g : Nat, (List.replicate g [V.int 0]).flatten = (List.replicate g (0 : Int)).map V.int
  | 0 => rfl
  | g + 1 => by
    rw [List.replicate_succ, List.flatten_cons, rep_zero g, List.replicate_succ, List.map_cons]
    rfl
/-- slices of rows -/
theorem cut_from (ns : List Int) (k : Nat) : cutV (ns.map V.int) (some (k : Int)) none = (ns.drop k).map V.int := by
  unfold cutV
  rw [HT.sIx_nat, HT.sIx_none, List.map_drop]
  by_cases h : k ≤ (ns.map V.int).length
  · rw [Nat.min_eq_left h]
    apply List.take_of_length_le
    rw [List.length_drop]
    exact Nat.le_refl _
  · have h' : (ns.map V.int).length ≤ k := by omega
    rw [Nat.min_eq_right h', List.drop_eq_nil_of_le h', List.drop_eq_nil_of_le (Nat.le_refl _)]
    simp
theorem cut_to (ns : List Int) (k : Nat) : cutV (ns.map V.int) none (some (k : Int)) = (ns.take k).map V.int := by
  unfold cutV
  rw [HT.sIx_nat, HT.sIx_none, List.map_take]
  show List.take (min k (ns.map V.int).length - 0) (List.drop 0 (ns.map V.int)) = _
  rw [Nat.sub_zero, List.drop_zero]
  by_cases h : k ≤ (ns.map V.int).length
  · rw [Nat.min_eq_left h]
  · have h' : (ns.map V.int).length ≤ k := by omega
    rw [Nat.min_eq_right h', List.take_length, List.take_of_length_le h']
theorem cut_but (ns : List Int) : cutV (ns.map V.int) none (some (-1)) = ns.dropLast.map V.int := by
  have e : HT.sIx (ns.map V.int).length (ns.map V.int).length (some (-1)) = ns.length - 1 := by
    show (if (-1 : Int) < 0 then ((-1 : Int) + ((ns.map V.int).length : Int)).toNat else min (-1 : Int).toNat (ns.map V.int).length) = _
    rw [if_pos (by decide), List.length_map]
    show ((-1 : Int) + (ns.length : Int)).toNat = ns.length - 1
    omega
  unfold cutV
  rw [e, HT.sIx_none]
  show List.take (ns.length - 1 - 0) (List.drop 0 (ns.map V.int)) = _
  rw [Nat.sub_zero, List.drop_zero, ← List.map_take, List.dropLast_eq_take]
theorem drop_last_one {ns : List Int} : (ns.drop (ns.length - 1) = [0]) ↔ ns.getLast? = some 0 := by
  constructor
  · intro e
    rw [List.getLast?_eq_getElem?]
    have z := congrArg (fun l => l[0]?) e
    simp only [List.getElem?_drop] at z
    simpa using z
  · intro e
    have s := last_split e
    rw [s]
    simp
end FG

set_option maxHeartbeats 4000000
/-! lists and pairs of lists of whole numbers, as data; many rows at many places -/
namespace FG
open PySem PySem.Spec PyProof.Rows L2
theorem dI_depth (ns : List Int) : PyData.depth (dI ns) ≤ 2 := by
  have := dI_depthAll ns
  simp only [dI, PyData.depth]
  omega
theorem dLs_depth : ∀ rs : List (List Int), PyData.depthAll (rs.map dI) ≤ 2
  | [] => by simp [PyData.depthAll]
  | r :: rs => by
    have ih := dLs_depth rs
    have h := dI_depth r
    simp only [List.map_cons, PyData.depthAll]
    omega
theorem dI_lay1 (ns : List Int) : PyData.canLay0 (dI ns) = true := by
  simp only [dI, PyData.canLay0]
  exact dI_lay ns
theorem dLs_lay : ∀ rs : List (List Int), PyData.canLayAll0 (rs.map dI) = true
  | [] => by simp [PyData.canLayAll0]
  | r :: rs => by
    have ih := dLs_lay rs
    simp [PyData.canLayAll0, dI_lay1, ih]
theorem dLs_eqvAll : ∀ rs ts : List (List Int), PyData.eqvAll (rs.map dI) (ts.map dI) = decide (rs = ts)
  | [], [] => by simp [PyData.eqvAll]
  | [], _ :: _ => by simp [PyData.eqvAll]
  | _ :: _, [] => by simp [PyData.eqvAll]
  | r :: rs, t :: ts => by
    have ih := dLs_eqvAll rs ts
    simp only [List.map_cons, PyData.eqvAll, dI_eqv, ih]
    by_cases h1 : r = t
    · by_cases h2 : rs = ts
      · simp [h1, h2]
      · simp [h1, h2]
    · simp [h1]
/-- a list of lists of whole numbers -/
def dL (rs : List (List Int)) : PyData := .list (rs.map dI)
/-- a tuple of them -/
def dT (rs : List (List Int)) : PyData := .tuple (rs.map dI)
theorem dL_shaped (rs : List (List Int)) : SeqAt.shaped (dL rs) = true := by
  have h1 := dLs_depth rs
  have h2 : PyData.depth (dL rs) ≤ 64 := by
    simp only [dL, PyData.depth]
    omega
  unfold SeqAt.shaped
  rw [Bool.and_eq_true]
  exact ⟨by simp only [dL, PyData.canLay0]; exact dLs_lay rs, decide_eq_true h2⟩
theorem dT_shaped (rs : List (List Int)) : SeqAt.shaped (dT rs) = true := by
  have h1 := dLs_depth rs
  have h2 : PyData.depth (dT rs) ≤ 64 := by
    simp only [dT, PyData.depth]
    omega
  unfold SeqAt.shaped
  rw [Bool.and_eq_true]
  exact ⟨by simp only [dT, PyData.canLay0]; exact dLs_lay rs, decide_eq_true h2⟩
theorem dL_eqv (rs ts : List (List Int)) : PyData.eqv (dL rs) (dL ts) = decide (rs = ts) := by
  show PyData.eqvAll _ _ = _
  exact dLs_eqvAll rs ts
theorem dT_eqv (rs ts : List (List Int)) : PyData.eqv (dT rs) (dT ts) = decide (rs = ts) := by
  show PyData.eqvAll _ _ = _
  exact dLs_eqvAll rs ts
/-- lists of whole numbers, one at each place -/
inductive IntsAt (K : PySem.W.Frag) (H : Hp) : List Addr → List (List Int) → Prop
  | nil : IntsAt K H [] []
  | cons {a : Addr} {ns : List Int} {as : List Addr} {rs : List (List Int)} : SqL K H a (ns.map V.int) → IntsAt K H as rs → IntsAt K H (a :: as) (ns :: rs)
section
variable {K : PySem.W.Frag} {H H' : Hp}
theorem IntsAt.mono {as : List Addr} {rs : List (List Int)} (h : IntsAt K H as rs) (s : Same H H') : IntsAt K H' as rs := by
  induction h with
  | nil => exact .nil
  | cons h1 _ ih => exact .cons (s.seq h1) ih
theorem IntsAt.len {as : List Addr} {rs : List (List Int)} (h : IntsAt K H as rs) : as.length = rs.length := by
  induction h with
  | nil => rfl
  | cons _ _ ih => simp [ih]
theorem IntsAt.get {as : List Addr} {rs : List (List Int)} (h : IntsAt K H as rs) : ∀ {i : Nat} {x : V}, (as.map V.ref)[i]? = some x → ∃ a ns, x = .ref a ∧ as[i]? = some a ∧ rs[i]? = some ns ∧ SqL K H a (ns.map V.int) := by
  induction h with
  | nil => exact fun e => nomatch e
  | cons h1 _ ih =>
    intro i x e
    cases i with
    | zero => exact ⟨_, _, (Option.some.inj e).symm, rfl, rfl, h1⟩
    | succ i => exact ih e
theorem IntsAt.snoc {as : List Addr} {rs : List (List Int)} {a : Addr} {ns : List Int} (h : IntsAt K H as rs) (h1 : SqL K H a (ns.map V.int)) : IntsAt K H (as ++ [a]) (rs ++ [ns]) := by
  induction h with
  | nil => exact .cons h1 .nil
  | cons h2 _ ih => exact .cons h2 ih
theorem IntsAt.reverse {as : List Addr} {rs : List (List Int)} (h : IntsAt K H as rs) : IntsAt K H as.reverse rs.reverse := by
  induction h with
  | nil => exact .nil
  | cons h1 _ ih =>
    rw [List.reverse_cons, List.reverse_cons]
    exact ih.snoc h1
theorem IntsAt.take {as : List Addr} {rs : List (List Int)} (h : IntsAt K H as rs) : ∀ i : Nat, IntsAt K H (as.take i) (rs.take i) := by
  induction h with
  | nil => intro i; rw [List.take_nil, List.take_nil]; exact .nil
  | cons h1 _ ih =>
    intro i
    cases i with
    | zero => exact .nil
    | succ i => exact .cons h1 (ih i)
theorem IntsAt.drop {as : List Addr} {rs : List (List Int)} (h : IntsAt K H as rs) : ∀ i : Nat, IntsAt K H (as.drop i) (rs.drop i) := by
  induction h with
  | nil => intro i; rw [List.drop_nil, List.drop_nil]; exact .nil
  | cons h1 h2 ih =>
    intro i
    cases i with
    | zero => exact .cons h1 h2
    | succ i => exact ih i
theorem IntsAt.dp {as : List Addr} {rs : List (List Int)} (h : IntsAt K H as rs) : DpAll K H (as.map V.ref) (rs.map dI) := by
  induction h with
  | nil => exact .nil
  | cons h1 _ ih => exact .cons (dp_ints h1) ih
theorem dp_lists {p : Addr} {as : List Addr} {rs : List (List Int)} (hp : SqL K H p (as.map V.ref)) (h : IntsAt K H as rs) : Dp K H (.ref p) (dL rs) := .lst hp h.dp
theorem dp_tup {p : Addr} {as : List Addr} {rs : List (List Int)} (hp : SqT K H p (as.map V.ref)) (h : IntsAt K H as rs) : Dp K H (.ref p) (dT rs) := .tup hp h.dp
theorem seqT {t : Addr} {xs : List V} (s : Same H H') (h : SqT K H t xs) : SqT K H' t xs := by
  rcases h with h | h
  · rcases h with h | ⟨ob, h⟩
    · exact .inl (.inl (s _ _ h))
    · exact .inl (.inr ⟨ob, s _ _ h⟩)
  · exact .inr h
end
end FG

set_option maxHeartbeats 4000000
/-! what a def that tells a lean row promises; rows that stand as lists of their own -/
namespace FG
open PySem PySem.Spec PyProof.Rows L2
theorem none_same {H H' : Hp} {p : Addr} (s : Same H H') (h : H' p = none) : H p = none := by
  cases e : H p with
  | none => rfl
  | some o => exact absurd ((s p o e).symm.trans h) (by simp)
def LeanTold (H : Hp) (n : Int) (N : Nat) (Q : VK) : Prop :=
  ∀ (H' : Hp) (p : Addr) (r : List Int), Same H H' → H p = none → Row r → gaps r = true → val r = n → r.length ≤ N + 1 → H' p = some (.lst (r.map V.int)) → Q (.ref p) H'
theorem LeanTold.mono {H H1 : Hp} {n : Int} {N : Nat} {Q : VK} (q : LeanTold H n N Q) (s : Same H H1) : LeanTold H1 n N Q :=
  fun H' p r s' np => q H' p r (s.trans s') (none_same s np)
theorem cut_fromV (xs : List V) (k : Nat) : cutV xs (some (k : Int)) none = xs.drop k := by
  unfold cutV
  rw [HT.sIx_nat, HT.sIx_none]
  by_cases h : k ≤ xs.length
  · rw [Nat.min_eq_left h]
    apply List.take_of_length_le
    rw [List.length_drop]
    exact Nat.le_refl _
  · have h' : xs.length ≤ k := by omega
    rw [Nat.min_eq_right h', List.drop_eq_nil_of_le h', List.drop_eq_nil_of_le (Nat.le_refl _)]
    simp
theorem cut_toV (xs : List V) (k : Nat) : cutV xs none (some (k : Int)) = xs.take k := by
  unfold cutV
  rw [HT.sIx_nat, HT.sIx_none]
  show List.take (min k xs.length - 0) (List.drop 0 xs) = _
  rw [Nat.sub_zero, List.drop_zero]
  by_cases h : k ≤ xs.length
  · rw [Nat.min_eq_left h]
  · have h' : xs.length ≤ k := by omega
    rw [Nat.min_eq_right h', List.take_length, List.take_of_length_le h']
/-- lists of whole numbers, each a list of its own -/
inductive Own (H : Hp) : List Addr → List (List Int) → Prop
  | nil : Own H [] []
  | cons {a : Addr} {ns : List Int} {as : List Addr} {rs : List (List Int)} : H a = some (.lst (ns.map V.int)) → Own H as rs → Own H (a :: as) (ns :: rs)
section
variable {K : PySem.W.Frag} {H H' : Hp} {as : List Addr} {rs : List (List Int)}
theorem Own.ints (h : Own H as rs) : IntsAt K H as rs := by
  induction h with
  | nil => exact .nil
  | cons h1 _ ih => exact .cons (SqL.of h1) ih
theorem Own.mono (h : Own H as rs) (s : Same H H') : Own H' as rs := by
  induction h with
  | nil => exact .nil
  | cons h1 _ ih => exact .cons (s _ _ h1) ih
theorem Own.len (h : Own H as rs) : as.length = rs.length := by
  induction h with
  | nil => rfl
  | cons _ _ ih => simp [ih]
theorem Own.snoc {a : Addr} {ns : List Int} (h : Own H as rs) (h1 : H a = some (.lst (ns.map V.int))) : Own H (as ++ [a]) (rs ++ [ns]) := by
  induction h with
  | nil => exact .cons h1 .nil
  | cons h2 _ ih => exact .cons h2 ih
/-- none of them is a place that was free -/
theorem Own.free {x : Addr} (h : Own H as rs) (nx : H x = none) : x ∉ as := by
  induction h with
  | nil => simp
  | cons h1 _ ih =>
    intro m
    rcases List.mem_cons.mp m with e | e
    · subst e
      rw [nx] at h1
      cases h1
    · exact ih e
/-- they stand while all but x stands -/
theorem Own.but {x : Addr} (h : Own H as rs) (nx : x ∉ as) (f : ∀ b o, b ≠ x → H b = some o → H' b = some o) : Own H' as rs := by
  induction h with
  | nil => exact .nil
  | cons h1 _ ih =>
    exact .cons (f _ _ (fun e => nx (by rw [e]; exact List.mem_cons_self)) h1) (ih fun m => nx (List.mem_cons_of_mem _ m))
theorem Own.get (h : Own H as rs) {i : Nat} {ns : List Int} (e : rs[i]? = some ns) : ∃ a, as[i]? = some a ∧ H a = some (.lst (ns.map V.int)) := by
  induction h generalizing i with
  | nil => exact nomatch e
  | cons h1 _ ih =>
    cases i with
    | zero =>
      cases e
      exact ⟨_, rfl, h1⟩
    | succ i => exact ih e
end
section
variable {H H' : Hp} {as : List Addr} {rs : List (List Int)}
theorem Own.keep (h : Own H as rs) (f : ∀ b u, b ∈ as → H b = some u → H' b = some u) : Own H' as rs := by
  induction h with
  | nil => exact .nil
  | cons h1 _ ih => exact .cons (f _ _ List.mem_cons_self h1) (ih fun b u m => f b u (List.mem_cons_of_mem _ m))
theorem Own.there {b : Addr} (h : Own H as rs) (m : b ∈ as) : ∃ u, H b = some u := by
  induction h with
  | nil => exact nomatch m
  | cons h1 _ ih =>
    rcases List.mem_cons.mp m with e | e
    · rw [e]
      exact ⟨_, h1⟩
    · exact ih e
theorem Own.reverse (h : Own H as rs) : Own H as.reverse rs.reverse := by
  induction h with
  | nil => exact .nil
  | cons h1 _ ih =>
    rw [List.reverse_cons, List.reverse_cons]
    exact ih.snoc h1
theorem Own.drop (h : Own H as rs) : ∀ i : Nat, Own H (as.drop i) (rs.drop i) := by
  induction h with
  | nil => intro i; rw [List.drop_nil, List.drop_nil]; exact .nil
  | cons h1 h2 ih =>
    intro i
    cases i with
    | zero => exact .cons h1 h2
    | succ i => exact ih i
theorem Own.take (h : Own H as rs) : ∀ i : Nat, Own H (as.take i) (rs.take i) := by
  induction h with
  | nil => intro i; rw [List.take_nil, List.take_nil]; exact .nil
  | cons h1 _ ih =>
    intro i
    cases i with
    | zero => exact .nil
    | succ i => exact .cons h1 (ih i)
end
theorem upd_but {H : Hp} {x : Addr} {o : HO} : ∀ b u, b ≠ x → H b = some u → upd H x o b = some u := fun b u n e => by
  rw [upd_ne n]
  exact e
/-- the first lists copied, one by one, into a new list at D -/
def Copied (H1 : Hp) (D : Addr) (rs : List (List Int)) (i : Nat) (Hx : Hp) : Prop :=
  ∃ bs, Own Hx bs (rs.take i) ∧ D ∉ bs ∧ Same H1 Hx ∧ Hx D = some (.lst (bs.map V.ref)) ∧ ∀ b ∈ bs, H1 b = none
theorem Copied.start {H1 : Hp} {D : Addr} {rs : List (List Int)} (nD : H1 D = none) : Copied H1 D rs 0 (upd H1 D (.lst [])) :=
  ⟨[], .nil, by simp, same_upd nD, upd_same, fun _ m => nomatch m⟩
theorem Copied.step {H1 Hx : Hp} {D l : Addr} {rs : List (List Int)} {i : Nat} {r : List Int} (c : Copied H1 D rs i Hx) (nD : H1 D = none) (e : rs[i]? = some r) (nl : Hx l = none) :
    ∃ acc, (upd Hx l (.lst (r.map V.int))) D = some (.lst acc) ∧ acc.length ≤ rs.length ∧ Copied H1 D rs (i + 1) (upd (upd Hx l (.lst (r.map V.int))) D (.lst (acc ++ [.ref l]))) := by
  obtain ⟨bs, own, nb, s1, eD, nw⟩ := c
  have s2 : Same Hx (upd Hx l (.lst (r.map V.int))) := same_upd nl
  have lD : l ≠ D := fun z => by rw [z, eD] at nl; cases nl
  refine ⟨bs.map V.ref, s2 _ _ eD, ?_, bs ++ [l], ?_, ?_, fun b u h => ?_, ?_, fun b m => ?_⟩
  · rw [List.length_map, own.len, List.length_take]
    omega
  · rw [List.take_add_one, e]
    refine ((own.mono s2).snoc (a := l) upd_same).but (x := D) ?_ upd_but
    intro m
    rcases List.mem_append.mp m with m | m
    · exact nb m
    · exact lD (List.mem_singleton.mp m).symm
  · intro m
    rcases List.mem_append.mp m with m | m
    · exact nb m
    · exact lD (List.mem_singleton.mp m).symm
  · rw [upd_ne (ne_of_none h nD)]
    exact s2 _ _ (s1 _ _ h)
  · rw [upd_same, List.map_append]
    rfl
  · rcases List.mem_append.mp m with m | m
    · exact nw b m
    · rw [List.mem_singleton.mp m]
      exact none_same s1 nl
theorem Copied.done {H1 Hx : Hp} {D : Addr} {rs : List (List Int)} {m : Nat} (c : Copied H1 D rs m Hx) (e : rs.length ≤ m) :
    ∃ bs, Own Hx bs rs ∧ D ∉ bs ∧ Same H1 Hx ∧ Hx D = some (.lst (bs.map V.ref)) ∧ ∀ b ∈ bs, H1 b = none := by
  obtain ⟨bs, own, h⟩ := c
  rw [List.take_of_length_le e] at own
  exact ⟨bs, own, h⟩
/-- pairs that are held at h: each one of two lists alike -/
def HeldOk (H : Hp) (h : Addr) (hs : List V) : Prop := ∀ x ∈ hs, ∃ (t p o : Addr) (xs : List Int), x = .ref t ∧ t ≠ h ∧ p ≠ h ∧ o ≠ h ∧ H t = some (.tup [.ref p, .ref o]) ∧ H p = some (.lst (xs.map V.int)) ∧ H o = some (.lst (xs.map V.int))
theorem HeldOk.keep {H H' : Hp} {h : Addr} {hs : List V} (k : HeldOk H h hs) (f : ∀ b u, b ≠ h → H b = some u → H' b = some u) : HeldOk H' h hs := fun x hx => by
  obtain ⟨t, p, o, xs, e, a, b, c, d1, d2, d3⟩ := k x hx
  exact ⟨t, p, o, xs, e, a, b, c, f _ _ a d1, f _ _ b d2, f _ _ c d3⟩
theorem HeldOk.snoc {H : Hp} {h t p o : Addr} {hs : List V} {xs : List Int} (k : HeldOk H h hs) (a : t ≠ h) (b : p ≠ h) (c : o ≠ h) (d1 : H t = some (.tup [.ref p, .ref o])) (d2 : H p = some (.lst (xs.map V.int))) (d3 : H o = some (.lst (xs.map V.int))) :
    HeldOk H h (hs ++ [.ref t]) := fun x hx => by
  rcases List.mem_append.mp hx with m | m
  · exact k x m
  · exact ⟨t, p, o, xs, List.mem_singleton.mp m, a, b, c, d1, d2, d3⟩
theorem if_heap {S A P : Hp → Prop} {c : Bool} (go : ∀ Hx, S Hx → P Hx) (hA : ∀ Hx, S Hx → c = true → (∀ Hx, S Hx → P Hx) → A Hx) : ∀ Hx, S Hx → if c = true then A Hx else P Hx := fun z hz => by
  by_cases h : c = true
  · rw [if_pos h]
    exact hA z hz h go
  · rw [if_neg h]
    exact go z hz
theorem if_num {b A P : Int → Prop} {c : Bool} (go : ∀ n, b n → P n) (hA : ∀ z, b z → c = true → (∀ n, b n → P n) → A z) : ∀ z, b z → if c = true then A z else P z := fun z hz => by
  by_cases h : c = true
  · rw [if_pos h]
    exact hA z hz h go
  · rw [if_neg h]
    exact go z hz
theorem sign_small (z : Int) : -(2 ^ 64 : Int) < 1 - 2 * (if decide (z < 0) = true then (1 : Int) else 0) ∧ 1 - 2 * (if decide (z < 0) = true then (1 : Int) else 0) < 2 ^ 64 := by
  split <;> omega
theorem cut_lt {z m : Int} {k : Nat} (h : 0 < m) (hm : m ≤ ((2 ^ k : Nat) : Int)) : ((if z < 0 then -z else z) % m * (1 - 2 * (if decide (z < 0) = true then (1 : Int) else 0))).natAbs < 2 ^ k := by
  have h1 := Int.emod_nonneg (if z < 0 then -z else z) (show m ≠ 0 by omega)
  have h2 := Int.emod_lt_of_pos (if z < 0 then -z else z) h
  generalize (if z < 0 then -z else z) % m = r at h1 h2
  generalize 2 ^ k = P at hm
  split <;> omega
/-- list(xs), as a rule whose reading names the frame alone -/
def rListOf (K : PySem.W.Frag) : List V → Hp → VK → Prop := fun xs H Q => ∃ p ys, xs = [.ref p] ∧ (SqL K H p ys ∨ SqT K H p ys) ∧ ∀ l, H l = none → Q (.ref l) (upd H l (.lst ys))
theorem call_listOf {X : Cx} : CallR X (.type "list") (rListOf X.K) := call_list_of
/-- what numbers are together -/
def total (rs : List (List Int)) : Int := (rs.map val).sum
theorem total_snoc (rs : List (List Int)) (r : List Int) : total (rs ++ [r]) = total rs + val r := by
  unfold total
  simp
theorem total_append (rs ts : List (List Int)) : total (rs ++ ts) = total rs + total ts := by
  unfold total
  rw [List.map_append, List.sum_append_int]
theorem total_rev (rs : List (List Int)) : total rs.reverse = total rs := by
  induction rs with
  | nil => rfl
  | cons r rs ih =>
    rw [List.reverse_cons, total_snoc, ih]
    unfold total
    rw [List.map_cons, List.sum_cons, Int.add_comm]
theorem total_lt {k : Nat} : ∀ {m : Nat} (rs : List (List Int)), (∀ r ∈ rs, (val r).natAbs < 2 ^ k) → rs.length ≤ m → (total rs).natAbs ≤ m * 2 ^ k
  | m, [], _, _ => by
    unfold total
    simp
  | 0, _ :: _, _, h => absurd h (by simp)
  | m + 1, r :: rs, hb, h => by
    have ih := total_lt (m := m) rs (fun q hq => hb q (List.mem_cons_of_mem _ hq)) (by simpa using h)
    have h1 := hb r List.mem_cons_self
    have e : total (r :: rs) = val r + total rs := rfl
    rw [e, Nat.succ_mul]
    omega
end FG

set_option maxHeartbeats 4000000
/-! deeds done one by one; balances of steps joined two by two; a text cut at one sign, its signs counted; xs[::2], xs[1::2] -/
namespace XLed
open PySem PySem.Spec PyProof.Rows PySem.Builtin PySem.Builtin.Str L2 FG
open PySem.StrLaws (ChainG At occ_tight subAt_one)
/-! ### one sign counted -/
theorem count_tail (x : Str) (c : Nat) : ∀ (cuts : List Nat) (a f : Nat), a ≤ x.cps.toList.length → ChainG x ⟨#[c]⟩ x.length a cuts f → (∀ k, f ≤ k → ¬ At x ⟨#[c]⟩ x.length k) →
    cuts.length = (x.cps.toList.drop a).count c
  | [], a, f, _, h, hn => by
    have e : f = a := h
    subst e
    have z : (x.cps.toList.drop f).count c = 0 := by
      rw [List.count_eq_zero]
      intro m
      obtain ⟨j, hj⟩ := List.getElem?_of_mem m
      rw [List.getElem?_drop] at hj
      exact hn (f + j) (by omega) ((subAt_one x c (f + j)).mpr hj)
    rw [z]
    rfl
  | d :: r, a, f, ha, h, hn => by
    obtain ⟨h1, h2, h3, h4⟩ := h
    have hd := (subAt_one x c d).mp h2
    have hlt := (List.getElem?_eq_some_iff.mp hd).1
    have ih := count_tail x c r (d + 1) f (by omega) h4 hn
    have e1 : x.cps.toList.drop a = (x.cps.toList.drop a).take (d - a) ++ x.cps.toList.drop d := by
      have := (List.take_append_drop (d - a) (x.cps.toList.drop a)).symm
      rw [List.drop_drop] at this
      rw [show a + (d - a) = d by omega] at this
      exact this
    have e2 : x.cps.toList.drop d = c :: x.cps.toList.drop (d + 1) := by
      rw [List.drop_eq_getElem_cons hlt]
      rw [List.getElem?_eq_getElem hlt] at hd
      rw [Option.some.inj hd]
    have z : ((x.cps.toList.drop a).take (d - a)).count c = 0 := by
      rw [List.count_eq_zero]
      intro m
      obtain ⟨j, hj⟩ := List.getElem?_of_mem m
      have hj2 : j < d - a := by
        have := (List.getElem?_eq_some_iff.mp hj).1
        rw [List.length_take] at this
        omega
      rw [List.getElem?_take_of_lt hj2, List.getElem?_drop] at hj
      exact h3 (a + j) (by omega) (by omega) ((subAt_one x c (a + j)).mpr hj)
    rw [e1, List.count_append, z, e2, List.count_cons_self, List.length_cons, ih]
    omega
/-- x.count of one sign -/
theorem count_one (x : Str) (c : Nat) : Txt.count x ⟨#[c]⟩ = ((x.cps.toList.count c : Nat) : Int) := by
  obtain ⟨f, g, hn⟩ := occ_tight x ⟨#[c]⟩ (Nat.le_refl 1)
  have h := count_tail x c _ 0 f (Nat.zero_le _) g hn
  rw [List.drop_zero] at h
  show ((_ : Nat) : Int) = _
  rw [h]
/-! ### cut at one sign -/
/-- the parts between the signs s -/
def cutAt (s : Nat) : List Nat → List Nat → List (List Nat)
  | acc, [] => [acc]
  | acc, c :: r => if c = s then acc :: cutAt s [] r else cutAt s (acc ++ [c]) r
theorem spl_cut (s : Nat) : ∀ (l acc : List Nat), TL.spl [s] 0 acc l = cutAt s acc l
  | [], acc => TL.spl_nil _ _ _
  | c :: r, acc => by
    by_cases h : c = s
    · have hp : TL.pre [s] (c :: r) = true := by
        rw [h]
        exact TL.pre_self [s] r
      rw [TL.spl_hit hp]
      show acc :: TL.spl [s] 0 [] r = _
      rw [spl_cut s r []]
      simp [cutAt, h]
    · rw [TL.spl_miss (TL.pre_of_head [] r h), spl_cut s r]
      simp [cutAt, h]
theorem cut_text (x : Str) (s : Nat) (hs : s < 256) : (Txt.split x ⟨#[s]⟩).map TL.tl = cutAt s [] (TL.tl x) := by
  have h := TL.split_spl x ⟨#[s]⟩ (by show [s] ≠ []; simp) (TL.kind_ok (by simp [hs]))
  rw [h]
  exact spl_cut s (TL.tl x) []
/-! ### deeds -/
/-- one deed -/
def deed (n : Int) (c : Nat) : Int := if c = 100 then 2 * n else if c = 117 then n + 1 else n - 1
/-- deeds from n on -/
def going (l : List Nat) (n : Int) : Int := l.foldl deed n
/-- how far a part's steps lead -/
def bal (p : List Nat) : Int := (p.count 117 : Int) - (p.count 119 : Int)
/-- balances with places of D doublings between -/
def hf (D : Nat) (acc : Int) (cs : List Int) : Int := cs.foldl (fun a b => a * 2 ^ D + b) acc
theorem bal_snoc (p : List Nat) (c : Nat) (h : c = 117 ∨ c = 119) : bal (p ++ [c]) = deed (bal p) c := by
  unfold bal deed
  rw [List.count_append, List.count_append]
  rcases h with e | e <;> subst e <;> simp <;> omega
theorem going_cut : ∀ (l acc : List Nat) (n : Int), (∀ c ∈ l, c = 100 ∨ c = 117 ∨ c = 119) → hf 1 n ((cutAt 100 acc l).map bal) = going l (2 * n + bal acc)
  | [], acc, n, _ => by
    show n * 2 ^ 1 + bal acc = 2 * n + bal acc
    omega
  | c :: r, acc, n, h => by
    have hr : ∀ c ∈ r, c = 100 ∨ c = 117 ∨ c = 119 := fun d hd => h d (List.mem_cons_of_mem _ hd)
    by_cases e : c = 100
    · subst e
      have ih := going_cut r [] (n * 2 ^ 1 + bal acc) hr
      have b0 : bal [] = 0 := rfl
      rw [b0, Int.add_zero] at ih
      have ec : cutAt 100 acc (100 :: r) = acc :: cutAt 100 [] r := by simp [cutAt]
      rw [ec, List.map_cons]
      show hf 1 (n * 2 ^ 1 + bal acc) ((cutAt 100 [] r).map bal) = going r (deed (2 * n + bal acc) 100)
      rw [ih]
      have : deed (2 * n + bal acc) 100 = 2 * (n * 2 ^ 1 + bal acc) := by
        show 2 * (2 * n + bal acc) = _
        omega
      rw [this]
    · have hc : c = 117 ∨ c = 119 := by
        rcases h c List.mem_cons_self with z | z
        · exact absurd z e
        · exact z
      have ih := going_cut r (acc ++ [c]) n hr
      have ec : cutAt 100 acc (c :: r) = cutAt 100 (acc ++ [c]) r := by simp [cutAt, e]
      rw [ec, ih, bal_snoc acc c hc]
      show going r (2 * n + deed (bal acc) c) = going r (deed (2 * n + bal acc) c)
      have : deed (2 * n + bal acc) c = 2 * n + deed (bal acc) c := by
        rcases hc with z | z <;> subst z <;> simp [deed] <;> omega
      rw [this]
/-- deeds done, told by the balances -/
theorem going_hf (l : List Nat) (h : ∀ c ∈ l, c = 100 ∨ c = 117 ∨ c = 119) : hf 1 0 ((cutAt 100 [] l).map bal) = going l 0 := going_cut l [] 0 h
theorem cut_ne (s : Nat) : ∀ l acc : List Nat, cutAt s acc l ≠ []
  | [], _ => by simp [cutAt]
  | c :: r, acc => by
    unfold cutAt
    split
    · simp
    · exact cut_ne s r _
theorem cut_len (s : Nat) : ∀ l acc : List Nat, (cutAt s acc l).length ≤ l.length + 1
  | [], _ => by simp [cutAt]
  | c :: r, acc => by
    unfold cutAt
    split
    · have := cut_len s r []
      simp only [List.length_cons]
      omega
    · have := cut_len s r (acc ++ [c])
      simp only [List.length_cons]
      omega
theorem cut_part (s : Nat) : ∀ l acc : List Nat, ∀ p ∈ cutAt s acc l, p.length ≤ acc.length + l.length
  | [], acc, p, h => by
    rw [List.mem_singleton.mp h]
    exact Nat.le_refl _
  | c :: r, acc, p, h => by
    unfold cutAt at h
    split at h
    · rcases List.mem_cons.mp h with e | e
      · rw [e]
        omega
      · have := cut_part s r [] p e
        simp only [List.length_cons, List.length_nil] at this ⊢
        omega
    · have := cut_part s r _ p h
      simp only [List.length_append, List.length_cons, List.length_nil] at this ⊢
      omega
theorem bal_lt (p : List Nat) : (bal p).natAbs ≤ p.length := by
  have h1 := List.count_le_length (a := 117) (l := p)
  have h2 := List.count_le_length (a := 119) (l := p)
  unfold bal
  omega
/-! ### every second item -/
def strided {α : Type} (off : Nat) (xs : List α) : List α := (List.range (xs.length / 2)).filterMap fun i => xs[2 * i + off]?
theorem strided_two {α : Type} (off : Nat) (a b : α) (r : List α) : strided off (a :: b :: r) = ([a, b][off]?).toList ++ strided off r ∨ 1 < off := by
  by_cases h : 1 < off
  · exact .inr h
  · refine .inl ?_
    unfold strided
    have e : (a :: b :: r).length / 2 = r.length / 2 + 1 := by
      simp only [List.length_cons]
      omega
    rw [e, List.range_succ_eq_map, List.filterMap_cons, List.filterMap_map]
    have e2 : ((fun i => (a :: b :: r)[2 * i + off]?) ∘ Nat.succ) = fun i => r[2 * i + off]? := by
      funext i
      show (a :: b :: r)[2 * (i + 1) + off]? = _
      rw [show 2 * (i + 1) + off = 2 * i + off + 1 + 1 by omega]
      rfl
    rw [e2]
    have c : off = 0 ∨ off = 1 := by omega
    rcases c with c | c <;> subst c <;> rfl
theorem strided0 {α : Type} (a b : α) (r : List α) : strided 0 (a :: b :: r) = a :: strided 0 r := by
  rcases strided_two 0 a b r with h | h
  · exact h
  · omega
theorem strided1 {α : Type} (a b : α) (r : List α) : strided 1 (a :: b :: r) = b :: strided 1 r := by
  rcases strided_two 1 a b r with h | h
  · exact h
  · omega
theorem strided_map {α β : Type} (f : α → β) (off : Nat) (xs : List α) : strided off (xs.map f) = (strided off xs).map f := by
  unfold strided
  rw [List.length_map, List.map_filterMap]
  apply congrArg (fun g => List.filterMap g _)
  funext i
  rw [List.getElem?_map]
/-- neighbours joined -/
def joined (D : Nat) (cs : List Int) : List Int := List.zipWith (fun a b => a * 2 ^ D + b) (strided 0 cs) (strided 1 cs)
theorem joined_two (D : Nat) (a b : Int) (r : List Int) : joined D (a :: b :: r) = (a * 2 ^ D + b) :: joined D r := by
  unfold joined
  rw [strided0, strided1]
  rfl
theorem hf_joined (D : Nat) : ∀ (cs : List Int) (acc : Int), cs.length % 2 = 0 → hf (D * 2) acc (joined D cs) = hf D acc cs
  | [], acc, _ => rfl
  | [x], acc, h => by simp at h
  | a :: b :: r, acc, h => by
    have ih := hf_joined D r (acc * 2 ^ (D * 2) + (a * 2 ^ D + b)) (by simp only [List.length_cons] at h; omega)
    rw [joined_two]
    show hf (D * 2) (acc * 2 ^ (D * 2) + (a * 2 ^ D + b)) (joined D r) = hf D ((acc * 2 ^ D + a) * 2 ^ D + b) r
    rw [ih]
    have e : acc * 2 ^ (D * 2) + (a * 2 ^ D + b) = (acc * 2 ^ D + a) * 2 ^ D + b := by
      have e2 : (2 : Int) ^ (D * 2) = 2 ^ D * 2 ^ D := by rw [Nat.mul_comm, Nat.two_mul, Int.pow_add]
      rw [e2, Int.add_mul, ← Int.mul_assoc]
      omega
    rw [e]
theorem joined_len (D : Nat) : ∀ (cs : List Int), cs.length % 2 = 0 → (joined D cs).length = cs.length / 2
  | [], _ => rfl
  | [x], h => by simp at h
  | a :: b :: r, h => by
    have ih := joined_len D r (by simp only [List.length_cons] at h; omega)
    rw [joined_two, List.length_cons, ih]
    simp only [List.length_cons]
    omega
theorem strided_len {α : Type} : ∀ (off : Nat) (cs : List α), off ≤ 1 → cs.length % 2 = 0 → (strided off cs).length = cs.length / 2
  | _, [], _, _ => by simp [strided]
  | _, [x], _, h => by simp at h
  | off, a :: b :: r, ho, h => by
    have ih := strided_len off r ho (by simp only [List.length_cons] at h; omega)
    have c : off = 0 ∨ off = 1 := by omega
    rcases c with c | c <;> subst c
    · rw [strided0, List.length_cons, ih]
      simp only [List.length_cons]
      omega
    · rw [strided1, List.length_cons, ih]
      simp only [List.length_cons]
      omega
theorem joined_lt {D E : Nat} : ∀ (cs : List Int), cs.length % 2 = 0 → (∀ c ∈ cs, c.natAbs < 2 ^ E) → ∀ c ∈ joined D cs, c.natAbs < 2 ^ (E + D + 1)
  | [], _, _, c, h => nomatch h
  | [x], h, _, _, _ => by simp at h
  | a :: b :: r, h, hb, c, hc => by
    rw [joined_two] at hc
    rcases List.mem_cons.mp hc with e | e
    · have ha := hb a List.mem_cons_self
      have hb2 := hb b (List.mem_cons_of_mem _ List.mem_cons_self)
      have e1 : (a * 2 ^ D).natAbs = a.natAbs * 2 ^ D := by
        rw [Int.natAbs_mul, Int.natAbs_pow]
        rfl
      have e2 : (a * 2 ^ D + b).natAbs ≤ (a * 2 ^ D).natAbs + b.natAbs := Int.natAbs_add_le _ _
      have e3 : a.natAbs * 2 ^ D < 2 ^ E * 2 ^ D := Nat.mul_lt_mul_of_pos_right ha (Nat.pow_pos (by decide))
      have e4 : 2 ^ E ≤ 2 ^ (E + D) := Nat.pow_le_pow_right (by decide) (by omega)
      rw [← Nat.pow_add] at e3
      rw [e, Nat.pow_succ]
      omega
    · exact joined_lt r (by simp only [List.length_cons] at h; omega) (fun c hc => hb c (List.mem_cons_of_mem _ (List.mem_cons_of_mem _ hc))) c e
/-! ### xs[::2], xs[1::2] -/
theorem vals_get : ∀ {xs : List V} {its : List Value}, Vals xs its → ∀ j : Nat, (xs[j]? = none ∧ its[j]? = none) ∨ ∃ x u, xs[j]? = some x ∧ its[j]? = some u ∧ RelV x u
  | _, _, .nil, _ => .inl ⟨rfl, rfl⟩
  | _, _, .cons r _, 0 => .inr ⟨_, _, rfl, rfl, r⟩
  | _, _, .cons _ rs, j + 1 => vals_get rs j
theorem vals_pick {xs : List V} {its : List Value} (r : Vals xs its) (f : Nat → Nat) : ∀ js : List Nat, Vals (js.filterMap fun j => xs[f j]?) (js.filterMap fun j => its[f j]?)
  | [] => .nil
  | j :: js => by
    rcases vals_get r (f j) with ⟨h1, h2⟩ | ⟨x, u, h1, h2, h3⟩
    · rw [List.filterMap_cons, List.filterMap_cons, h1, h2]
      exact vals_pick r f js
    · rw [List.filterMap_cons, List.filterMap_cons, h1, h2]
      exact .cons h3 (vals_pick r f js)
theorem pick_step (its : Array Value) (lo : Option Int) (off : Nat) (hlo : (lo = none ∧ off = 0) ∨ (lo = some 1 ∧ off = 1)) (he : its.size % 2 = 0) :
    slicePick its lo none (some 2) = ((List.range (its.size / 2)).filterMap fun j => its.toList[2 * j + off]?).toArray := by
  unfold slicePick
  have eb : sliceBounds lo none (some 2) its.size = (if its.size = 0 then 0 else (off : Int), (its.size : Int), 2) := by
    rcases hlo with ⟨e1, e2⟩ | ⟨e1, e2⟩ <;> subst e1 <;> subst e2
    · show ((0 : Int), (its.size : Int), (2 : Int)) = _
      split <;> rfl
    · show (max 0 (min 1 (its.size : Int)), (its.size : Int), (2 : Int)) = _
      by_cases h : its.size = 0
      · rw [if_pos h, h]
        rfl
      · rw [if_neg h]
        have : max 0 (min 1 (its.size : Int)) = 1 := by omega
        rw [this]
        rfl
  rw [eb]
  show ((sliceRange (if its.size = 0 then 0 else (off : Int)) (its.size : Int) 2).filterMap (its[·]?)).toArray = _
  have hoff : off ≤ 1 := by
    rcases hlo with ⟨_, e⟩ | ⟨_, e⟩ <;> omega
  have er : sliceRange (if its.size = 0 then 0 else (off : Int)) (its.size : Int) 2 = (List.range (its.size / 2)).map fun j => 2 * j + off := by
    by_cases h : its.size = 0
    · rw [if_pos h, h]
      rfl
    · rw [if_neg h]
      unfold sliceRange
      have h1 : (2 : Int) > 0 := by decide
      have h2 : (off : Int) < (its.size : Int) := by omega
      simp only [h1, if_true, h2]
      have h3 : (((its.size : Int) - off + 2 - 1) / 2).toNat = its.size / 2 := by omega
      rw [h3]
      apply List.map_congr_left
      intro k hk
      omega
  rw [er, List.filterMap_map]
  apply congrArg List.toArray
  apply congrArg (fun g => List.filterMap g _)
  funext j
  show its[2 * j + off]? = its.toList[2 * j + off]?
  simp
def tStep (K : PySem.W.Frag) (off : Nat) (te : TE) : TE := fun σ H Q => te σ H fun x H1 => ∃ a xs, x = .ref a ∧ SqL K H1 a xs ∧ xs.length % 2 = 0 ∧ ∀ p, H1 p = none → Q (.ref p) (upd H1 p (.lst (strided off xs)))
theorem step_run {X : Cx} {pins : List (Addr × Obj)} {σ : L2.St} {H : Hp} {s : Shared} {Q : VK} {a : Addr} {xs : List V} {vl vu vs : Value} {lo : Option Int} {off : Nat}
    (I : Inv X pins σ H s) (hx : SqL X.K H a xs) (he : xs.length % 2 = 0) (hlo : (lo = none ∧ off = 0) ∨ (lo = some 1 ∧ off = 1)) (pl : IsPart vl lo) (pu : IsPart vu none) (ps : IsPart vs (some 2))
    (q : ∀ p, H p = none → Q (.ref p) (upd H p (.lst (strided off xs)))) :
    wpAny (model X.prog X.w) X.A (getItem (.ref a) (.ref s.heap.objs.size)) (EP X pins σ Q) X.xe { s with heap := s.heap.push { cls := .type "slice", data := .fields #[vl, vu, vs] } } := by
  have I5 : Inv X pins σ H { s with heap := s.heap.push { cls := .type "slice", data := .fields #[vl, vu, vs] } } := I.kept (t' := s.toks) fun b ob q => Heap.get?_push_of_some _ q
  obtain ⟨its, r, ht, hz⟩ := I5.list hx
  have hlen := r.length
  have hsz : its.toArray.size = xs.length := by rw [List.size_toArray]; exact hlen.symm
  refine wpAny_getItem_list_slice ht.isList (Heap.IsSliceOf.new _ vl vu vs) pl pu ps (by decide) ?_ (by rw [List.size_toArray]; omega)
  rw [pick_step its.toArray lo off hlo (by rw [hsz]; exact he), hsz]
  refine ⟨.ref _, _, I5.laid (t' := s.toks) (o := .lst (strided off xs)) (fun b ob q => Heap.get?_push_of_some _ q) (Nat.le_refl _) ?_, rfl, q _ (I5.hok.fresh (Nat.le_refl _))⟩
  refine ⟨?_, _, 0, vals_pick r (fun j => 2 * j + off) (List.range (xs.length / 2)), Heap.get?_push_size _ rfl⟩
  have : (strided off xs).length ≤ xs.length / 2 := by
    unfold strided
    refine Nat.le_trans (List.length_filterMap_le _ _) ?_
    rw [List.length_range]
    exact Nat.le_refl _
  omega
theorem pe_ev {X : Cx} {e : Expr} {te : TE} {k : Nat} {p1 p3 pos : Pos} (he : PE X e te) : PE X (.Subscript e (.Slice none none (some (.Constant (.int 2) k p1)) p3) pos) (tStep X.K 0 te) := by
  refine ⟨fun pins s σ H Q I h => ?_⟩
  refine Subscript_ (thn (he.run pins s σ H _ I h) fun v s1 ⟨x, H1, I1, r1, q1⟩ => ?_)
  obtain ⟨a, xs, ex, hx, ee, q⟩ := q1
  subst ex
  cases r1
  have hst : PO X (some (.Constant (.int 2) k p1)) (tPart (tC (.int 2))) := po_some pe_int
  refine wpAny_Slice (thn (po_none.run pins s1 σ H1 (fun o H2 => o = none ∧ H2 = H1) I1 ⟨rfl, rfl⟩) fun vl s2 ⟨l, H2, I2, pl, el, e2⟩ => ?_)
  subst el e2
  refine thn (po_none.run pins s2 σ H2 (fun o H3 => o = none ∧ H3 = H2) I2 ⟨rfl, rfl⟩) fun vu s3 ⟨u, H3, I3, pu, eu, e3⟩ => ?_
  subst eu e3
  refine thn (hst.run pins s3 σ H3 (fun o H4 => o = some 2 ∧ H4 = H3) I3 ⟨2, rfl, rfl, rfl⟩) fun vs s4 ⟨o, H4, I4, ps, eo, e4⟩ => ?_
  subst eo e4
  show wpAny (model X.prog X.w) X.A (subscriptTail e (.Slice none none (some (.Constant (.int 2) k p1)) p3) (.ref a) (.ref s4.heap.objs.size)) (EP X pins σ Q) X.xe { s4 with heap := s4.heap.push { cls := .type "slice", data := .fields #[vl, vu, vs] } }
  have I5 : Inv X pins σ H4 { s4 with heap := s4.heap.push { cls := .type "slice", data := .fields #[vl, vu, vs] } } := I4.kept (t' := s4.toks) fun b ob q => Heap.get?_push_of_some _ q
  obtain ⟨its, r, ht, hz⟩ := I5.list hx
  refine tail_any (ops := [.ref a, .ref s4.heap.objs.size]) ht.isList.typeIs (PySem.slot_list_getitem.lookup) ?_ (by with_unfolding_all rfl)
  exact step_run I4 hx ee (.inl ⟨rfl, rfl⟩) pl pu ps q
theorem pe_od {X : Cx} {e : Expr} {te : TE} {k k0 : Nat} {p0 p1 p3 pos : Pos} (he : PE X e te) : PE X (.Subscript e (.Slice (some (.Constant (.int 1) k0 p0)) none (some (.Constant (.int 2) k p1)) p3) pos) (tStep X.K 1 te) := by
  refine ⟨fun pins s σ H Q I h => ?_⟩
  refine Subscript_ (thn (he.run pins s σ H _ I h) fun v s1 ⟨x, H1, I1, r1, q1⟩ => ?_)
  obtain ⟨a, xs, ex, hx, ee, q⟩ := q1
  subst ex
  cases r1
  have hst : PO X (some (.Constant (.int 2) k p1)) (tPart (tC (.int 2))) := po_some pe_int
  have hlo : PO X (some (.Constant (.int 1) k0 p0)) (tPart (tC (.int 1))) := po_some pe_int
  refine wpAny_Slice (thn (hlo.run pins s1 σ H1 (fun o H2 => o = some 1 ∧ H2 = H1) I1 ⟨1, rfl, rfl, rfl⟩) fun vl s2 ⟨l, H2, I2, pl, el, e2⟩ => ?_)
  subst el e2
  refine thn (po_none.run pins s2 σ H2 (fun o H3 => o = none ∧ H3 = H2) I2 ⟨rfl, rfl⟩) fun vu s3 ⟨u, H3, I3, pu, eu, e3⟩ => ?_
  subst eu e3
  refine thn (hst.run pins s3 σ H3 (fun o H4 => o = some 2 ∧ H4 = H3) I3 ⟨2, rfl, rfl, rfl⟩) fun vs s4 ⟨o, H4, I4, ps, eo, e4⟩ => ?_
  subst eo e4
  show wpAny (model X.prog X.w) X.A (subscriptTail e (.Slice (some (.Constant (.int 1) k0 p0)) none (some (.Constant (.int 2) k p1)) p3) (.ref a) (.ref s4.heap.objs.size)) (EP X pins σ Q) X.xe { s4 with heap := s4.heap.push { cls := .type "slice", data := .fields #[vl, vu, vs] } }
  have I5 : Inv X pins σ H4 { s4 with heap := s4.heap.push { cls := .type "slice", data := .fields #[vl, vu, vs] } } := I4.kept (t' := s4.toks) fun b ob q => Heap.get?_push_of_some _ q
  obtain ⟨its, r, ht, hz⟩ := I5.list hx
  refine tail_any (ops := [.ref a, .ref s4.heap.objs.size]) ht.isList.typeIs (PySem.slot_list_getitem.lookup) ?_ (by with_unfolding_all rfl)
  exact step_run I4 hx ee (.inr ⟨rfl, rfl⟩) pl pu ps q
/-! ### walks over a text, over two lists -/
theorem lc_str {x : Str} {g : TG} {tt : TT} {te : TE} {vs : List Nat} {σ : L2.St} {H1 : Hp} {D : Addr} {Qd : Hp → Prop} (Pv : Nat → Hp → Prop) (h0 : Pv 0 (upd H1 D (.lst [])))
    (hs : ∀ i c H, x.cps.toList[i]? = some c → Pv i H → g (.str ⟨#[c]⟩) (wipe σ vs) H fun σ2 H2 => wipe σ2 vs = wipe σ vs ∧ tt σ2 H2 fun b H3 =>
      if b = true then te σ2 H3 fun y H4 => ∃ acc, H4 D = some (.lst acc) ∧ acc.length < sizeLine ∧ Pv (i + 1) (upd H4 D (.lst (acc ++ [y]))) else Pv (i + 1) H3) (hd : ∀ H, Pv x.cps.toList.length H → Qd H) :
    ∃ W : Nat → Nat → Hp → Prop, (∃ m, W 0 m (upd H1 D (.lst []))) ∧ ∀ i m H, W i m H →
      ((Its x).stop i H ∧ Qd H) ∨ ((Its x).go i H ∧ ∃ Nx : Hp → Prop, (∀ H', Nx H' → ∃ m', m' < m ∧ W (i + 1) m' H') ∧ ∀ v H', (Its x).yld i H v H' → g v (wipe σ vs) H' fun σ2 H2 => wipe σ2 vs = wipe σ vs ∧ tt σ2 H2 fun b H3 =>
        if b = true then te σ2 H3 fun y H4 => ∃ acc, H4 D = some (.lst acc) ∧ acc.length < sizeLine ∧ Nx (upd H4 D (.lst (acc ++ [y]))) else Nx H3) := by
  have sz : x.cps.toList.length = x.cps.size := Array.length_toList
  refine ⟨fun i m H => m = x.cps.size - i ∧ i ≤ x.cps.size ∧ Pv i H, ⟨_, rfl, Nat.zero_le _, h0⟩, ?_⟩
  rintro i m H ⟨rfl, hi, p⟩
  by_cases hlt : i < x.cps.size
  · refine .inr ⟨hlt, Pv (i + 1), fun H' p' => ⟨x.cps.size - (i + 1), by omega, rfl, hlt, p'⟩, fun v H' y => ?_⟩
    obtain ⟨rfl, c, hc, rfl⟩ := y
    exact hs i c _ (by rw [Array.getElem?_toList]; exact hc) p
  · have e : i = x.cps.toList.length := by omega
    subst e
    exact .inl ⟨by show x.cps.size ≤ _; omega, hd H p⟩
theorem for_str {x : Str} {g : TG} {tb : TS} {D : Ends} {σ : L2.St} {H : Hp} (Pv : Nat → L2.St → Hp → Prop) (h0 : Pv 0 σ H)
    (hs : ∀ (i c : Nat) (σ : L2.St) (H : Hp), x.cps.toList[i]? = some c → Pv i σ H → g (.str ⟨#[c]⟩) σ H fun σ2 H2 => tb { D with nx := Pv (i + 1), ct := Pv (i + 1), bk := D.nx } σ2 H2) (hd : ∀ σ H, Pv x.cps.toList.length σ H → D.nx σ H) :
    ∃ W : Nat → Nat → L2.St → Hp → Prop, (∃ m, W 0 m σ H) ∧ ∀ i m σ H, W i m σ H →
      ((Its x).stop i H ∧ D.nx σ H) ∨ ((Its x).go i H ∧ ∃ N : L2.St → Hp → Prop, (∀ σ' H', N σ' H' → ∃ m', m' < m ∧ W (i + 1) m' σ' H') ∧ ∀ v H', (Its x).yld i H v H' → g v σ H' fun σ2 H2 => tb { D with nx := N, ct := N, bk := D.nx } σ2 H2) := by
  have sz : x.cps.toList.length = x.cps.size := Array.length_toList
  refine ⟨fun i m σ H => m = x.cps.size - i ∧ i ≤ x.cps.size ∧ Pv i σ H, ⟨_, rfl, Nat.zero_le _, h0⟩, ?_⟩
  rintro i m σ H ⟨rfl, hi, p⟩
  by_cases hlt : i < x.cps.size
  · refine .inr ⟨hlt, Pv (i + 1), fun σ' H' p' => ⟨x.cps.size - (i + 1), by omega, rfl, hlt, p'⟩, fun v H' y => ?_⟩
    obtain ⟨rfl, c, hc, rfl⟩ := y
    exact hs i c _ _ (by rw [Array.getElem?_toList]; exact hc) p
  · have e : i = x.cps.toList.length := by omega
    subst e
    exact .inl ⟨by show x.cps.size ≤ _; omega, hd σ H p⟩
theorem lc_zip {K : PySem.W.Frag} {a b : Addr} {xs ys : List V} {g : TG} {tt : TT} {te : TE} {vs : List Nat} {σ : L2.St} {H1 : Hp} {D : Addr} {Qd : Hp → Prop} (hl : xs.length = ys.length) (Pv : Nat → Hp → Prop) (h0 : Pv 0 (upd H1 D (.lst [])))
    (hq : ∀ i H, Pv i H → SqL K H a xs ∧ SqL K H b ys)
    (hs : ∀ i x y T H, xs[i]? = some x → ys[i]? = some y → Pv i H → H T = none → g (.ref T) (wipe σ vs) (upd H T (.tup [x, y])) fun σ2 H2 => wipe σ2 vs = wipe σ vs ∧ tt σ2 H2 fun b H3 =>
      if b = true then te σ2 H3 fun y H4 => ∃ acc, H4 D = some (.lst acc) ∧ acc.length < sizeLine ∧ Pv (i + 1) (upd H4 D (.lst (acc ++ [y]))) else Pv (i + 1) H3) (hd : ∀ H, Pv xs.length H → Qd H) :
    ∃ W : Nat → Nat → Hp → Prop, (∃ m, W 0 m (upd H1 D (.lst []))) ∧ ∀ i m H, W i m H →
      ((Itz K a b).stop i H ∧ Qd H) ∨ ((Itz K a b).go i H ∧ ∃ Nx : Hp → Prop, (∀ H', Nx H' → ∃ m', m' < m ∧ W (i + 1) m' H') ∧ ∀ v H', (Itz K a b).yld i H v H' → g v (wipe σ vs) H' fun σ2 H2 => wipe σ2 vs = wipe σ vs ∧ tt σ2 H2 fun b H3 =>
        if b = true then te σ2 H3 fun y H4 => ∃ acc, H4 D = some (.lst acc) ∧ acc.length < sizeLine ∧ Nx (upd H4 D (.lst (acc ++ [y]))) else Nx H3) := by
  refine ⟨fun i m H => m = xs.length - i ∧ i ≤ xs.length ∧ Pv i H, ⟨_, rfl, Nat.zero_le _, h0⟩, ?_⟩
  rintro i m H ⟨rfl, hi, p⟩
  obtain ⟨qx, qy⟩ := hq i H p
  by_cases hlt : i < xs.length
  · have hx : xs[i]? = some xs[i] := List.getElem?_eq_getElem hlt
    have hlt2 : i < ys.length := by omega
    have hy : ys[i]? = some ys[i] := List.getElem?_eq_getElem hlt2
    refine .inr ⟨⟨xs, ys, _, _, qx, qy, hx, hy⟩, Pv (i + 1), fun H' p' => ⟨xs.length - (i + 1), by omega, rfl, hlt, p'⟩, fun v H' y => ?_⟩
    obtain ⟨T, x', y', rfl, hT, rfl, f1, f2⟩ := y
    exact hs i x' y' T H (f1 _ qx) (f2 _ qy) p hT
  · have e : i = xs.length := by omega
    subst e
    exact .inl ⟨⟨xs, ys, qx, qy, .inl (Nat.le_refl _)⟩, hd H p⟩
/-! ### slices of a text -/
theorem cutS_to (z : Str) (k : Nat) : (cutS z none (some (k : Int))).cps.toList = z.cps.toList.take k := by
  have hl : z.length = z.cps.toList.length := by rw [Array.length_toList]; rfl
  show (z.cps.toList.drop (HT.sIx z.length 0 none)).take (HT.sIx z.length z.length (some (k : Int)) - HT.sIx z.length 0 none) = _
  rw [HT.sIx_nat, HT.sIx_none, List.drop_zero, Nat.sub_zero, hl]
  by_cases h : k ≤ z.cps.toList.length
  · rw [Nat.min_eq_left h]
  · rw [Nat.min_eq_right (by omega), List.take_length, List.take_of_length_le (by omega)]
theorem cutS_from (z : Str) (k : Nat) : (cutS z (some (k : Int)) none).cps.toList = z.cps.toList.drop k := by
  have hl : z.length = z.cps.toList.length := by rw [Array.length_toList]; rfl
  show (z.cps.toList.drop (HT.sIx z.length 0 (some (k : Int)))).take (HT.sIx z.length z.length none - HT.sIx z.length 0 (some (k : Int))) = _
  rw [HT.sIx_nat, HT.sIx_none, hl]
  by_cases h : k ≤ z.cps.toList.length
  · rw [Nat.min_eq_left h]
    exact List.take_of_length_le (by rw [List.length_drop]; exact Nat.le_refl _)
  · rw [Nat.min_eq_right (by omega), List.drop_eq_nil_of_le (Nat.le_refl _), List.drop_eq_nil_of_le (by omega)]
    simp
theorem cutS_one (z : Str) (k : Nat) : (cutS z (some (k : Int)) (some ((k + 1 : Nat) : Int))).cps.toList = (z.cps.toList.drop k).take 1 := by
  have hl : z.length = z.cps.toList.length := by rw [Array.length_toList]; rfl
  show (z.cps.toList.drop (HT.sIx z.length 0 (some (k : Int)))).take (HT.sIx z.length z.length (some ((k + 1 : Nat) : Int)) - HT.sIx z.length 0 (some (k : Int))) = _
  rw [HT.sIx_nat, HT.sIx_nat, hl]
  by_cases h : k + 1 ≤ z.cps.toList.length
  · rw [Nat.min_eq_left h, Nat.min_eq_left (by omega : k ≤ z.cps.toList.length)]
    have : k + 1 - k = 1 := by omega
    rw [this]
  · rw [Nat.min_eq_right (by omega : z.cps.toList.length ≤ k + 1)]
    have e : z.cps.toList.drop k = [] := List.drop_eq_nil_of_le (by omega)
    by_cases h2 : k ≤ z.cps.toList.length
    · rw [Nat.min_eq_left h2, e]
      simp
    · rw [Nat.min_eq_right (by omega), List.drop_eq_nil_of_le (Nat.le_refl _), e]
      simp
/-! ### texts and other things -/
/-- a thing that is no text -/
def NoStr (K : PySem.W.Frag) (H : Hp) (x : V) : Prop := ∃ t, TyX K H x t ∧ PySem.W.kitOne K t (.type "str") = some false
section
variable {K : PySem.W.Frag} {H H' : Hp}
theorem NoStr.mono {x : V} (h : NoStr K H x) (s : Same H H') : NoStr K H' x := let ⟨t, h1, h2⟩ := h; ⟨t, Same.tyx s h1, h2⟩
theorem noStr_of {x : V} {n : String} (h : TyX K H x (.type n)) (h1 : kitB n "str" = some false) : NoStr K H x := ⟨_, h, kit_ty h1⟩
theorem noStr_non : NoStr K H .non := noStr_of (.base .non) (by decide +kernel)
theorem noStr_int (i : Int) : NoStr K H (.int i) := noStr_of (.base (.int i)) (by decide +kernel)
theorem noStr_bl (b : Bool) : NoStr K H (.bl b) := noStr_of (.base (.bl b)) (by decide +kernel)
theorem noStr_list {a : Addr} {xs : List V} (h : H a = some (.lst xs)) : NoStr K H (.ref a) := noStr_of (.base (.lst h)) (by decide +kernel)
theorem noStr_tup {a : Addr} {xs : List V} (h : H a = some (.tup xs)) : NoStr K H (.ref a) := noStr_of (.base (.tup h)) (by decide +kernel)
theorem noStr_dict {a : Addr} {kvs : List (Key × V)} (h : H a = some (.dK kvs)) : NoStr K H (.ref a) := noStr_of (.base (.dK h)) (by decide +kernel)
theorem str_ty (x : Str) : ∃ t, TyX K H (.str x) t ∧ PySem.W.kitOne K t (.type "str") = some true := ⟨_, .base (.str x), kit_ty (by decide +kernel)⟩
end
/-- the signs of deeds alone -/
def okS (z : Str) : Bool := z.cps.toList.all fun c => decide (c ∈ [100, 117, 119])
theorem okS_mem {z : Str} (h : okS z = true) : ∀ c ∈ z.cps.toList, c = 100 ∨ c = 117 ∨ c = 119 := fun c hc => by
  have := of_decide_eq_true (List.all_eq_true.mp h c hc)
  simpa using this
/-- a thing as deeds -/
def okD : V → Bool
  | .str z => okS z
  | _ => false
/-- a text of no great length, or no text -/
def Thing (K : PySem.W.Frag) (H : Hp) (x : V) : Prop := (∃ z : Str, x = .str z ∧ z.length ≤ 100000) ∨ (okD x = false ∧ NoStr K H x)
theorem Thing.mono {K : PySem.W.Frag} {H H' : Hp} {x : V} (h : Thing K H x) (s : Same H H') : Thing K H' x := by
  rcases h with h | ⟨h1, h2⟩
  · exact .inl h
  · exact .inr ⟨h1, h2.mono s⟩
/-- what deeds cost -/
def costI (z : Str) (d s : Int) : Int := ((z.cps.toList.count 100 : Nat) : Int) * d + (((z.length : Nat) : Int) - ((z.cps.toList.count 100 : Nat) : Int)) * s
theorem deed_lt {n : Int} {c k : Nat} (h : n.natAbs < 2 ^ k) : (deed n c).natAbs < 2 ^ (k + 1) := by
  unfold deed
  rw [Nat.pow_succ]
  split
  · omega
  · split <;> omega
theorem if_list {S0 S A P : Addr → Hp → Prop} {c : Bool} (h0 : ∀ p H, S0 p H → c = false → S p H) (go : ∀ p H, S p H → P p H) (hA : ∀ p H, S0 p H → c = true → (∀ p H, S p H → P p H) → A p H) :
    ∀ p H, S0 p H → if c = true then A p H else P p H := fun p H hs => by
  cases h : c with
  | true =>
    rw [if_pos rfl]
    exact hA p H hs h go
  | false =>
    rw [if_neg Bool.false_ne_true]
    exact go p H (h0 p H hs h)
end XLed

set_option maxHeartbeats 4000000
/-! a tuple of one text, of a text and a number; what deeds cost, sign by sign -/
namespace XLed
open PySem PySem.Spec PyProof.Rows L2 FG
def dW (w : Str) : PyData := .tuple [.str w]
def dWI (w : Str) (n : Int) : PyData := .tuple [.str w, .int n]
theorem dW_shaped {w : Str} (h : PyData.canLay0 (.str w) = true) : SeqAt.shaped (dW w) = true := by
  unfold SeqAt.shaped dW
  rw [Bool.and_eq_true]
  refine ⟨?_, decide_eq_true ?_⟩
  · simp only [PyData.canLay0, PyData.canLayAll0] at h ⊢
    simp [h]
  · simp [PyData.depth, PyData.depthAll]
theorem dWI_shaped {w : Str} {n : Int} (h : PyData.canLay0 (.str w) = true) : SeqAt.shaped (dWI w n) = true := by
  unfold SeqAt.shaped dWI
  rw [Bool.and_eq_true]
  refine ⟨?_, decide_eq_true ?_⟩
  · simp only [PyData.canLay0, PyData.canLayAll0] at h ⊢
    simp [h]
  · simp [PyData.depth, PyData.depthAll]
theorem dW_eqv (w : Str) : PyData.eqv (dW w) (dW w) = true := by
  simp [dW, PyData.eqv, PyData.eqvAll]
theorem dWI_eqv (w : Str) (n : Int) : PyData.eqv (dWI w n) (dWI w n) = true := by
  simp [dWI, PyData.eqv, PyData.eqvAll]
/-- a text and a list -/
def dWL (w : Str) (ns : List Int) : PyData := .tuple [.str w, dI ns]
theorem dWL_shaped {w : Str} {ns : List Int} (h : PyData.canLay0 (.str w) = true) : SeqAt.shaped (dWL w ns) = true := by
  have hd := dI_depth ns
  unfold SeqAt.shaped dWL
  rw [Bool.and_eq_true]
  refine ⟨?_, decide_eq_true ?_⟩
  · have hl := dI_lay1 ns
    simp only [PyData.canLay0, PyData.canLayAll0] at h ⊢
    rw [hl, h]
    rfl
  · simp only [PyData.depth, PyData.depthAll]
    omega
theorem dWL_eqv (w : Str) (ns : List Int) : PyData.eqv (dWL w ns) (dWL w ns) = true := by
  simp [dWL, PyData.eqv, PyData.eqvAll, dI_eqv]
section
variable {K : PySem.W.Frag} {H : Hp}
theorem dp_WL {a b : Addr} {w : Str} {ns : List Int} (h : H a = some (.tup [.str w, .ref b])) (h2 : SqL K H b (ns.map V.int)) : Dp K H (.ref a) (dWL w ns) := .tup (SqT.of h) (.cons (.str w) (.cons (dp_ints h2) .nil))
theorem dp_W {a : Addr} {w : Str} (h : H a = some (.tup [.str w])) : Dp K H (.ref a) (dW w) := .tup (SqT.of h) (.cons (.str w) .nil)
theorem dp_WI {a : Addr} {w : Str} {n : Int} (h : H a = some (.tup [.str w, .int n])) : Dp K H (.ref a) (dWI w n) := .tup (SqT.of h) (.cons (.str w) (.cons (.int n) .nil))
theorem plain_bl (b : Bool) : Plain K H (.bl b) := ⟨_, _, _, kind_bl b, rfl⟩
theorem plain_non : Plain K H .non := ⟨_, _, _, kind_non, rfl⟩
theorem plain_str (x : Str) : Plain K H (.str x) := ⟨_, _, _, kind_str x, rfl⟩
theorem plain_list {a : Addr} {xs : List V} (h : H a = some (.lst xs)) : Plain K H (.ref a) := ⟨_, _, _, kind_list (SqL.of h), rfl⟩
theorem plain_tup {a : Addr} {xs : List V} (h : H a = some (.tup xs)) : Plain K H (.ref a) := ⟨_, _, _, kind_tup h, rfl⟩
theorem plain_dict {a : Addr} {kvs : List (Key × V)} (h : H a = some (.dK kvs)) : Plain K H (.ref a) := ⟨_, _, _, kind_dict h, rfl⟩
end
def costL (l : List Nat) (d s : Int) : Int := ((l.count 100 : Nat) : Int) * d + (((l.length : Nat) : Int) - ((l.count 100 : Nat) : Int)) * s
theorem costI_L (z : Str) (d s : Int) : costI z d s = costL z.cps.toList d s := by
  unfold costI costL
  rw [Array.length_toList]
  rfl
theorem costL_nil (d s : Int) : costL [] d s = 0 := by
  unfold costL
  simp
theorem costL_snoc (l : List Nat) (c : Nat) (d s : Int) : costL (l ++ [c]) d s = costL l d s + (if c = 100 then d else s) := by
  unfold costL
  rw [List.count_append, List.length_append]
  by_cases h : c = 100
  · subst h
    have e1 : ([100] : List Nat).count 100 = 1 := rfl
    have e2 : ([100] : List Nat).length = 1 := rfl
    rw [if_pos rfl, e1, e2]
    have a1 : (((l.count 100 + 1 : Nat) : Int)) * d = ((l.count 100 : Nat) : Int) * d + d := by
      rw [show ((l.count 100 + 1 : Nat) : Int) = ((l.count 100 : Nat) : Int) + 1 by omega, Int.add_mul, Int.one_mul]
    have a2 : (((l.length + 1 : Nat) : Int) - ((l.count 100 + 1 : Nat) : Int)) = (((l.length : Nat) : Int) - ((l.count 100 : Nat) : Int)) := by omega
    rw [a1, a2]
    omega
  · have e1 : ([c] : List Nat).count 100 = 0 := by
      rw [List.count_eq_zero]
      simp
      omega
    have e2 : ([c] : List Nat).length = 1 := rfl
    rw [if_neg h, e1, e2, Nat.add_zero]
    have a2 : (((l.length + 1 : Nat) : Int) - ((l.count 100 : Nat) : Int)) * s = (((l.length : Nat) : Int) - ((l.count 100 : Nat) : Int)) * s + s := by
      rw [show (((l.length + 1 : Nat) : Int) - ((l.count 100 : Nat) : Int)) = ((((l.length : Nat) : Int) - ((l.count 100 : Nat) : Int)) + 1) by omega, Int.add_mul, Int.one_mul]
    rw [a2]
    omega
theorem going_snoc (l : List Nat) (c : Nat) (n : Int) : going (l ++ [c]) n = deed (going l n) c := by
  unfold going
  rw [List.foldl_append]
  rfl
/-- texts are told by their signs -/
theorem str_iff {x y : Str} : x = y ↔ x.cps.toList = y.cps.toList := ⟨fun h => by rw [h], fun h => TL.ext_tl h⟩
theorem okS_list {z z2 : Str} {l : List Nat} (h : okS z = true) (e : z2.cps.toList = l) (hl : ∀ c ∈ l, c ∈ z.cps.toList) : okS z2 = true := by
  unfold okS at h ⊢
  rw [List.all_eq_true] at h ⊢
  intro c hc
  rw [e] at hc
  exact h c (hl c hc)
end XLed

namespace K09
open PySem PySem.Spec PyProof.Rows L2 FG XLed
/-! ### the text -/
def topS (i : Nat) : Stmt := PySem.Challenge.pw_leanfigures_k09_deeds_done.main.body.getD i (.Pass ⟨0, 0, 0, 0⟩)
abbrev t_is_whole : Stmt := topS 8
abbrev p_is_whole : List Str := ["thing"]
theorem sc_is_whole : FnScope ["thing"] p_is_whole (defScope t_is_whole) := ⟨rfl, rfl, rfl, by decide +kernel, rfl, by decide +kernel, by decide +kernel⟩
abbrev t_led : Stmt := topS 11
abbrev p_led : List Str := ["deeds"]
theorem sc_led : FnScope ["deeds", "part"] p_led (defScope t_led) := ⟨rfl, rfl, rfl, by decide +kernel, rfl, by decide +kernel, by decide +kernel⟩
abbrev t_doubled_between : Stmt := topS 12
abbrev p_doubled_between : List Str := ["balances"]
theorem sc_doubled_between : FnScope ["balances", "doublings", "one", "other"] p_doubled_between (defScope t_doubled_between) := ⟨rfl, rfl, rfl, by decide +kernel, rfl, by decide +kernel, by decide +kernel⟩
abbrev t_cost_of : Stmt := topS 13
abbrev p_cost_of : List Str := ["deeds", "double", "step"]
theorem sc_cost_of : FnScope ["deeds", "double", "step", "doublings"] p_cost_of (defScope t_cost_of) := ⟨rfl, rfl, rfl, by decide +kernel, rfl, by decide +kernel, by decide +kernel⟩
abbrev t_refuse_no_deeds : Stmt := topS 14
abbrev p_refuse_no_deeds : List Str := ["thing"]
theorem sc_refuse_no_deeds : FnScope ["thing", "sign"] p_refuse_no_deeds (defScope t_refuse_no_deeds) := ⟨rfl, rfl, rfl, by decide +kernel, rfl, by decide +kernel, by decide +kernel⟩
abbrev t_refuse_no_cost : Stmt := topS 15
abbrev p_refuse_no_cost : List Str := ["thing"]
theorem sc_refuse_no_cost : FnScope ["thing"] p_refuse_no_cost (defScope t_refuse_no_cost) := ⟨rfl, rfl, rfl, by decide +kernel, rfl, by decide +kernel, by decide +kernel⟩
abbrev t_Lcell_at : Stmt := topS 17
abbrev p_Lcell_at : List Str := ["_law_script", "_law_k"]
theorem sc_Lcell_at : FnScope ["_law_script", "_law_k"] p_Lcell_at (defScope t_Lcell_at) := ⟨rfl, rfl, rfl, by decide +kernel, rfl, by decide +kernel, by decide +kernel⟩
abbrev t_Lmixed : Stmt := topS 18
abbrev p_Lmixed : List Str := ["_law_cell", "_law_k"]
theorem sc_Lmixed : FnScope ["_law_cell", "_law_k", "_law_number"] p_Lmixed (defScope t_Lmixed) := ⟨rfl, rfl, rfl, by decide +kernel, rfl, by decide +kernel, by decide +kernel⟩
abbrev t_Lwhole : Stmt := topS 19
abbrev p_Lwhole : List Str := ["_law_found"]
theorem sc_Lwhole : FnScope ["_law_found"] p_Lwhole (defScope t_Lwhole) := ⟨rfl, rfl, rfl, by decide +kernel, rfl, by decide +kernel, by decide +kernel⟩
abbrev t_Ldeeds : Stmt := topS 20
abbrev p_Ldeeds : List Str := ["_law_script"]
theorem sc_Ldeeds : FnScope ["_law_script", "_law_signs", "_law_found", "_law_k", "_law_cell"] p_Ldeeds (defScope t_Ldeeds) := ⟨rfl, rfl, rfl, by decide +kernel, rfl, by decide +kernel, by decide +kernel⟩
abbrev t_Ltold : Stmt := topS 21
abbrev p_Ltold : List Str := ["_law_deeds_here", "_law_double", "_law_step"]
theorem sc_Ltold : FnScope ["_law_deeds_here", "_law_double", "_law_step", "_law_found"] p_Ltold (defScope t_Ltold) := ⟨rfl, rfl, rfl, by decide +kernel, rfl, by decide +kernel, by decide +kernel⟩
abbrev t_Lled : Stmt := topS 22
abbrev p_Lled : List Str := ["_law_deeds_here"]
theorem sc_Lled : FnScope ["_law_deeds_here", "_law_found"] p_Lled (defScope t_Lled) := ⟨rfl, rfl, rfl, by decide +kernel, rfl, by decide +kernel, by decide +kernel⟩
abbrev t_Lcosts_refused : Stmt := topS 23
abbrev p_Lcosts_refused : List Str := ["_law_deeds_here", "_law_cell"]
theorem sc_Lcosts_refused : FnScope ["_law_deeds_here", "_law_cell", "_law_odd", "_law_one", "_law_other", "_law_bent"] p_Lcosts_refused (defScope t_Lcosts_refused) := ⟨rfl, rfl, rfl, by decide +kernel, rfl, by decide +kernel, by decide +kernel⟩
abbrev t_law : Stmt := topS 24
abbrev p_law : List Str := ["_law_script"]
theorem sc_law : FnScope ["_law_script", "_law_deeds_here", "_law_cell", "_law_double", "_law_step", "_law_number", "_law_total", "_law_k", "_law_sign", "_law_at", "_law_bent"] p_law (defScope t_law) := ⟨rfl, rfl, rfl, by decide +kernel, rfl, by decide +kernel, by decide +kernel⟩
/-- what the top has left: where each def stands, and that the built-in names are still the built-in ones -/
structure Txt (K : PySem.W.Frag) (mg : Str → Option Value) where
  a_is_whole : Addr
  d_is_whole : FuncData
  F_is_whole : Fun K "is_whole" "is_whole" t_is_whole a_is_whole d_is_whole
  b_is_whole : Binds K d_is_whole p_is_whole []
  g_is_whole : mg "is_whole" = some (.ref a_is_whole)
  a_led : Addr
  d_led : FuncData
  F_led : Fun K "led" "led" t_led a_led d_led
  b_led : Binds K d_led p_led []
  g_led : mg "led" = some (.ref a_led)
  a_doubled_between : Addr
  d_doubled_between : FuncData
  F_doubled_between : Fun K "doubled_between" "doubled_between" t_doubled_between a_doubled_between d_doubled_between
  b_doubled_between : Binds K d_doubled_between p_doubled_between []
  g_doubled_between : mg "doubled_between" = some (.ref a_doubled_between)
  a_cost_of : Addr
  d_cost_of : FuncData
  F_cost_of : Fun K "cost_of" "cost_of" t_cost_of a_cost_of d_cost_of
  b_cost_of : Binds K d_cost_of p_cost_of []
  g_cost_of : mg "cost_of" = some (.ref a_cost_of)
  a_refuse_no_deeds : Addr
  d_refuse_no_deeds : FuncData
  F_refuse_no_deeds : Fun K "refuse_no_deeds" "refuse_no_deeds" t_refuse_no_deeds a_refuse_no_deeds d_refuse_no_deeds
  b_refuse_no_deeds : Binds K d_refuse_no_deeds p_refuse_no_deeds []
  g_refuse_no_deeds : mg "refuse_no_deeds" = some (.ref a_refuse_no_deeds)
  a_refuse_no_cost : Addr
  d_refuse_no_cost : FuncData
  F_refuse_no_cost : Fun K "refuse_no_cost" "refuse_no_cost" t_refuse_no_cost a_refuse_no_cost d_refuse_no_cost
  b_refuse_no_cost : Binds K d_refuse_no_cost p_refuse_no_cost []
  g_refuse_no_cost : mg "refuse_no_cost" = some (.ref a_refuse_no_cost)
  a_Lcell_at : Addr
  d_Lcell_at : FuncData
  F_Lcell_at : Fun K "_law_cell_at" "_law_cell_at" t_Lcell_at a_Lcell_at d_Lcell_at
  b_Lcell_at : Binds K d_Lcell_at p_Lcell_at []
  g_Lcell_at : mg "_law_cell_at" = some (.ref a_Lcell_at)
  a_Lmixed : Addr
  d_Lmixed : FuncData
  F_Lmixed : Fun K "_law_mixed" "_law_mixed" t_Lmixed a_Lmixed d_Lmixed
  b_Lmixed : Binds K d_Lmixed p_Lmixed []
  g_Lmixed : mg "_law_mixed" = some (.ref a_Lmixed)
  a_Lwhole : Addr
  d_Lwhole : FuncData
  F_Lwhole : Fun K "_law_whole" "_law_whole" t_Lwhole a_Lwhole d_Lwhole
  b_Lwhole : Binds K d_Lwhole p_Lwhole []
  g_Lwhole : mg "_law_whole" = some (.ref a_Lwhole)
  a_Ldeeds : Addr
  d_Ldeeds : FuncData
  F_Ldeeds : Fun K "_law_deeds" "_law_deeds" t_Ldeeds a_Ldeeds d_Ldeeds
  b_Ldeeds : Binds K d_Ldeeds p_Ldeeds []
  g_Ldeeds : mg "_law_deeds" = some (.ref a_Ldeeds)
  a_Ltold : Addr
  d_Ltold : FuncData
  F_Ltold : Fun K "_law_told" "_law_told" t_Ltold a_Ltold d_Ltold
  b_Ltold : Binds K d_Ltold p_Ltold []
  g_Ltold : mg "_law_told" = some (.ref a_Ltold)
  a_Lled : Addr
  d_Lled : FuncData
  F_Lled : Fun K "_law_led" "_law_led" t_Lled a_Lled d_Lled
  b_Lled : Binds K d_Lled p_Lled []
  g_Lled : mg "_law_led" = some (.ref a_Lled)
  a_Lcosts_refused : Addr
  d_Lcosts_refused : FuncData
  F_Lcosts_refused : Fun K "_law_costs_refused" "_law_costs_refused" t_Lcosts_refused a_Lcosts_refused d_Lcosts_refused
  b_Lcosts_refused : Binds K d_Lcosts_refused p_Lcosts_refused []
  g_Lcosts_refused : mg "_law_costs_refused" = some (.ref a_Lcosts_refused)
  a_law : Addr
  d_law : FuncData
  F_law : Fun K "law" "law" t_law a_law d_law
  b_law : Binds K d_law p_law []
  g_law : mg "law" = some (.ref a_law)
  gl_MOST_COST : ∃ t, mg "MOST_COST" = some (.int 50 t)
  z_isinstance : mg "isinstance" = none
  z_int : mg "int" = none
  z_bool : mg "bool" = none
  z_len : mg "len" = none
  z_zip : mg "zip" = none
  z_str : mg "str" = none
  z_all : mg "all" = none
  z_enumerate : mg "enumerate" = none
  z_range : mg "range" = none
  c_LeanError : Addr
  gc_LeanError : mg "LeanError" = some (.ref c_LeanError)
  c_NoNumber : Addr
  gc_NoNumber : mg "NoNumber" = some (.ref c_NoNumber)
  c_NoRow : Addr
  gc_NoRow : mg "NoRow" = some (.ref c_NoRow)
  c_NoText : Addr
  gc_NoText : mg "NoText" = some (.ref c_NoText)
  c_NoDeeds : Addr
  gc_NoDeeds : mg "NoDeeds" = some (.ref c_NoDeeds)
  c_NoCost : Addr
  gc_NoCost : mg "NoCost" = some (.ref c_NoCost)
  x_LeanError : PySem.W.excIn K c_LeanError [.type "ValueError", .type "Exception", .type "BaseException", .type "object"] "ValueError.__new__" = true
  kp_LeanError : PySem.W.keepIn K (.ref c_LeanError) = true
  bs_LeanError : PySem.W.subIn K (.ref c_LeanError) (.type "BaseException") = some true
  ve_LeanError : PySem.W.subIn K (.ref c_LeanError) (.type "ValueError") = some true
  ty_LeanError : PySem.W.typeIn K (.ref c_LeanError) = some (.type "type")
  ic_LeanError : PySem.W.isClsIn K c_LeanError = true
  ga_LeanError : PySem.W.findIn K (.ref c_LeanError) "__getattribute__" = some (some (.builtin "BaseException.__getattribute__"))
  gt_LeanError : PySem.W.findIn K (.ref c_LeanError) "__getattr__" = some none
  gk_LeanError : PySem.W.findIn K (.ref c_LeanError) "__class__" = some (some (.builtin "object.__class__"))
  hd_LeanError : PySem.W.hasDictIn K c_LeanError = true
  mo_LeanError : PySem.W.mroIn K c_LeanError (.type "object") = some true
  su_LeanError_LeanError : PySem.W.subIn K (.ref c_LeanError) (.ref c_LeanError) = some true
  su_LeanError_NoNumber : PySem.W.subIn K (.ref c_LeanError) (.ref c_NoNumber) = some false
  su_LeanError_NoRow : PySem.W.subIn K (.ref c_LeanError) (.ref c_NoRow) = some false
  su_LeanError_NoText : PySem.W.subIn K (.ref c_LeanError) (.ref c_NoText) = some false
  su_LeanError_NoDeeds : PySem.W.subIn K (.ref c_LeanError) (.ref c_NoDeeds) = some false
  su_LeanError_NoCost : PySem.W.subIn K (.ref c_LeanError) (.ref c_NoCost) = some false
  x_NoNumber : PySem.W.excIn K c_NoNumber [.type "ValueError", .type "Exception", .type "BaseException", .type "object"] "ValueError.__new__" = true
  kp_NoNumber : PySem.W.keepIn K (.ref c_NoNumber) = true
  bs_NoNumber : PySem.W.subIn K (.ref c_NoNumber) (.type "BaseException") = some true
  ve_NoNumber : PySem.W.subIn K (.ref c_NoNumber) (.type "ValueError") = some true
  ty_NoNumber : PySem.W.typeIn K (.ref c_NoNumber) = some (.type "type")
  ic_NoNumber : PySem.W.isClsIn K c_NoNumber = true
  ga_NoNumber : PySem.W.findIn K (.ref c_NoNumber) "__getattribute__" = some (some (.builtin "BaseException.__getattribute__"))
  gt_NoNumber : PySem.W.findIn K (.ref c_NoNumber) "__getattr__" = some none
  gk_NoNumber : PySem.W.findIn K (.ref c_NoNumber) "__class__" = some (some (.builtin "object.__class__"))
  hd_NoNumber : PySem.W.hasDictIn K c_NoNumber = true
  mo_NoNumber : PySem.W.mroIn K c_NoNumber (.type "object") = some true
  su_NoNumber_LeanError : PySem.W.subIn K (.ref c_NoNumber) (.ref c_LeanError) = some true
  su_NoNumber_NoNumber : PySem.W.subIn K (.ref c_NoNumber) (.ref c_NoNumber) = some true
  su_NoNumber_NoRow : PySem.W.subIn K (.ref c_NoNumber) (.ref c_NoRow) = some false
  su_NoNumber_NoText : PySem.W.subIn K (.ref c_NoNumber) (.ref c_NoText) = some false
  su_NoNumber_NoDeeds : PySem.W.subIn K (.ref c_NoNumber) (.ref c_NoDeeds) = some false
  su_NoNumber_NoCost : PySem.W.subIn K (.ref c_NoNumber) (.ref c_NoCost) = some false
  x_NoRow : PySem.W.excIn K c_NoRow [.type "ValueError", .type "Exception", .type "BaseException", .type "object"] "ValueError.__new__" = true
  kp_NoRow : PySem.W.keepIn K (.ref c_NoRow) = true
  bs_NoRow : PySem.W.subIn K (.ref c_NoRow) (.type "BaseException") = some true
  ve_NoRow : PySem.W.subIn K (.ref c_NoRow) (.type "ValueError") = some true
  ty_NoRow : PySem.W.typeIn K (.ref c_NoRow) = some (.type "type")
  ic_NoRow : PySem.W.isClsIn K c_NoRow = true
  ga_NoRow : PySem.W.findIn K (.ref c_NoRow) "__getattribute__" = some (some (.builtin "BaseException.__getattribute__"))
  gt_NoRow : PySem.W.findIn K (.ref c_NoRow) "__getattr__" = some none
  gk_NoRow : PySem.W.findIn K (.ref c_NoRow) "__class__" = some (some (.builtin "object.__class__"))
  hd_NoRow : PySem.W.hasDictIn K c_NoRow = true
  mo_NoRow : PySem.W.mroIn K c_NoRow (.type "object") = some true
  su_NoRow_LeanError : PySem.W.subIn K (.ref c_NoRow) (.ref c_LeanError) = some true
  su_NoRow_NoNumber : PySem.W.subIn K (.ref c_NoRow) (.ref c_NoNumber) = some false
  su_NoRow_NoRow : PySem.W.subIn K (.ref c_NoRow) (.ref c_NoRow) = some true
  su_NoRow_NoText : PySem.W.subIn K (.ref c_NoRow) (.ref c_NoText) = some false
  su_NoRow_NoDeeds : PySem.W.subIn K (.ref c_NoRow) (.ref c_NoDeeds) = some false
  su_NoRow_NoCost : PySem.W.subIn K (.ref c_NoRow) (.ref c_NoCost) = some false
  x_NoText : PySem.W.excIn K c_NoText [.type "ValueError", .type "Exception", .type "BaseException", .type "object"] "ValueError.__new__" = true
  kp_NoText : PySem.W.keepIn K (.ref c_NoText) = true
  bs_NoText : PySem.W.subIn K (.ref c_NoText) (.type "BaseException") = some true
  ve_NoText : PySem.W.subIn K (.ref c_NoText) (.type "ValueError") = some true
  ty_NoText : PySem.W.typeIn K (.ref c_NoText) = some (.type "type")
  ic_NoText : PySem.W.isClsIn K c_NoText = true
  ga_NoText : PySem.W.findIn K (.ref c_NoText) "__getattribute__" = some (some (.builtin "BaseException.__getattribute__"))
  gt_NoText : PySem.W.findIn K (.ref c_NoText) "__getattr__" = some none
  gk_NoText : PySem.W.findIn K (.ref c_NoText) "__class__" = some (some (.builtin "object.__class__"))
  hd_NoText : PySem.W.hasDictIn K c_NoText = true
  mo_NoText : PySem.W.mroIn K c_NoText (.type "object") = some true
  su_NoText_LeanError : PySem.W.subIn K (.ref c_NoText) (.ref c_LeanError) = some true
  su_NoText_NoNumber : PySem.W.subIn K (.ref c_NoText) (.ref c_NoNumber) = some false
  su_NoText_NoRow : PySem.W.subIn K (.ref c_NoText) (.ref c_NoRow) = some false
  su_NoText_NoText : PySem.W.subIn K (.ref c_NoText) (.ref c_NoText) = some true
  su_NoText_NoDeeds : PySem.W.subIn K (.ref c_NoText) (.ref c_NoDeeds) = some false
  su_NoText_NoCost : PySem.W.subIn K (.ref c_NoText) (.ref c_NoCost) = some false
  x_NoDeeds : PySem.W.excIn K c_NoDeeds [.type "ValueError", .type "Exception", .type "BaseException", .type "object"] "ValueError.__new__" = true
  kp_NoDeeds : PySem.W.keepIn K (.ref c_NoDeeds) = true
  bs_NoDeeds : PySem.W.subIn K (.ref c_NoDeeds) (.type "BaseException") = some true
  ve_NoDeeds : PySem.W.subIn K (.ref c_NoDeeds) (.type "ValueError") = some true
  ty_NoDeeds : PySem.W.typeIn K (.ref c_NoDeeds) = some (.type "type")
  ic_NoDeeds : PySem.W.isClsIn K c_NoDeeds = true
  ga_NoDeeds : PySem.W.findIn K (.ref c_NoDeeds) "__getattribute__" = some (some (.builtin "BaseException.__getattribute__"))
  gt_NoDeeds : PySem.W.findIn K (.ref c_NoDeeds) "__getattr__" = some none
  gk_NoDeeds : PySem.W.findIn K (.ref c_NoDeeds) "__class__" = some (some (.builtin "object.__class__"))
  hd_NoDeeds : PySem.W.hasDictIn K c_NoDeeds = true
  mo_NoDeeds : PySem.W.mroIn K c_NoDeeds (.type "object") = some true
  su_NoDeeds_LeanError : PySem.W.subIn K (.ref c_NoDeeds) (.ref c_LeanError) = some true
  su_NoDeeds_NoNumber : PySem.W.subIn K (.ref c_NoDeeds) (.ref c_NoNumber) = some false
  su_NoDeeds_NoRow : PySem.W.subIn K (.ref c_NoDeeds) (.ref c_NoRow) = some false
  su_NoDeeds_NoText : PySem.W.subIn K (.ref c_NoDeeds) (.ref c_NoText) = some false
  su_NoDeeds_NoDeeds : PySem.W.subIn K (.ref c_NoDeeds) (.ref c_NoDeeds) = some true
  su_NoDeeds_NoCost : PySem.W.subIn K (.ref c_NoDeeds) (.ref c_NoCost) = some false
  x_NoCost : PySem.W.excIn K c_NoCost [.type "ValueError", .type "Exception", .type "BaseException", .type "object"] "ValueError.__new__" = true
  kp_NoCost : PySem.W.keepIn K (.ref c_NoCost) = true
  bs_NoCost : PySem.W.subIn K (.ref c_NoCost) (.type "BaseException") = some true
  ve_NoCost : PySem.W.subIn K (.ref c_NoCost) (.type "ValueError") = some true
  ty_NoCost : PySem.W.typeIn K (.ref c_NoCost) = some (.type "type")
  ic_NoCost : PySem.W.isClsIn K c_NoCost = true
  ga_NoCost : PySem.W.findIn K (.ref c_NoCost) "__getattribute__" = some (some (.builtin "BaseException.__getattribute__"))
  gt_NoCost : PySem.W.findIn K (.ref c_NoCost) "__getattr__" = some none
  gk_NoCost : PySem.W.findIn K (.ref c_NoCost) "__class__" = some (some (.builtin "object.__class__"))
  hd_NoCost : PySem.W.hasDictIn K c_NoCost = true
  mo_NoCost : PySem.W.mroIn K c_NoCost (.type "object") = some true
  su_NoCost_LeanError : PySem.W.subIn K (.ref c_NoCost) (.ref c_LeanError) = some true
  su_NoCost_NoNumber : PySem.W.subIn K (.ref c_NoCost) (.ref c_NoNumber) = some false
  su_NoCost_NoRow : PySem.W.subIn K (.ref c_NoCost) (.ref c_NoRow) = some false
  su_NoCost_NoText : PySem.W.subIn K (.ref c_NoCost) (.ref c_NoText) = some false
  su_NoCost_NoDeeds : PySem.W.subIn K (.ref c_NoCost) (.ref c_NoDeeds) = some false
  su_NoCost_NoCost : PySem.W.subIn K (.ref c_NoCost) (.ref c_NoCost) = some true
  sp_class : PySem.W.specialIn K (.builtin "object.__class__") "__get__" = some (some (.builtin "getset_descriptor.__get__"))
  tk_class : PySem.W.takesIn K (.builtin "object.__class__") = some true
  digits : PySem.W.nsIn K cStatics "sys.int_max_str_digits" = some none
section
variable {P : Program} {w : World} {K : PySem.W.Frag} {mg : Str → Option Value} {base : Heap}
/-! ### is_whole -/
def sp_is_whole (K : PySem.W.Frag) : Sp := fun vs H Q _ => ∃ x, vs = [x] ∧ Plain K H x ∧ Q (.bl (intV x)) H
theorem ok_is_whole (T : Txt K mg) : FnOk P w K mg base CX0 1 T.a_is_whole T.d_is_whole p_is_whole (sp_is_whole K) := by
  refine T.F_is_whole.ok sc_is_whole (fun vs H Q E h => ?_) (fun cdv A outer s H vs Q E hr h => ?_)
  · obtain ⟨x, rfl, _⟩ := h
    rfl
  · obtain ⟨x, rfl, ⟨i, b, l, k, e⟩, q⟩ := h
    obtain ⟨t, ty, h1, h2, _⟩ := k.ex
    refine ⟨_, pss_one (ps_ret (pe_and (pe_callB call_isi (by rfl) T.z_isinstance (by decide +kernel) (pa_cons (pv 0) (pa_cons (pe_bltn (v := .ty "int") (by rfl) T.z_int (by decide +kernel) rfl) pa_nil)))
      (pe_one (pe_not (pe_callB call_isi (by rfl) T.z_isinstance (by decide +kernel) (pa_cons (pv 0) (pa_cons (pe_bltn (v := .ty "bool") (by rfl) T.z_bool (by decide +kernel) rfl) pa_nil))))))), ?_⟩
    refine ⟨x, rfl, x, _, t, _, i, rfl, .ty _, ty, h1, i, rfl, ?_⟩
    cases i with
    | true => exact iteT ⟨x, rfl, x, _, t, _, b, rfl, .ty _, ty, h2, b, rfl, by rw [← e] at q; exact q⟩
    | false => exact iteF (by rw [← e] at q; exact q)
/-! ### refuse_no_deeds, refuse_no_cost -/
def sp_deeds_good : Sp := fun vs H Q _ => ∃ z : Str, vs = [.str z] ∧ z.length ≤ 100000 ∧ okS z = true ∧ ∀ H', Same H H' → Q .non H'
theorem ok_deeds_good (T : Txt K mg) : FnOk P w K mg base CX0 1 T.a_refuse_no_deeds T.d_refuse_no_deeds p_refuse_no_deeds sp_deeds_good := by
  refine T.F_refuse_no_deeds.ok sc_refuse_no_deeds (fun vs H Q E h => ?_) (fun cdv A outer s H vs Q E hr h => ?_)
  · obtain ⟨_, rfl, _⟩ := h
    rfl
  · obtain ⟨z, rfl, hl, ok, q⟩ := h
    refine ⟨_, pss_one (ps_if (PW.pt (pw_or (pt_not (pt_val (pe_callB call_isi (by rfl) T.z_isinstance (by decide +kernel) (pa_cons (pv 0) (pa_cons (pe_bltn (v := .ty "str") (by rfl) T.z_str (by decide +kernel) rfl) pa_nil)))))
      (pw_or1 (pt_not (pt_val (pe_callB (cr_all rfl) (by rfl) T.z_all (by decide +kernel) (pa_cons (pe_lc (own := [("sign", 1)]) (g := gName 1) (tt := tYes) (by rfl) sc_refuse_no_deeds.nd (pi_str (pv 0)) (blkOk_by (N := ["thing", "sign"]) (own := [("sign", 1)]) (sc := defScope t_refuse_no_deeds) (by decide +kernel))
          (fun _ _ _ _ _ => pg_name (i := 1) sc_refuse_no_deeds.nd rfl (Or.inl rfl)) (fun _ _ _ _ _ => pts_nil) (fun _ _ _ _ _ => pe_cmpR op_in_sign (pv 1) pe_str (by rfl))) pa_nil))))))) (pss_one ps_never) pss_nil), ?_⟩
    obtain ⟨t, ty, k⟩ := str_ty (K := K) (H := H) z
    refine ⟨.str z, rfl, .str z, _, t, _, true, rfl, .ty _, ty, k, true, rfl, ?_⟩
    refine iteF ⟨.str z, rfl, z, rfl, fun D nD => ?_⟩
    have sz : z.cps.toList.length = z.length := Array.length_toList
    have lim : (200000 : Nat) ≤ sizeLine := by decide
    refine lc_str (fun i Hx => Same H Hx ∧ Hx D = some (.lst (((z.cps.toList.take i).map fun c => decide (c ∈ [100, 117, 119])).map V.bl))) ⟨same_upd nD, upd_same⟩ (fun i c Hx hc e => ?_) (fun Hx e => ?_)
    · obtain ⟨s1, eD⟩ := e
      refine ⟨rfl, .str ⟨#[c]⟩, rfl, c, _, rfl, rfl, _, eD, ?_, fun b u e => ?_, ?_⟩
      · rw [List.length_map, List.length_map, List.length_take]
        omega
      · rw [upd_ne (ne_of_none e nD)]
        exact s1 _ _ e
      · rw [upd_same, List.take_add_one, hc, List.map_append, List.map_append]
        rfl
    · obtain ⟨s1, eD⟩ := e
      rw [List.take_length] at eD
      refine ⟨D, _, rfl, SqL.of eD, _, rfl, ?_⟩
      have ea : ((z.cps.toList.map fun c => decide (c ∈ [100, 117, 119])).all id) = true := by
        rw [List.all_map]
        exact ok
      rw [ea]
      exact iteF (q _ s1)
def sp_deeds_any (K : PySem.W.Frag) (C : Addr) : Sp := fun vs H Q E => ∃ x, vs = [x] ∧ Thing K H x ∧ (okD x = true → ∀ H', Same H H' → Q .non H') ∧ (okD x = false → ∀ H', Same H H' → E (.ref C) none H')
theorem ok_deeds_any (T : Txt K mg) : FnOk P w K mg base (L2.CX P w) 1 T.a_refuse_no_deeds T.d_refuse_no_deeds p_refuse_no_deeds (sp_deeds_any K T.c_NoDeeds) := by
  refine T.F_refuse_no_deeds.okX sc_refuse_no_deeds (fun vs H Q E h => ?_) (fun cdv A outer s H vs Q E hr h => ?_)
  · obtain ⟨_, rfl, _⟩ := h
    rfl
  · obtain ⟨x, rfl, th, q, e⟩ := h
    refine ⟨_, pss_one (ps_if (PW.pt (pw_or (pt_not (pt_val (pe_callB call_isi (by rfl) T.z_isinstance (by decide +kernel) (pa_cons (pv 0) (pa_cons (pe_bltn (v := .ty "str") (by rfl) T.z_str (by decide +kernel) rfl) pa_nil)))))
      (pw_or1 (pt_not (pt_val (pe_callB (cr_all rfl) (by rfl) T.z_all (by decide +kernel) (pa_cons (pe_lc (own := [("sign", 1)]) (g := gName 1) (tt := tYes) (by rfl) sc_refuse_no_deeds.nd (pi_str (pv 0)) (blkOk_by (N := ["thing", "sign"]) (own := [("sign", 1)]) (sc := defScope t_refuse_no_deeds) (by decide +kernel))
          (fun _ _ _ _ _ => pg_name (i := 1) sc_refuse_no_deeds.nd rfl (Or.inl rfl)) (fun _ _ _ _ _ => pts_nil) (fun _ _ _ _ _ => pe_cmpR op_in_sign (pv 1) pe_str (by rfl))) pa_nil)))))))
      (pss_one (ps_raise rfl (takes_of rfl rfl rfl rfl) (pmk_own PySem.F.excBase_ValueError T.x_NoDeeds T.gc_NoDeeds T.kp_NoDeeds (raises_own T.bs_NoDeeds T.ty_NoDeeds) (by rfl)))) pss_nil), ?_⟩
    rcases th with ⟨z, rfl, hl⟩ | ⟨no, t, ty, k⟩
    · obtain ⟨t, ty, k⟩ := str_ty (K := K) (H := H) z
      refine ⟨.str z, rfl, .str z, _, t, _, true, rfl, .ty _, ty, k, true, rfl, ?_⟩
      refine iteF ⟨.str z, rfl, z, rfl, fun D nD => ?_⟩
      have sz : z.cps.toList.length = z.length := Array.length_toList
      have lim : (200000 : Nat) ≤ sizeLine := by decide
      refine lc_str (fun i Hx => Same H Hx ∧ Hx D = some (.lst (((z.cps.toList.take i).map fun c => decide (c ∈ [100, 117, 119])).map V.bl))) ⟨same_upd nD, upd_same⟩ (fun i c Hx hc e => ?_) (fun Hx e2 => ?_)
      · obtain ⟨s1, eD⟩ := e
        refine ⟨rfl, .str ⟨#[c]⟩, rfl, c, _, rfl, rfl, _, eD, ?_, fun b u e => ?_, ?_⟩
        · rw [List.length_map, List.length_map, List.length_take]
          omega
        · rw [upd_ne (ne_of_none e nD)]
          exact s1 _ _ e
        · rw [upd_same, List.take_add_one, hc, List.map_append, List.map_append]
          rfl
      · obtain ⟨s1, eD⟩ := e2
        rw [List.take_length] at eD
        refine ⟨D, _, rfl, SqL.of eD, _, rfl, ?_⟩
        have ea : ((z.cps.toList.map fun c => decide (c ∈ [100, 117, 119])).all id) = okS z := by
          rw [List.all_map]
          rfl
        rw [ea]
        cases ho : okS z with
        | true => exact iteF (q ho _ s1)
        | false => exact iteT (e ho _ s1)
    · refine ⟨x, rfl, x, _, t, _, false, rfl, .ty _, ty, k, false, rfl, ?_⟩
      exact iteT (iteT (e no _ (Same.refl _)))
def costB : V → Bool
  | .int n => decide (1 ≤ n) && decide (n ≤ 50)
  | _ => false
def sp_cost_good : Sp := fun vs H Q _ => ∃ n : Int, vs = [.int n] ∧ 1 ≤ n ∧ n ≤ 50 ∧ Q .non H
theorem ok_cost_good (T : Txt K mg) : FnOk P w K mg base CX0 2 T.a_refuse_no_cost T.d_refuse_no_cost p_refuse_no_cost sp_cost_good := by
  obtain ⟨tm, gm⟩ := T.gl_MOST_COST
  refine T.F_refuse_no_cost.ok sc_refuse_no_cost (fun vs H Q E h => ?_) (fun cdv A outer s H vs Q E hr h => ?_)
  · obtain ⟨_, rfl, _⟩ := h
    rfl
  · obtain ⟨n, rfl, h1, h2, q⟩ := h
    refine ⟨_, pss_one (ps_if (PW.pt (pw_or (pt_not (pt_val (pe_call (ok_is_whole T) hr (by rfl) T.g_is_whole T.F_is_whole.kp T.b_is_whole .nil pass0 (pa_cons (pv 0) pa_nil))))
      (pw_or1 (pt_not (pt_chain op_le op_le pe_int (pv 0) (pe_glob (v := .int 50) (by rfl) gm ⟨_, rfl⟩)))))) (pss_one ps_never) pss_nil), ?_⟩
    refine ⟨.int n, rfl, .int n, rfl, plain_int n, _, rfl, ?_⟩
    refine iteF ⟨_, rfl, _, _, rfl, rfl, _, rfl, ?_⟩
    rw [decide_eq_true h1]
    refine iteT ⟨_, _, rfl, rfl, _, rfl, ?_⟩
    rw [decide_eq_true h2]
    exact iteF q
def sp_cost_any (K : PySem.W.Frag) (C : Addr) : Sp := fun vs H Q E => ∃ x, vs = [x] ∧ Plain K H x ∧ (costB x = true → Q .non H) ∧ (costB x = false → E (.ref C) none H)
theorem ok_cost_any (T : Txt K mg) : FnOk P w K mg base (L2.CX P w) 2 T.a_refuse_no_cost T.d_refuse_no_cost p_refuse_no_cost (sp_cost_any K T.c_NoCost) := by
  obtain ⟨tm, gm⟩ := T.gl_MOST_COST
  refine T.F_refuse_no_cost.okX sc_refuse_no_cost (fun vs H Q E h => ?_) (fun cdv A outer s H vs Q E hr h => ?_)
  · obtain ⟨x, rfl, _⟩ := h
    rfl
  · obtain ⟨x, rfl, k, q, e⟩ := h
    refine ⟨_, pss_one (ps_if (PW.pt (pw_or (pt_not (pt_val (pe_call (ok_is_whole T) hr (by rfl) T.g_is_whole T.F_is_whole.kp T.b_is_whole .nil pass0 (pa_cons (pv 0) pa_nil))))
      (pw_or1 (pt_not (pt_chain op_le op_le pe_int (pv 0) (pe_glob (v := .int 50) (by rfl) gm ⟨_, rfl⟩))))))
      (pss_one (ps_raise rfl (takes_of rfl rfl rfl rfl) (pmk_own PySem.F.excBase_ValueError T.x_NoCost T.gc_NoCost T.kp_NoCost (raises_own T.bs_NoCost T.ty_NoCost) (by rfl)))) pss_nil), ?_⟩
    refine ⟨x, rfl, x, rfl, k, _, rfl, ?_⟩
    cases x with
    | int n =>
      refine iteF ⟨_, rfl, _, _, rfl, rfl, _, rfl, ?_⟩
      by_cases h1 : 1 ≤ n
      · rw [decide_eq_true h1]
        refine iteT ⟨_, _, rfl, rfl, _, rfl, ?_⟩
        by_cases h2 : n ≤ 50
        · rw [decide_eq_true h2]
          exact iteF (q (by simp [costB, h1, h2]))
        · rw [decide_eq_false h2]
          exact iteT (e (by simp [costB, h2]))
      · rw [decide_eq_false h1]
        exact iteF ⟨_, rfl, iteT (e (by simp [costB, h1]))⟩
    | _ => exact iteT (iteT (e rfl))
/-! ### the law's cell_at -/
def cell (ns : List Int) (k : Nat) : Int := ns.getD k 0
def sp_Lcell_at (K : PySem.W.Frag) : Sp := fun vs H Q _ => ∃ (a : Addr) (ns : List Int) (k : Nat), vs = [.ref a, .int (k : Int)] ∧ SqL K H a (ns.map V.int) ∧ Q (.int (cell ns k)) H
theorem ok_Lcell_at (T : Txt K mg) : FnOk P w K mg base CX0 1 T.a_Lcell_at T.d_Lcell_at p_Lcell_at (sp_Lcell_at K) := by
  refine T.F_Lcell_at.ok sc_Lcell_at (fun vs H Q E h => ?_) (fun cdv A outer s H vs Q E hr h => ?_)
  · obtain ⟨_, _, _, rfl, _⟩ := h
    rfl
  · obtain ⟨a, ns, k, rfl, hS, q⟩ := h
    refine ⟨_, pss_cons (ps_if (pt_cmpR op_lt (pv 1) (pe_callB call_len_seq (by rfl) T.z_len PySem.boot_len (pa_cons (pv 0) pa_nil)) (nomark _)) (pss_one (ps_ret (pe_ix ix_list (pv 0) (pv 1) (fun _ _ => rfl)))) pss_nil)
      (pss_one (ps_ret pe_int)), ?_⟩
    refine ⟨.int k, rfl, .ref a, rfl, a, ns.map V.int, rfl, .inl hS, _, _, rfl, rfl, _, rfl, ite2 (fun c => ?_) (fun c => ?_)⟩
    · have c' : (k : Int) < ((ns.map V.int).length : Int) := of_decide_eq_true c
      rw [List.length_map] at c'
      have hk : k < ns.length := by omega
      have g : (ns.map V.int)[k]? = some (.int ns[k]) := by
        rw [List.getElem?_map, List.getElem?_eq_getElem hk]
        rfl
      refine ⟨.ref a, rfl, .int k, rfl, a, _, (k : Int), .int ns[k], rfl, rfl, hS, atI_nat g, ?_⟩
      have e : cell ns k = ns[k] := by simp [cell, List.getD, hk]
      rw [e] at q
      exact q
    · have c' : ¬ (k : Int) < ((ns.map V.int).length : Int) := fun z => c (decide_eq_true z)
      rw [List.length_map] at c'
      have hk : ns.length ≤ k := by omega
      have e : cell ns k = 0 := by simp [cell, List.getD, hk]
      rw [e] at q
      exact q
/-! ### the law's mixed -/
def mixA (c : Int) : Int := (c % 1000000007 + 1) * 48271 % 2147483647
def mixd (c k : Int) : Int := mixA c * (16807 + 7919 * k * k + 31 * k) % 2147483629 / 7
theorem mixA_b (c : Int) : 0 ≤ mixA c ∧ mixA c < 2147483647 := ⟨Int.emod_nonneg _ (by decide), Int.emod_lt_of_pos _ (by decide)⟩
theorem mixd_b (c k : Int) : 0 ≤ mixd c k ∧ mixd c k < 2147483629 := by
  have h1 := Int.emod_nonneg (mixA c * (16807 + 7919 * k * k + 31 * k)) (show (2147483629 : Int) ≠ 0 by decide)
  have h2 := Int.emod_lt_of_pos (mixA c * (16807 + 7919 * k * k + 31 * k)) (show (0 : Int) < 2147483629 by decide)
  unfold mixd
  omega
def sp_Lmixed (K : PySem.W.Frag) : Sp := fun vs H Q _ => ∃ c k : Int, vs = [.int c, .int k] ∧ 0 ≤ k ∧ k ≤ 1000 ∧ Q (.int (mixd c k)) H
theorem ok_Lmixed (T : Txt K mg) : FnOk P w K mg base CX0 1 T.a_Lmixed T.d_Lmixed p_Lmixed (sp_Lmixed K) := by
  refine T.F_Lmixed.ok sc_Lmixed (fun vs H Q E h => ?_) (fun cdv A outer s H vs Q E hr h => ?_)
  · obtain ⟨_, _, rfl, _⟩ := h
    rfl
  · obtain ⟨c, k, rfl, h0, h1, q⟩ := h
    refine ⟨_, pss_cons (ps_set (i := 2) sc_Lmixed.nd rfl (.inl rfl) (pe_op op_mod (pe_op op_mul (pe_op op_add (pe_op op_mod (pv 0) pe_int) pe_int) pe_int) pe_int))
      (pss_one (ps_ret (pe_op op_fdiv (pe_op op_mod (pe_op op_mul (pv 2) (pe_op op_add (pe_op op_add pe_int (pe_op op_mul (pe_op op_mul pe_int (pv 1)) (pv 1))) (pe_op op_mul pe_int (pv 1)))) pe_int) pe_int))), ?_⟩
    have b1 := Int.emod_nonneg c (show (1000000007 : Int) ≠ 0 by decide)
    have b2 := Int.emod_lt_of_pos c (show (0 : Int) < 1000000007 by decide)
    refine ⟨.int c, rfl, _, _, rfl, rfl, (by show (0 : Int) < 1000000007; decide), _, _, rfl, rfl, _, _, rfl, rfl, .inr (by show -(2 ^ 64 : Int) < 48271 ∧ (48271 : Int) < 2 ^ 64; decide), _, _, rfl, rfl, (by show (0 : Int) < 2147483647; decide), ?_⟩
    have b3 := mixA_b c
    refine ⟨.int (mixA c), rfl, .int k, rfl, _, _, rfl, rfl, .inl (by show -(2 ^ 64 : Int) < 7919 ∧ (7919 : Int) < 2 ^ 64; decide), .int k, rfl, _, _, rfl, rfl, .inr (by show -(2 ^ 64 : Int) < k ∧ k < 2 ^ 64; omega), _, _, rfl, rfl, .int k, rfl, _, _, rfl, rfl, .inl (by show -(2 ^ 64 : Int) < 31 ∧ (31 : Int) < 2 ^ 64; decide),
      _, _, rfl, rfl, _, _, rfl, rfl, .inl (by show -(2 ^ 64 : Int) < mixA c ∧ mixA c < 2 ^ 64; omega), _, _, rfl, rfl, (by show (0 : Int) < 2147483629; decide), _, _, rfl, rfl, ⟨by decide, by decide⟩, ?_⟩
    exact q
/-! ### the law's whole -/
def sp_Lwhole (K : PySem.W.Frag) : Sp := fun vs H Q _ => ∃ x, vs = [x] ∧ Plain K H x ∧ Q (.bl (intV x)) H
theorem ok_Lwhole (T : Txt K mg) : FnOk P w K mg base CX0 1 T.a_Lwhole T.d_Lwhole p_Lwhole (sp_Lwhole K) := by
  refine T.F_Lwhole.ok sc_Lwhole (fun vs H Q E h => ?_) (fun cdv A outer s H vs Q E hr h => ?_)
  · obtain ⟨x, rfl, _⟩ := h
    rfl
  · obtain ⟨x, rfl, ⟨i, b, l, k, e⟩, q⟩ := h
    obtain ⟨t, ty, h1, h2, _⟩ := k.ex
    refine ⟨_, pss_one (ps_ret (pe_and (pe_callB call_isi (by rfl) T.z_isinstance (by decide +kernel) (pa_cons (pv 0) (pa_cons (pe_bltn (v := .ty "int") (by rfl) T.z_int (by decide +kernel) rfl) pa_nil)))
      (pe_one (pe_not (pe_callB call_isi (by rfl) T.z_isinstance (by decide +kernel) (pa_cons (pv 0) (pa_cons (pe_bltn (v := .ty "bool") (by rfl) T.z_bool (by decide +kernel) rfl) pa_nil))))))), ?_⟩
    refine ⟨x, rfl, x, _, t, _, i, rfl, .ty _, ty, h1, i, rfl, ?_⟩
    cases i with
    | true => exact iteT ⟨x, rfl, x, _, t, _, b, rfl, .ty _, ty, h2, b, rfl, by rw [← e] at q; exact q⟩
    | false => exact iteF (by rw [← e] at q; exact q)
/-! ### doubled_between -/
def sp_doubled (K : PySem.W.Frag) : Sp := fun vs H Q _ => ∃ a cs E0, vs = [.ref a] ∧ SqL K H a (cs.map V.int) ∧ cs ≠ [] ∧ cs.length ≤ 1000000 ∧ (∀ c ∈ cs, c.natAbs < 2 ^ E0) ∧ E0 ≤ 1000000 ∧ ∀ H', Same H H' → Q (.int (hf 1 0 cs)) H'
theorem ok_doubled (T : Txt K mg) : FnOk P w K mg base CX0 1 T.a_doubled_between T.d_doubled_between p_doubled_between (sp_doubled K) := by
  refine T.F_doubled_between.ok sc_doubled_between (fun vs H Q E h => ?_) (fun cdv A outer s H vs Q E hr h => ?_)
  · obtain ⟨_, _, _, rfl, _⟩ := h
    rfl
  · obtain ⟨a, cs, E0, rfl, hA, hne, hlen, hE, hE0, q⟩ := h
    refine ⟨_, pss_cons (ps_set (i := 1) sc_doubled_between.nd rfl (.inr rfl) pe_int)
      (pss_cons (ps_while PassesOwn.never (pt_cmpR op_gt (pe_callB call_len_seq (by rfl) T.z_len PySem.boot_len (pa_cons (pv 0) pa_nil)) pe_int (nomark _))
        (pss_cons (ps_if (pt_cmpR op_eq (pe_op op_mod (pe_callB call_len_seq (by rfl) T.z_len PySem.boot_len (pa_cons (pv 0) pa_nil)) pe_int) pe_int (nomark _)) (pss_one (ps_set (i := 0) sc_doubled_between.nd rfl (.inl rfl) (pe_op op_catS (pe_lst (pa_cons pe_int pa_nil)) (pv 0)))) pss_nil)
        (pss_cons (ps_setLc (i := 0) (own := [("one", 2), ("other", 3)]) (g := gTup K 2 (gCons (gName 2) (gCons (gName 3) gNil))) (tt := tYes) (by rfl) sc_doubled_between.nd rfl rfl (sw_true rfl rfl rfl (by decide +kernel)) (pi_zip (by rfl) T.z_zip (pa_cons (pe_ev (pv 0)) (pa_cons (pe_od (pv 0)) pa_nil)))
            (blkOk_by (N := ["balances", "doublings", "one", "other"]) (own := [("one", 2), ("other", 3)]) (sc := defScope t_doubled_between) (by decide +kernel))
            (fun _ _ _ _ _ => by exact pg_tup rfl (pgs_cons (pg_name (i := 2) sc_doubled_between.nd rfl (Or.inl rfl)) (pgs_cons (pg_name (i := 3) sc_doubled_between.nd rfl (Or.inl rfl)) pgs_nil)))
            (fun _ _ _ _ _ => pts_nil) (fun _ _ _ _ _ => pe_op op_add (pe_op op_shlW (pv 2) (pv 1)) (pv 3)))
        (pss_one (ps_set (i := 1) sc_doubled_between.nd rfl (.inr rfl) (pe_op op_mul (pv 1) pe_int))))))
      (pss_one (ps_ret (pe_ix ix_list (pv 0) pe_int (fun _ _ => rfl))))), ?_⟩
    have lim : (2000000 : Nat) ≤ sizeLine := by decide
    refine ⟨fun m σ H1 => ∃ (cs1 : List Int) (D E : Nat) (p : Addr), cs1.length = m ∧ cs1 ≠ [] ∧ hf D 0 cs1 = hf 1 0 cs ∧ 1 ≤ D ∧ D * (m - 1) ≤ cs.length ∧ m ≤ cs.length ∧ (∀ c ∈ cs1, c.natAbs < 2 ^ E) ∧ E ≤ E0 + 2 * (D - 1) ∧ SqL K H1 p (cs1.map V.int) ∧ Same H H1 ∧ σ = [some (.ref p), some (.int (D : Int)), none, none],
      ⟨cs.length, cs, 1, E0, a, rfl, hne, rfl, Nat.le_refl _, by omega, Nat.le_refl _, hE, by omega, hA, Same.refl _, rfl⟩, fun m σ H1 hW => ?_⟩
    obtain ⟨cs1, D, E, p, hm, hne1, hV, hD, hDm, hmL, hb, hEE, hS, sH, rfl⟩ := hW
    refine ⟨.ref p, rfl, p, cs1.map V.int, rfl, .inl hS, _, _, rfl, rfl, _, rfl, ?_⟩
    have lm : (cs1.map V.int).length = m := by rw [List.length_map, hm]
    by_cases h1 : ((cs1.map V.int).length : Int) > 1
    · rw [decide_eq_true h1]
      have m2 : 2 ≤ m := by omega
      have hDL : D ≤ cs.length := by
        have : D * 1 ≤ D * (m - 1) := Nat.mul_le_mul_left D (by omega)
        omega
      refine iteT ⟨fun σ' H' => ∃ (ds : List Int) (p' : Addr), ds.length % 2 = 0 ∧ (ds.length = m ∨ ds.length = m + 1) ∧ hf D 0 ds = hf 1 0 cs ∧ (∀ c ∈ ds, c.natAbs < 2 ^ E) ∧ SqL K H' p' ((joined D ds).map V.int) ∧ Same H H' ∧ σ' = [some (.ref p'), some (.int ((D * 2 : Nat) : Int)), none, none], fun σ' H' hN => ?_, ?_⟩
      · obtain ⟨ds, p', ev, hl, hV2, hb2, hS2, sH2, rfl⟩ := hN
        have jl := joined_len D ds ev
        refine ⟨(joined D ds).length, by omega, joined D ds, D * 2, E + D + 1, p', rfl, ?_, ?_, by omega, ?_, by omega, joined_lt ds ev hb2, by omega, hS2, sH2, rfl⟩
        · intro z
          rw [z] at jl
          simp at jl
          omega
        · rw [hf_joined D ds 0 ev]
          exact hV2
        · rw [jl, Nat.mul_assoc]
          refine Nat.le_trans (Nat.mul_le_mul_left D ?_) hDm
          omega
      · refine ⟨.ref p, rfl, p, cs1.map V.int, rfl, .inl hS, _, _, rfl, rfl, (by show (0 : Int) < 2; decide), rfl, _, rfl, ?_⟩
        show ite _ _ _
        have k0 : SqL K H1 p (cs1.map V.int) ∧ Same H H1 := ⟨hS, sH⟩
        clear hS sH
        revert k0
        revert H1
        revert p
        refine if_list (S := fun p' H' => ∃ ds : List Int, ds.length % 2 = 0 ∧ (ds.length = m ∨ ds.length = m + 1) ∧ hf D 0 ds = hf 1 0 cs ∧ (∀ c ∈ ds, c.natAbs < 2 ^ E) ∧ SqL K H' p' (ds.map V.int) ∧ Same H H') (fun p H1 k0 c1 => ?_) (fun p H1 k1 => ?_) (fun p H1 k0 c1 go => ?_)
        · have c2 : ¬ (V.int (((cs1.map V.int).length : Int) % 2) = V.int 1) := of_decide_eq_false c1
          have c3 : ¬ (((cs1.map V.int).length : Int) % 2 = 1) := fun z => c2 (by rw [z])
          exact ⟨cs1, by omega, .inl hm, hV, hb, k0.1, k0.2⟩
        · obtain ⟨ds, ev, hl, hV2, hb2, hS, sH⟩ := k1
          have ev2 : (ds.map V.int).length % 2 = 0 := by rw [List.length_map]; exact ev
          refine ⟨.ref p, rfl, p, ds.map V.int, rfl, hS, ev2, fun e1 n1 => ?_⟩
          have s1 : Same H1 (upd H1 e1 (.lst (strided 0 (ds.map V.int)))) := same_upd n1
          have k1 : SqL K (upd H1 e1 (.lst (strided 0 (ds.map V.int)))) e1 ((strided 0 ds).map V.int) := by
            rw [← strided_map]
            exact SqL.of upd_same
          generalize upd H1 e1 (.lst (strided 0 (ds.map V.int))) = H2 at s1 k1
          refine ⟨.ref p, rfl, p, ds.map V.int, rfl, s1.seq hS, ev2, fun e2 n2 => ?_⟩
          have s2 : Same H2 (upd H2 e2 (.lst (strided 1 (ds.map V.int)))) := same_upd n2
          have k2 : SqL K (upd H2 e2 (.lst (strided 1 (ds.map V.int)))) e2 ((strided 1 ds).map V.int) := by
            rw [← strided_map]
            exact SqL.of upd_same
          generalize upd H2 e2 (.lst (strided 1 (ds.map V.int))) = H3 at s2 k2
          have k1' := s2.seq k1
          have l0 := strided_len 0 ds (by decide) ev
          have l1 := strided_len 1 ds (by decide) ev
          refine ⟨e1, e2, _, _, rfl, k1', k2, fun L nL => ?_⟩
          refine lc_zip (K := K) (a := e1) (b := e2) (xs := (strided 0 ds).map V.int) (ys := (strided 1 ds).map V.int) (by rw [List.length_map, List.length_map, l0, l1]) (fun i Hx => Same H3 Hx ∧ Hx L = some (.lst (((joined D ds).take i).map V.int))) ⟨same_upd nL, upd_same⟩
            (fun i Hx e => ⟨e.1.seq k1', e.1.seq k2⟩) (fun i x y t Hx hx hy e nt => ?_) (fun Hx e => ?_)
          · obtain ⟨sx, eL⟩ := e
            rw [List.getElem?_map] at hx hy
            cases gx : (strided 0 ds)[i]? with
            | none => rw [gx] at hx; cases hx
            | some u =>
              cases gy : (strided 1 ds)[i]? with
              | none => rw [gy] at hy; cases hy
              | some v =>
                rw [gx] at hx
                rw [gy] at hy
                cases hx
                cases hy
                have gj : (joined D ds)[i]? = some (u * 2 ^ D + v) := by
                  unfold joined
                  rw [List.getElem?_zipWith, gx, gy]
                have hi := (List.getElem?_eq_some_iff.mp gx).1
                have hu : u.natAbs < 2 ^ E := by
                  have hm := List.mem_of_getElem? gx
                  unfold strided at hm
                  obtain ⟨j, _, hj⟩ := List.mem_filterMap.mp hm
                  exact hb2 u (List.mem_of_getElem? hj)
                have st : Same Hx (upd Hx t (.tup [.int u, .int v])) := same_upd nt
                have eT := st _ _ eL
                refine ⟨t, [.int u, .int v], rfl, SqT.of upd_same, rfl, _, _, rfl, _, _, rfl, rfl, rfl, ?_⟩
                refine ⟨.int u, rfl, .int (D : Int), rfl, _, _, rfl, rfl, shl_ok hu (by omega), .int v, rfl, _, _, rfl, rfl, _, eT, ?_, fun b o e => ?_, ?_⟩
                · rw [List.length_map, List.length_take]
                  omega
                · rw [upd_ne (ne_of_none e nL)]
                  exact st _ _ (sx _ _ e)
                · rw [upd_same, List.take_add_one, gj, List.map_append, Int.toNat_natCast]
                  rfl
          · obtain ⟨sx, eL⟩ := e
            have lj : (joined D ds).length ≤ ((strided 0 ds).map V.int).length := by
              rw [joined_len D ds ev, List.length_map, l0]
              exact Nat.le_refl _
            rw [List.take_of_length_le lj] at eL
            refine ⟨.int (D : Int), rfl, _, _, rfl, rfl, .inr (by show -(2 ^ 64 : Int) < 2 ∧ (2 : Int) < 2 ^ 64; decide), ?_⟩
            refine ⟨ds, L, ev, hl, hV2, hb2, SqL.of eL, sH.trans (s1.trans (s2.trans sx)), ?_⟩
            have eD : ((D * 2 : Nat) : Int) = (D : Int) * 2 := by omega
            rw [eD]
            rfl
        · obtain ⟨hS, sH⟩ := k0
          refine ⟨small_ok (by simp), fun l nl => ?_⟩
          have s1 : Same H1 (upd H1 l (.lst [.int 0])) := same_upd nl
          have k1 : SqL K (upd H1 l (.lst [.int 0])) l [.int 0] := SqL.of upd_same
          generalize upd H1 l (.lst [.int 0]) = H2 at s1 k1
          refine ⟨.ref p, rfl, l, p, _, _, rfl, rfl, k1, s1.seq hS, by rw [List.length_map]; show 1 + cs1.length ≤ sizeLine; omega, fun o no => ?_⟩
          have c2 : V.int (((cs1.map V.int).length : Int) % 2) = V.int 1 := of_decide_eq_true c1
          have c3 := V.int.inj c2
          refine go o _ ⟨0 :: cs1, by simp only [List.length_cons]; omega, .inr (by simp [hm]), ?_, fun c hc => ?_, SqL.of (by rw [upd_same]; rfl), sH.trans (s1.trans (same_upd no))⟩
          · rw [← hV]
            show hf D (0 * 2 ^ D + 0) cs1 = hf D 0 cs1
            rw [Int.zero_mul, Int.add_zero]
          · rcases List.mem_cons.mp hc with z | z
            · rw [z]
              exact Nat.pow_pos (by decide)
            · exact hb c z
    · rw [decide_eq_false h1]
      have hm1 : m = 1 := by
        have : m ≠ 0 := fun z => hne1 (List.length_eq_zero_iff.mp (by omega))
        omega
      match cs1, hm, hV, hS with
      | [c], _, hV, hS =>
        refine iteF ⟨.ref p, rfl, p, _, 0, .int c, rfl, rfl, hS, atI_nat (j := 0) rfl, ?_⟩
        have e : c = hf 1 0 cs := by
          rw [← hV]
          show c = 0 * 2 ^ D + c
          rw [Int.zero_mul, Int.zero_add]
        rw [e]
        exact q H1 sH
      | [], hm, _, _ => simp at hm; omega
      | _ :: _ :: _, hm, _, _ => simp at hm; omega
/-! ### led, of deeds -/
def sp_led (K : PySem.W.Frag) : Sp := fun vs H Q _ => ∃ z : Str, vs = [.str z] ∧ z.length ≤ 100000 ∧ okS z = true ∧ ∀ H', Same H H' → Q (.int (going z.cps.toList 0)) H'
theorem ok_led (T : Txt K mg) : FnOk P w K mg base CX0 2 T.a_led T.d_led p_led (sp_led K) := by
  refine T.F_led.ok sc_led (fun vs H Q E h => ?_) (fun cdv A outer s H vs Q E hr h => ?_)
  · obtain ⟨_, rfl, _⟩ := h
    rfl
  · obtain ⟨z, rfl, hl, ok, q⟩ := h
    refine ⟨_, pss_cons (ps_expr (pe_call (ok_deeds_good T) hr (by rfl) T.g_refuse_no_deeds T.F_refuse_no_deeds.kp T.b_refuse_no_deeds .nil pass0 (pa_cons (pv 0) pa_nil)))
      (pss_one (ps_ret (pe_call (ok_doubled T) hr (by rfl) T.g_doubled_between T.F_doubled_between.kp T.b_doubled_between .nil pass0 (pa_cons (pe_lc (own := [("part", 1)]) (g := gName 1) (tt := tYes) (by rfl) sc_led.nd (pi_list (pe_split (pv 0) pe_str)) (blkOk_by (N := ["deeds", "part"]) (own := [("part", 1)]) (sc := defScope t_led) (by decide +kernel))
          (fun _ _ _ _ _ => pg_name (i := 1) sc_led.nd rfl (Or.inl rfl)) (fun _ _ _ _ _ => pts_nil)
          (fun _ _ _ _ _ => pe_op op_sub (pe_m1 PySem.F.slot_str_count PySem.F.type_str_count mt_count (pv 1) pe_str) (pe_m1 PySem.F.slot_str_count PySem.F.type_str_count mt_count (pv 1) pe_str))) pa_nil)))), ?_⟩
    have lim : (200000 : Nat) ≤ sizeLine := by decide
    have ed : (Str.ofString "d") = ⟨#[100]⟩ := rfl
    have sz : z.cps.toList.length = z.length := Array.length_toList
    have parts := cut_text z 100 (by decide)
    refine ⟨.str z, rfl, z, rfl, hl, ok, fun H1 s1 => ?_⟩
    refine ⟨.str z, rfl, ⟨z, rfl⟩, z, _, rfl, rfl, rfl, by omega, fun p np => ?_⟩
    have s2 : Same H1 (upd H1 p (.lst ((Txt.split z ⟨#[100]⟩).map V.str))) := same_upd np
    have k2 : SqL K (upd H1 p (.lst ((Txt.split z ⟨#[100]⟩).map V.str))) p ((Txt.split z ⟨#[100]⟩).map V.str) := SqL.of upd_same
    show _
    refine ⟨p, rfl, ⟨_, k2⟩, fun D nD => ?_⟩
    have lp : (Txt.split z ⟨#[100]⟩).length ≤ z.length + 1 := by
      have h1 := congrArg List.length parts
      rw [List.length_map] at h1
      have h2 := cut_len 100 (TL.tl z) []
      rw [h1]
      show _ ≤ z.length + 1
      have h3 : (TL.tl z).length = z.length := sz
      omega
    refine lc_list (K := K) (a := p) (xs := (Txt.split z ⟨#[100]⟩).map V.str) (fun i Hx => Same (upd H1 p (.lst ((Txt.split z ⟨#[100]⟩).map V.str))) Hx ∧ Hx D = some (.lst ((((Txt.split z ⟨#[100]⟩).take i).map fun y => bal (TL.tl y)).map V.int))) ⟨same_upd nD, upd_same⟩
      (fun i Hx _ e => e.1.seq k2) (fun i y Hx hy e => ?_) (fun Hx e => ?_)
    · obtain ⟨sx, eD⟩ := e
      rw [List.getElem?_map] at hy
      cases gy : (Txt.split z ⟨#[100]⟩)[i]? with
      | none => rw [gy] at hy; cases hy
      | some y0 =>
        rw [gy] at hy
        cases hy
        refine ⟨rfl, .str y0, rfl, ⟨y0, rfl⟩, y0, _, rfl, rfl, .str y0, rfl, ⟨y0, rfl⟩, y0, _, rfl, rfl, _, _, rfl, rfl, _, eD, ?_, fun b o e => ?_, ?_⟩
        · rw [List.length_map, List.length_map, List.length_take]
          omega
        · rw [upd_ne (ne_of_none e nD)]
          exact sx _ _ e
        · have e1 : Txt.count y0 (Str.ofString "u") = ((y0.cps.toList.count 117 : Nat) : Int) := count_one y0 117
          have e2 : Txt.count y0 (Str.ofString "w") = ((y0.cps.toList.count 119 : Nat) : Int) := count_one y0 119
          rw [upd_same, List.take_add_one, gy, List.map_append, List.map_append]
          show some (HO.lst (_ ++ [V.int (Txt.count y0 (Str.ofString "u") - Txt.count y0 (Str.ofString "w"))])) = _
          rw [e1, e2]
          rfl
    · obtain ⟨sx, eD⟩ := e
      rw [List.length_map, List.take_length] at eD
      have ec : ((Txt.split z ⟨#[100]⟩).map fun y => bal (TL.tl y)) = (cutAt 100 [] (TL.tl z)).map bal := by
        rw [← parts, List.map_map]
        rfl
      rw [ec] at eD
      refine ⟨D, (cutAt 100 [] (TL.tl z)).map bal, 17, rfl, SqL.of eD, ?_, ?_, fun c hc => ?_, by decide, fun H' s' => ?_⟩
      · intro e
        exact cut_ne 100 (TL.tl z) [] (List.map_eq_nil_iff.mp e)
      · rw [List.length_map]
        have := cut_len 100 (TL.tl z) []
        have h3 : (TL.tl z).length = z.length := sz
        omega
      · obtain ⟨pt, hp, rfl⟩ := List.mem_map.mp hc
        have h1 := bal_lt pt
        have h2 := cut_part 100 (TL.tl z) [] pt hp
        have h3 : (TL.tl z).length = z.length := sz
        simp only [List.length_nil] at h2
        have e17 : (2 : Nat) ^ 17 = 131072 := by decide
        omega
      · rw [going_hf (TL.tl z) (okS_mem ok)]
        exact q H' (s1.trans (s2.trans (sx.trans s')))
/-! ### cost_of -/
theorem count_le_len (z : Str) (c : Nat) : z.cps.toList.count c ≤ z.length := by
  have := List.count_le_length (a := c) (l := z.cps.toList)
  rwa [Array.length_toList] at this
def sp_cost (K : PySem.W.Frag) : Sp := fun vs H Q _ => ∃ (z : Str) (d s : Int), vs = [.str z, .int d, .int s] ∧ z.length ≤ 100000 ∧ okS z = true ∧ 1 ≤ d ∧ d ≤ 50 ∧ 1 ≤ s ∧ s ≤ 50 ∧ ∀ H', Same H H' → Q (.int (costI z d s)) H'
theorem ok_cost (T : Txt K mg) : FnOk P w K mg base CX0 3 T.a_cost_of T.d_cost_of p_cost_of (sp_cost K) := by
  refine T.F_cost_of.ok sc_cost_of (fun vs H Q E h => ?_) (fun cdv A outer s H vs Q E hr h => ?_)
  · obtain ⟨_, _, _, rfl, _⟩ := h
    rfl
  · obtain ⟨z, d, s1, rfl, hl, ok, d1, d2, p1, p2, q⟩ := h
    refine ⟨_, pss_cons (ps_expr (pe_call (ok_deeds_good T) (hr.mono (by decide)) (by rfl) T.g_refuse_no_deeds T.F_refuse_no_deeds.kp T.b_refuse_no_deeds .nil pass0 (pa_cons (pv 0) pa_nil)))
      (pss_cons (ps_expr (pe_call (ok_cost_good T) hr (by rfl) T.g_refuse_no_cost T.F_refuse_no_cost.kp T.b_refuse_no_cost .nil pass0 (pa_cons (pv 1) pa_nil)))
      (pss_cons (ps_expr (pe_call (ok_cost_good T) hr (by rfl) T.g_refuse_no_cost T.F_refuse_no_cost.kp T.b_refuse_no_cost .nil pass0 (pa_cons (pv 2) pa_nil)))
      (pss_cons (ps_set (i := 3) sc_cost_of.nd rfl (.inl rfl) (pe_m1 PySem.F.slot_str_count PySem.F.type_str_count mt_count (pv 0) pe_str))
      (pss_one (ps_ret (pe_op op_add (pe_op op_mul (pv 3) (pv 1)) (pe_op op_mul (pe_op op_sub (pe_callB call_len_str (by rfl) T.z_len PySem.boot_len (pa_cons (pv 0) pa_nil)) (pv 3)) (pv 2)))))))), ?_⟩
    have lim : (200000 : Nat) ≤ sizeLine := by decide
    have e1 : Txt.count z (Str.ofString "d") = ((z.cps.toList.count 100 : Nat) : Int) := count_one z 100
    refine ⟨.str z, rfl, z, rfl, hl, ok, fun H1 h1 => ?_⟩
    refine ⟨.int d, rfl, d, rfl, d1, d2, ?_⟩
    refine ⟨.int s1, rfl, s1, rfl, p1, p2, ?_⟩
    refine ⟨.str z, rfl, ⟨z, rfl⟩, z, _, rfl, rfl, ?_⟩
    rw [e1]
    refine ⟨.int ((z.cps.toList.count 100 : Nat) : Int), rfl, .int d, rfl, _, _, rfl, rfl, .inr (by show -(2 ^ 64 : Int) < d ∧ d < 2 ^ 64; omega), .str z, rfl, z, rfl, by omega, .int ((z.cps.toList.count 100 : Nat) : Int), rfl, _, _, rfl, rfl, .int s1, rfl, _, _, rfl, rfl, .inr (by show -(2 ^ 64 : Int) < s1 ∧ s1 < 2 ^ 64; omega), _, _, rfl, rfl, ?_⟩
    exact q H1 h1
def sp_cost_x (K : PySem.W.Frag) (cD cC : Addr) : Sp := fun vs H Q E => ∃ x d s, vs = [x, d, s] ∧ Thing K H x ∧ Plain K H d ∧ Plain K H s ∧
  (okD x = false → ∀ H', Same H H' → E (.ref cD) none H') ∧ (okD x = true → (costB d && costB s) = false → ∀ H', Same H H' → E (.ref cC) none H') ∧
  (∀ z di si, x = .str z → okS z = true → d = .int di → s = .int si → (costB d && costB s) = true → ∀ H', Same H H' → Q (.int (costI z di si)) H')
theorem ok_cost_x (T : Txt K mg) : FnOk P w K mg base (L2.CX P w) 3 T.a_cost_of T.d_cost_of p_cost_of (sp_cost_x K T.c_NoDeeds T.c_NoCost) := by
  refine T.F_cost_of.okX sc_cost_of (fun vs H Q E h => ?_) (fun cdv A outer s H vs Q E hr h => ?_)
  · obtain ⟨_, _, _, rfl, _⟩ := h
    rfl
  · obtain ⟨x, d, s1, rfl, th, kd, ks, eD, eC, q⟩ := h
    refine ⟨_, pss_cons (ps_expr (pe_call (ok_deeds_any T) (hr.mono (by decide)) (by rfl) T.g_refuse_no_deeds T.F_refuse_no_deeds.kp T.b_refuse_no_deeds .nil (passes_call (takes_of rfl rfl rfl rfl) fun _ _ _ _ h => h) (pa_cons (pv 0) pa_nil)))
      (pss_cons (ps_expr (pe_call (ok_cost_any T) hr (by rfl) T.g_refuse_no_cost T.F_refuse_no_cost.kp T.b_refuse_no_cost .nil (passes_call (takes_of rfl rfl rfl rfl) fun _ _ _ _ h => h) (pa_cons (pv 1) pa_nil)))
      (pss_cons (ps_expr (pe_call (ok_cost_any T) hr (by rfl) T.g_refuse_no_cost T.F_refuse_no_cost.kp T.b_refuse_no_cost .nil (passes_call (takes_of rfl rfl rfl rfl) fun _ _ _ _ h => h) (pa_cons (pv 2) pa_nil)))
      (pss_cons (ps_set (i := 3) sc_cost_of.nd rfl (.inl rfl) (pe_m1 PySem.F.slot_str_count PySem.F.type_str_count mt_count (pv 0) pe_str))
      (pss_one (ps_ret (pe_op op_add (pe_op op_mul (pv 3) (pv 1)) (pe_op op_mul (pe_op op_sub (pe_callB call_len_str (by rfl) T.z_len PySem.boot_len (pa_cons (pv 0) pa_nil)) (pv 3)) (pv 2)))))))), ?_⟩
    refine ⟨x, rfl, x, rfl, th, fun ok H1 h1 => ?_, fun no H1 h1 => eD no H1 h1⟩
    refine ⟨d, rfl, d, rfl, kd.mono h1, fun bd => ?_, fun bd => eC ok (by rw [bd]; rfl) H1 h1⟩
    refine ⟨s1, rfl, s1, rfl, ks.mono h1, fun bs => ?_, fun bs => eC ok (by rw [bs]; simp) H1 h1⟩
    have lim : (200000 : Nat) ≤ sizeLine := by decide
    rcases th with ⟨z, rfl, hl⟩ | ⟨no, _⟩
    · cases d with
      | int di =>
        cases s1 with
        | int si =>
          have e1 : Txt.count z (Str.ofString "d") = ((z.cps.toList.count 100 : Nat) : Int) := count_one z 100
          have b1 : 1 ≤ di ∧ di ≤ 50 := by simpa [costB] using bd
          have b2 : 1 ≤ si ∧ si ≤ 50 := by simpa [costB] using bs
          refine ⟨.str z, rfl, ⟨z, rfl⟩, z, _, rfl, rfl, ?_⟩
          rw [e1]
          refine ⟨.int ((z.cps.toList.count 100 : Nat) : Int), rfl, .int di, rfl, _, _, rfl, rfl, .inr (by show -(2 ^ 64 : Int) < di ∧ di < 2 ^ 64; omega), .str z, rfl, z, rfl, by omega, .int ((z.cps.toList.count 100 : Nat) : Int), rfl, _, _, rfl, rfl, .int si, rfl, _, _, rfl, rfl, .inr (by show -(2 ^ 64 : Int) < si ∧ si < 2 ^ 64; omega), _, _, rfl, rfl, ?_⟩
          exact q z di si rfl ok rfl rfl (by rw [bd, bs]; rfl) H1 h1
        | _ => cases bs
      | _ => cases bd
    · rw [no] at ok
      cases ok
/-! ### led, where it refuses -/
def sp_led_no (K : PySem.W.Frag) (cD : Addr) : Sp := fun vs H _ E => ∃ x, vs = [x] ∧ Thing K H x ∧ okD x = false ∧ ∀ H', Same H H' → E (.ref cD) none H'
theorem ok_led_no (T : Txt K mg) : FnOk P w K mg base (L2.CX P w) 2 T.a_led T.d_led p_led (sp_led_no K T.c_NoDeeds) := by
  refine T.F_led.okX sc_led (fun vs H Q E h => ?_) (fun cdv A outer s H vs Q E hr h => ?_)
  · obtain ⟨_, rfl, _⟩ := h
    rfl
  · obtain ⟨x, rfl, th, no, e⟩ := h
    refine ⟨_, pss_cons (ps_expr (pe_call (ok_deeds_any T) hr (by rfl) T.g_refuse_no_deeds T.F_refuse_no_deeds.kp T.b_refuse_no_deeds .nil (passes_call (takes_of rfl rfl rfl rfl) fun _ _ _ _ h => h) (pa_cons (pv 0) pa_nil)))
      (pss_one ps_never), ?_⟩
    exact ⟨x, rfl, x, rfl, th, fun (ok : okD x = true) => absurd (no.symm.trans ok) (by simp), fun _ H1 h1 => e H1 h1⟩
/-! ### the law's told, and its led -/
theorem exm_of {C D : Addr} {b : Bool} (h1 : PySem.W.subIn K (.ref D) (.type "BaseException") = some true) (h2 : PySem.W.isClsIn K D = true) (h3 : PySem.W.typeIn K (.ref D) = some (.type "type")) (h4 : PySem.W.subIn K (.ref C) (.ref D) = some b) :
    PySem.W.exmOne K (.ref C) (.ref D) = some b := by
  have e1 : (PySem.W.subIn K (.ref D) (.type "BaseException") == some true) = true := by rw [h1] <;> rfl
  have h2' : (PySem.W.clsIn K D).isSome = true := h2
  unfold PySem.W.exmOne PySem.W.kitCls
  rw [if_pos e1]
  simp [h2', h3, h4]
def sp_Ltold (K : PySem.W.Frag) : Sp := fun vs H Q _ => ∃ x d s, vs = [x, d, s] ∧ Thing K H x ∧ Plain K H d ∧ Plain K H s ∧
  (okD x = false → ∀ H' p, Same H H' → H p = none → H' p = some (.tup [.str "no deeds"]) → Q (.ref p) H') ∧
  (okD x = true → (costB d && costB s) = false → ∀ H' p, Same H H' → H p = none → H' p = some (.tup [.str "no cost"]) → Q (.ref p) H') ∧
  (∀ z di si, x = .str z → okS z = true → d = .int di → s = .int si → (costB d && costB s) = true → ∀ H' p, Same H H' → H p = none → H' p = some (.tup [.str "cost", .int (costI z di si)]) → Q (.ref p) H')
theorem ok_Ltold (T : Txt K mg) : FnOk P w K mg base CX0 4 T.a_Ltold T.d_Ltold p_Ltold (sp_Ltold K) := by
  refine T.F_Ltold.ok sc_Ltold (fun vs H Q E h => ?_) (fun cdv A outer s H vs Q E hr h => ?_)
  · obtain ⟨x, d, s, rfl, _⟩ := h
    rfl
  · obtain ⟨x, d, s1, rfl, th, kd, ks, q1, q2, q3⟩ := h
    refine ⟨_, pss_cons (ps_set (i := 3) sc_Ltold.nd rfl (Or.inl rfl) (pe_tup (pa_cons pe_str pa_nil)))
      (pss_cons (ps_try_many (Wout := fun _ _ _ _ => False) rfl rfl takes0
        (fun W pn xe tk _ => pss_one (ps_set (i := 3) sc_Ltold.nd rfl (Or.inl rfl) (pe_tup (pa_cons pe_str (pa_cons (pe_callS (ok_cost_x T) hr rfl T.g_cost_of T.F_cost_of.kp T.b_cost_of (fun σ => passAt tk σ) (pa_cons (pv 0) (pa_cons (pv 1) (pa_cons (pv 2) pa_nil)))) pa_nil)))))
        (.cons ⟨rfl, by decide, .inl T.gc_NoNumber⟩ (fun _ _ _ _ _ _ _ => pss_one (ps_set (i := 3) sc_Ltold.nd rfl (Or.inl rfl) (pe_tup (pa_cons pe_str pa_nil))))
        (.cons ⟨rfl, by decide, .inl T.gc_NoRow⟩ (fun _ _ _ _ _ _ _ => pss_one (ps_set (i := 3) sc_Ltold.nd rfl (Or.inl rfl) (pe_tup (pa_cons pe_str pa_nil))))
        (.cons ⟨rfl, by decide, .inl T.gc_NoText⟩ (fun _ _ _ _ _ _ _ => pss_one (ps_set (i := 3) sc_Ltold.nd rfl (Or.inl rfl) (pe_tup (pa_cons pe_str pa_nil))))
        (.cons ⟨rfl, by decide, .inl T.gc_NoDeeds⟩ (fun _ _ _ _ _ _ _ => pss_one (ps_set (i := 3) sc_Ltold.nd rfl (Or.inl rfl) (pe_tup (pa_cons pe_str pa_nil))))
        (.cons ⟨rfl, by decide, .inl T.gc_NoCost⟩ (fun _ _ _ _ _ _ _ => pss_one (ps_set (i := 3) sc_Ltold.nd rfl (Or.inl rfl) (pe_tup (pa_cons pe_str pa_nil))))
        (.cons ⟨rfl, by decide, .inl T.gc_LeanError⟩ (fun _ _ _ _ _ _ _ => pss_one (ps_set (i := 3) sc_Ltold.nd rfl (Or.inl rfl) (pe_tup (pa_cons pe_str pa_nil)))) .nil)))))))
      (pss_one (ps_ret (pv 3)))), ?_⟩
    refine ⟨(by show 1 ≤ sizeLine; decide), fun p0 h0 => ?_⟩
    have s0 : Same H (upd H p0 (.tup [.str "other"])) := same_upd h0
    generalize upd H p0 (.tup [.str "other"]) = H1 at s0
    refine ⟨x, rfl, d, rfl, s1, rfl, x, d, s1, rfl, th.mono s0, kd.mono s0, ks.mono s0, fun no H2 s2 => ?_, fun ok nc H2 s2 => ?_, fun z di si e1 ok e2 e3 bb H2 s2 => ?_⟩
    · have t2 := s0.trans s2
      refine ⟨false, exm_of T.bs_NoNumber T.ic_NoNumber T.ty_NoNumber T.su_NoDeeds_NoNumber, (fun z => nomatch z), fun _ => ?_⟩
      refine ⟨false, exm_of T.bs_NoRow T.ic_NoRow T.ty_NoRow T.su_NoDeeds_NoRow, (fun z => nomatch z), fun _ => ?_⟩
      refine ⟨false, exm_of T.bs_NoText T.ic_NoText T.ty_NoText T.su_NoDeeds_NoText, (fun z => nomatch z), fun _ => ?_⟩
      refine ⟨true, exm_of T.bs_NoDeeds T.ic_NoDeeds T.ty_NoDeeds T.su_NoDeeds_NoDeeds, fun _ a ha => ?_, fun z => nomatch z⟩
      refine ⟨(by show 1 ≤ sizeLine; decide), fun p1 h1 => ?_⟩
      exact ⟨.ref p1, rfl, q1 no _ p1 (t2.trans (same_upd h1)) (none_same t2 h1) upd_same⟩
    · have t2 := s0.trans s2
      refine ⟨false, exm_of T.bs_NoNumber T.ic_NoNumber T.ty_NoNumber T.su_NoCost_NoNumber, (fun z => nomatch z), fun _ => ?_⟩
      refine ⟨false, exm_of T.bs_NoRow T.ic_NoRow T.ty_NoRow T.su_NoCost_NoRow, (fun z => nomatch z), fun _ => ?_⟩
      refine ⟨false, exm_of T.bs_NoText T.ic_NoText T.ty_NoText T.su_NoCost_NoText, (fun z => nomatch z), fun _ => ?_⟩
      refine ⟨false, exm_of T.bs_NoDeeds T.ic_NoDeeds T.ty_NoDeeds T.su_NoCost_NoDeeds, (fun z => nomatch z), fun _ => ?_⟩
      refine ⟨true, exm_of T.bs_NoCost T.ic_NoCost T.ty_NoCost T.su_NoCost_NoCost, fun _ a ha => ?_, fun z => nomatch z⟩
      refine ⟨(by show 1 ≤ sizeLine; decide), fun p1 h1 => ?_⟩
      exact ⟨.ref p1, rfl, q2 ok nc _ p1 (t2.trans (same_upd h1)) (none_same t2 h1) upd_same⟩
    · have t2 := s0.trans s2
      refine ⟨(by show 2 ≤ sizeLine; decide), fun p1 h1 => ?_⟩
      exact ⟨.ref p1, rfl, q3 z di si e1 ok e2 e3 bb _ p1 (t2.trans (same_upd h1)) (none_same t2 h1) upd_same⟩
def sp_Lled (K : PySem.W.Frag) : Sp := fun vs H Q _ => ∃ x, vs = [x] ∧ Thing K H x ∧ okD x = false ∧ ∀ H' p, Same H H' → H p = none → H' p = some (.tup [.str "no deeds"]) → Q (.ref p) H'
theorem ok_Lled (T : Txt K mg) : FnOk P w K mg base CX0 3 T.a_Lled T.d_Lled p_Lled (sp_Lled K) := by
  refine T.F_Lled.ok sc_Lled (fun vs H Q E h => ?_) (fun cdv A outer s H vs Q E hr h => ?_)
  · obtain ⟨x, rfl, _⟩ := h
    rfl
  · obtain ⟨x, rfl, th, no, q⟩ := h
    refine ⟨_, pss_cons (ps_set (i := 1) sc_Lled.nd rfl (Or.inl rfl) (pe_tup (pa_cons pe_str pa_nil)))
      (pss_cons (ps_try_many (Wout := fun _ _ _ _ => False) rfl rfl takes0
        (fun W pn xe tk _ => pss_one (ps_set (i := 1) sc_Lled.nd rfl (Or.inl rfl) (pe_tup (pa_cons pe_str (pa_cons (pe_callS (ok_led_no T) hr rfl T.g_led T.F_led.kp T.b_led (fun σ => passAt tk σ) (pa_cons (pv 0) pa_nil)) pa_nil)))))
        (.cons ⟨rfl, by decide, .inl T.gc_NoDeeds⟩ (fun _ _ _ _ _ _ _ => pss_one (ps_set (i := 1) sc_Lled.nd rfl (Or.inl rfl) (pe_tup (pa_cons pe_str pa_nil))))
        (.cons ⟨rfl, by decide, .inl T.gc_LeanError⟩ (fun _ _ _ _ _ _ _ => pss_one (ps_set (i := 1) sc_Lled.nd rfl (Or.inl rfl) (pe_tup (pa_cons pe_str pa_nil)))) .nil)))
      (pss_one (ps_ret (pv 1)))), ?_⟩
    refine ⟨(by show 1 ≤ sizeLine; decide), fun p0 h0 => ?_⟩
    have s0 : Same H (upd H p0 (.tup [.str "other"])) := same_upd h0
    generalize upd H p0 (.tup [.str "other"]) = H1 at s0
    refine ⟨x, rfl, x, rfl, th.mono s0, no, fun H2 s2 => ?_⟩
    have t2 := s0.trans s2
    refine ⟨true, exm_of T.bs_NoDeeds T.ic_NoDeeds T.ty_NoDeeds T.su_NoDeeds_NoDeeds, fun _ a ha => ?_, fun z => nomatch z⟩
    refine ⟨(by show 1 ≤ sizeLine; decide), fun p1 h1 => ?_⟩
    exact ⟨.ref p1, rfl, q _ p1 (t2.trans (same_upd h1)) (none_same t2 h1) upd_same⟩
/-! ### the law's deeds -/
def sp_Ldeeds (K : PySem.W.Frag) : Sp := fun vs H Q _ => ∃ (a : Addr) (ns : List Int), vs = [.ref a] ∧ SqL K H a (ns.map V.int) ∧ ns.length ≤ 63 ∧ ∀ H' z, Same H H' → z.length ≤ 63 → okS z = true → Q (.str z) H'
theorem ok_Ldeeds (T : Txt K mg) : FnOk P w K mg base CX0 2 T.a_Ldeeds T.d_Ldeeds p_Ldeeds (sp_Ldeeds K) := by
  refine T.F_Ldeeds.ok sc_Ldeeds (fun vs H Q E h => ?_) (fun cdv A outer s H vs Q E hr h => ?_)
  · obtain ⟨_, _, rfl, _⟩ := h
    rfl
  · obtain ⟨a, ns, rfl, hS, hl, q⟩ := h
    refine ⟨_, pss_cons (ps_set (i := 1) sc_Ldeeds.nd rfl (.inl rfl) (pe_ix ix_list (pe_lst (pa_cons pe_str (pa_cons pe_str (pa_cons pe_str pa_nil)))) (pe_op op_mod (pe_call (ok_Lcell_at T) hr (by rfl) T.g_Lcell_at T.F_Lcell_at.kp T.b_Lcell_at .nil pass0 (pa_cons (pv 0) (pa_cons pe_int pa_nil))) pe_int) (fun _ _ => rfl)))
      (pss_cons (ps_set (i := 2) sc_Ldeeds.nd rfl (.inl rfl) pe_str)
      (pss_cons (ps_for PassesOwn.never rfl (pi_enum (by rfl) T.z_enumerate (pa_cons (pv 0) pa_nil)) (pg_tup rfl (pgs_cons (pg_name (i := 3) sc_Ldeeds.nd rfl (.inl rfl)) (pgs_cons (pg_name (i := 4) sc_Ldeeds.nd rfl (.inl rfl)) pgs_nil)))
        (pss_one (ps_set (i := 2) sc_Ldeeds.nd rfl (.inl rfl) (pe_op op_add_str (pv 2) (pe_ix ix_str (pv 1) (pe_op op_mod (pe_call (ok_Lmixed T) hr (by rfl) T.g_Lmixed T.F_Lmixed.kp T.b_Lmixed .nil pass0 (pa_cons (pv 4) (pa_cons (pe_op op_mod (pv 3) pe_int) pa_nil)))
          (pe_callB call_len_str (by rfl) T.z_len PySem.boot_len (pa_cons (pv 1) pa_nil))) (fun _ _ => rfl))))))
      (pss_one (ps_ret (pv 2))))), ?_⟩
    have lim : (1000 : Nat) ≤ sizeLine := by decide
    refine ⟨small_ok (by simp), fun l nl => ?_⟩
    have s1 : Same H (upd H l (.lst [.str "duw", .str "ddduw", .str "uuwd"])) := same_upd nl
    have k1 : SqL K (upd H l (.lst [.str "duw", .str "ddduw", .str "uuwd"])) l [.str "duw", .str "ddduw", .str "uuwd"] := SqL.of upd_same
    generalize upd H l (.lst [.str "duw", .str "ddduw", .str "uuwd"]) = H1 at s1 k1
    have pick : ∃ ss : Str, okS ss = true ∧ 0 < ss.length ∧ ss.length ≤ 5 ∧ atI [V.str "duw", .str "ddduw", .str "uuwd"] (cell ns 0 % 3) = some (.str ss) := by
      have cc : cell ns 0 % 3 = ((0 : Nat) : Int) ∨ cell ns 0 % 3 = ((1 : Nat) : Int) ∨ cell ns 0 % 3 = ((2 : Nat) : Int) := by omega
      rcases cc with e | e | e <;> rw [e]
      · exact ⟨"duw", by decide +kernel, by decide +kernel, by decide +kernel, atI_nat rfl⟩
      · exact ⟨"ddduw", by decide +kernel, by decide +kernel, by decide +kernel, atI_nat rfl⟩
      · exact ⟨"uuwd", by decide +kernel, by decide +kernel, by decide +kernel, atI_nat rfl⟩
    obtain ⟨ss, oks, l0, l5, hat⟩ := pick
    refine ⟨.ref a, rfl, a, ns, 0, rfl, s1.seq hS, _, _, rfl, rfl, (by show (0 : Int) < 3; decide), l, _, _, .str ss, rfl, rfl, k1, hat, ?_⟩
    refine ⟨.ref a, rfl, a, ns.map V.int, rfl, s1.seq hS, ?_⟩
    refine for_enum (xs := ns.map V.int) (fun i σ Hx => Same H1 Hx ∧ ∃ z y3 y4, z.length = i ∧ okS z = true ∧ σ = [some (.ref a), some (.str ss), some (.str z), y3, y4]) ⟨Same.refl _, Str.empty, _, _, rfl, rfl, rfl⟩ (fun i σ Hx e => e.1.seq (s1.seq hS)) (fun i x t σ Hx hx e nt => ?_) (fun σ Hx e => ?_)
    · obtain ⟨sx, z, y3, y4, hz, okz, rfl⟩ := e
      have hi := (List.getElem?_eq_some_iff.mp hx).1
      rw [List.length_map] at hi
      obtain ⟨c, _, rfl⟩ := List.mem_map.mp (List.mem_of_getElem? hx)
      have s2 : Same Hx (upd Hx t (.tup [.int ((i : Nat) : Int), .int c])) := same_upd nt
      refine ⟨t, _, rfl, SqT.of upd_same, rfl, _, _, rfl, _, _, rfl, rfl, ?_⟩
      generalize upd Hx t (.tup [.int ((i : Nat) : Int), .int c]) = H2 at s2
      obtain ⟨m0, m1⟩ := mixd_b c ((i : Int) % 64)
      have hj : (mixd c ((i : Int) % 64) % (ss.length : Int)).toNat < ss.cps.toList.length := by
        have e1 := Int.emod_nonneg (mixd c ((i : Int) % 64)) (show (ss.length : Int) ≠ 0 by omega)
        have e2 := Int.emod_lt_of_pos (mixd c ((i : Int) % 64)) (show (0 : Int) < (ss.length : Int) by omega)
        have e3 : ss.cps.toList.length = ss.length := Array.length_toList
        omega
      have hat2 : atI ss.cps.toList (mixd c ((i : Int) % 64) % (ss.length : Int)) = some ss.cps.toList[(mixd c ((i : Int) % 64) % (ss.length : Int)).toNat] := by
        have e1 := Int.emod_nonneg (mixd c ((i : Int) % 64)) (show (ss.length : Int) ≠ 0 by omega)
        have e2 : (mixd c ((i : Int) % 64) % (ss.length : Int)) = (((mixd c ((i : Int) % 64) % (ss.length : Int)).toNat : Nat) : Int) := by omega
        exact (congrArg (atI ss.cps.toList) e2).trans (atI_nat (List.getElem?_eq_getElem hj))
      have mem := List.getElem_mem hj
      generalize ss.cps.toList[(mixd c ((i : Int) % 64) % (ss.length : Int)).toNat] = d at hat2 mem
      refine ⟨.str z, rfl, .str ss, rfl, .int c, rfl, .int i, rfl, _, _, rfl, rfl, (by show (0 : Int) < 64; decide), c, (i : Int) % 64, rfl, by omega, by omega, .str ss, rfl, ss, rfl, by omega, _, _, rfl, rfl, (by show (0 : Int) < (ss.length : Int); omega), ss, _, d, rfl, rfl, by omega, hat2, _, _, rfl, rfl, by show z.length + 1 ≤ sizeLine; omega, ?_⟩
      refine ⟨sx.trans s2, z ++ ⟨#[d]⟩, _, _, ?_, ?_, rfl⟩
      · show (z ++ (⟨#[d]⟩ : Str)).cps.size = i + 1
        rw [← Array.length_toList, app_list, List.length_append, Array.length_toList]
        show z.length + 1 = i + 1
        rw [hz]
      · unfold okS at okz oks ⊢
        rw [app_list, List.all_append, okz, Bool.true_and]
        have := List.all_eq_true.mp oks d mem
        show (decide (d ∈ [100, 117, 119]) && true) = true
        rw [Bool.and_true]
        exact this
    · obtain ⟨sx, z, y3, y4, hz, okz, rfl⟩ := e
      rw [List.length_map] at hz
      exact ⟨.str z, rfl, q Hx z (s1.trans sx) (by omega) okz⟩
/-! ### the law's costs_refused -/
theorem len_of {z : Str} : z.cps.toList.length = z.length := Array.length_toList
theorem lay_word {w : Str} (h : PyData.strOk w = true) : PyData.canLay0 (.str w) = true := by
  simp only [PyData.canLay0]
  exact h
theorem not_okS {z : Str} {c : Nat} (hm : c ∈ z.cps.toList) (hc : c ∉ [100, 117, 119]) : okS z = false := by
  cases h : okS z with
  | false => rfl
  | true =>
    have := of_decide_eq_true (List.all_eq_true.mp h c hm)
    exact absurd this hc
def sp_Lcosts_refused (K : PySem.W.Frag) : Sp := fun vs H Q _ => ∃ (z : Str) (c : Int), vs = [.str z, .int c] ∧ z.length ≤ 63 ∧ okS z = true ∧ ∀ H', Same H H' → Q (.bl true) H'
theorem ok_Lcosts_refused (T : Txt K mg) : FnOk P w K mg base CX0 5 T.a_Lcosts_refused T.d_Lcosts_refused p_Lcosts_refused (sp_Lcosts_refused K) := by
  refine T.F_Lcosts_refused.ok sc_Lcosts_refused (fun vs H Q E h => ?_) (fun cdv A outer s H vs Q E hr h => ?_)
  · obtain ⟨_, _, rfl, _⟩ := h
    rfl
  · obtain ⟨z, c, rfl, hl, okz, q⟩ := h
    refine ⟨_, pss_cons (ps_set (i := 2) sc_Lcosts_refused.nd rfl (.inl rfl) (pe_ix ix_list (pe_lst (pa_cons pe_int (pa_cons pe_int (pa_cons (pe_un un_neg pe_int) (pa_cons pe_bl (pa_cons pe_non (pa_cons pe_str (pa_cons (pe_lst (pa_cons pe_int pa_nil)) (pa_cons (pe_op op_pow pe_int pe_int) pa_nil))))))))) (pe_op op_mod (pv 1) pe_int) (fun _ _ => rfl)))
      (pss_cons (ps_asg (pe_ix ix_list (pe_lst (pa_cons (pe_tup (pa_cons (pv 2) (pa_cons pe_int pa_nil))) (pa_cons (pe_tup (pa_cons pe_int (pa_cons (pv 2) pa_nil))) (pa_cons (pe_tup (pa_cons (pv 2) (pa_cons (pv 2) pa_nil))) pa_nil)))) (pe_op op_mod (pe_op op_fdiv (pv 1) pe_int) pe_int) (fun _ _ => rfl))
          (pg_tup rfl (pgs_cons (pg_name (i := 3) sc_Lcosts_refused.nd rfl (.inl rfl)) (pgs_cons (pg_name (i := 4) sc_Lcosts_refused.nd rfl (.inl rfl)) pgs_nil))))
      (pss_cons (ps_set (i := 5) sc_Lcosts_refused.nd rfl (.inl rfl) (pe_ix ix_list (pe_lst (pa_cons pe_non (pa_cons pe_int (pa_cons pe_str (pa_cons (pe_op op_add_str (pv 0) pe_str) (pa_cons (pe_lst (pa_cons pe_str pa_nil)) (pa_cons (pe_op op_add_str (pv 0) pe_str) (pa_cons pe_str (pa_cons pe_dnewK pa_nil))))))))) (pe_op op_mod (pe_op op_fdiv (pv 1) pe_int) pe_int) (fun _ _ => rfl)))
      (pss_cons (ps_if (PW.pt (pw_or (pt_cmpR (op_neD hr.units) (pe_call (ok_Ltold T) hr (by rfl) T.g_Ltold T.F_Ltold.kp T.b_Ltold .nil pass0 (pa_cons (pv 0) (pa_cons (pv 3) (pa_cons (pv 4) pa_nil)))) (pe_tup (pa_cons pe_str pa_nil)) (nomark _))
          (pw_or1 (pt_cmpR (op_neD hr.units) (pe_call (ok_Ltold T) hr (by rfl) T.g_Ltold T.F_Ltold.kp T.b_Ltold .nil pass0 (pa_cons (pv 5) (pa_cons (pv 3) (pa_cons (pv 4) pa_nil)))) (pe_tup (pa_cons pe_str pa_nil)) (nomark _))))) (pss_one (ps_ret pe_bl)) pss_nil)
      (pss_one (ps_ret (pe_and (pe_cmpR (op_eqD hr.units) (pe_call (ok_Ltold T) hr (by rfl) T.g_Ltold T.F_Ltold.kp T.b_Ltold .nil pass0 (pa_cons (pv 5) (pa_cons pe_int (pa_cons pe_int pa_nil)))) (pe_tup (pa_cons pe_str pa_nil)) (nomark _))
          (pe_one (pe_cmpR (op_eqD hr.units) (pe_call (ok_Lled T) (hr.mono (by decide)) (by rfl) T.g_Lled T.F_Lled.kp T.b_Lled .nil pass0 (pa_cons (pv 5) pa_nil)) (pe_tup (pa_cons pe_str pa_nil)) (nomark _))))))))), ?_⟩
    have lim : (1000 : Nat) ≤ sizeLine := by decide
    have wD : PyData.canLay0 (.str "no deeds") = true := lay_word (by decide +kernel)
    have wC : PyData.canLay0 (.str "no cost") = true := lay_word (by decide +kernel)
    -- what is odd
    refine ⟨1, rfl, small_ok (by simp), fun l5 n5 => ?_⟩
    have s1 : Same H (upd H l5 (.lst [.int 5])) := same_upd n5
    have k1 : (upd H l5 (.lst [.int 5])) l5 = some (.lst [.int 5]) := upd_same
    generalize upd H l5 (.lst [.int 5]) = H1 at s1 k1
    refine ⟨_, _, rfl, rfl, ⟨by decide, by decide, by decide⟩, small_ok (by simp), fun lo nlo => ?_⟩
    have s2 : Same H1 (upd H1 lo (.lst [.int 0, .int 51, .int (-1), .bl true, .non, .str "5", .ref l5, .int (10 ^ (40 : Int).toNat)])) := same_upd nlo
    have k2 : SqL K (upd H1 lo (.lst [.int 0, .int 51, .int (-1), .bl true, .non, .str "5", .ref l5, .int (10 ^ (40 : Int).toNat)])) lo [.int 0, .int 51, .int (-1), .bl true, .non, .str "5", .ref l5, .int (10 ^ (40 : Int).toNat)] := SqL.of upd_same
    have k12 := s2 _ _ k1
    refine ⟨.int c, rfl, _, _, rfl, rfl, (by show (0 : Int) < 8; decide), ?_⟩
    have odd : ∃ x, atI [V.int 0, .int 51, .int (-1), .bl true, .non, .str "5", .ref l5, .int (10 ^ (40 : Int).toNat)] (c % 8) = some x ∧ Plain K (upd H1 lo (.lst [.int 0, .int 51, .int (-1), .bl true, .non, .str "5", .ref l5, .int (10 ^ (40 : Int).toNat)])) x ∧ costB x = false := by
      have cc : c % 8 = ((0 : Nat) : Int) ∨ c % 8 = ((1 : Nat) : Int) ∨ c % 8 = ((2 : Nat) : Int) ∨ c % 8 = ((3 : Nat) : Int) ∨ c % 8 = ((4 : Nat) : Int) ∨ c % 8 = ((5 : Nat) : Int) ∨ c % 8 = ((6 : Nat) : Int) ∨ c % 8 = ((7 : Nat) : Int) := by omega
      rcases cc with e | e | e | e | e | e | e | e <;> rw [e]
      · exact ⟨_, atI_nat rfl, plain_int _, by decide⟩
      · exact ⟨_, atI_nat rfl, plain_int _, by decide⟩
      · exact ⟨_, atI_nat rfl, plain_int _, by decide⟩
      · exact ⟨_, atI_nat rfl, plain_bl _, rfl⟩
      · exact ⟨_, atI_nat rfl, plain_non, rfl⟩
      · exact ⟨_, atI_nat rfl, plain_str _, rfl⟩
      · exact ⟨_, atI_nat rfl, plain_list k12, rfl⟩
      · exact ⟨_, atI_nat rfl, plain_int _, by decide⟩
    obtain ⟨x, hx, px, bx⟩ := odd
    refine ⟨lo, _, _, x, rfl, rfl, k2, hx, ?_⟩
    generalize upd H1 lo (.lst [.int 0, .int 51, .int (-1), .bl true, .non, .str "5", .ref l5, .int (10 ^ (40 : Int).toNat)]) = H2 at s2 px
    -- the two
    refine ⟨x, rfl, (by show 2 ≤ sizeLine; decide), fun t1 m1 => ?_⟩
    have s3 : Same H2 (upd H2 t1 (.tup [x, .int 5])) := same_upd m1
    have k3 : (upd H2 t1 (.tup [x, .int 5])) t1 = some (.tup [x, .int 5]) := upd_same
    generalize upd H2 t1 (.tup [x, .int 5]) = H3 at s3 k3
    refine ⟨x, rfl, (by show 2 ≤ sizeLine; decide), fun t2 m2 => ?_⟩
    have s4 : Same H3 (upd H3 t2 (.tup [.int 5, x])) := same_upd m2
    have k4 : (upd H3 t2 (.tup [.int 5, x])) t2 = some (.tup [.int 5, x]) := upd_same
    generalize upd H3 t2 (.tup [.int 5, x]) = H4 at s4 k4
    refine ⟨x, rfl, x, rfl, (by show 2 ≤ sizeLine; decide), fun t3 m3 => ?_⟩
    have s5 : Same H4 (upd H4 t3 (.tup [x, x])) := same_upd m3
    have k5 : (upd H4 t3 (.tup [x, x])) t3 = some (.tup [x, x]) := upd_same
    generalize upd H4 t3 (.tup [x, x]) = H5 at s5 k5
    refine ⟨small_ok (by simp), fun lt nlt => ?_⟩
    have s6 : Same H5 (upd H5 lt (.lst [.ref t1, .ref t2, .ref t3])) := same_upd nlt
    have k6 : SqL K (upd H5 lt (.lst [.ref t1, .ref t2, .ref t3])) lt [.ref t1, .ref t2, .ref t3] := SqL.of upd_same
    generalize upd H5 lt (.lst [.ref t1, .ref t2, .ref t3]) = H6 at s6 k6
    have t6 : Same H2 H6 := s3.trans (s4.trans (s5.trans s6))
    have px6 := px.mono t6
    have two : ∃ t u v, atI [V.ref t1, .ref t2, .ref t3] (c / 8 % 3) = some (.ref t) ∧ SqT K H6 t [u, v] ∧ Plain K H6 u ∧ Plain K H6 v ∧ (costB u && costB v) = false := by
      have cc : c / 8 % 3 = ((0 : Nat) : Int) ∨ c / 8 % 3 = ((1 : Nat) : Int) ∨ c / 8 % 3 = ((2 : Nat) : Int) := by omega
      rcases cc with e | e | e <;> rw [e]
      · exact ⟨t1, x, .int 5, atI_nat rfl, SqT.of (s6 _ _ (s5 _ _ (s4 _ _ k3))), px6, plain_int _, by rw [bx]; rfl⟩
      · exact ⟨t2, .int 5, x, atI_nat rfl, SqT.of (s6 _ _ (s5 _ _ k4)), plain_int _, px6, by rw [bx]; rfl⟩
      · exact ⟨t3, x, x, atI_nat rfl, SqT.of (s6 _ _ k5), px6, px6, by rw [bx]; rfl⟩
    obtain ⟨t, u, v, ht, kt, pu, pv', buv⟩ := two
    refine ⟨.int c, rfl, _, _, rfl, rfl, ⟨by decide, by decide⟩, _, _, rfl, rfl, (by show (0 : Int) < 3; decide), lt, _, _, .ref t, rfl, rfl, k6, ht, ?_⟩
    refine ⟨t, _, rfl, kt, rfl, _, _, rfl, _, _, rfl, rfl, ?_⟩
    -- what is bent
    refine ⟨.str z, rfl, _, _, rfl, rfl, by show z.length + 1 ≤ sizeLine; omega, small_ok (by simp), fun ld nld => ?_⟩
    have s7 : Same H6 (upd H6 ld (.lst [.str "d"])) := same_upd nld
    have k7 : (upd H6 ld (.lst [.str "d"])) ld = some (.lst [.str "d"]) := upd_same
    generalize upd H6 ld (.lst [.str "d"]) = H7 at s7 k7
    refine ⟨.str z, rfl, _, _, rfl, rfl, by show z.length + 1 ≤ sizeLine; omega, fun dd ndd => ?_⟩
    have s8 : Same H7 (upd H7 dd (.dK [])) := same_upd ndd
    have k8 : (upd H7 dd (.dK [])) dd = some (.dK []) := upd_same
    have k78 := s8 _ _ k7
    generalize upd H7 dd (.dK []) = H8 at s8 k8 k78
    refine ⟨small_ok (by simp), fun lb nlb => ?_⟩
    have s9 : Same H8 (upd H8 lb (.lst [.non, .int 5, .str "x", .str (z ++ "x"), .ref ld, .str (z ++ " "), .str "D", .ref dd])) := same_upd nlb
    have k9 : SqL K (upd H8 lb (.lst [.non, .int 5, .str "x", .str (z ++ "x"), .ref ld, .str (z ++ " "), .str "D", .ref dd])) lb [.non, .int 5, .str "x", .str (z ++ "x"), .ref ld, .str (z ++ " "), .str "D", .ref dd] := SqL.of upd_same
    generalize upd H8 lb (.lst [.non, .int 5, .str "x", .str (z ++ "x"), .ref ld, .str (z ++ " "), .str "D", .ref dd]) = H9 at s9 k9
    have lx : (z ++ ("x" : Str)).length = z.length + 1 := by rw [← len_of, app_list, List.length_append, len_of]; rfl
    have lsp : (z ++ (" " : Str)).length = z.length + 1 := by rw [← len_of, app_list, List.length_append, len_of]; rfl
    have bx1 : okS (z ++ ("x" : Str)) = false := not_okS (c := 120) (by rw [app_list]; exact List.mem_append_right _ (by decide)) (by decide)
    have bx2 : okS (z ++ (" " : Str)) = false := not_okS (c := 32) (by rw [app_list]; exact List.mem_append_right _ (by decide)) (by decide)
    have bent : ∃ y, atI [V.non, .int 5, .str "x", .str (z ++ "x"), .ref ld, .str (z ++ " "), .str "D", .ref dd] (c / 24 % 8) = some y ∧ Thing K H9 y ∧ okD y = false := by
      have cc : c / 24 % 8 = ((0 : Nat) : Int) ∨ c / 24 % 8 = ((1 : Nat) : Int) ∨ c / 24 % 8 = ((2 : Nat) : Int) ∨ c / 24 % 8 = ((3 : Nat) : Int) ∨ c / 24 % 8 = ((4 : Nat) : Int) ∨ c / 24 % 8 = ((5 : Nat) : Int) ∨ c / 24 % 8 = ((6 : Nat) : Int) ∨ c / 24 % 8 = ((7 : Nat) : Int) := by omega
      rcases cc with e | e | e | e | e | e | e | e <;> rw [e]
      · exact ⟨_, atI_nat rfl, .inr ⟨rfl, noStr_non⟩, rfl⟩
      · exact ⟨_, atI_nat rfl, .inr ⟨rfl, noStr_int _⟩, rfl⟩
      · exact ⟨_, atI_nat rfl, .inl ⟨_, rfl, by decide +kernel⟩, by decide +kernel⟩
      · exact ⟨_, atI_nat rfl, .inl ⟨_, rfl, by omega⟩, bx1⟩
      · exact ⟨_, atI_nat rfl, .inr ⟨rfl, noStr_list (s9 _ _ k78)⟩, rfl⟩
      · exact ⟨_, atI_nat rfl, .inl ⟨_, rfl, by omega⟩, bx2⟩
      · exact ⟨_, atI_nat rfl, .inl ⟨_, rfl, by decide +kernel⟩, by decide +kernel⟩
      · exact ⟨_, atI_nat rfl, .inr ⟨rfl, noStr_dict (s9 _ _ k8)⟩, rfl⟩
    obtain ⟨y, hy, ty, by0⟩ := bent
    refine ⟨.int c, rfl, _, _, rfl, rfl, ⟨by decide, by decide⟩, _, _, rfl, rfl, (by show (0 : Int) < 8; decide), lb, _, _, y, rfl, rfl, k9, hy, ?_⟩
    have t9 : Same H6 H9 := s7.trans (s8.trans s9)
    have u9 : Same H H9 := s1.trans (s2.trans (t6.trans t9))
    have pu9 := pu.mono t9
    have pv9 := pv'.mono t9
    have okDz : okD (.str z) = true := okz
    have nope : okD y = true → False := fun e => by rw [by0] at e; cases e
    refine ⟨.str z, rfl, u, rfl, v, rfl, .str z, u, v, rfl, .inl ⟨z, rfl, by omega⟩, pu9, pv9, fun (e : okD (.str z) = false) => absurd (e.symm.trans okDz) (by simp), fun _ _ H10 p1 s10 n1 e1 => ?_, fun _ _ _ _ _ _ _ bb => absurd (buv.symm.trans bb) (by simp)⟩
    refine ⟨(by show 1 ≤ sizeLine; decide), fun q1 nq1 => ?_⟩
    have s11 : Same H10 (upd H10 q1 (.tup [.str "no cost"])) := same_upd nq1
    refine ⟨dW "no cost", dW "no cost", dp_W (s11 _ _ e1), dp_W upd_same, dW_shaped wC, dW_shaped wC, _, rfl, ?_⟩
    rw [dW_eqv]
    refine iteF ?_
    generalize upd H10 q1 (.tup [.str "no cost"]) = H11 at s11
    have t11 := s10.trans s11
    refine ⟨y, rfl, u, rfl, v, rfl, y, u, v, rfl, ty.mono t11, pu9.mono t11, pv9.mono t11, fun _ H12 p2 s12 n2 e2 => ?_, fun ok => (nope ok).elim, fun _ _ _ ey ok => by rw [ey] at by0; exact absurd (by0.symm.trans ok) (by simp)⟩
    refine ⟨(by show 1 ≤ sizeLine; decide), fun q2 nq2 => ?_⟩
    have s13 : Same H12 (upd H12 q2 (.tup [.str "no deeds"])) := same_upd nq2
    refine ⟨dW "no deeds", dW "no deeds", dp_W (s13 _ _ e2), dp_W upd_same, dW_shaped wD, dW_shaped wD, _, rfl, ?_⟩
    rw [dW_eqv]
    refine iteF ?_
    generalize upd H12 q2 (.tup [.str "no deeds"]) = H13 at s13
    have t13 := t11.trans (s12.trans s13)
    refine ⟨y, rfl, y, .int 1, .int 50, rfl, ty.mono t13, plain_int _, plain_int _, fun _ H14 p3 s14 n3 e3 => ?_, fun ok => (nope ok).elim, fun _ _ _ ey ok => by rw [ey] at by0; exact absurd (by0.symm.trans ok) (by simp)⟩
    refine ⟨(by show 1 ≤ sizeLine; decide), fun q3 nq3 => ?_⟩
    have s15 : Same H14 (upd H14 q3 (.tup [.str "no deeds"])) := same_upd nq3
    refine ⟨dW "no deeds", dW "no deeds", dp_W (s15 _ _ e3), dp_W upd_same, dW_shaped wD, dW_shaped wD, _, rfl, ?_⟩
    rw [dW_eqv]
    refine iteT ?_
    generalize upd H14 q3 (.tup [.str "no deeds"]) = H15 at s15
    have t15 := t13.trans (s14.trans s15)
    refine ⟨y, rfl, y, rfl, ty.mono t15, by0, fun H16 p4 s16 n4 e4 => ?_⟩
    refine ⟨(by show 1 ≤ sizeLine; decide), fun q4 nq4 => ?_⟩
    have s17 : Same H16 (upd H16 q4 (.tup [.str "no deeds"])) := same_upd nq4
    refine ⟨dW "no deeds", dW "no deeds", dp_W (s17 _ _ e4), dp_W upd_same, dW_shaped wD, dW_shaped wD, ?_⟩
    rw [dW_eqv]
    exact q _ (u9.trans (t15.trans (s16.trans s17)))
/-! ### the law -/
theorem deeds_take {z : Str} (h : okS z = true) (w : Str) (k : Nat) (e : w.cps.toList = z.cps.toList.take k) : okS w = true := okS_list h e fun c hc => List.mem_of_mem_take hc
def sp_law (K : PySem.W.Frag) : Sp := fun vs H Q _ => ∃ (a : Addr) (ns : List Int), vs = [.ref a] ∧ SqL K H a (ns.map V.int) ∧ ns.length ≤ 63 ∧ ∀ H', Q (.bl true) H'
theorem ok_law_at (T : Txt K mg) {f : Addr} {fd : FuncData} (F : Fun K "law" "law" t_law f fd) (b : Binds K fd p_law []) : FnOk P w K mg base CX0 6 f fd p_law (sp_law K) := by
  refine F.ok sc_law (fun vs H Q E h => ?_) (fun cdv A outer s H vs Q E hr h => ?_)
  · obtain ⟨_, _, rfl, _⟩ := h
    rfl
  · obtain ⟨a, ns, rfl, hS, hlen, q⟩ := h
    refine ⟨_, pss_cons (ps_set (i := 1) sc_law.nd rfl (.inl rfl) (pe_call (ok_Ldeeds T) (hr.mono (by decide)) (by rfl) T.g_Ldeeds T.F_Ldeeds.kp T.b_Ldeeds .nil pass0 (pa_cons (pv 0) pa_nil)))
      (pss_cons (ps_set (i := 2) sc_law.nd rfl (.inl rfl) (pe_call (ok_Lmixed T) (hr.mono (by decide)) (by rfl) T.g_Lmixed T.F_Lmixed.kp T.b_Lmixed .nil pass0 (pa_cons (pe_call (ok_Lcell_at T) (hr.mono (by decide)) (by rfl) T.g_Lcell_at T.F_Lcell_at.kp T.b_Lcell_at .nil pass0 (pa_cons (pv 0) (pa_cons pe_int pa_nil))) (pa_cons pe_int pa_nil))))
      (pss_cons (ps_set (i := 3) sc_law.nd rfl (.inl rfl) (pe_op op_add pe_int (pe_op op_mod (pv 2) pe_int)))
      (pss_cons (ps_set (i := 4) sc_law.nd rfl (.inl rfl) (pe_op op_add pe_int (pe_op op_mod (pe_op op_fdiv (pv 2) pe_int) pe_int)))
      (pss_cons (ps_set (i := 5) sc_law.nd rfl (.inl rfl) pe_int)
      (pss_cons (ps_set (i := 6) sc_law.nd rfl (.inl rfl) pe_int)
      (pss_cons (ps_for PassesOwn.never rfl (pi_range1 (by rfl) T.z_range (pa_cons (pe_op op_add (pe_callB call_len_str (by rfl) T.z_len PySem.boot_len (pa_cons (pv 1) pa_nil)) pe_int) pa_nil)) (pg_name (i := 7) sc_law.nd rfl (.inl rfl))
        (pss_cons (ps_if (PW.pt (pw_or (pt_not (pt_val (pe_call (ok_Lwhole T) (hr.mono (by decide)) (by rfl) T.g_Lwhole T.F_Lwhole.kp T.b_Lwhole .nil pass0 (pa_cons (pe_call (ok_led T) (hr.mono (by decide)) (by rfl) T.g_led T.F_led.kp T.b_led .nil pass0 (pa_cons (pe_slice sl_str (pv 1) po_none (po_some (pv 7))) pa_nil)) pa_nil))))
            (pw_or1 (pt_cmpR op_ne (pe_call (ok_led T) (hr.mono (by decide)) (by rfl) T.g_led T.F_led.kp T.b_led .nil pass0 (pa_cons (pe_slice sl_str (pv 1) po_none (po_some (pv 7))) pa_nil)) (pv 5) (nomark _))))) (pss_one (ps_ret pe_bl)) pss_nil)
        (pss_cons (ps_if (pt_cmpR (op_neD hr.units) (pe_call (ok_Ltold T) (hr.mono (by decide)) (by rfl) T.g_Ltold T.F_Ltold.kp T.b_Ltold .nil pass0 (pa_cons (pe_slice sl_str (pv 1) po_none (po_some (pv 7))) (pa_cons (pv 3) (pa_cons (pv 4) pa_nil)))) (pe_tup (pa_cons pe_str (pa_cons (pv 6) pa_nil))) (nomark _)) (pss_one (ps_ret pe_bl)) pss_nil)
        (pss_cons (ps_set (i := 8) sc_law.nd rfl (.inl rfl) (pe_slice sl_str (pv 1) (po_some (pv 7)) (po_some (pe_op op_add (pv 7) pe_int))))
        (pss_one (ps_if (pt_cmpR op_eq (pv 8) pe_str (nomark _))
          (pss_cons (ps_set (i := 5) sc_law.nd rfl (.inl rfl) (pe_op op_mul (pv 5) pe_int)) (pss_one (ps_set (i := 6) sc_law.nd rfl (.inl rfl) (pe_op op_add (pv 6) (pv 3)))))
          (pss_one (ps_if (pt_cmpR op_ne (pv 8) pe_str (nomark _))
            (pss_cons (ps_set (i := 5) sc_law.nd rfl (.inl rfl) (pe_op op_add (pv 5) (pe_ix ix_list (pe_lst (pa_cons pe_int (pa_cons (pe_un un_neg pe_int) pa_nil))) (pe_callTy call_int1 (by rfl) T.z_int (by decide +kernel) (pa_cons (pe_cmpR op_eq (pv 8) pe_str (nomark _)) pa_nil)) (fun _ _ => rfl)))) (pss_one (ps_set (i := 6) sc_law.nd rfl (.inl rfl) (pe_op op_add (pv 6) (pv 4)))))
            pss_nil))))))))
      (pss_cons (ps_if (pt_not (pt_val (pe_call (ok_Lwhole T) (hr.mono (by decide)) (by rfl) T.g_Lwhole T.F_Lwhole.kp T.b_Lwhole .nil pass0 (pa_cons (pe_call (ok_cost T) (hr.mono (by decide)) (by rfl) T.g_cost_of T.F_cost_of.kp T.b_cost_of .nil pass0 (pa_cons (pv 1) (pa_cons (pv 3) (pa_cons (pv 4) pa_nil)))) pa_nil)))) (pss_one (ps_ret pe_bl)) pss_nil)
      (pss_cons (ps_set (i := 9) sc_law.nd rfl (.inl rfl) (pe_op op_mod (pe_op op_fdiv (pv 2) pe_int) (pe_op op_add (pe_callB call_len_str (by rfl) T.z_len PySem.boot_len (pa_cons (pv 1) pa_nil)) pe_int)))
      (pss_cons (ps_set (i := 10) sc_law.nd rfl (.inl rfl) (pe_op op_add_str (pe_op op_add_str (pe_slice sl_str (pv 1) po_none (po_some (pv 9))) (pe_ix ix_list (pe_lst (pa_cons pe_str (pa_cons pe_str (pa_cons pe_str (pa_cons pe_str (pa_cons pe_str (pa_cons pe_str pa_nil))))))) (pe_op op_mod (pe_op op_fdiv (pv 2) pe_int) pe_int) (fun _ _ => rfl))) (pe_slice sl_str (pv 1) (po_some (pv 9)) po_none)))
      (pss_one (ps_ret (pe_and (pe_cmpR (op_eqD hr.units) (pe_call (ok_Ltold T) (hr.mono (by decide)) (by rfl) T.g_Ltold T.F_Ltold.kp T.b_Ltold .nil pass0 (pa_cons (pv 10) (pa_cons (pv 3) (pa_cons (pv 4) pa_nil)))) (pe_tup (pa_cons pe_str pa_nil)) (nomark _))
        (pe_one (pe_call (ok_Lcosts_refused T) hr (by rfl) T.g_Lcosts_refused T.F_Lcosts_refused.kp T.b_Lcosts_refused .nil pass0 (pa_cons (pv 1) (pa_cons (pe_op op_fdiv (pv 2) pe_int) pa_nil)))))))))))))))), ?_⟩
    have lim : (1000 : Nat) ≤ sizeLine := by decide
    have wD : PyData.canLay0 (.str "no deeds") = true := lay_word (by decide +kernel)
    have wC : PyData.canLay0 (.str "cost") = true := lay_word (by decide +kernel)
    refine ⟨.ref a, rfl, a, ns, rfl, hS, hlen, fun H1 z s1 lz okz => ?_⟩
    have zl : z.cps.toList.length = z.length := len_of
    refine ⟨.ref a, rfl, a, ns, 1, rfl, s1.seq hS, cell ns 1, 70, rfl, by decide, by decide, ?_⟩
    obtain ⟨m0, m1⟩ := mixd_b (cell ns 1) 70
    generalize mixd (cell ns 1) 70 = M at m0 m1
    refine ⟨.int M, rfl, _, _, rfl, rfl, (by show (0 : Int) < 50; decide), _, _, rfl, rfl, ?_⟩
    refine ⟨.int M, rfl, _, _, rfl, rfl, ⟨by decide, by decide⟩, _, _, rfl, rfl, (by show (0 : Int) < 50; decide), _, _, rfl, rfl, ?_⟩
    have d1 : 1 ≤ 1 + M % 50 ∧ 1 + M % 50 ≤ 50 := by omega
    have p1 : 1 ≤ 1 + M / 50 % 50 ∧ 1 + M / 50 % 50 ≤ 50 := by omega
    have bd : (costB (.int (1 + M % 50)) && costB (.int (1 + M / 50 % 50))) = true := by simp [costB, d1.1, d1.2, p1.1, p1.2]
    obtain ⟨d, ed⟩ : ∃ d, d = 1 + M % 50 := ⟨_, rfl⟩
    obtain ⟨st, es⟩ : ∃ st, st = 1 + M / 50 % 50 := ⟨_, rfl⟩
    rw [← ed] at d1 bd
    rw [← es] at p1 bd
    have pd : ∀ H, Plain K H (.int d) := fun _ => plain_int _
    have ps : ∀ H, Plain K H (.int st) := fun _ => plain_int _
    have step : ∀ i, i < z.cps.toList.length → ∃ c, z.cps.toList[i]? = some c ∧ (c = 100 ∨ c = 117 ∨ c = 119) := fun i hi => ⟨_, List.getElem?_eq_getElem hi, okS_mem okz _ (List.getElem_mem hi)⟩
    refine ⟨.str z, rfl, z, rfl, by omega, _, _, rfl, rfl, (z.length : Int) + 1, rfl, by omega, by omega, ?_⟩
    have en : ((z.length : Int) + 1).toNat = z.length + 1 := by omega
    rw [en]
    refine for_range (lo := 0) (n := z.length + 1) (fun i σ Hx => Same H1 Hx ∧ ∃ y7 y8, σ = [some (.ref a), some (.str z), some (.int M), some (.int d), some (.int st), some (.int (going (z.cps.toList.take i) 0)), some (.int (costL (z.cps.toList.take i) d st)), y7, y8, none, none]) ⟨Same.refl _, none, none, by
      have z0 : costL (z.cps.toList.take 0) d st = 0 := costL_nil _ _
      rw [z0, ed, es]
      rfl⟩ (fun i σ H2 hi e => ?_) (fun σ H2 e => ?_)
    · obtain ⟨s2, y7, y8, rfl⟩ := e
      have i0 : (0 + (i : Int)) = (i : Int) := Int.zero_add _
      have eto : (cutS z none (some (0 + (i : Int)))).cps.toList = z.cps.toList.take i := by rw [i0]; exact cutS_to z i
      have lto : (cutS z none (some (0 + (i : Int)))).length ≤ 63 := by
        have := congrArg List.length eto
        rw [len_of, List.length_take] at this
        omega
      have oto : okS (cutS z none (some (0 + (i : Int)))) = true := deeds_take okz _ i eto
      refine ⟨.str z, rfl, .int (0 + i), rfl, _, rfl, z, rfl, by omega, cutS z none (some (0 + (i : Int))), rfl, by omega, oto, fun H3 s3 => ?_⟩
      refine ⟨_, rfl, plain_int _, _, rfl, ?_⟩
      refine iteF ?_
      refine ⟨.str z, rfl, .int (0 + i), rfl, _, rfl, z, rfl, by omega, cutS z none (some (0 + (i : Int))), rfl, by omega, oto, fun H4 s4 => ?_⟩
      refine ⟨.int (going (z.cps.toList.take i) 0), rfl, rfl, _, rfl, ?_⟩
      rw [eto, decide_eq_true rfl]
      refine iteF ?_
      refine ⟨.str z, rfl, .int (0 + i), rfl, _, rfl, z, rfl, by omega, .int d, rfl, .int st, rfl, .str (cutS z none (some (0 + (i : Int)))), .int d, .int st, rfl, .inl ⟨_, rfl, by omega⟩, pd _, ps _, fun (e : okD (.str (cutS z none (some (0 + (i : Int))))) = false) => absurd (e.symm.trans oto) (by simp),
        fun _ e => absurd (e.symm.trans bd) (by simp), fun z2 di si e1 _ e2 e3 _ H5 p s5 np ep => ?_⟩
      cases e1
      cases e2
      cases e3
      rw [costI_L, eto] at ep
      refine ⟨.int (costL (z.cps.toList.take i) d st), rfl, (by show 2 ≤ sizeLine; decide), fun t nt => ?_⟩
      have s6 : Same H5 (upd H5 t (.tup [.str "cost", .int (costL (z.cps.toList.take i) d st)])) := same_upd nt
      refine ⟨dWI "cost" _, dWI "cost" _, dp_WI (s6 _ _ ep), dp_WI upd_same, dWI_shaped wC, dWI_shaped wC, _, rfl, ?_⟩
      rw [dWI_eqv]
      refine iteF ?_
      generalize upd H5 t (.tup [.str "cost", .int (costL (z.cps.toList.take i) d st)]) = H6 at s6
      have t6 : Same H1 H6 := s2.trans (s3.trans (s4.trans (s5.trans s6)))
      refine ⟨.str z, rfl, .int (0 + i), rfl, _, rfl, .int (0 + i), rfl, _, _, rfl, rfl, _, rfl, z, rfl, by omega, ?_⟩
      have eone : (cutS z (some (0 + (i : Int))) (some (0 + (i : Int) + 1))).cps.toList = (z.cps.toList.drop i).take 1 := by
        rw [i0, show (i : Int) + 1 = ((i + 1 : Nat) : Int) by omega]
        exact cutS_one z i
      generalize cutS z (some (0 + (i : Int))) (some (0 + (i : Int) + 1)) = sg at eone
      refine ⟨.str sg, rfl, rfl, _, rfl, ?_⟩
      by_cases hi2 : i < z.cps.toList.length
      · obtain ⟨c, hc, cc⟩ := step i hi2
        have e1 : sg.cps.toList = [c] := by
          rw [eone, List.drop_eq_getElem_cons hi2]
          rw [List.getElem?_eq_getElem hi2] at hc
          rw [Option.some.inj hc]
          rfl
        have esg : sg = ⟨#[c]⟩ := TL.ext_tl e1
        subst esg
        have g1 : going (z.cps.toList.take (i + 1)) 0 = deed (going (z.cps.toList.take i) 0) c := by
          rw [List.take_add_one, hc]
          exact going_snoc _ _ _
        have g2 : costL (z.cps.toList.take (i + 1)) d st = costL (z.cps.toList.take i) d st + (if c = 100 then d else st) := by
          rw [List.take_add_one, hc]
          exact costL_snoc _ _ _ _
        by_cases c100 : c = 100
        · subst c100
          rw [decide_eq_true (show V.str ⟨#[100]⟩ = V.str (Str.ofString "d") from rfl)]
          refine iteT ⟨.int (going (z.cps.toList.take i) 0), rfl, _, _, rfl, rfl, .inr (by show -(2 ^ 64 : Int) < 2 ∧ (2 : Int) < 2 ^ 64; decide), .int (costL (z.cps.toList.take i) d st), rfl, .int d, rfl, _, _, rfl, rfl, ?_⟩
          refine ⟨t6, some (.int (0 + (i : Int))), some (.str ⟨#[100]⟩), ?_⟩
          rw [g1, g2, if_pos rfl]
          have : deed (going (z.cps.toList.take i) 0) 100 = going (z.cps.toList.take i) 0 * 2 := by
            show 2 * _ = _
            rw [Int.mul_comm]
          rw [this]
          rfl
        · have c2 : c = 117 ∨ c = 119 := by
            rcases cc with h | h
            · exact absurd h c100
            · exact h
          have nd : ¬ (V.str ⟨#[c]⟩ = V.str (Str.ofString "d")) := fun h => by
            have h2 := V.str.inj h
            have h3 := congrArg (fun x : Str => x.cps.toList) h2
            have h4 : [c] = [100] := h3
            exact c100 (by simpa using h4)
          rw [decide_eq_false nd]
          refine iteF ⟨.str ⟨#[c]⟩, rfl, rfl, _, rfl, ?_⟩
          have ne : ¬ (V.str ⟨#[c]⟩ = V.str (Str.ofString "")) := fun h => by
            have h2 := V.str.inj h
            have h3 := congrArg (fun x : Str => x.cps.toList) h2
            have h4 : [c] = [] := h3
            exact nomatch h4
          rw [decide_eq_false ne]
          refine iteT ⟨.int (going (z.cps.toList.take i) 0), rfl, 1, rfl, small_ok (by simp), fun l nl => ?_⟩
          have s7 : Same H6 (upd H6 l (.lst [.int 1, .int (-1)])) := same_upd nl
          have k7 : SqL K (upd H6 l (.lst [.int 1, .int (-1)])) l [.int 1, .int (-1)] := SqL.of upd_same
          generalize upd H6 l (.lst [.int 1, .int (-1)]) = H7 at s7 k7
          refine ⟨.str ⟨#[c]⟩, rfl, rfl, .inr ⟨_, rfl, ?_⟩⟩
          rcases c2 with h | h
          · subst h
            have nw : ¬ (V.str ⟨#[117]⟩ = V.str (Str.ofString "w")) := fun h => by
              have h2 := V.str.inj h
              have h3 := congrArg (fun x : Str => x.cps.toList) h2
              have h4 : [117] = [119] := h3
              exact absurd h4 (by decide)
            rw [decide_eq_false nw]
            refine ⟨l, _, _, .int 1, rfl, rfl, k7, atI_nat (j := 0) rfl, _, _, rfl, rfl, .int (costL (z.cps.toList.take i) d st), rfl, .int st, rfl, _, _, rfl, rfl, ?_⟩
            refine ⟨t6.trans s7, some (.int (0 + (i : Int))), some (.str ⟨#[117]⟩), ?_⟩
            rw [g1, g2, if_neg (by decide)]
            rfl
          · subst h
            rw [decide_eq_true (show V.str ⟨#[119]⟩ = V.str (Str.ofString "w") from rfl)]
            refine ⟨l, _, _, .int (-1), rfl, rfl, k7, atI_nat (j := 1) rfl, _, _, rfl, rfl, .int (costL (z.cps.toList.take i) d st), rfl, .int st, rfl, _, _, rfl, rfl, ?_⟩
            refine ⟨t6.trans s7, some (.int (0 + (i : Int))), some (.str ⟨#[119]⟩), ?_⟩
            rw [g1, g2, if_neg (by decide)]
            rfl
      · have e1 : sg.cps.toList = [] := by
          rw [eone, List.drop_eq_nil_of_le (by omega)]
          rfl
        have esg : sg = Str.ofString "" := TL.ext_tl e1
        subst esg
        have nd : ¬ (V.str (Str.ofString "") = V.str (Str.ofString "d")) := fun h => by
          have h2 := V.str.inj h
          have h3 := congrArg (fun x : Str => x.cps.toList) h2
          have h4 : ([] : List Nat) = [100] := h3
          exact nomatch h4
        rw [decide_eq_false nd]
        refine iteF ⟨.str (Str.ofString ""), rfl, rfl, _, rfl, ?_⟩
        rw [decide_eq_true rfl]
        refine iteF ⟨t6, some (.int (0 + (i : Int))), some (.str (Str.ofString "")), ?_⟩
        have et : z.cps.toList.take (i + 1) = z.cps.toList.take i := by
          rw [List.take_of_length_le (by omega), List.take_of_length_le (by omega)]
        rw [et]
        rfl
    obtain ⟨s2, y7, y8, rfl⟩ := e
    refine ⟨.str z, rfl, .int d, rfl, .int st, rfl, z, d, st, rfl, by omega, okz, d1.1, d1.2, p1.1, p1.2, fun H3 s3 => ?_⟩
    refine ⟨_, rfl, plain_int _, _, rfl, ?_⟩
    refine iteF ?_
    refine ⟨.int M, rfl, _, _, rfl, rfl, ⟨by decide, by decide⟩, .str z, rfl, z, rfl, by omega, _, _, rfl, rfl, _, _, rfl, rfl, (by show (0 : Int) < (z.length : Int) + 1; omega), ?_⟩
    have lto : (cutS z none (some (M / 2500 % ((z.length : Int) + 1)))).length ≤ 63 := Nat.le_trans (cutS_length z _ _) lz
    have lfr : (cutS z (some (M / 2500 % ((z.length : Int) + 1))) none).length ≤ 63 := Nat.le_trans (cutS_length z _ _) lz
    refine ⟨.str z, rfl, .int (M / 2500 % ((z.length : Int) + 1)), rfl, _, rfl, z, rfl, by omega, small_ok (by simp), fun l nl => ?_⟩
    have s4 : Same H3 (upd H3 l (.lst [.str "x", .str " ", .str "D", .str "\n", .str "0", .str "uv"])) := same_upd nl
    have k4 : SqL K (upd H3 l (.lst [.str "x", .str " ", .str "D", .str "\n", .str "0", .str "uv"])) l [.str "x", .str " ", .str "D", .str "\n", .str "0", .str "uv"] := SqL.of upd_same
    generalize upd H3 l (.lst [.str "x", .str " ", .str "D", .str "\n", .str "0", .str "uv"]) = H4 at s4 k4
    have bad : ∃ (x : Str) (c : Nat), atI [V.str "x", .str " ", .str "D", .str "\n", .str "0", .str "uv"] (M / 977 % 6) = some (.str x) ∧ x.length ≤ 2 ∧ c ∈ x.cps.toList ∧ c ∉ [100, 117, 119] := by
      have cc : M / 977 % 6 = ((0 : Nat) : Int) ∨ M / 977 % 6 = ((1 : Nat) : Int) ∨ M / 977 % 6 = ((2 : Nat) : Int) ∨ M / 977 % 6 = ((3 : Nat) : Int) ∨ M / 977 % 6 = ((4 : Nat) : Int) ∨ M / 977 % 6 = ((5 : Nat) : Int) := by omega
      rcases cc with e | e | e | e | e | e <;> rw [e]
      · exact ⟨"x", 120, atI_nat rfl, by decide +kernel, by decide, by decide⟩
      · exact ⟨" ", 32, atI_nat rfl, by decide +kernel, by decide, by decide⟩
      · exact ⟨"D", 68, atI_nat rfl, by decide +kernel, by decide, by decide⟩
      · exact ⟨"\n", 10, atI_nat rfl, by decide +kernel, by decide, by decide⟩
      · exact ⟨"0", 48, atI_nat rfl, by decide +kernel, by decide, by decide⟩
      · exact ⟨"uv", 118, atI_nat rfl, by decide +kernel, by decide, by decide⟩
    obtain ⟨x, c, hx, lx, mc, nc⟩ := bad
    have la1 : (cutS z none (some (M / 2500 % ((z.length : Int) + 1))) ++ x).length = (cutS z none (some (M / 2500 % ((z.length : Int) + 1)))).length + x.length := by rw [← len_of, app_list, List.length_append, len_of, len_of]
    have la2 : (cutS z none (some (M / 2500 % ((z.length : Int) + 1))) ++ x ++ cutS z (some (M / 2500 % ((z.length : Int) + 1))) none).length = (cutS z none (some (M / 2500 % ((z.length : Int) + 1)))).length + x.length + (cutS z (some (M / 2500 % ((z.length : Int) + 1))) none).length := by rw [← len_of, app_list, List.length_append, len_of, len_of, la1]
    have nok : okS (cutS z none (some (M / 2500 % ((z.length : Int) + 1))) ++ x ++ cutS z (some (M / 2500 % ((z.length : Int) + 1))) none) = false := not_okS (c := c) (by rw [app_list, app_list]; exact List.mem_append_left _ (List.mem_append_right _ mc)) nc
    refine ⟨.int M, rfl, _, _, rfl, rfl, ⟨by decide, by decide⟩, _, _, rfl, rfl, (by show (0 : Int) < 6; decide), l, _, _, .str x, rfl, rfl, k4, hx, _, _, rfl, rfl, by omega, .str z, rfl, .int (M / 2500 % ((z.length : Int) + 1)), rfl, _, rfl, z, rfl, by omega, _, _, rfl, rfl, by omega, ?_⟩
    refine ⟨_, rfl, .int d, rfl, .int st, rfl, _, _, _, rfl, .inl ⟨_, rfl, by omega⟩, pd _, ps _, fun _ H5 p s5 np ep => ?_, fun (e : okD (.str _) = true) => absurd (nok.symm.trans e) (by simp), fun _ _ _ e1 e => ?_⟩
    · refine ⟨(by show 1 ≤ sizeLine; decide), fun t nt => ?_⟩
      have s6 : Same H5 (upd H5 t (.tup [.str "no deeds"])) := same_upd nt
      refine ⟨dW "no deeds", dW "no deeds", dp_W (s6 _ _ ep), dp_W upd_same, dW_shaped wD, dW_shaped wD, _, rfl, ?_⟩
      rw [dW_eqv]
      refine iteT ?_
      refine ⟨.str z, rfl, .int M, rfl, _, _, rfl, rfl, ⟨by decide, by decide⟩, z, M / 13, rfl, lz, okz, fun H7 s7 => ?_⟩
      exact q H7
    · cases e1
      exact absurd (nok.symm.trans e) (by simp)
end
/-! ### what the top has written; the law's own head -/
theorem all_mk {l : PySem.W.OpenLaw} {w : World} {K : PySem.W.Frag} {h : Heap} {mg : Str → Option Value} {fa : Addr} (X : K.In h) (G : h.Ns mainGlobals mg) (hfa : mg "law" = some (.ref fa))
    {f_is_whole : Addr} {od_is_whole an_is_whole : Option Addr} {sl_is_whole : Array (Option Value)} {oc_is_whole kV_is_whole dc_is_whole pm_is_whole cd_is_whole ct_is_whole : Value}
    (a_is_whole : PySem.W.nsIn K mainGlobals "is_whole" = some (some (.ref f_is_whole)))
    (l_is_whole : K.lookup f_is_whole = some ⟨oc_is_whole, od_is_whole, .func (PySem.W.fnOf "is_whole" "is_whole" (defArgs t_is_whole) (defBody t_is_whole) (defScope t_is_whole) .none kV_is_whole dc_is_whole pm_is_whole an_is_whole cd_is_whole ct_is_whole), sl_is_whole⟩)
    (c_is_whole : PySem.W.codeIn K cd_is_whole "is_whole" = true) (k_is_whole : PySem.W.keepIn K (.ref f_is_whole) = true)
    {f_led : Addr} {od_led an_led : Option Addr} {sl_led : Array (Option Value)} {oc_led kV_led dc_led pm_led cd_led ct_led : Value}
    (a_led : PySem.W.nsIn K mainGlobals "led" = some (some (.ref f_led)))
    (l_led : K.lookup f_led = some ⟨oc_led, od_led, .func (PySem.W.fnOf "led" "led" (defArgs t_led) (defBody t_led) (defScope t_led) .none kV_led dc_led pm_led an_led cd_led ct_led), sl_led⟩)
    (c_led : PySem.W.codeIn K cd_led "led" = true) (k_led : PySem.W.keepIn K (.ref f_led) = true)
    {f_doubled_between : Addr} {od_doubled_between an_doubled_between : Option Addr} {sl_doubled_between : Array (Option Value)} {oc_doubled_between kV_doubled_between dc_doubled_between pm_doubled_between cd_doubled_between ct_doubled_between : Value}
    (a_doubled_between : PySem.W.nsIn K mainGlobals "doubled_between" = some (some (.ref f_doubled_between)))
    (l_doubled_between : K.lookup f_doubled_between = some ⟨oc_doubled_between, od_doubled_between, .func (PySem.W.fnOf "doubled_between" "doubled_between" (defArgs t_doubled_between) (defBody t_doubled_between) (defScope t_doubled_between) .none kV_doubled_between dc_doubled_between pm_doubled_between an_doubled_between cd_doubled_between ct_doubled_between), sl_doubled_between⟩)
    (c_doubled_between : PySem.W.codeIn K cd_doubled_between "doubled_between" = true) (k_doubled_between : PySem.W.keepIn K (.ref f_doubled_between) = true)
    {f_cost_of : Addr} {od_cost_of an_cost_of : Option Addr} {sl_cost_of : Array (Option Value)} {oc_cost_of kV_cost_of dc_cost_of pm_cost_of cd_cost_of ct_cost_of : Value}
    (a_cost_of : PySem.W.nsIn K mainGlobals "cost_of" = some (some (.ref f_cost_of)))
    (l_cost_of : K.lookup f_cost_of = some ⟨oc_cost_of, od_cost_of, .func (PySem.W.fnOf "cost_of" "cost_of" (defArgs t_cost_of) (defBody t_cost_of) (defScope t_cost_of) .none kV_cost_of dc_cost_of pm_cost_of an_cost_of cd_cost_of ct_cost_of), sl_cost_of⟩)
    (c_cost_of : PySem.W.codeIn K cd_cost_of "cost_of" = true) (k_cost_of : PySem.W.keepIn K (.ref f_cost_of) = true)
    {f_refuse_no_deeds : Addr} {od_refuse_no_deeds an_refuse_no_deeds : Option Addr} {sl_refuse_no_deeds : Array (Option Value)} {oc_refuse_no_deeds kV_refuse_no_deeds dc_refuse_no_deeds pm_refuse_no_deeds cd_refuse_no_deeds ct_refuse_no_deeds : Value}
    (a_refuse_no_deeds : PySem.W.nsIn K mainGlobals "refuse_no_deeds" = some (some (.ref f_refuse_no_deeds)))
    (l_refuse_no_deeds : K.lookup f_refuse_no_deeds = some ⟨oc_refuse_no_deeds, od_refuse_no_deeds, .func (PySem.W.fnOf "refuse_no_deeds" "refuse_no_deeds" (defArgs t_refuse_no_deeds) (defBody t_refuse_no_deeds) (defScope t_refuse_no_deeds) .none kV_refuse_no_deeds dc_refuse_no_deeds pm_refuse_no_deeds an_refuse_no_deeds cd_refuse_no_deeds ct_refuse_no_deeds), sl_refuse_no_deeds⟩)
    (c_refuse_no_deeds : PySem.W.codeIn K cd_refuse_no_deeds "refuse_no_deeds" = true) (k_refuse_no_deeds : PySem.W.keepIn K (.ref f_refuse_no_deeds) = true)
    {f_refuse_no_cost : Addr} {od_refuse_no_cost an_refuse_no_cost : Option Addr} {sl_refuse_no_cost : Array (Option Value)} {oc_refuse_no_cost kV_refuse_no_cost dc_refuse_no_cost pm_refuse_no_cost cd_refuse_no_cost ct_refuse_no_cost : Value}
    (a_refuse_no_cost : PySem.W.nsIn K mainGlobals "refuse_no_cost" = some (some (.ref f_refuse_no_cost)))
    (l_refuse_no_cost : K.lookup f_refuse_no_cost = some ⟨oc_refuse_no_cost, od_refuse_no_cost, .func (PySem.W.fnOf "refuse_no_cost" "refuse_no_cost" (defArgs t_refuse_no_cost) (defBody t_refuse_no_cost) (defScope t_refuse_no_cost) .none kV_refuse_no_cost dc_refuse_no_cost pm_refuse_no_cost an_refuse_no_cost cd_refuse_no_cost ct_refuse_no_cost), sl_refuse_no_cost⟩)
    (c_refuse_no_cost : PySem.W.codeIn K cd_refuse_no_cost "refuse_no_cost" = true) (k_refuse_no_cost : PySem.W.keepIn K (.ref f_refuse_no_cost) = true)
    {f_Lcell_at : Addr} {od_Lcell_at an_Lcell_at : Option Addr} {sl_Lcell_at : Array (Option Value)} {oc_Lcell_at kV_Lcell_at dc_Lcell_at pm_Lcell_at cd_Lcell_at ct_Lcell_at : Value}
    (a_Lcell_at : PySem.W.nsIn K mainGlobals "_law_cell_at" = some (some (.ref f_Lcell_at)))
    (l_Lcell_at : K.lookup f_Lcell_at = some ⟨oc_Lcell_at, od_Lcell_at, .func (PySem.W.fnOf "_law_cell_at" "_law_cell_at" (defArgs t_Lcell_at) (defBody t_Lcell_at) (defScope t_Lcell_at) .none kV_Lcell_at dc_Lcell_at pm_Lcell_at an_Lcell_at cd_Lcell_at ct_Lcell_at), sl_Lcell_at⟩)
    (c_Lcell_at : PySem.W.codeIn K cd_Lcell_at "_law_cell_at" = true) (k_Lcell_at : PySem.W.keepIn K (.ref f_Lcell_at) = true)
    {f_Lmixed : Addr} {od_Lmixed an_Lmixed : Option Addr} {sl_Lmixed : Array (Option Value)} {oc_Lmixed kV_Lmixed dc_Lmixed pm_Lmixed cd_Lmixed ct_Lmixed : Value}
    (a_Lmixed : PySem.W.nsIn K mainGlobals "_law_mixed" = some (some (.ref f_Lmixed)))
    (l_Lmixed : K.lookup f_Lmixed = some ⟨oc_Lmixed, od_Lmixed, .func (PySem.W.fnOf "_law_mixed" "_law_mixed" (defArgs t_Lmixed) (defBody t_Lmixed) (defScope t_Lmixed) .none kV_Lmixed dc_Lmixed pm_Lmixed an_Lmixed cd_Lmixed ct_Lmixed), sl_Lmixed⟩)
    (c_Lmixed : PySem.W.codeIn K cd_Lmixed "_law_mixed" = true) (k_Lmixed : PySem.W.keepIn K (.ref f_Lmixed) = true)
    {f_Lwhole : Addr} {od_Lwhole an_Lwhole : Option Addr} {sl_Lwhole : Array (Option Value)} {oc_Lwhole kV_Lwhole dc_Lwhole pm_Lwhole cd_Lwhole ct_Lwhole : Value}
    (a_Lwhole : PySem.W.nsIn K mainGlobals "_law_whole" = some (some (.ref f_Lwhole)))
    (l_Lwhole : K.lookup f_Lwhole = some ⟨oc_Lwhole, od_Lwhole, .func (PySem.W.fnOf "_law_whole" "_law_whole" (defArgs t_Lwhole) (defBody t_Lwhole) (defScope t_Lwhole) .none kV_Lwhole dc_Lwhole pm_Lwhole an_Lwhole cd_Lwhole ct_Lwhole), sl_Lwhole⟩)
    (c_Lwhole : PySem.W.codeIn K cd_Lwhole "_law_whole" = true) (k_Lwhole : PySem.W.keepIn K (.ref f_Lwhole) = true)
    {f_Ldeeds : Addr} {od_Ldeeds an_Ldeeds : Option Addr} {sl_Ldeeds : Array (Option Value)} {oc_Ldeeds kV_Ldeeds dc_Ldeeds pm_Ldeeds cd_Ldeeds ct_Ldeeds : Value}
    (a_Ldeeds : PySem.W.nsIn K mainGlobals "_law_deeds" = some (some (.ref f_Ldeeds)))
    (l_Ldeeds : K.lookup f_Ldeeds = some ⟨oc_Ldeeds, od_Ldeeds, .func (PySem.W.fnOf "_law_deeds" "_law_deeds" (defArgs t_Ldeeds) (defBody t_Ldeeds) (defScope t_Ldeeds) .none kV_Ldeeds dc_Ldeeds pm_Ldeeds an_Ldeeds cd_Ldeeds ct_Ldeeds), sl_Ldeeds⟩)
    (c_Ldeeds : PySem.W.codeIn K cd_Ldeeds "_law_deeds" = true) (k_Ldeeds : PySem.W.keepIn K (.ref f_Ldeeds) = true)
    {f_Ltold : Addr} {od_Ltold an_Ltold : Option Addr} {sl_Ltold : Array (Option Value)} {oc_Ltold kV_Ltold dc_Ltold pm_Ltold cd_Ltold ct_Ltold : Value}
    (a_Ltold : PySem.W.nsIn K mainGlobals "_law_told" = some (some (.ref f_Ltold)))
    (l_Ltold : K.lookup f_Ltold = some ⟨oc_Ltold, od_Ltold, .func (PySem.W.fnOf "_law_told" "_law_told" (defArgs t_Ltold) (defBody t_Ltold) (defScope t_Ltold) .none kV_Ltold dc_Ltold pm_Ltold an_Ltold cd_Ltold ct_Ltold), sl_Ltold⟩)
    (c_Ltold : PySem.W.codeIn K cd_Ltold "_law_told" = true) (k_Ltold : PySem.W.keepIn K (.ref f_Ltold) = true)
    {f_Lled : Addr} {od_Lled an_Lled : Option Addr} {sl_Lled : Array (Option Value)} {oc_Lled kV_Lled dc_Lled pm_Lled cd_Lled ct_Lled : Value}
    (a_Lled : PySem.W.nsIn K mainGlobals "_law_led" = some (some (.ref f_Lled)))
    (l_Lled : K.lookup f_Lled = some ⟨oc_Lled, od_Lled, .func (PySem.W.fnOf "_law_led" "_law_led" (defArgs t_Lled) (defBody t_Lled) (defScope t_Lled) .none kV_Lled dc_Lled pm_Lled an_Lled cd_Lled ct_Lled), sl_Lled⟩)
    (c_Lled : PySem.W.codeIn K cd_Lled "_law_led" = true) (k_Lled : PySem.W.keepIn K (.ref f_Lled) = true)
    {f_Lcosts_refused : Addr} {od_Lcosts_refused an_Lcosts_refused : Option Addr} {sl_Lcosts_refused : Array (Option Value)} {oc_Lcosts_refused kV_Lcosts_refused dc_Lcosts_refused pm_Lcosts_refused cd_Lcosts_refused ct_Lcosts_refused : Value}
    (a_Lcosts_refused : PySem.W.nsIn K mainGlobals "_law_costs_refused" = some (some (.ref f_Lcosts_refused)))
    (l_Lcosts_refused : K.lookup f_Lcosts_refused = some ⟨oc_Lcosts_refused, od_Lcosts_refused, .func (PySem.W.fnOf "_law_costs_refused" "_law_costs_refused" (defArgs t_Lcosts_refused) (defBody t_Lcosts_refused) (defScope t_Lcosts_refused) .none kV_Lcosts_refused dc_Lcosts_refused pm_Lcosts_refused an_Lcosts_refused cd_Lcosts_refused ct_Lcosts_refused), sl_Lcosts_refused⟩)
    (c_Lcosts_refused : PySem.W.codeIn K cd_Lcosts_refused "_law_costs_refused" = true) (k_Lcosts_refused : PySem.W.keepIn K (.ref f_Lcosts_refused) = true)
    {f_law : Addr} {od_law an_law : Option Addr} {sl_law : Array (Option Value)} {oc_law kV_law dc_law pm_law cd_law ct_law : Value}
    (a_law : PySem.W.nsIn K mainGlobals "law" = some (some (.ref f_law)))
    (l_law : K.lookup f_law = some ⟨oc_law, od_law, .func (PySem.W.fnOf "law" "law" (defArgs t_law) (defBody t_law) (defScope t_law) .none kV_law dc_law pm_law an_law cd_law ct_law), sl_law⟩)
    (c_law : PySem.W.codeIn K cd_law "law" = true) (k_law : PySem.W.keepIn K (.ref f_law) = true)
    {t_MOST_COST : Tok} (gl_MOST_COST : PySem.W.nsIn K mainGlobals "MOST_COST" = some (some (.int 50 t_MOST_COST)))
    (z_isinstance : PySem.W.nsIn K mainGlobals "isinstance" = some none)
    (z_int : PySem.W.nsIn K mainGlobals "int" = some none)
    (z_bool : PySem.W.nsIn K mainGlobals "bool" = some none)
    (z_len : PySem.W.nsIn K mainGlobals "len" = some none)
    (z_zip : PySem.W.nsIn K mainGlobals "zip" = some none)
    (z_str : PySem.W.nsIn K mainGlobals "str" = some none)
    (z_all : PySem.W.nsIn K mainGlobals "all" = some none)
    (z_enumerate : PySem.W.nsIn K mainGlobals "enumerate" = some none)
    (z_range : PySem.W.nsIn K mainGlobals "range" = some none)
    {C_LeanError : Addr} (x_LeanError : PySem.W.nsIn K mainGlobals "LeanError" = some (some (.ref C_LeanError)))
    {C_NoNumber : Addr} (x_NoNumber : PySem.W.nsIn K mainGlobals "NoNumber" = some (some (.ref C_NoNumber)))
    {C_NoRow : Addr} (x_NoRow : PySem.W.nsIn K mainGlobals "NoRow" = some (some (.ref C_NoRow)))
    {C_NoText : Addr} (x_NoText : PySem.W.nsIn K mainGlobals "NoText" = some (some (.ref C_NoText)))
    {C_NoDeeds : Addr} (x_NoDeeds : PySem.W.nsIn K mainGlobals "NoDeeds" = some (some (.ref C_NoDeeds)))
    {C_NoCost : Addr} (x_NoCost : PySem.W.nsIn K mainGlobals "NoCost" = some (some (.ref C_NoCost)))
    (xe_LeanError : PySem.W.excIn K C_LeanError [.type "ValueError", .type "Exception", .type "BaseException", .type "object"] "ValueError.__new__" = true)
    (kpe_LeanError : PySem.W.keepIn K (.ref C_LeanError) = true)
    (bse_LeanError : PySem.W.subIn K (.ref C_LeanError) (.type "BaseException") = some true)
    (vee_LeanError : PySem.W.subIn K (.ref C_LeanError) (.type "ValueError") = some true)
    (tye_LeanError : PySem.W.typeIn K (.ref C_LeanError) = some (.type "type"))
    (ice_LeanError : PySem.W.isClsIn K C_LeanError = true)
    (gae_LeanError : PySem.W.findIn K (.ref C_LeanError) "__getattribute__" = some (some (.builtin "BaseException.__getattribute__")))
    (gte_LeanError : PySem.W.findIn K (.ref C_LeanError) "__getattr__" = some none)
    (gke_LeanError : PySem.W.findIn K (.ref C_LeanError) "__class__" = some (some (.builtin "object.__class__")))
    (hde_LeanError : PySem.W.hasDictIn K C_LeanError = true)
    (moe_LeanError : PySem.W.mroIn K C_LeanError (.type "object") = some true)
    (sue_LeanError_LeanError : PySem.W.subIn K (.ref C_LeanError) (.ref C_LeanError) = some true)
    (sue_LeanError_NoNumber : PySem.W.subIn K (.ref C_LeanError) (.ref C_NoNumber) = some false)
    (sue_LeanError_NoRow : PySem.W.subIn K (.ref C_LeanError) (.ref C_NoRow) = some false)
    (sue_LeanError_NoText : PySem.W.subIn K (.ref C_LeanError) (.ref C_NoText) = some false)
    (sue_LeanError_NoDeeds : PySem.W.subIn K (.ref C_LeanError) (.ref C_NoDeeds) = some false)
    (sue_LeanError_NoCost : PySem.W.subIn K (.ref C_LeanError) (.ref C_NoCost) = some false)
    (xe_NoNumber : PySem.W.excIn K C_NoNumber [.type "ValueError", .type "Exception", .type "BaseException", .type "object"] "ValueError.__new__" = true)
    (kpe_NoNumber : PySem.W.keepIn K (.ref C_NoNumber) = true)
    (bse_NoNumber : PySem.W.subIn K (.ref C_NoNumber) (.type "BaseException") = some true)
    (vee_NoNumber : PySem.W.subIn K (.ref C_NoNumber) (.type "ValueError") = some true)
    (tye_NoNumber : PySem.W.typeIn K (.ref C_NoNumber) = some (.type "type"))
    (ice_NoNumber : PySem.W.isClsIn K C_NoNumber = true)
    (gae_NoNumber : PySem.W.findIn K (.ref C_NoNumber) "__getattribute__" = some (some (.builtin "BaseException.__getattribute__")))
    (gte_NoNumber : PySem.W.findIn K (.ref C_NoNumber) "__getattr__" = some none)
    (gke_NoNumber : PySem.W.findIn K (.ref C_NoNumber) "__class__" = some (some (.builtin "object.__class__")))
    (hde_NoNumber : PySem.W.hasDictIn K C_NoNumber = true)
    (moe_NoNumber : PySem.W.mroIn K C_NoNumber (.type "object") = some true)
    (sue_NoNumber_LeanError : PySem.W.subIn K (.ref C_NoNumber) (.ref C_LeanError) = some true)
    (sue_NoNumber_NoNumber : PySem.W.subIn K (.ref C_NoNumber) (.ref C_NoNumber) = some true)
    (sue_NoNumber_NoRow : PySem.W.subIn K (.ref C_NoNumber) (.ref C_NoRow) = some false)
    (sue_NoNumber_NoText : PySem.W.subIn K (.ref C_NoNumber) (.ref C_NoText) = some false)
    (sue_NoNumber_NoDeeds : PySem.W.subIn K (.ref C_NoNumber) (.ref C_NoDeeds) = some false)
    (sue_NoNumber_NoCost : PySem.W.subIn K (.ref C_NoNumber) (.ref C_NoCost) = some false)
    (xe_NoRow : PySem.W.excIn K C_NoRow [.type "ValueError", .type "Exception", .type "BaseException", .type "object"] "ValueError.__new__" = true)
    (kpe_NoRow : PySem.W.keepIn K (.ref C_NoRow) = true)
    (bse_NoRow : PySem.W.subIn K (.ref C_NoRow) (.type "BaseException") = some true)
    (vee_NoRow : PySem.W.subIn K (.ref C_NoRow) (.type "ValueError") = some true)
    (tye_NoRow : PySem.W.typeIn K (.ref C_NoRow) = some (.type "type"))
    (ice_NoRow : PySem.W.isClsIn K C_NoRow = true)
    (gae_NoRow : PySem.W.findIn K (.ref C_NoRow) "__getattribute__" = some (some (.builtin "BaseException.__getattribute__")))
    (gte_NoRow : PySem.W.findIn K (.ref C_NoRow) "__getattr__" = some none)
    (gke_NoRow : PySem.W.findIn K (.ref C_NoRow) "__class__" = some (some (.builtin "object.__class__")))
    (hde_NoRow : PySem.W.hasDictIn K C_NoRow = true)
    (moe_NoRow : PySem.W.mroIn K C_NoRow (.type "object") = some true)
    (sue_NoRow_LeanError : PySem.W.subIn K (.ref C_NoRow) (.ref C_LeanError) = some true)
    (sue_NoRow_NoNumber : PySem.W.subIn K (.ref C_NoRow) (.ref C_NoNumber) = some false)
    (sue_NoRow_NoRow : PySem.W.subIn K (.ref C_NoRow) (.ref C_NoRow) = some true)
    (sue_NoRow_NoText : PySem.W.subIn K (.ref C_NoRow) (.ref C_NoText) = some false)
    (sue_NoRow_NoDeeds : PySem.W.subIn K (.ref C_NoRow) (.ref C_NoDeeds) = some false)
    (sue_NoRow_NoCost : PySem.W.subIn K (.ref C_NoRow) (.ref C_NoCost) = some false)
    (xe_NoText : PySem.W.excIn K C_NoText [.type "ValueError", .type "Exception", .type "BaseException", .type "object"] "ValueError.__new__" = true)
    (kpe_NoText : PySem.W.keepIn K (.ref C_NoText) = true)
    (bse_NoText : PySem.W.subIn K (.ref C_NoText) (.type "BaseException") = some true)
    (vee_NoText : PySem.W.subIn K (.ref C_NoText) (.type "ValueError") = some true)
    (tye_NoText : PySem.W.typeIn K (.ref C_NoText) = some (.type "type"))
    (ice_NoText : PySem.W.isClsIn K C_NoText = true)
    (gae_NoText : PySem.W.findIn K (.ref C_NoText) "__getattribute__" = some (some (.builtin "BaseException.__getattribute__")))
    (gte_NoText : PySem.W.findIn K (.ref C_NoText) "__getattr__" = some none)
    (gke_NoText : PySem.W.findIn K (.ref C_NoText) "__class__" = some (some (.builtin "object.__class__")))
    (hde_NoText : PySem.W.hasDictIn K C_NoText = true)
    (moe_NoText : PySem.W.mroIn K C_NoText (.type "object") = some true)
    (sue_NoText_LeanError : PySem.W.subIn K (.ref C_NoText) (.ref C_LeanError) = some true)
    (sue_NoText_NoNumber : PySem.W.subIn K (.ref C_NoText) (.ref C_NoNumber) = some false)
    (sue_NoText_NoRow : PySem.W.subIn K (.ref C_NoText) (.ref C_NoRow) = some false)
    (sue_NoText_NoText : PySem.W.subIn K (.ref C_NoText) (.ref C_NoText) = some true)
    (sue_NoText_NoDeeds : PySem.W.subIn K (.ref C_NoText) (.ref C_NoDeeds) = some false)
    (sue_NoText_NoCost : PySem.W.subIn K (.ref C_NoText) (.ref C_NoCost) = some false)
    (xe_NoDeeds : PySem.W.excIn K C_NoDeeds [.type "ValueError", .type "Exception", .type "BaseException", .type "object"] "ValueError.__new__" = true)
    (kpe_NoDeeds : PySem.W.keepIn K (.ref C_NoDeeds) = true)
    (bse_NoDeeds : PySem.W.subIn K (.ref C_NoDeeds) (.type "BaseException") = some true)
    (vee_NoDeeds : PySem.W.subIn K (.ref C_NoDeeds) (.type "ValueError") = some true)
    (tye_NoDeeds : PySem.W.typeIn K (.ref C_NoDeeds) = some (.type "type"))
    (ice_NoDeeds : PySem.W.isClsIn K C_NoDeeds = true)
    (gae_NoDeeds : PySem.W.findIn K (.ref C_NoDeeds) "__getattribute__" = some (some (.builtin "BaseException.__getattribute__")))
    (gte_NoDeeds : PySem.W.findIn K (.ref C_NoDeeds) "__getattr__" = some none)
    (gke_NoDeeds : PySem.W.findIn K (.ref C_NoDeeds) "__class__" = some (some (.builtin "object.__class__")))
    (hde_NoDeeds : PySem.W.hasDictIn K C_NoDeeds = true)
    (moe_NoDeeds : PySem.W.mroIn K C_NoDeeds (.type "object") = some true)
    (sue_NoDeeds_LeanError : PySem.W.subIn K (.ref C_NoDeeds) (.ref C_LeanError) = some true)
    (sue_NoDeeds_NoNumber : PySem.W.subIn K (.ref C_NoDeeds) (.ref C_NoNumber) = some false)
    (sue_NoDeeds_NoRow : PySem.W.subIn K (.ref C_NoDeeds) (.ref C_NoRow) = some false)
    (sue_NoDeeds_NoText : PySem.W.subIn K (.ref C_NoDeeds) (.ref C_NoText) = some false)
    (sue_NoDeeds_NoDeeds : PySem.W.subIn K (.ref C_NoDeeds) (.ref C_NoDeeds) = some true)
    (sue_NoDeeds_NoCost : PySem.W.subIn K (.ref C_NoDeeds) (.ref C_NoCost) = some false)
    (xe_NoCost : PySem.W.excIn K C_NoCost [.type "ValueError", .type "Exception", .type "BaseException", .type "object"] "ValueError.__new__" = true)
    (kpe_NoCost : PySem.W.keepIn K (.ref C_NoCost) = true)
    (bse_NoCost : PySem.W.subIn K (.ref C_NoCost) (.type "BaseException") = some true)
    (vee_NoCost : PySem.W.subIn K (.ref C_NoCost) (.type "ValueError") = some true)
    (tye_NoCost : PySem.W.typeIn K (.ref C_NoCost) = some (.type "type"))
    (ice_NoCost : PySem.W.isClsIn K C_NoCost = true)
    (gae_NoCost : PySem.W.findIn K (.ref C_NoCost) "__getattribute__" = some (some (.builtin "BaseException.__getattribute__")))
    (gte_NoCost : PySem.W.findIn K (.ref C_NoCost) "__getattr__" = some none)
    (gke_NoCost : PySem.W.findIn K (.ref C_NoCost) "__class__" = some (some (.builtin "object.__class__")))
    (hde_NoCost : PySem.W.hasDictIn K C_NoCost = true)
    (moe_NoCost : PySem.W.mroIn K C_NoCost (.type "object") = some true)
    (sue_NoCost_LeanError : PySem.W.subIn K (.ref C_NoCost) (.ref C_LeanError) = some true)
    (sue_NoCost_NoNumber : PySem.W.subIn K (.ref C_NoCost) (.ref C_NoNumber) = some false)
    (sue_NoCost_NoRow : PySem.W.subIn K (.ref C_NoCost) (.ref C_NoRow) = some false)
    (sue_NoCost_NoText : PySem.W.subIn K (.ref C_NoCost) (.ref C_NoText) = some false)
    (sue_NoCost_NoDeeds : PySem.W.subIn K (.ref C_NoCost) (.ref C_NoDeeds) = some false)
    (sue_NoCost_NoCost : PySem.W.subIn K (.ref C_NoCost) (.ref C_NoCost) = some true)
    (spe_class : PySem.W.specialIn K (.builtin "object.__class__") "__get__" = some (some (.builtin "getset_descriptor.__get__")))
    (tke_class : PySem.W.takesIn K (.builtin "object.__class__") = some true)
    (dg : PySem.W.nsIn K cStatics "sys.int_max_str_digits" = some none) :
    ∃ fd : FuncData, (∀ (s : Shared) (v : Value), BindsTo s fd ⟨[v], []⟩ [("_law_script", v)]) ∧ ∀ base : Heap, K.In base → base.Ns mainGlobals mg → FnOk l.prog w K mg base CX0 6 fa fd p_law (sp_law K) := by
  have e := hfa.symm.trans (PySem.W.mg_of X G a_law)
  cases e
  have F_is_whole := fun_mk (st := t_is_whole) l_is_whole c_is_whole k_is_whole
  have b_is_whole := F_is_whole.binds (ps := p_is_whole) fun _ _ _ _ _ _ us hl => match us, hl with | [_], _ => rfl
  have F_led := fun_mk (st := t_led) l_led c_led k_led
  have b_led := F_led.binds (ps := p_led) fun _ _ _ _ _ _ us hl => match us, hl with | [_], _ => rfl
  have F_doubled_between := fun_mk (st := t_doubled_between) l_doubled_between c_doubled_between k_doubled_between
  have b_doubled_between := F_doubled_between.binds (ps := p_doubled_between) fun _ _ _ _ _ _ us hl => match us, hl with | [_], _ => rfl
  have F_cost_of := fun_mk (st := t_cost_of) l_cost_of c_cost_of k_cost_of
  have b_cost_of := F_cost_of.binds (ps := p_cost_of) fun _ _ _ _ _ _ us hl => match us, hl with | [_, _, _], _ => rfl
  have F_refuse_no_deeds := fun_mk (st := t_refuse_no_deeds) l_refuse_no_deeds c_refuse_no_deeds k_refuse_no_deeds
  have b_refuse_no_deeds := F_refuse_no_deeds.binds (ps := p_refuse_no_deeds) fun _ _ _ _ _ _ us hl => match us, hl with | [_], _ => rfl
  have F_refuse_no_cost := fun_mk (st := t_refuse_no_cost) l_refuse_no_cost c_refuse_no_cost k_refuse_no_cost
  have b_refuse_no_cost := F_refuse_no_cost.binds (ps := p_refuse_no_cost) fun _ _ _ _ _ _ us hl => match us, hl with | [_], _ => rfl
  have F_Lcell_at := fun_mk (st := t_Lcell_at) l_Lcell_at c_Lcell_at k_Lcell_at
  have b_Lcell_at := F_Lcell_at.binds (ps := p_Lcell_at) fun _ _ _ _ _ _ us hl => match us, hl with | [_, _], _ => rfl
  have F_Lmixed := fun_mk (st := t_Lmixed) l_Lmixed c_Lmixed k_Lmixed
  have b_Lmixed := F_Lmixed.binds (ps := p_Lmixed) fun _ _ _ _ _ _ us hl => match us, hl with | [_, _], _ => rfl
  have F_Lwhole := fun_mk (st := t_Lwhole) l_Lwhole c_Lwhole k_Lwhole
  have b_Lwhole := F_Lwhole.binds (ps := p_Lwhole) fun _ _ _ _ _ _ us hl => match us, hl with | [_], _ => rfl
  have F_Ldeeds := fun_mk (st := t_Ldeeds) l_Ldeeds c_Ldeeds k_Ldeeds
  have b_Ldeeds := F_Ldeeds.binds (ps := p_Ldeeds) fun _ _ _ _ _ _ us hl => match us, hl with | [_], _ => rfl
  have F_Ltold := fun_mk (st := t_Ltold) l_Ltold c_Ltold k_Ltold
  have b_Ltold := F_Ltold.binds (ps := p_Ltold) fun _ _ _ _ _ _ us hl => match us, hl with | [_, _, _], _ => rfl
  have F_Lled := fun_mk (st := t_Lled) l_Lled c_Lled k_Lled
  have b_Lled := F_Lled.binds (ps := p_Lled) fun _ _ _ _ _ _ us hl => match us, hl with | [_], _ => rfl
  have F_Lcosts_refused := fun_mk (st := t_Lcosts_refused) l_Lcosts_refused c_Lcosts_refused k_Lcosts_refused
  have b_Lcosts_refused := F_Lcosts_refused.binds (ps := p_Lcosts_refused) fun _ _ _ _ _ _ us hl => match us, hl with | [_, _], _ => rfl
  have F_law := fun_mk (st := t_law) l_law c_law k_law
  have b_law := F_law.binds (ps := p_law) fun _ _ _ _ _ _ us hl => match us, hl with | [_], _ => rfl
  have T : Txt K mg := {
    a_is_whole := _, d_is_whole := _, F_is_whole := F_is_whole, b_is_whole := b_is_whole, g_is_whole := PySem.W.mg_of X G a_is_whole,
    a_led := _, d_led := _, F_led := F_led, b_led := b_led, g_led := PySem.W.mg_of X G a_led,
    a_doubled_between := _, d_doubled_between := _, F_doubled_between := F_doubled_between, b_doubled_between := b_doubled_between, g_doubled_between := PySem.W.mg_of X G a_doubled_between,
    a_cost_of := _, d_cost_of := _, F_cost_of := F_cost_of, b_cost_of := b_cost_of, g_cost_of := PySem.W.mg_of X G a_cost_of,
    a_refuse_no_deeds := _, d_refuse_no_deeds := _, F_refuse_no_deeds := F_refuse_no_deeds, b_refuse_no_deeds := b_refuse_no_deeds, g_refuse_no_deeds := PySem.W.mg_of X G a_refuse_no_deeds,
    a_refuse_no_cost := _, d_refuse_no_cost := _, F_refuse_no_cost := F_refuse_no_cost, b_refuse_no_cost := b_refuse_no_cost, g_refuse_no_cost := PySem.W.mg_of X G a_refuse_no_cost,
    a_Lcell_at := _, d_Lcell_at := _, F_Lcell_at := F_Lcell_at, b_Lcell_at := b_Lcell_at, g_Lcell_at := PySem.W.mg_of X G a_Lcell_at,
    a_Lmixed := _, d_Lmixed := _, F_Lmixed := F_Lmixed, b_Lmixed := b_Lmixed, g_Lmixed := PySem.W.mg_of X G a_Lmixed,
    a_Lwhole := _, d_Lwhole := _, F_Lwhole := F_Lwhole, b_Lwhole := b_Lwhole, g_Lwhole := PySem.W.mg_of X G a_Lwhole,
    a_Ldeeds := _, d_Ldeeds := _, F_Ldeeds := F_Ldeeds, b_Ldeeds := b_Ldeeds, g_Ldeeds := PySem.W.mg_of X G a_Ldeeds,
    a_Ltold := _, d_Ltold := _, F_Ltold := F_Ltold, b_Ltold := b_Ltold, g_Ltold := PySem.W.mg_of X G a_Ltold,
    a_Lled := _, d_Lled := _, F_Lled := F_Lled, b_Lled := b_Lled, g_Lled := PySem.W.mg_of X G a_Lled,
    a_Lcosts_refused := _, d_Lcosts_refused := _, F_Lcosts_refused := F_Lcosts_refused, b_Lcosts_refused := b_Lcosts_refused, g_Lcosts_refused := PySem.W.mg_of X G a_Lcosts_refused,
    a_law := _, d_law := _, F_law := F_law, b_law := b_law, g_law := PySem.W.mg_of X G a_law,
    gl_MOST_COST := ⟨_, PySem.W.mg_of X G gl_MOST_COST⟩,
    z_isinstance := PySem.W.mg_none_of X G z_isinstance,
    z_int := PySem.W.mg_none_of X G z_int,
    z_bool := PySem.W.mg_none_of X G z_bool,
    z_len := PySem.W.mg_none_of X G z_len,
    z_zip := PySem.W.mg_none_of X G z_zip,
    z_str := PySem.W.mg_none_of X G z_str,
    z_all := PySem.W.mg_none_of X G z_all,
    z_enumerate := PySem.W.mg_none_of X G z_enumerate,
    z_range := PySem.W.mg_none_of X G z_range,
    c_LeanError := _, gc_LeanError := PySem.W.mg_of X G x_LeanError,
    c_NoNumber := _, gc_NoNumber := PySem.W.mg_of X G x_NoNumber,
    c_NoRow := _, gc_NoRow := PySem.W.mg_of X G x_NoRow,
    c_NoText := _, gc_NoText := PySem.W.mg_of X G x_NoText,
    c_NoDeeds := _, gc_NoDeeds := PySem.W.mg_of X G x_NoDeeds,
    c_NoCost := _, gc_NoCost := PySem.W.mg_of X G x_NoCost,
    x_LeanError := xe_LeanError,
    kp_LeanError := kpe_LeanError,
    bs_LeanError := bse_LeanError,
    ve_LeanError := vee_LeanError,
    ty_LeanError := tye_LeanError,
    ic_LeanError := ice_LeanError,
    ga_LeanError := gae_LeanError,
    gt_LeanError := gte_LeanError,
    gk_LeanError := gke_LeanError,
    hd_LeanError := hde_LeanError,
    mo_LeanError := moe_LeanError,
    su_LeanError_LeanError := sue_LeanError_LeanError,
    su_LeanError_NoNumber := sue_LeanError_NoNumber,
    su_LeanError_NoRow := sue_LeanError_NoRow,
    su_LeanError_NoText := sue_LeanError_NoText,
    su_LeanError_NoDeeds := sue_LeanError_NoDeeds,
    su_LeanError_NoCost := sue_LeanError_NoCost,
    x_NoNumber := xe_NoNumber,
    kp_NoNumber := kpe_NoNumber,
    bs_NoNumber := bse_NoNumber,
    ve_NoNumber := vee_NoNumber,
    ty_NoNumber := tye_NoNumber,
    ic_NoNumber := ice_NoNumber,
    ga_NoNumber := gae_NoNumber,
    gt_NoNumber := gte_NoNumber,
    gk_NoNumber := gke_NoNumber,
    hd_NoNumber := hde_NoNumber,
    mo_NoNumber := moe_NoNumber,
    su_NoNumber_LeanError := sue_NoNumber_LeanError,
    su_NoNumber_NoNumber := sue_NoNumber_NoNumber,
    su_NoNumber_NoRow := sue_NoNumber_NoRow,
    su_NoNumber_NoText := sue_NoNumber_NoText,
    su_NoNumber_NoDeeds := sue_NoNumber_NoDeeds,
    su_NoNumber_NoCost := sue_NoNumber_NoCost,
    x_NoRow := xe_NoRow,
    kp_NoRow := kpe_NoRow,
    bs_NoRow := bse_NoRow,
    ve_NoRow := vee_NoRow,
    ty_NoRow := tye_NoRow,
    ic_NoRow := ice_NoRow,
    ga_NoRow := gae_NoRow,
    gt_NoRow := gte_NoRow,
    gk_NoRow := gke_NoRow,
    hd_NoRow := hde_NoRow,
    mo_NoRow := moe_NoRow,
    su_NoRow_LeanError := sue_NoRow_LeanError,
    su_NoRow_NoNumber := sue_NoRow_NoNumber,
    su_NoRow_NoRow := sue_NoRow_NoRow,
    su_NoRow_NoText := sue_NoRow_NoText,
    su_NoRow_NoDeeds := sue_NoRow_NoDeeds,
    su_NoRow_NoCost := sue_NoRow_NoCost,
    x_NoText := xe_NoText,
    kp_NoText := kpe_NoText,
    bs_NoText := bse_NoText,
    ve_NoText := vee_NoText,
    ty_NoText := tye_NoText,
    ic_NoText := ice_NoText,
    ga_NoText := gae_NoText,
    gt_NoText := gte_NoText,
    gk_NoText := gke_NoText,
    hd_NoText := hde_NoText,
    mo_NoText := moe_NoText,
    su_NoText_LeanError := sue_NoText_LeanError,
    su_NoText_NoNumber := sue_NoText_NoNumber,
    su_NoText_NoRow := sue_NoText_NoRow,
    su_NoText_NoText := sue_NoText_NoText,
    su_NoText_NoDeeds := sue_NoText_NoDeeds,
    su_NoText_NoCost := sue_NoText_NoCost,
    x_NoDeeds := xe_NoDeeds,
    kp_NoDeeds := kpe_NoDeeds,
    bs_NoDeeds := bse_NoDeeds,
    ve_NoDeeds := vee_NoDeeds,
    ty_NoDeeds := tye_NoDeeds,
    ic_NoDeeds := ice_NoDeeds,
    ga_NoDeeds := gae_NoDeeds,
    gt_NoDeeds := gte_NoDeeds,
    gk_NoDeeds := gke_NoDeeds,
    hd_NoDeeds := hde_NoDeeds,
    mo_NoDeeds := moe_NoDeeds,
    su_NoDeeds_LeanError := sue_NoDeeds_LeanError,
    su_NoDeeds_NoNumber := sue_NoDeeds_NoNumber,
    su_NoDeeds_NoRow := sue_NoDeeds_NoRow,
    su_NoDeeds_NoText := sue_NoDeeds_NoText,
    su_NoDeeds_NoDeeds := sue_NoDeeds_NoDeeds,
    su_NoDeeds_NoCost := sue_NoDeeds_NoCost,
    x_NoCost := xe_NoCost,
    kp_NoCost := kpe_NoCost,
    bs_NoCost := bse_NoCost,
    ve_NoCost := vee_NoCost,
    ty_NoCost := tye_NoCost,
    ic_NoCost := ice_NoCost,
    ga_NoCost := gae_NoCost,
    gt_NoCost := gte_NoCost,
    gk_NoCost := gke_NoCost,
    hd_NoCost := hde_NoCost,
    mo_NoCost := moe_NoCost,
    su_NoCost_LeanError := sue_NoCost_LeanError,
    su_NoCost_NoNumber := sue_NoCost_NoNumber,
    su_NoCost_NoRow := sue_NoCost_NoRow,
    su_NoCost_NoText := sue_NoCost_NoText,
    su_NoCost_NoDeeds := sue_NoCost_NoDeeds,
    su_NoCost_NoCost := sue_NoCost_NoCost,
    sp_class := spe_class,
    tk_class := tke_class,
    digits := dg }
  exact ⟨_, fun s v => .of_eq rfl, fun base _ _ => ok_law_at T F_law b_law⟩
end K09
open PySem PySem.W PyProof.Rows
set_option maxHeartbeats 0 in
theorem PySem.Challenge.cw_leanfigures_k09_deeds_done_holds : PySem.Challenge.rw_leanfigures_k09_deeds_done.Holds := by
  w_on; o_law; k_head; (case hw => w_witness2)
  k_fill
  refine L2.walk_of (l := PySem.Challenge.rw_leanfigures_k09_deeds_done) (n := 63) (k := 6) (x := "_law_script") (CX := fun _ => L2.CX0) (sp := fun w => K09.sp_law _) rfl (by decide) rfl ⟨rfl, by decide, by decide⟩ (fun w h Y => PySem.W.kIn_of Y) ?F (fun _ _ a ns hl _ hS => ⟨a, ns, rfl, hS, hl, fun _ => rfl⟩) (fun _ _ _ _ _ h => h)
  case F =>
    intro w mg fa h KX G hmg
    refine' K09.all_mk KX G hmg ?a_is_whole ?l_is_whole ?c_is_whole ?k_is_whole ?a_led ?l_led ?c_led ?k_led ?a_doubled_between ?l_doubled_between ?c_doubled_between ?k_doubled_between ?a_cost_of ?l_cost_of ?c_cost_of ?k_cost_of ?a_refuse_no_deeds ?l_refuse_no_deeds ?c_refuse_no_deeds ?k_refuse_no_deeds ?a_refuse_no_cost ?l_refuse_no_cost ?c_refuse_no_cost ?k_refuse_no_cost ?a_Lcell_at ?l_Lcell_at ?c_Lcell_at ?k_Lcell_at ?a_Lmixed ?l_Lmixed ?c_Lmixed ?k_Lmixed ?a_Lwhole ?l_Lwhole ?c_Lwhole ?k_Lwhole ?a_Ldeeds ?l_Ldeeds ?c_Ldeeds ?k_Ldeeds ?a_Ltold ?l_Ltold ?c_Ltold ?k_Ltold ?a_Lled ?l_Lled ?c_Lled ?k_Lled ?a_Lcosts_refused ?l_Lcosts_refused ?c_Lcosts_refused ?k_Lcosts_refused ?a_law ?l_law ?c_law ?k_law ?gl_MOST_COST ?z_isinstance ?z_int ?z_bool ?z_len ?z_zip ?z_str ?z_all ?z_enumerate ?z_range ?x_LeanError ?x_NoNumber ?x_NoRow ?x_NoText ?x_NoDeeds ?x_NoCost ?xe_LeanError ?kpe_LeanError ?bse_LeanError ?vee_LeanError ?tye_LeanError ?ice_LeanError ?gae_LeanError ?gte_LeanError ?gke_LeanError ?hde_LeanError ?moe_LeanError ?sue_LeanError_LeanError ?sue_LeanError_NoNumber ?sue_LeanError_NoRow ?sue_LeanError_NoText ?sue_LeanError_NoDeeds ?sue_LeanError_NoCost ?xe_NoNumber ?kpe_NoNumber ?bse_NoNumber ?vee_NoNumber ?tye_NoNumber ?ice_NoNumber ?gae_NoNumber ?gte_NoNumber ?gke_NoNumber ?hde_NoNumber ?moe_NoNumber ?sue_NoNumber_LeanError ?sue_NoNumber_NoNumber ?sue_NoNumber_NoRow ?sue_NoNumber_NoText ?sue_NoNumber_NoDeeds ?sue_NoNumber_NoCost ?xe_NoRow ?kpe_NoRow ?bse_NoRow ?vee_NoRow ?tye_NoRow ?ice_NoRow ?gae_NoRow ?gte_NoRow ?gke_NoRow ?hde_NoRow ?moe_NoRow ?sue_NoRow_LeanError ?sue_NoRow_NoNumber ?sue_NoRow_NoRow ?sue_NoRow_NoText ?sue_NoRow_NoDeeds ?sue_NoRow_NoCost ?xe_NoText ?kpe_NoText ?bse_NoText ?vee_NoText ?tye_NoText ?ice_NoText ?gae_NoText ?gte_NoText ?gke_NoText ?hde_NoText ?moe_NoText ?sue_NoText_LeanError ?sue_NoText_NoNumber ?sue_NoText_NoRow ?sue_NoText_NoText ?sue_NoText_NoDeeds ?sue_NoText_NoCost ?xe_NoDeeds ?kpe_NoDeeds ?bse_NoDeeds ?vee_NoDeeds ?tye_NoDeeds ?ice_NoDeeds ?gae_NoDeeds ?gte_NoDeeds ?gke_NoDeeds ?hde_NoDeeds ?moe_NoDeeds ?sue_NoDeeds_LeanError ?sue_NoDeeds_NoNumber ?sue_NoDeeds_NoRow ?sue_NoDeeds_NoText ?sue_NoDeeds_NoDeeds ?sue_NoDeeds_NoCost ?xe_NoCost ?kpe_NoCost ?bse_NoCost ?vee_NoCost ?tye_NoCost ?ice_NoCost ?gae_NoCost ?gte_NoCost ?gke_NoCost ?hde_NoCost ?moe_NoCost ?sue_NoCost_LeanError ?sue_NoCost_NoNumber ?sue_NoCost_NoRow ?sue_NoCost_NoText ?sue_NoCost_NoDeeds ?sue_NoCost_NoCost ?spe_class ?tke_class ?dg
    (case a_is_whole => k_is)
    (case l_is_whole => k_is)
    (case c_is_whole => k_is)
    (case k_is_whole => k_is)
    (case a_led => k_is)
    (case l_led => k_is)
    (case c_led => k_is)
    (case k_led => k_is)
    (case a_doubled_between => k_is)
    (case l_doubled_between => k_is)
    (case c_doubled_between => k_is)
    (case k_doubled_between => k_is)
    (case a_cost_of => k_is)
    (case l_cost_of => k_is)
    (case c_cost_of => k_is)
    (case k_cost_of => k_is)
    (case a_refuse_no_deeds => k_is)
    (case l_refuse_no_deeds => k_is)
    (case c_refuse_no_deeds => k_is)
    (case k_refuse_no_deeds => k_is)
    (case a_refuse_no_cost => k_is)
    (case l_refuse_no_cost => k_is)
    (case c_refuse_no_cost => k_is)
    (case k_refuse_no_cost => k_is)
    (case a_Lcell_at => k_is)
    (case l_Lcell_at => k_is)
    (case c_Lcell_at => k_is)
    (case k_Lcell_at => k_is)
    (case a_Lmixed => k_is)
    (case l_Lmixed => k_is)
    (case c_Lmixed => k_is)
    (case k_Lmixed => k_is)
    (case a_Lwhole => k_is)
    (case l_Lwhole => k_is)
    (case c_Lwhole => k_is)
    (case k_Lwhole => k_is)
    (case a_Ldeeds => k_is)
    (case l_Ldeeds => k_is)
    (case c_Ldeeds => k_is)
    (case k_Ldeeds => k_is)
    (case a_Ltold => k_is)
    (case l_Ltold => k_is)
    (case c_Ltold => k_is)
    (case k_Ltold => k_is)
    (case a_Lled => k_is)
    (case l_Lled => k_is)
    (case c_Lled => k_is)
    (case k_Lled => k_is)
    (case a_Lcosts_refused => k_is)
    (case l_Lcosts_refused => k_is)
    (case c_Lcosts_refused => k_is)
    (case k_Lcosts_refused => k_is)
    (case a_law => k_is)
    (case l_law => k_is)
    (case c_law => k_is)
    (case k_law => k_is)
    (case gl_MOST_COST => k_is)
    (case z_isinstance => k_is)
    (case z_int => k_is)
    (case z_bool => k_is)
    (case z_len => k_is)
    (case z_zip => k_is)
    (case z_str => k_is)
    (case z_all => k_is)
    (case z_enumerate => k_is)
    (case z_range => k_is)
    (case x_LeanError => k_is)
    (case x_NoNumber => k_is)
    (case x_NoRow => k_is)
    (case x_NoText => k_is)
    (case x_NoDeeds => k_is)
    (case x_NoCost => k_is)
    (case xe_LeanError => k_exc)
    (case kpe_LeanError => k_is)
    (case bse_LeanError => k_is)
    (case vee_LeanError => k_is)
    (case tye_LeanError => k_is)
    (case ice_LeanError => k_is)
    (case gae_LeanError => k_is)
    (case gte_LeanError => k_is)
    (case gke_LeanError => k_is)
    (case hde_LeanError => k_is)
    (case moe_LeanError => k_is)
    (case sue_LeanError_LeanError => k_is)
    (case sue_LeanError_NoNumber => k_is)
    (case sue_LeanError_NoRow => k_is)
    (case sue_LeanError_NoText => k_is)
    (case sue_LeanError_NoDeeds => k_is)
    (case sue_LeanError_NoCost => k_is)
    (case xe_NoNumber => k_exc)
    (case kpe_NoNumber => k_is)
    (case bse_NoNumber => k_is)
    (case vee_NoNumber => k_is)
    (case tye_NoNumber => k_is)
    (case ice_NoNumber => k_is)
    (case gae_NoNumber => k_is)
    (case gte_NoNumber => k_is)
    (case gke_NoNumber => k_is)
    (case hde_NoNumber => k_is)
    (case moe_NoNumber => k_is)
    (case sue_NoNumber_LeanError => k_is)
    (case sue_NoNumber_NoNumber => k_is)
    (case sue_NoNumber_NoRow => k_is)
    (case sue_NoNumber_NoText => k_is)
    (case sue_NoNumber_NoDeeds => k_is)
    (case sue_NoNumber_NoCost => k_is)
    (case xe_NoRow => k_exc)
    (case kpe_NoRow => k_is)
    (case bse_NoRow => k_is)
    (case vee_NoRow => k_is)
    (case tye_NoRow => k_is)
    (case ice_NoRow => k_is)
    (case gae_NoRow => k_is)
    (case gte_NoRow => k_is)
    (case gke_NoRow => k_is)
    (case hde_NoRow => k_is)
    (case moe_NoRow => k_is)
    (case sue_NoRow_LeanError => k_is)
    (case sue_NoRow_NoNumber => k_is)
    (case sue_NoRow_NoRow => k_is)
    (case sue_NoRow_NoText => k_is)
    (case sue_NoRow_NoDeeds => k_is)
    (case sue_NoRow_NoCost => k_is)
    (case xe_NoText => k_exc)
    (case kpe_NoText => k_is)
    (case bse_NoText => k_is)
    (case vee_NoText => k_is)
    (case tye_NoText => k_is)
    (case ice_NoText => k_is)
    (case gae_NoText => k_is)
    (case gte_NoText => k_is)
    (case gke_NoText => k_is)
    (case hde_NoText => k_is)
    (case moe_NoText => k_is)
    (case sue_NoText_LeanError => k_is)
    (case sue_NoText_NoNumber => k_is)
    (case sue_NoText_NoRow => k_is)
    (case sue_NoText_NoText => k_is)
    (case sue_NoText_NoDeeds => k_is)
    (case sue_NoText_NoCost => k_is)
    (case xe_NoDeeds => k_exc)
    (case kpe_NoDeeds => k_is)
    (case bse_NoDeeds => k_is)
    (case vee_NoDeeds => k_is)
    (case tye_NoDeeds => k_is)
    (case ice_NoDeeds => k_is)
    (case gae_NoDeeds => k_is)
    (case gte_NoDeeds => k_is)
    (case gke_NoDeeds => k_is)
    (case hde_NoDeeds => k_is)
    (case moe_NoDeeds => k_is)
    (case sue_NoDeeds_LeanError => k_is)
    (case sue_NoDeeds_NoNumber => k_is)
    (case sue_NoDeeds_NoRow => k_is)
    (case sue_NoDeeds_NoText => k_is)
    (case sue_NoDeeds_NoDeeds => k_is)
    (case sue_NoDeeds_NoCost => k_is)
    (case xe_NoCost => k_exc)
    (case kpe_NoCost => k_is)
    (case bse_NoCost => k_is)
    (case vee_NoCost => k_is)
    (case tye_NoCost => k_is)
    (case ice_NoCost => k_is)
    (case gae_NoCost => k_is)
    (case gte_NoCost => k_is)
    (case gke_NoCost => k_is)
    (case hde_NoCost => k_is)
    (case moe_NoCost => k_is)
    (case sue_NoCost_LeanError => k_is)
    (case sue_NoCost_NoNumber => k_is)
    (case sue_NoCost_NoRow => k_is)
    (case sue_NoCost_NoText => k_is)
    (case sue_NoCost_NoDeeds => k_is)
    (case sue_NoCost_NoCost => k_is)
    (case spe_class => k_is)
    (case tke_class => k_is)
    (case dg => k_is)
