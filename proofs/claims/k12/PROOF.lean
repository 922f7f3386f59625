import PyProof.Rows.All
import Wide.All
import OpenK.AllK
import Wide.FinOn
import HandS.ForMost
import HandS.ForExc
import HandS.TryMany
import HandS.ExcValue
import HandS.ExcIs
import HandS.Wide
import HandS.WideBits
import HandS.IsInst
import HandS.IntHex
import HandS.FStr
import HandS.StrMore
import HandS.Style
import HandS.SetFor
import HandS.TupLe
import HandS.More
import HandS.Rev
import HandS.RevTup
import HandS.List
import PyProof.FactsAll.subtypes_3
import KE.GoesComp
import KE.GoesRaise
import KE.KIntText
import KE.KxField
import KE.GoesZip
import KE.GoesMore
import KE.GoesEnum
import PyProof.FString3
import PyProof.Rows.StrRev
import PySem.Challenge.RW_leanfigures_k12_rows_refused
set_option Elab.async false
set_option linter.all false
set_option maxRecDepth 100000
set_option maxHeartbeats 4000000
/-! int(text, 2), the text of any length. -/
namespace XB
open PySem PySem.NumText PySem.Calls L2

/-- binary signs alone -/
def Bits (cs : List Nat) : Prop := ∀ c ∈ cs, c = 48 ∨ c = 49
/-- what they are worth -/
def bitsVal (cs : List Nat) : Nat := cs.foldl (fun a c => 2 * a + (c - 48)) 0

theorem Bits.digits {cs : List Nat} (h : Bits cs) : AllDigits cs := fun c hc => by
  rcases h c hc with e | e <;> subst e <;> exact ⟨by decide, by decide⟩
theorem Bits.rev {cs : List Nat} (h : Bits cs) : Bits cs.reverse := fun c hc => h c (List.mem_reverse.mp hc)
theorem step2 {ds : Array Nat} {b : Bool} {c : Nat} (h : c = 48 ∨ c = 49) : PySem.NumText.step 2 (ds, b) c = some (ds.push (c - 48), true) := by
  rcases h with e | e <;> subst e <;> rfl
theorem fold2 : ∀ (cs : List Nat) (ds : Array Nat), Bits cs → List.foldlM (PySem.NumText.step 2) (ds, true) cs = some (List.foldl (fun acc c => acc.push (c - 48)) ds cs, true)
  | [], _, _ => rfl
  | c :: cs, ds, h => by
    rw [List.foldlM_cons, step2 (h c List.mem_cons_self)]
    exact fold2 cs (ds.push (c - 48)) fun d hd => h d (List.mem_cons_of_mem _ hd)
theorem digits2 {cs : List Nat} (h : Bits cs) (hne : cs ≠ []) : digits? 2 cs = some (List.foldl (fun acc c => acc.push (c - 48)) #[] cs) := by
  match cs, hne with
  | c :: r, _ =>
    unfold digits?
    rw [List.foldlM_cons, step2 (h c List.mem_cons_self)]
    have e := fold2 r ((#[] : Array Nat).push (c - 48)) fun d hd => h d (List.mem_cons_of_mem _ hd)
    show (List.foldlM (PySem.NumText.step 2) ((#[] : Array Nat).push (c - 48), true) r).bind _ = _
    rw [e]
    rfl
theorem pushed2 : ∀ (cs : List Nat) (ds : Array Nat), (List.foldl (fun acc c => acc.push (c - 48)) ds cs).foldl (fun acc d => acc * 2 + d) 0 =
    cs.foldl (fun a c => 2 * a + (c - 48)) (ds.foldl (fun acc d => acc * 2 + d) 0)
  | [], _ => rfl
  | c :: cs, ds => by
    rw [List.foldl_cons, pushed2 cs (ds.push (c - 48)), List.foldl_cons]
    congr 1
    simp [Nat.mul_comm]
theorem based2 {cs : List Nat} (h : Bits cs) : based 2 cs = (2, false, cs) := by
  match cs, h with
  | [], _ => rfl
  | [a], h =>
    rcases h a List.mem_cons_self with e | e <;> subst e <;> rfl
  | a :: c :: r, h =>
    have ha := h a List.mem_cons_self
    have hc := h c (List.mem_cons_of_mem _ List.mem_cons_self)
    rcases ha with e | e <;> rcases hc with e2 | e2 <;> subst e <;> subst e2 <;> rfl
theorem sign2 {cs : List Nat} (h : Bits cs) : sign cs = (false, cs) := by
  match cs, h with
  | [], _ => rfl
  | c :: r, h =>
    have := h c List.mem_cons_self
    exact sign_of (by omega) (by omega)
theorem read2 (limit : Nat) {cs : List Nat} (h : Bits cs) (hne : cs ≠ []) : (int_private% "readNumeral") limit 2 cs = (int_private% "Numeral.value") ((bitsVal cs : Nat) : Int) := by
  refine (readNumeral_eq limit 2 cs).trans ?_
  rw [dropWhile_digits h.digits, sign2 h]
  have e1 := based2 h
  show judge limit false (based 2 cs).1 (based 2 cs).2.1 (digits? (based 2 cs).1 (((based 2 cs).2.2.reverse.dropWhile blank).reverse)) = _
  rw [e1]
  show judge limit false 2 false (digits? 2 ((cs.reverse.dropWhile blank).reverse)) = _
  rw [dropWhile_digits h.rev.digits, List.reverse_reverse, digits2 h hne]
  have e2 := pushed2 cs #[]
  have z : (#[] : Array Nat).foldl (fun acc d => acc * 2 + d) 0 = 0 := by simp
  rw [z] at e2
  unfold judge
  dsimp only
  rw [e2]
  rfl
theorem seen2 {x : Str} (h : Bits x.cps.toList) : numTextOf x = x.cps.toList ∧ numSeenOf x = x.cps.toList :=
  numText_signs fun c hc => .inr (by have := h c hc; omega)

open PyProof.Rows in
theorem wp_maxDigits {M : Model} {A : Around} {E : Value → Shared → Prop} {s : Shared} {Q : Nat → Shared → Prop} (hn : s.heap.NoDigits) (h : Q 4300 s) : wpAny M A Builtin.intMaxStrDigits Q E s := by
  obtain ⟨mc, hns, hz⟩ := hn
  unfold Builtin.intMaxStrDigits
  refine wpAny_bind (wpAny_nsGet hns ?_)
  rw [hz]
  exact wpAny_pure h

theorem wp_text2 {M : Model} {A : Around} {E : Value → Shared → Prop} {s : Shared} {Q : Value → Shared → Prop} {v : Value} {text : List Nat} {n : Int}
    (hn : s.heap.NoDigits) (hr : ∀ limit, (int_private% "readNumeral") limit 2 (text.takeWhile (· != 0)) = (int_private% "Numeral.value") n)
    (ha : ((text.takeWhile (· != 0)).length == text.length) = true) (h : Q (.int n s.toks) { s with toks := s.toks + 1 }) :
    wpAny M A ((int_private% "intFromText") v text 2) Q E s := by
  obtain ⟨hp, g, d, tk, os⟩ := s
  by_cases hs : (text.takeWhile (· != 0)).length ≤ 640
  · exact Hx.wp_textB hs (hr 0) ha h
  · repeat (any_goals (first
      | assumption
      | (with_reducible refine wpAny_ite_false (decide_eq_false hs) ?_)
      | (with_reducible refine wpAny_ite_true (decide_eq_true ha) ?_)
      | ((with_reducible show wpAny _ _ Builtin.intMaxStrDigits _ _ _); refine wp_maxDigits hn ?_)
      | wp_step))
    all_goals (try rw [hr])
    all_goals (try dsimp only)
    repeat (any_goals (first
      | assumption
      | (with_reducible refine wpAny_ite_false (decide_eq_false hs) ?_)
      | (with_reducible refine wpAny_ite_true (decide_eq_true ha) ?_)
      | wp_step))

structure Held (p : Prop) : Prop where
  out : p
/-- what int(text, 2) wants of the state, and gives -/
def spec2 (n : Int) : Spec := fun _ R s => s.heap.NoDigits ∧ R (.ok (.ret (.int n s.toks))) { s with toks := s.toks + 1 }
set_option maxHeartbeats 4000000 in
theorem meets2 {x : PySem.Str} {u t : Tok} (h : Bits x.cps.toList) (hne : x.cps.toList ≠ []) :
    Meets (Builtin.«int.__new__» ⟨[.type "int", .str x u, .int 2 t], []⟩) (spec2 ((bitsVal x.cps.toList : Nat) : Int)) :=
  Meets.of_wp fun prog w A R s hQ => by
    obtain ⟨hp, g, d, tk, os⟩ := s
    have k1 := F.conv_sub_int
    have k2 := F.madeHere_int
    have k3 : typeOf (.str x u) = pure (.type "str") := rfl
    obtain ⟨e1, e2⟩ := seen2 h
    have hr : ∀ limit, (int_private% "readNumeral") limit 2 (numSeenOf x) = (int_private% "Numeral.value") ((bitsVal x.cps.toList : Nat) : Int) := by
      intro limit
      rw [e2]
      exact read2 limit h hne
    have ha : ((numSeenOf x).length == (numTextOf x).length) = true := by
      rw [e1, e2]
      exact beq_self_eq_true _
    have hk := Held.mk (And.intro hr (And.intro ha hQ))
    clear hr ha e1 e2 hne h hQ
    repeat (any_goals (first
      | assumption
      | ((with_reducible show wpAny _ _ ((int_private% "intFromText") _ _ _) _ _ _); refine wp_text2 hk.out.2.2.1 hk.out.1 hk.out.2.1 ?_)
      | wp_step))
    all_goals first | exact ⟨_, rfl, hk.out.2.2.2⟩ | skip
theorem call2 {prog : Program} {w : World} {A : Around} {E : Value → Shared → Prop} {s : Shared} {Q : Value → Shared → Prop} {x : PySem.Str} {u t : Tok} (hn : s.heap.NoDigits) (h : Bits x.cps.toList) (hne : x.cps.toList ≠ [])
    (hQ : Q (.int ((bitsVal x.cps.toList : Nat) : Int) s.toks) { s with toks := s.toks + 1 }) : wpAny (model prog w) A (call (.type "int") [.str x u, .int 2 t]) Q E s :=
  callType_new F.called_int F.newNe_int (Hx.typeCall_int_2 _ _) (Hx.newCall_int_2 _ _) (fun obj => F.initArgs_range_2 obj _ _) F.entry_int_new (meets2 h hne) ⟨hn, rfl, hQ⟩

/-- the facts of the written part: no limit on digits was set -/
theorem noDigits {K : PySem.W.Frag} {h : Heap} (X : K.In h) {mc : Str → Option Value} (G : h.Ns cStatics mc) (e : PySem.W.nsIn K cStatics "sys.int_max_str_digits" = some none) : h.NoDigits := by
  refine ⟨mc, G, ?_⟩
  obtain ⟨o, es, ep, ho, hd, _, hf⟩ := G
  unfold PySem.W.nsIn at e
  split at e
  · rename_i c d es' n' sl q
    have z := X _ _ q
    rw [ho] at z
    cases z
    cases hd
    split at e
    · exact nomatch e
    · rename_i hnone
      refine (hf "sys.int_max_str_digits").symm.trans ?_
      unfold nsFind
      unfold findBy
      rw [← Array.find?_toList, hnone]
      rfl
  · cases e
end XB
namespace L2
open PySem PySem.Spec PyProof.Rows
/-- int(text, 2), the text of binary signs -/
def rInt2 : List V → Hp → VK → Prop := fun xs H Q => ∃ x : Str, xs = [.str x, .int 2] ∧ XB.Bits x.cps.toList ∧ x.cps.toList ≠ [] ∧ Q (.int ((XB.bitsVal x.cps.toList : Nat) : Int)) H
theorem call_int2 {X : Cx} (e : PySem.W.nsIn X.K cStatics "sys.int_max_str_digits" = some none) : CallR X (.type "int") rInt2 := by
  intro pins s σ H xs us Q I r h
  obtain ⟨x, rfl, h1, h2, q⟩ := h
  obtain ⟨u, w', rfl, r1, r2⟩ := vals2 r
  obtain ⟨t1, rfl⟩ := r1
  obtain ⟨t2, rfl⟩ := r2
  obtain ⟨mc, G, _⟩ := I.nolimit
  exact XB.call2 (XB.noDigits I.kIn G e) h1 h2 ⟨.int _, H, I.tok _, ⟨_, rfl⟩, q⟩
end L2

namespace FG
open PySem PySem.Spec PyProof.Rows L2
/-! ### kinds of values -/
def intV : V → Bool
  | .int _ => true
  | _ => false
def figV : V → Bool
  | .int i => decide (-1 ≤ i) && decide (i ≤ 1)
  | _ => false
/-- what isinstance tells of a value: whether it is an int, a bool, a list -/
structure Kind (K : PySem.W.Frag) (H : Hp) (x : V) (i b l : Bool) : Prop where
  ex : ∃ t, TyX K H x t ∧ PySem.W.kitOne K t (.type "int") = some i ∧ PySem.W.kitOne K t (.type "bool") = some b ∧ PySem.W.kitOne K t (.type "list") = some l
section
variable {K : PySem.W.Frag} {H H' : Hp}
theorem same_upd {p : Addr} {o : HO} (h : H p = none) : Same H (upd H p o) := fun b x e => by
  have ne : b ≠ p := ne_of_none e h
  rw [upd_ne ne]
  exact e
theorem Same.tyx {x : V} {t : Value} (s : Same H H') (h : TyX K H x t) : TyX K H' x t := by
  cases h with
  | base b =>
    cases b with
    | non => exact .base .non
    | bl y => exact .base (.bl y)
    | int y => exact .base (.int y)
    | str y => exact .base (.str y)
    | flt y => exact .base (.flt y)
    | lst e => exact .base (.lst (s _ _ e))
    | frz e => exact .base (.frz (s _ _ e))
    | tup e => exact .base (.tup (s _ _ e))
    | dK e => exact .base (.dK (s _ _ e))
    | dT e => exact .base (.dT (s _ _ e))
    | ins e a b c d f => exact .base (.ins (s _ _ e) a b c d f)
  | byt y => exact .byt y
  | set e => exact .set (s _ _ e)
  | kList e c => exact .kList e c
  | kTuple e c => exact .kTuple e c
  | kDict e c => exact .kDict e c
  | fTuple e => exact .fTuple (s _ _ e)
  | fDict e => exact .fDict (s _ _ e)
theorem Kind.mono {x : V} {i b l : Bool} (k : Kind K H x i b l) (s : Same H H') : Kind K H' x i b l := by
  obtain ⟨t, h1, h2⟩ := k.ex
  exact ⟨⟨t, Same.tyx s h1, h2⟩⟩
theorem kind_of {x : V} {n : String} {i b l : Bool} (h : TyX K H x (.type n)) (h1 : kitB n "int" = some i) (h2 : kitB n "bool" = some b) (h3 : kitB n "list" = some l) : Kind K H x i b l :=
  ⟨⟨_, h, kit_ty h1, kit_ty h2, kit_ty h3⟩⟩
theorem kind_int (i : Int) : Kind K H (.int i) true false false := kind_of (.base (.int i)) (by decide +kernel) (by decide +kernel) (by decide +kernel)
theorem kind_bl (b : Bool) : Kind K H (.bl b) true true false := kind_of (.base (.bl b)) (by decide +kernel) (by decide +kernel) (by decide +kernel)
theorem kind_non : Kind K H .non false false false := kind_of (.base .non) (by decide +kernel) (by decide +kernel) (by decide +kernel)
theorem kind_str (x : Str) : Kind K H (.str x) false false false := kind_of (.base (.str x)) (by decide +kernel) (by decide +kernel) (by decide +kernel)
theorem kind_list {a : Addr} {xs : List V} (h : SqL K H a xs) : Kind K H (.ref a) false false true := by
  have z : TyX K H (.ref a) (.type "list") := by
    rcases h with h | ⟨o, its, n, hk, hc, _⟩
    · rcases h with h | ⟨o, h⟩
      · exact .base (.lst h)
      · exact .base (.frz h)
    · exact .kList hk hc
  exact kind_of z (by decide +kernel) (by decide +kernel) (by decide +kernel)
theorem kind_tup {a : Addr} {xs : List V} (h : H a = some (.tup xs)) : Kind K H (.ref a) false false false := kind_of (.base (.tup h)) (by decide +kernel) (by decide +kernel) (by decide +kernel)
theorem kind_dict {a : Addr} {kvs : List (Key × V)} (h : H a = some (.dK kvs)) : Kind K H (.ref a) false false false := kind_of (.base (.dK h)) (by decide +kernel) (by decide +kernel) (by decide +kernel)
/-- an int that is no bool: just the whole numbers -/
def Plain (K : PySem.W.Frag) (H : Hp) (x : V) : Prop := ∃ i b l, Kind K H x i b l ∧ (i && !b) = intV x
theorem Plain.mono {x : V} (h : Plain K H x) (s : Same H H') : Plain K H' x := let ⟨i, b, l, k, e⟩ := h; ⟨i, b, l, k.mono s, e⟩
theorem plain_int (i : Int) : Plain K H (.int i) := ⟨_, _, _, kind_int i, rfl⟩
theorem atI_getLast (xs : List V) (h : xs ≠ []) : atI xs (-1) = some (xs.getLast h) := by
  have e := atI_last xs.dropLast (xs.getLast h)
  rw [List.dropLast_concat_getLast] at e
  exact e
end

/-! ### rows of figures -/
/-- a row: figures alone, the last one other than 0 -/
def Row (ns : List Int) : Prop := (∀ n ∈ ns, -1 ≤ n ∧ n ≤ 1) ∧ ns.getLast? ≠ some 0
/-- what a row is worth -/
def val : List Int → Int
  | [] => 0
  | n :: r => n + 2 * val r
/-- the worth of a row's figures f alone, told by ones -/
def mk (f : Int) : List Int → Nat
  | [] => 0
  | n :: r => (if n = f then 1 else 0) + 2 * mk f r
theorem mk_val : ∀ ns : List Int, (∀ n ∈ ns, -1 ≤ n ∧ n ≤ 1) → ((mk 1 ns : Nat) : Int) - ((mk (-1) ns : Nat) : Int) = val ns
  | [], _ => rfl
  | n :: r, h => by
    have ih := mk_val r fun m hm => h m (List.mem_cons_of_mem _ hm)
    have hn := h n List.mem_cons_self
    show (((if n = 1 then 1 else 0) + 2 * mk 1 r : Nat) : Int) - (((if n = -1 then 1 else 0) + 2 * mk (-1) r : Nat) : Int) = n + 2 * val r
    have c : n = -1 ∨ n = 0 ∨ n = 1 := by omega
    rcases c with e | e | e <;> subst e <;> simp <;> omega
/-- the sign of a figure, asked for f -/
def sg (f n : Int) : Nat := if n = f then 49 else 48
theorem sg_bits (f : Int) (ns : List Int) : XB.Bits (48 :: ns.map (sg f)) := fun c hc => by
  rcases List.mem_cons.mp hc with e | e
  · exact .inl e
  · obtain ⟨n, _, e⟩ := List.mem_map.mp e
    subst e
    unfold sg
    split
    · exact .inr rfl
    · exact .inl rfl
theorem sg_val (f : Int) (ns : List Int) : XB.bitsVal (48 :: (ns.reverse.map (sg f))) = mk f ns := by
  unfold XB.bitsVal
  rw [List.foldl_cons, List.map_reverse, List.foldl_reverse]
  induction ns with
  | nil => rfl
  | cons n r ih =>
    rw [List.map_cons, List.foldr_cons, ih]
    show 2 * mk f r + (sg f n - 48) = (if n = f then 1 else 0) + 2 * mk f r
    unfold sg
    split <;> omega
/-! ### texts of signs -/
def sign1 (c : Nat) : Str := ⟨#[c]⟩
theorem joinL_nil : ∀ ls : List (List Nat), TL.joinL [] ls = ls.flatten
  | [] => rfl
  | [p] => by simp [TL.joinL]
  | p :: q :: r => by
    have ih := joinL_nil (q :: r)
    show p ++ ([] ++ TL.joinL [] (q :: r)) = (p :: q :: r).flatten
    rw [ih]
    simp
theorem joined_signs (e : Str) (he : e.cps.toList = []) (cs : List Nat) : (Txt.join e (cs.map sign1)).cps.toList = cs := by
  have h := TL.tl_join e (cs.map sign1)
  rw [← TL.join_eq] at h
  have h0 : TL.tl e = [] := he
  rw [h0, joinL_nil, List.map_map] at h
  refine Eq.trans h ?_
  induction cs with
  | nil => rfl
  | cons c r ih =>
    have h' := TL.tl_join e (r.map sign1)
    rw [← TL.join_eq, h0, joinL_nil, List.map_map] at h'
    rw [List.map_cons, List.flatten_cons, ih h']
    rfl
theorem app_list (a b : Str) : (a ++ b).cps.toList = a.cps.toList ++ b.cps.toList := by
  show (a.cps ++ b.cps).toList = _
  simp

/-! ### lists of whole numbers compared -/
def dI (ns : List Int) : PyData := .list (ns.map PyData.int)
theorem dI_depthAll : ∀ ns : List Int, PyData.depthAll (ns.map PyData.int) ≤ 1
  | [] => by simp [PyData.depthAll]
  | n :: r => by
    have ih := dI_depthAll r
    simp only [List.map_cons, PyData.depthAll, PyData.depth]
    omega
theorem dI_lay : ∀ ns : List Int, PyData.canLayAll0 (ns.map PyData.int) = true
  | [] => by simp [PyData.canLayAll0]
  | n :: r => by
    have ih := dI_lay r
    simp [PyData.canLayAll0, PyData.canLay0, ih]
theorem dI_shaped (ns : List Int) : SeqAt.shaped (dI ns) = true := by
  have h1 := dI_depthAll ns
  have h2 : PyData.depth (dI ns) ≤ 64 := by
    simp only [dI, PyData.depth]
    omega
  unfold SeqAt.shaped
  rw [Bool.and_eq_true]
  exact ⟨by simp only [dI, PyData.canLay0]; exact dI_lay ns, decide_eq_true h2⟩
theorem dI_eqvAll : ∀ ns ms : List Int, PyData.eqvAll (ns.map PyData.int) (ms.map PyData.int) = decide (ns = ms)
  | [], [] => by simp [PyData.eqvAll]
  | [], _ :: _ => by simp [PyData.eqvAll]
  | _ :: _, [] => by simp [PyData.eqvAll]
  | n :: r, m :: t => by
    have ih := dI_eqvAll r t
    simp only [List.map_cons, PyData.eqvAll, PyData.eqv, ih]
    by_cases h1 : n = m
    · by_cases h2 : r = t
      · simp [h1, h2]
      · simp [h1, h2]
    · simp [h1]
theorem dI_eqv (ns ms : List Int) : PyData.eqv (dI ns) (dI ms) = decide (ns = ms) := by
  show PyData.eqvAll _ _ = _
  exact dI_eqvAll ns ms
theorem dpAll {K : PySem.W.Frag} {H : Hp} : ∀ ns : List Int, DpAll K H (ns.map V.int) (ns.map PyData.int)
  | [] => .nil
  | n :: r => .cons (.int n) (dpAll r)
theorem dp_ints {K : PySem.W.Frag} {H : Hp} {a : Addr} {ns : List Int} (h : SqL K H a (ns.map V.int)) : Dp K H (.ref a) (dI ns) := .lst h (dpAll ns)
/-- the item behind the last but none: xs[-1:] -/
theorem cutLast (ns : List Int) : cutV (ns.map V.int) (some (-1)) none = (ns.drop (ns.length - 1)).map V.int := by
  have e : HT.sIx (ns.map V.int).length 0 (some (-1)) = ns.length - 1 := by
    show (if (-1 : Int) < 0 then ((-1 : Int) + ((ns.map V.int).length : Int)).toNat else min (-1 : Int).toNat (ns.map V.int).length) = _
    rw [if_pos (by decide), List.length_map]
    show ((-1 : Int) + (ns.length : Int)).toNat = ns.length - 1
    omega
  unfold cutV
  rw [e, HT.sIx_none, List.map_drop]
  apply List.take_of_length_le
  rw [List.length_drop, List.length_map]
  omega
theorem last_zero {ns : List Int} (h : ns.getLast? ≠ some 0) : ns.drop (ns.length - 1) ≠ [0] := fun e => by
  apply h
  rw [List.getLast?_eq_getElem?]
  have z := congrArg (fun l => l[0]?) e
  simp only [List.getElem?_drop] at z
  simpa using z
theorem val_append : ∀ (a b : List Int), val (a ++ b) = val a + 2 ^ a.length * val b
  | [], b => by simp [val]
  | n :: r, b => by
    have ih := val_append r b
    show n + 2 * val (r ++ b) = n + 2 * val r + 2 ^ (r.length + 1) * val b
    rw [ih, Int.pow_succ, Int.mul_add]
    have : (2 : Int) ^ r.length * 2 * val b = 2 * (2 ^ r.length * val b) := by
      rw [Int.mul_comm ((2 : Int) ^ r.length) 2, Int.mul_assoc]
    omega
theorem val_take {ns : List Int} {i : Nat} (h : i < ns.length) : val (ns.take (i + 1)) = val (ns.take i) + ns[i] * 2 ^ i := by
  rw [List.take_add_one, List.getElem?_eq_getElem h, val_append]
  have e : (ns.take i).length = i := by
    rw [List.length_take]
    omega
  rw [e]
  show _ + 2 ^ i * (ns[i] + 2 * 0) = _
  rw [Int.mul_zero, Int.add_zero, Int.mul_comm]

/-- a loop over enumerate of a list: Inv by the turn -/
theorem for_enum {K : PySem.W.Frag} {a : Addr} {xs : List V} {g : TG} {tb : TS} {D : Ends} {σ : L2.St} {H : Hp} (Iv : Nat → L2.St → Hp → Prop) (start : Iv 0 σ H) (still : ∀ i σ H, Iv i σ H → SqL K H a xs)
    (turn : ∀ (i : Nat) (x : V) (t : Addr) (σ : L2.St) (H : Hp), xs[i]? = some x → Iv i σ H → H t = none → g (.ref t) σ (upd H t (.tup [.int (i : Nat), x])) fun σ2 H2 => tb { D with nx := Iv (i + 1), ct := Iv (i + 1), bk := D.nx } σ2 H2)
    (stop : ∀ σ H, Iv xs.length σ H → D.nx σ H) :
    ∃ W : Nat → Nat → L2.St → Hp → Prop, (∃ m, W 0 m σ H) ∧ ∀ i m σ H, W i m σ H →
      ((Ite K a).stop i H ∧ D.nx σ H) ∨ ((Ite K a).go i H ∧ ∃ N : L2.St → Hp → Prop, (∀ σ' H', N σ' H' → ∃ m', m' < m ∧ W (i + 1) m' σ' H') ∧ ∀ v H', (Ite K a).yld i H v H' → g v σ H' fun σ2 H2 => tb { D with nx := N, ct := N, bk := D.nx } σ2 H2) := by
  refine ⟨fun i m σ H => i + m = xs.length ∧ Iv i σ H, ⟨xs.length, Nat.zero_add _, start⟩, fun i m σ H hW => ?_⟩
  obtain ⟨em, iv⟩ := hW
  have sq := still i σ H iv
  by_cases hi : i < xs.length
  · refine .inr ⟨⟨xs, xs[i], sq, List.getElem?_eq_getElem hi⟩, Iv (i + 1), fun σ' H' h' => ⟨m - 1, by omega, by omega, h'⟩, fun v H' hy => ?_⟩
    obtain ⟨t, x, rfl, nt, rfl, fx⟩ := hy
    exact turn i x t σ H (fx _ sq) iv nt
  · have e : i = xs.length := by omega
    subst e
    exact .inl ⟨⟨xs, sq, Nat.le_refl _⟩, stop σ H iv⟩
theorem small_ok {n : Nat} (h : n ≤ 64) : n ≤ sizeLine := Nat.le_trans h (by decide)
/-- of each two neighbours one is 0 -/
def gaps : List Int → Bool
  | x :: y :: r => (decide (x = 0) || decide (y = 0)) && gaps (y :: r)
  | _ => true
/-- a row is handed in at a -/
def RowAt (K : PySem.W.Frag) (H : Hp) (a : Addr) (ns : List Int) : Prop := SqL K H a (ns.map V.int) ∧ Row ns ∧ ns.length ≤ 4000000
theorem RowAt.mono {K : PySem.W.Frag} {H H' : Hp} {a : Addr} {ns : List Int} (r : RowAt K H a ns) (s : Same H H') : RowAt K H' a ns := ⟨s.seq r.1, r.2⟩
end FG

/-! an f-string with the field {n:b} -/
namespace XB
open PySem PySem.Calls PySem.W Builtin Builtin.Int Builtin.Float PyProof.Rows

/-- the signs of a number at twos, a minus ahead -/
def binSigns (a : Int) : List Nat := (if decide (a < 0) = true then [45] else []) ++ (Nat.toDigits 2 a.natAbs).map Char.toNat
def binText (a : Int) : PySem.Str := ⟨(binSigns a).toArray⟩

theorem toDigits_ne (n : Nat) : (Nat.toDigits 2 n).isEmpty = false := by
  cases e : Nat.toDigits 2 n with
  | cons c r => rfl
  | nil => 
    have := Nat.toDigits_ne_nil (n := n) (b := 2)
    exact absurd e this

/-- a field without width, fill or sign -/
theorem plainField (f : FormatSpec) (a : Int) (hd : (Nat.toDigits 2 a.natAbs).isEmpty = false) (h1 : f.width = none) (h2 : f.sign = none) (h3 : f.grouping = none) (h4 : f.align = 62) (h5 : f.fill = 32) :
    intField' f (decide (a < 0)) [] ((Nat.toDigits 2 a.natAbs).map fun c => (if (98 : Nat) == 88 then c.toUpper else c).toNat) [] 4 = binText a := by
  have e0 : ((Nat.toDigits 2 a.natAbs).map fun c => (if (98 : Nat) == 88 then c.toUpper else c).toNat) = (Nat.toDigits 2 a.natAbs).map Char.toNat := rfl
  rw [e0]
  have e1 : ((Nat.toDigits 2 a.natAbs).map Char.toNat).isEmpty = false := by simpa using hd
  unfold intField' binText binSigns
  simp only [h1, h2, h3, h4, h5, e1]
  by_cases hn : a < 0
  · simp [hn]
  · simp [hn]

set_option maxHeartbeats 4000000 in
theorem meets_b (a : Int) (t u : Tok) (hl : (binText a).length ≤ sizeLine) : Meets (Builtin.«int.__format__» ⟨[.int a t, .str (Str.ofString "b") u], []⟩) (fun _ R s => ∀ t' k, R (.ok (.ret (.str (binText a) t'))) { s with toks := k }) := by
  apply KPc.meets_of
  intro prog w A R s Q hQ
  unfold Builtin.«int.__format__»
  refine wpAny_bind (wpAny_of_eq (a := (_, _)) rfl ?_)
  refine wpAny_bind (wpAny_of_eq (a := a) rfl ?_)
  kxf_if
  refine wpAny_bind (wpAny_typeNameOf (T := "str") (typeIs_str _ _ _) (by decide) fun _ => ?_)
  refine wpAny_bind (wpAny_of_eq (a := some _) rfl ?_)
  kxf_if
  kxf_if
  refine wpAny_bind (wpAny_typeNameOfCut_int ?_)
  have ep : ∃ f, parseFormatSpec (Str.ofString "b").cps.toList "int" 62 = .ok f ∧ f.type = some 98 ∧ f.precision = none ∧ f.noNeg0 = false ∧ f.width = none ∧ f.alt = false ∧ f.sign = none ∧ f.grouping = none ∧ f.align = 62 ∧ f.fill = 32 := ⟨_, rfl, rfl, rfl, rfl, rfl, rfl, rfl, rfl, rfl, rfl⟩
  obtain ⟨f, e0, e1, e2, e3, e4, e5, e6, e7, e8, e9⟩ := ep
  have hf := fun hd => plainField f a hd e4 e6 e7 e8 e9
  have hd := toDigits_ne a.natAbs
  rw [e0]
  dsimp only
  rw [e1]
  kxf_if
  cases f
  dsimp only at e1 e2 e3 e4 e5 e6 e7 e8 e9
  subst e1 e2 e3 e4 e5 e6 e7 e8 e9
  exact KXf.ret_text (hf hd) (Nat.le_trans (Nat.le_of_eq (congrArg PySem.Str.length (hf hd))) hl) hQ
theorem field_b {prog : Program} {w : World} {A : Around} {E : Value → Shared → Prop} {s : Shared} {Q : Value → Shared → Prop} {a : Int} {t : Tok} (hl : (binText a).length ≤ sizeLine)
    (h : ∀ t' k, Q (.str (binText a) t') { s with toks := k }) : wpAny (model prog w) A (formatField (.int a t) (Str.ofString "b")) Q E s :=
  KXf.field_int rfl (by decide +kernel) (by decide +kernel) (fun u => meets_b a t u hl) h
end XB
namespace L2
open PySem PySem.Spec PyProof.Rows
/-- {n:b}: a whole number at twos -/
def tFmtB (te : TE) : TE := fun σ H Q => te σ H fun x H1 => ∃ i : Int, x = .int i ∧ (XB.binText i).length ≤ sizeLine ∧ Q (.str (XB.binText i)) H1
theorem pe_fmtB {X : Cx} {e : Expr} {te : TE} {pos p1 p2 : Pos} {k : Nat} (he : PE X e te) : PE X (.FormattedValue e (-1) (some (.JoinedStr [.Constant (.str (Str.ofString "b")) k p1] p2)) pos) (tFmtB te) := by
  refine ⟨fun pins s σ H Q I h => ?_⟩
  refine wpAny_FormattedValue_spec (thn (he.run pins s σ H _ I h) fun v s1 hv => ?_)
  obtain ⟨x, H1, I1, r1, i, rfl, hz, q⟩ := hv
  obtain ⟨t, rfl⟩ := r1
  refine wpAny_JoinedStr_one (Calls.Constant_str ⟨_, _, rfl, ?_⟩)
  exact XB.field_b hz fun t' k' => ⟨.str (XB.binText i), H1, I1.tok _, ⟨_, rfl⟩, q⟩
end L2

/-! text[::-1] -/
namespace L2
open PySem PySem.Spec PyProof.Rows PySem.Builtin PySem.Builtin.Str
/-- the signs of a text, turned round -/
theorem turned_list (x : Str) (u : Tok) : (Txt.sliceBy x none none (-1, u)).cps.toList = x.cps.toList.reverse := by
  rw [step_rev_list]
  apply List.ext_getElem
  · rw [List.length_map, List.length_range, List.length_reverse, Array.length_toList]
    rfl
  · intro i h1 h2
    have hi : i < x.cps.size := by simpa using h2
    have e : x.length = x.cps.size := rfl
    rw [List.getElem_map, List.getElem_range, List.getElem_reverse, e]
    have hj : x.cps.size - 1 - i < x.cps.size := by omega
    simp [Array.getD, hj]
def tRevT (te : TE) : TE := fun σ H Q => te σ H fun x H1 => ∃ z : Str, x = .str z ∧ z.length ≤ sizeLine ∧ ∀ y : Str, y.cps.toList = z.cps.toList.reverse → Q (.str y) H1
theorem pe_revT {X : Cx} {e : Expr} {te : TE} {k : Nat} {p1 p2 p3 pos : Pos} (he : PE X e te) : PE X (.Subscript e (.Slice none none (some (.UnaryOp .USub (.Constant (.int 1) k p1) p2)) p3) pos) (tRevT te) := by
  refine ⟨fun pins s σ H Q I h => ?_⟩
  refine Subscript_ (thn (he.run pins s σ H _ I h) fun v s1 ⟨x, H1, I1, r1, z, ex, hz, q⟩ => ?_)
  subst ex
  obtain ⟨t, rfl⟩ := r1
  have hst : PO X (some (.UnaryOp .USub (.Constant (.int 1) k p1) p2)) (tPart (tUn (rU fun i => .int (-i)) (tC (.int 1)))) := po_some (pe_un un_neg pe_int)
  refine wpAny_Slice (thn (po_none.run pins s1 σ H1 (fun o H2 => o = none ∧ H2 = H1) I1 ⟨rfl, rfl⟩) fun vl s2 ⟨l, H2, I2, pl, el, e2⟩ => ?_)
  subst el
  subst e2
  refine thn (po_none.run pins s2 σ H2 (fun o H3 => o = none ∧ H3 = H2) I2 ⟨rfl, rfl⟩) fun vu s3 ⟨u, H3, I3, pu, eu, e3⟩ => ?_
  subst eu
  subst e3
  refine thn (hst.run pins s3 σ H3 (fun o H4 => o = some (-1) ∧ H4 = H3) I3 ⟨1, rfl, -1, rfl, rfl, rfl⟩) fun vs s4 ⟨o, H4, I4, ps, eo, e4⟩ => ?_
  subst eo
  subst e4
  obtain ⟨l', h1, h2⟩ := IsPart.raw pl
  obtain ⟨u', h3, h4⟩ := IsPart.raw pu
  obtain ⟨st', h5, h6⟩ := IsPart.raw ps
  cases l' with
  | some y => exact nomatch h2
  | none =>
    cases u' with
    | some y => exact nomatch h4
    | none =>
      cases st' with
      | none => exact nomatch h6
      | some y =>
        obtain ⟨j, tj⟩ := y
        have ej : j = -1 := Option.some.inj h6
        subst ej
        subst h1
        subst h3
        subst h5
        have I5 : Inv X pins σ H4 { s4 with heap := s4.heap.push { cls := .type "slice", data := .fields #[.none, .none, .int (-1) tj] } } := I4.kept (t' := s4.toks) fun b ob g => Heap.get?_push_of_some _ g
        refine tail_any (ops := [.ref s4.heap.objs.size, .str z t]) (typeIs_str _ _ _) PySem.F.slot_str_getitem.lookup ?_ (by with_unfolding_all rfl)
        refine wpAny_getItem_str_slice (l := none) (u := none) (st := some (-1, tj)) ⟨_, Heap.get?_push_size _ rfl, rfl, rfl⟩ rfl ?_
        refine post_val_or_str ⟨Nat.le_trans (Txt.sliceBy_le z none none (-1, tj) (show (-1 : Int) ≠ 0 by decide)) hz, fun t' c => ?_⟩
        exact ⟨.str (Txt.sliceBy z none none (-1, tj)), H4, I5.tok _, ⟨_, rfl⟩, q _ (turned_list z tj)⟩
end L2

set_option maxHeartbeats 4000000
/-! for a, b in zip(x, y), x and y two texts -/
namespace FG
open PySem PySem.Spec PyProof.Rows L2
/-- two texts, sign by sign, the signs in new pairs -/
def ItzS (x y : Str) : It :=
  ⟨fun i _ => i < x.cps.size ∧ i < y.cps.size, fun i H v H' => ∃ t c d, v = .ref t ∧ H t = none ∧ H' = upd H t (.tup [.str (sign1 c), .str (sign1 d)]) ∧ x.cps[i]? = some c ∧ y.cps[i]? = some d,
    fun i _ => x.cps.size ≤ i ∨ y.cps.size ≤ i⟩
/-- where the zip stands at its turn -/
def StzS (z q1 q2 i1 i2 : Addr) (x y : Str) (t u : Tok) (i : Nat) (h : Heap) : Prop :=
  i ≤ x.cps.size ∧ i ≤ y.cps.size ∧ IsZip h z q1 q2 .none ∧ IsTupOf2 h q1 (.ref i1) (.ref i2) ∧ (∃ a b, IsTupOf2 h q2 a b) ∧ h.IsStrIter i1 (strIterType x) x t i ∧ h.IsStrIter i2 (strIterType y) y u i
theorem turn_zipS {P : Program} {w : World} {K : PySem.W.Frag} {elts : List Expr} {kk : Nat} {tpos : Pos} {z q1 q2 i1 i2 : Addr} {x y : Str} {t u : Tok} (D : ZipSep2 z q1 q2 i1 i2 [i1] [i2]) :
    Turn P w K (.Tuple elts kk tpos) (ItzS x y) [z, q1, q2, i1, i2] z (StzS z q1 q2 i1 i2 x y t u) where
  mem := by simp
  obj := fun i h st c hc => by
    obtain ⟨_, _, hz, h1, ⟨a, b, h2⟩, ⟨o1, g1, _, d1⟩, ⟨o2, g2, _, d2⟩⟩ := st
    have hc' : c = z ∨ c = q1 ∨ c = q2 ∨ c = i1 ∨ c = i2 := by simpa using hc
    rcases hc' with e | e | e | e | e <;> subst e
    · exact ⟨_, hz, fun v q => nomatch q⟩
    · exact ⟨_, h1, fun v q => nomatch q⟩
    · exact ⟨_, h2, fun v q => nomatch q⟩
    · exact ⟨o1, g1, fun v q => by rw [d1] at q; exact nomatch q⟩
    · exact ⟨o2, g2, fun v q => by rw [d2] at q; exact nomatch q⟩
  keep := fun i h h' st k => by
    obtain ⟨l1, l2, hz, h1, ⟨a, b, h2⟩, g1, g2⟩ := st
    obtain ⟨o1, e1, r1⟩ := g1
    obtain ⟨o2, e2, r2⟩ := g2
    exact ⟨l1, l2, k z (by simp) _ hz, k q1 (by simp) _ h1, ⟨a, b, k q2 (by simp) _ h2⟩, ⟨o1, k i1 (by simp) _ e1, r1⟩, ⟨o2, k i2 (by simp) _ e2, r2⟩⟩
  item := by
    intro X hP hw hK hc i pins s σ H E I hf st hg
    subst hP
    subst hw
    subst hK
    obtain ⟨l1, l2, hz, h1, ⟨a, b, h2⟩, g1, g2⟩ := st
    have hh := I.ok.hd hc
    have zl : z < s.heap.objs.size := Heap.lt_size hz
    refine wpAny_pyNext_zipD2_item D (Draws.text (A := X.A.in1) hh i1 x t) (Draws.text (A := X.A.in1) hh i2 y u) hz h1 h2 g1 g2 hg.1 hg.2 fun v1 v2 h' tk p1 p2 z' h2' g1' g2' hT hsz hk => ?_
    obtain ⟨c, u1, ec, rfl⟩ := p1
    obtain ⟨d, u2, ed, rfl⟩ := p2
    refine ⟨_, rfl, wpAny_letOwnedTupleGo_zip (s := { s with heap := h', toks := tk }) z' fun h'' z'' sb => ?_⟩
    have far : s.heap.objs.size ≠ z := Nat.ne_of_gt zl
    have hT2 := (sb.2 _ far).trans hT
    have new : ObjOk X.prog X.w (upd H s.heap.objs.size (.tup [.str (sign1 c), .str (sign1 d)])) h'' s.heap.objs.size (.tup [.str (sign1 c), .str (sign1 d)]) :=
      ⟨small_ok (by simp), [_, _], .cons ⟨u1, rfl⟩ (.cons ⟨u2, rfl⟩ .nil), ⟨_, hT2, rfl, _, rfl⟩⟩
    have I1 : Inv X pins σ (upd H s.heap.objs.size (.tup [.str (sign1 c), .str (sign1 d)])) { s with heap := h'', toks := tk } :=
      I.turnedNew (t' := tk) (ch := [z, q1, q2, i1, i2]) (fun b o hb e => (sb.2 b fun r => hb (by simp [r])).trans (hk b o (fun r => hb (by simp [r])) (fun r => hb (by simp [r])) (fun r => hb (by simp [r])) (fun r => hb (by simp [r])) e)) hf (Nat.le_refl _) new
    have keepI : ∀ {j : Addr} {w : Str} {v : Tok} {m : Nat}, j ≠ z → h'.IsStrIter j (strIterType w) w v m → h''.IsStrIter j (strIterType w) w v m := fun nj ⟨o, e, r⟩ => ⟨o, (sb.2 _ nj).trans e, r⟩
    refine ⟨.ref s.heap.objs.size, _, I1, rfl, ⟨_, c, d, rfl, I.hok.fresh (Nat.le_refl _), rfl, ec, ed⟩, ⟨hg.1, hg.2, z'', ?_, ⟨.str ⟨#[c]⟩ u1, .str ⟨#[d]⟩ u2, ?_⟩, keepI D.zi1.symm g1', keepI D.zi2.symm g2'⟩, fun b hb => ?_⟩
    · exact (sb.2 _ D.TIz).trans (hk _ _ D.TIz D.TITO D.TIi1 D.TIi2 h1)
    · exact (sb.2 _ D.TOz).trans h2'
    · have lb : b < s.heap.objs.size := by
        obtain ⟨o1, e1, _⟩ := g1
        obtain ⟨o2, e2, _⟩ := g2
        have hb' : b = z ∨ b = q1 ∨ b = q2 ∨ b = i1 ∨ b = i2 := by simpa using hb
        rcases hb' with r | r | r | r | r <;> rw [r]
        · exact zl
        · exact Heap.lt_size h1
        · exact Heap.lt_size h2
        · exact Heap.lt_size e1
        · exact Heap.lt_size e2
      rw [upd_ne (Nat.ne_of_lt lb)]
      exact (hf b hb).1
  done := by
    intro X hP hw hK hc i pins s σ H E I hf st hg
    subst hP
    subst hw
    subst hK
    obtain ⟨l1, l2, hz, h1, ⟨a, b, h2⟩, g1, g2⟩ := st
    have hh := I.ok.hd hc
    have he : i = x.cps.size ∨ i = y.cps.size := by
      rcases hg with e | e
      · exact .inl (Nat.le_antisymm l1 e)
      · exact .inr (Nat.le_antisymm l2 e)
    exact wpAny_pyNext_zipD2_end D (Draws.text (A := X.A.in1) hh i1 x t) (Draws.text (A := X.A.in1) hh i2 y u) hz h1 h2 g1 g2 l1 l2 he fun h' tk hk => ⟨rfl, I.turnedL (t' := tk) (ch := [z, q1, q2, i1, i2]) (fun c o hb e =>
      hk c o (fun r => hb (by simp [r])) (fun r => hb (by simp [r])) (fun r => hb (by simp [r])) (fun r => hb (by simp [r])) e) hf⟩
  self := fun A i s Q E st h => wpAny_pyIter_zip st.2.2.1 h
def iZipS (ta : TA) : TI := fun σ H R => ta σ H fun vs H1 => ∃ x y : Str, vs = [.str x, .str y] ∧ R (ItzS x y) H1
theorem pi_zipS {X : Cx} {e e2 : Expr} {ta : TA} {p pos tpos : Pos} {elts : List Expr} {kk : Nat} (hg : Gl X "zip") (hm : X.mg "zip" = none) (ha : PA X [e, e2] ta)
    (hs : starEach [e, e2] X.env = (false, eval e X.env) :: starEach [e2] X.env := by rfl) (hpl : (backTo pos (starEach [e2] X.env)).any (·.1) = false := by rfl) :
    PI X (.Tuple elts kk tpos) (.Call (.Name "zip" p) [e, e2] [] pos) (iZipS ta) := by
  refine ⟨fun pins s σ H R I h => ?_⟩
  refine Call_ (ld_blt I hg hm PyProof.Rows.boot_zip (PyProof.Rows.callWith_type1 (thn (ha.run pos pins s σ H _ I h) fun us s1 ⟨vs, H1, I1, r1, x, y, ev, q⟩ => ?_) hs hpl))
  subst ev
  obtain ⟨v1, v2, rfl, g1, g2⟩ := vals2 r1
  obtain ⟨t, rfl⟩ := g1
  obtain ⟨u, rfl⟩ := g2
  refine zip_begins2 (begins_text x t) (begins_text y u) trivial trivial fun h' hz h1 h2 e1 e2 hsz hk => wpAny_pyIter_zip hz ?_
  have I2 : Inv X pins σ H1 { s1 with heap := h' } := I1.kept (t' := s1.toks) hk
  have D : ZipSep2 (s1.heap.objs.size + 4) (s1.heap.objs.size + 2) (s1.heap.objs.size + 3) s1.heap.objs.size (s1.heap.objs.size + 1) [s1.heap.objs.size] [s1.heap.objs.size + 1] :=
    zip_sep2 (N := s1.heap.objs.size) (fp1 := []) (fp2 := []) (fun b hb => nomatch hb) (fun b hb => nomatch hb)
  refine ⟨s1.heap.objs.size + 4, [s1.heap.objs.size + 4, s1.heap.objs.size + 2, s1.heap.objs.size + 3, s1.heap.objs.size, s1.heap.objs.size + 1], _, _, H1, rfl, I2, turn_zipS (x := x) (y := y) (t := t) (u := u) D,
    ⟨Nat.zero_le _, Nat.zero_le _, hz, h1, ⟨_, _, h2⟩, ⟨_, e1, rfl, rfl⟩, ⟨_, e2, rfl, rfl⟩⟩, fun b hb => ?_, q⟩
  have hb' : b = s1.heap.objs.size + 4 ∨ b = s1.heap.objs.size + 2 ∨ b = s1.heap.objs.size + 3 ∨ b = s1.heap.objs.size ∨ b = s1.heap.objs.size + 1 := by simpa using hb
  have lb : s1.heap.objs.size ≤ b := by
    rcases hb' with r | r | r | r | r <;> rw [r]
    · exact Nat.le_add_right _ _
    · exact Nat.le_add_right _ _
    · exact Nat.le_add_right _ _
    · exact Nat.le_refl _
    · exact Nat.le_add_right _ _
  exact I1.fpOk lb (I1.hok.fresh lb)
end FG

namespace FG
open PySem PySem.Spec PyProof.Rows L2
/-- list + list, each one a list that is read, the script too -/
def rCatS (K : PySem.W.Frag) : R2 := fun x y H Q => ∃ l b xs zs, x = .ref l ∧ y = .ref b ∧ SqL K H l xs ∧ SqL K H b zs ∧ xs.length + zs.length ≤ sizeLine ∧ ∀ p, H p = none → Q (.ref p) (upd H p (.lst (xs ++ zs)))
theorem op_catS {X : Cx} : OpR X (binaryOp .Add) (rCatS X.K) := by
  intro pins s σ H x y v u Q I rx ry h
  obtain ⟨l, b, xs, zs, rfl, rfl, h1, h2, hz, q⟩ := h
  cases rx
  cases ry
  obtain ⟨its, r1, p1, _⟩ := I.list h1
  obtain ⟨jts, r2, p2, _⟩ := I.list h2
  obtain ⟨⟨c1, e1, d1, t1⟩, g1, k1, n1, w1⟩ := p1.isList
  obtain ⟨⟨c2, e2, d2, t2⟩, g2, k2, n2, w2⟩ := p2.isList
  simp only at k1 w1 k2 w2
  subst k1
  subst w1
  subst k2
  subst w2
  have hl1 := r1.length
  have hl2 := r2.length
  have e : its.toArray ++ jts.toArray = (its ++ jts).toArray := by simp
  refine concat_meets ⟨_, g1, rfl⟩ ⟨_, g2, rfl⟩ noFill_list_add seq_list_add PySem.F.slot_list_add PySem.F.entry_list_add (PySem.F.args_list_add_2 _ _)
    (list_addW l b its.toArray jts.toArray n1 n2 e1 e2 t1 t2 (by rw [List.size_toArray, List.size_toArray]; omega)) ⟨g1, g2, ?_⟩
  rw [e]
  exact ⟨.ref _, _, I.lnew (t' := s.toks) (r1.append r2) (by rw [List.length_append]; omega), rfl, q _ I.fresh⟩
end FG

set_option maxHeartbeats 4000000
namespace FG
open PySem PyProof.Rows L2
open PySem.Builtin (bitAnd bitOr bitXor bitNot)
/-! ### the places of whole numbers -/
theorem nat_and (a b : Nat) : a &&& b = 2 * (a / 2 &&& b / 2) + (a % 2) * (b % 2) := by
  have h1 := @Nat.and_div_two a b
  have h2 := @Nat.and_mod_two_eq_one a b
  have ha : a % 2 = 0 ∨ a % 2 = 1 := by omega
  have hb : b % 2 = 0 ∨ b % 2 = 1 := by omega
  rw [← h1]
  generalize a &&& b = W at h2 ⊢
  clear h1
  rcases ha with ha | ha <;> rcases hb with hb | hb <;> rw [ha, hb] at h2 ⊢ <;> omega
theorem nat_or (a b : Nat) : a ||| b = 2 * (a / 2 ||| b / 2) + (a % 2 + b % 2 - (a % 2) * (b % 2)) := by
  have h1 := @Nat.or_div_two a b
  have h2 := @Nat.or_mod_two_eq_one a b
  have ha : a % 2 = 0 ∨ a % 2 = 1 := by omega
  have hb : b % 2 = 0 ∨ b % 2 = 1 := by omega
  rw [← h1]
  generalize a ||| b = W at h2 ⊢
  clear h1
  rcases ha with ha | ha <;> rcases hb with hb | hb <;> rw [ha, hb] at h2 ⊢ <;> omega
theorem not_half (x : Int) : bitNot x / 2 = bitNot (x / 2) ∧ bitNot x % 2 = 1 - x % 2 := by
  unfold bitNot
  omega
theorem and_pp {x y : Int} (hx : 0 ≤ x) (hy : 0 ≤ y) : bitAnd x y = ((x.toNat &&& y.toNat : Nat) : Int) := by
  unfold bitAnd
  rw [decide_eq_true hx, decide_eq_true hy]
theorem and_pn {x y : Int} (hx : 0 ≤ x) (hy : y < 0) : bitAnd x y = x - ((x.toNat &&& (bitNot y).toNat : Nat) : Int) := by
  unfold bitAnd
  rw [decide_eq_true hx, decide_eq_false (by omega)]
theorem and_np {x y : Int} (hx : x < 0) (hy : 0 ≤ y) : bitAnd x y = y - ((y.toNat &&& (bitNot x).toNat : Nat) : Int) := by
  unfold bitAnd
  rw [decide_eq_false (by omega), decide_eq_true hy]
theorem and_nn {x y : Int} (hx : x < 0) (hy : y < 0) : bitAnd x y = bitNot (((bitNot x).toNat ||| (bitNot y).toNat : Nat) : Int) := by
  unfold bitAnd
  rw [decide_eq_false (by omega), decide_eq_false (by omega)]
theorem bit01 (x : Int) : x % 2 = 0 ∨ x % 2 = 1 := by omega
theorem nbit01 (x : Nat) : x % 2 = 0 ∨ x % 2 = 1 := by omega
theorem and_half (x y : Int) : bitAnd x y = 2 * bitAnd (x / 2) (y / 2) + (x % 2) * (y % 2) := by
  by_cases hx : 0 ≤ x <;> by_cases hy : 0 ≤ y
  · rw [and_pp hx hy, and_pp (x := x / 2) (y := y / 2) (by omega) (by omega), nat_and]
    have e1 : x.toNat / 2 = (x / 2).toNat := by omega
    have e2 : y.toNat / 2 = (y / 2).toNat := by omega
    rw [e1, e2]
    rcases bit01 x with h1 | h1 <;> rcases bit01 y with h2 | h2 <;> rw [h1, h2]
    all_goals
      have q1 : x.toNat % 2 = (x % 2).toNat := by omega
      have q2 : y.toNat % 2 = (y % 2).toNat := by omega
      rw [q1, q2, h1, h2]
      simp
  · have hy' : y < 0 := by omega
    rw [and_pn hx hy', and_pn (x := x / 2) (y := y / 2) (by omega) (by omega), nat_and]
    have n := not_half y
    have e1 : x.toNat / 2 = (x / 2).toNat := by omega
    have e2 : (bitNot y).toNat / 2 = (bitNot (y / 2)).toNat := by
      rw [← n.1]
      omega
    rw [e1, e2]
    have q1 : x.toNat % 2 = (x % 2).toNat := by omega
    have q2 : (bitNot y).toNat % 2 = (1 - y % 2).toNat := by
      have : 0 ≤ bitNot y := by unfold bitNot; omega
      omega
    rw [q1, q2]
    generalize ((x / 2).toNat &&& (bitNot (y / 2)).toNat) = W
    rcases bit01 x with h1 | h1 <;> rcases bit01 y with h2 | h2 <;> rw [h1, h2] <;> simp <;> omega
  · have hx' : x < 0 := by omega
    rw [and_np hx' hy, and_np (x := x / 2) (y := y / 2) (by omega) (by omega), nat_and]
    have n := not_half x
    have e1 : y.toNat / 2 = (y / 2).toNat := by omega
    have e2 : (bitNot x).toNat / 2 = (bitNot (x / 2)).toNat := by
      rw [← n.1]
      omega
    rw [e1, e2]
    have q1 : y.toNat % 2 = (y % 2).toNat := by omega
    have q2 : (bitNot x).toNat % 2 = (1 - x % 2).toNat := by
      have : 0 ≤ bitNot x := by unfold bitNot; omega
      omega
    rw [q1, q2]
    generalize ((y / 2).toNat &&& (bitNot (x / 2)).toNat) = W
    rcases bit01 x with h1 | h1 <;> rcases bit01 y with h2 | h2 <;> rw [h1, h2] <;> simp <;> omega
  · have hx' : x < 0 := by omega
    have hy' : y < 0 := by omega
    rw [and_nn hx' hy', and_nn (x := x / 2) (y := y / 2) (by omega) (by omega), nat_or]
    have n1 := not_half x
    have n2 := not_half y
    have e1 : (bitNot x).toNat / 2 = (bitNot (x / 2)).toNat := by
      rw [← n1.1]
      omega
    have e2 : (bitNot y).toNat / 2 = (bitNot (y / 2)).toNat := by
      rw [← n2.1]
      omega
    rw [e1, e2]
    have q1 : (bitNot x).toNat % 2 = (1 - x % 2).toNat := by
      have : 0 ≤ bitNot x := by unfold bitNot; omega
      omega
    have q2 : (bitNot y).toNat % 2 = (1 - y % 2).toNat := by
      have : 0 ≤ bitNot y := by unfold bitNot; omega
      omega
    rw [q1, q2]
    generalize ((bitNot (x / 2)).toNat ||| (bitNot (y / 2)).toNat) = W
    unfold bitNot
    rcases bit01 x with h1 | h1 <;> rcases bit01 y with h2 | h2 <;> rw [h1, h2] <;> simp <;> omega
theorem or_half (x y : Int) : bitOr x y = 2 * bitOr (x / 2) (y / 2) + (x % 2 + y % 2 - (x % 2) * (y % 2)) := by
  unfold bitOr
  have h := and_half (bitNot x) (bitNot y)
  have n1 := not_half x
  have n2 := not_half y
  rw [n1.1, n2.1, n1.2, n2.2] at h
  rw [h]
  generalize bitAnd (bitNot (x / 2)) (bitNot (y / 2)) = W
  unfold bitNot
  rcases bit01 x with h1 | h1 <;> rcases bit01 y with h2 | h2 <;> rw [h1, h2] <;> omega
theorem xor_half (x y : Int) : bitXor x y = 2 * bitXor (x / 2) (y / 2) + (x + y) % 2 := by
  unfold bitXor
  rw [and_half x y, or_half x y]
  generalize bitAnd (x / 2) (y / 2) = W
  generalize bitOr (x / 2) (y / 2) = Z
  rcases bit01 x with h1 | h1 <;> rcases bit01 y with h2 | h2 <;> rw [h1, h2] <;> omega
theorem xor_div (x y : Int) : bitXor x y / 2 = bitXor (x / 2) (y / 2) := by
  have := xor_half x y
  omega
theorem xor_mod (x y : Int) : bitXor x y % 2 = (x + y) % 2 := by
  have := xor_half x y
  omega
theorem and_div (x y : Int) : bitAnd x y / 2 = bitAnd (x / 2) (y / 2) := by
  have := and_half x y
  rcases bit01 x with h1 | h1 <;> rcases bit01 y with h2 | h2 <;> rw [h1, h2] at this <;> omega
theorem and_mod (x y : Int) : bitAnd x y % 2 = (x % 2) * (y % 2) := by
  have := and_half x y
  rcases bit01 x with h1 | h1 <;> rcases bit01 y with h2 | h2 <;> rw [h1, h2] at this ⊢ <;> omega
theorem and_bounds {x y : Int} (hy : 0 ≤ y) : 0 ≤ bitAnd x y ∧ bitAnd x y ≤ y := by
  by_cases hx : 0 ≤ x
  · rw [and_pp hx hy]
    have := @Nat.and_le_right x.toNat y.toNat
    omega
  · rw [and_np (by omega) hy]
    have := @Nat.and_le_left y.toNat (bitNot x).toNat
    omega
/-- two numbers on one side of nought -/
theorem xor_same {x y : Int} {N : Nat} (h : (0 ≤ x ∧ 0 ≤ y ∧ x < 2 ^ N ∧ y < 2 ^ N) ∨ (x < 0 ∧ y < 0 ∧ -(2 ^ N) ≤ x ∧ -(2 ^ N) ≤ y)) : 0 ≤ bitXor x y ∧ bitXor x y < 2 ^ N := by
  have key : ∀ a b : Nat, a < 2 ^ N → b < 2 ^ N → (0 : Int) ≤ ((a ||| b : Nat) : Int) - ((a &&& b : Nat) : Int) ∧ ((a ||| b : Nat) : Int) - ((a &&& b : Nat) : Int) < 2 ^ N := fun a b ha hb => by
    have h1 := Nat.or_lt_two_pow ha hb
    have h2 : a &&& b ≤ a := Nat.and_le_left
    have h3 : a ≤ a ||| b := Nat.left_le_or
    have h4 : ((a ||| b : Nat) : Int) < ((2 ^ N : Nat) : Int) := Int.ofNat_lt.mpr h1
    rw [Int.natCast_pow] at h4
    constructor
    · omega
    · have : ((2 : Nat) : Int) ^ N = (2 : Int) ^ N := rfl
      omega
  have nn : ∀ z : Int, bitNot (bitNot z) = z := fun z => by unfold bitNot; omega
  have c2 : ((2 ^ N : Nat) : Int) = (2 : Int) ^ N := Int.natCast_pow 2 N
  rcases h with ⟨hx, hy, bx, by'⟩ | ⟨hx, hy, bx, by'⟩
  · have e : bitXor x y = ((x.toNat ||| y.toNat : Nat) : Int) - ((x.toNat &&& y.toNat : Nat) : Int) := by
      unfold bitXor
      unfold bitOr
      rw [and_pp hx hy, and_nn (x := bitNot x) (y := bitNot y) (by unfold bitNot; omega) (by unfold bitNot; omega), nn, nn, nn]
    rw [e]
    exact key _ _ (by omega) (by omega)
  · have e : bitXor x y = (((bitNot x).toNat ||| (bitNot y).toNat : Nat) : Int) - (((bitNot x).toNat &&& (bitNot y).toNat : Nat) : Int) := by
      unfold bitXor
      unfold bitOr
      rw [and_nn hx hy, and_pp (x := bitNot x) (y := bitNot y) (by unfold bitNot; omega) (by unfold bitNot; omega)]
      generalize ((bitNot x).toNat ||| (bitNot y).toNat) = A
      generalize ((bitNot x).toNat &&& (bitNot y).toNat) = B
      unfold bitNot
      omega
    rw [e]
    have b1 : (bitNot x).toNat < 2 ^ N := by
      have : bitNot x < 2 ^ N := by unfold bitNot; omega
      omega
    have b2 : (bitNot y).toNat < 2 ^ N := by
      have : bitNot y < 2 ^ N := by unfold bitNot; omega
      omega
    exact key _ _ b1 b2
theorem xor_zero : ∀ (k : Nat) (x y : Int), x.natAbs + y.natAbs ≤ k → bitXor x y = 0 → x = y
  | 0, x, y, hk, h => by omega
  | k + 1, x, y, hk, h => by
    have h1 := xor_half x y
    rw [h] at h1
    have h2 : bitXor (x / 2) (y / 2) = 0 := by omega
    have h3 : (x + y) % 2 = 0 := by omega
    by_cases hs : (x = 0 ∨ x = -1) ∧ (y = 0 ∨ y = -1)
    · obtain ⟨a | a, b | b⟩ := hs <;> subst a <;> subst b
      · rfl
      · exact absurd h3 (by decide)
      · exact absurd h3 (by decide)
      · rfl
    · have := xor_zero k (x / 2) (y / 2) (by omega) h2
      omega
/-! ### the figures of two numbers' difference -/
def dig : Nat → Int → Int → List Int
  | 0, _, _ => []
  | L + 1, u, v => (u % 2 - v % 2) :: dig L (u / 2) (v / 2)
theorem dig_len : ∀ (L : Nat) (u v : Int), (dig L u v).length = L
  | 0, _, _ => rfl
  | L + 1, u, v => by
    show (dig L (u / 2) (v / 2)).length + 1 = L + 1
    rw [dig_len L]
theorem dig_fig : ∀ (L : Nat) (u v : Int), ∀ n ∈ dig L u v, -1 ≤ n ∧ n ≤ 1
  | 0, _, _, n, h => nomatch h
  | L + 1, u, v, n, h => by
    rcases List.mem_cons.mp h with e | e
    · omega
    · exact dig_fig L (u / 2) (v / 2) n e
theorem dig_val : ∀ (L : Nat) (u v : Int), 0 ≤ bitXor u v → bitXor u v < 2 ^ L → val (dig L u v) = u - v
  | 0, u, v, h0, h1 => by
    have : bitXor u v = 0 := by
      have e : (2 : Int) ^ 0 = 1 := rfl
      omega
    have := xor_zero _ u v (Nat.le_refl _) this
    show (0 : Int) = u - v
    omega
  | L + 1, u, v, h0, h1 => by
    have hx := xor_div u v
    have ih := dig_val L (u / 2) (v / 2) (by omega) (by rw [Int.pow_succ] at h1; omega)
    show (u % 2 - v % 2) + 2 * val (dig L (u / 2) (v / 2)) = u - v
    rw [ih]
    omega
theorem dig_last : ∀ (L : Nat) (u v : Int), 2 ^ L ≤ bitXor u v → bitXor u v < 2 ^ (L + 1) → (dig (L + 1) u v).getLast? ≠ some 0
  | 0, u, v, h0, h1 => by
    have e : bitXor u v = 1 := by
      have e0 : (2 : Int) ^ 0 = 1 := rfl
      have e1 : (2 : Int) ^ 1 = 2 := rfl
      omega
    have := xor_mod u v
    rw [e] at this
    show ([u % 2 - v % 2] : List Int).getLast? ≠ some 0
    simp
    omega
  | L + 1, u, v, h0, h1 => by
    have hx := xor_div u v
    have ih := dig_last L (u / 2) (v / 2) (by rw [Int.pow_succ] at h0; omega) (by rw [Int.pow_succ] at h1; omega)
    show ((u % 2 - v % 2) :: dig (L + 1) (u / 2) (v / 2)).getLast? ≠ some 0
    have e : dig (L + 1) (u / 2) (v / 2) = (u / 2 % 2 - v / 2 % 2) :: dig L (u / 2 / 2) (v / 2 / 2) := rfl
    rw [e, List.getLast?_cons_cons, ← e]
    exact ih
end FG

set_option maxHeartbeats 4000000
namespace FG
open PySem PyProof.Rows L2
open PySem.Builtin (bitAnd bitOr bitXor bitNot)
theorem gaps_cons {x : Int} {l : List Int} (h1 : x = 0 ∨ l.head? = some 0 ∨ l = []) (h2 : gaps l = true) : gaps (x :: l) = true := by
  match l, h1, h2 with
  | [], _, _ => rfl
  | y :: r, h1, h2 =>
    show ((decide (x = 0) || decide (y = 0)) && gaps (y :: r)) = true
    rw [h2]
    rcases h1 with h | h | h
    · simp [h]
    · simp at h
      simp [h]
    · exact nomatch h
theorem dig_gaps : ∀ (L : Nat) (u v e : Int), u = 3 * v + e → 0 ≤ e → e ≤ 2 → gaps (dig L u v) = true ∧ (e ≠ 1 → (dig L u v).head? = some 0 ∨ dig L u v = [])
  | 0, _, _, _, _, _, _ => ⟨rfl, fun _ => .inr rfl⟩
  | L + 1, u, v, e, he, h0, h2 => by
    have ih := dig_gaps L (u / 2) (v / 2) ((3 * (v % 2) + e) / 2) (by omega) (by omega) (by omega)
    constructor
    · show gaps ((u % 2 - v % 2) :: dig L (u / 2) (v / 2)) = true
      refine gaps_cons ?_ ih.1
      by_cases h1 : e = 1
      · exact .inr (ih.2 (by omega))
      · exact .inl (by omega)
    · intro h1
      refine .inl ?_
      show some (u % 2 - v % 2) = some 0
      congr 1
      omega
/-! ### a lean row is the only one of its worth -/
theorem val_ne : ∀ r : List Int, (∀ n ∈ r, -1 ≤ n ∧ n ≤ 1) → r.getLast? ≠ some 0 → r ≠ [] → val r ≠ 0
  | [], _, _, h => absurd rfl h
  | [d], _, h, _ => by
    show d + 2 * 0 ≠ 0
    have : d ≠ 0 := fun e => h (by rw [e]; rfl)
    omega
  | d :: x :: t, hb, h, _ => by
    have ih := val_ne (x :: t) (fun n hn => hb n (List.mem_cons_of_mem _ hn)) (by rw [List.getLast?_cons_cons] at h; exact h) (by simp)
    have hd := hb d List.mem_cons_self
    show d + 2 * val (x :: t) ≠ 0
    omega
theorem gaps_tail {x : Int} {l : List Int} (h : gaps (x :: l) = true) : gaps l = true := by
  match l, h with
  | [], _ => rfl
  | y :: r, h =>
    have h' : ((decide (x = 0) || decide (y = 0)) && gaps (y :: r)) = true := h
    exact (Bool.and_eq_true_iff.mp h').2
theorem row_tail {x : Int} {l : List Int} (r : Row (x :: l)) : Row l := by
  refine ⟨fun n hn => r.1 n (List.mem_cons_of_mem _ hn), ?_⟩
  match l, r with
  | [], _ => exact fun z => nomatch z
  | y :: t, r =>
    have := r.2
    rw [List.getLast?_cons_cons] at this
    exact this
theorem odd_next {x : Int} {l : List Int} (h : gaps (x :: l) = true) (hx : x ≠ 0) : val l % 2 = 0 := by
  match l, h with
  | [], _ => rfl
  | y :: r, h =>
    have h' : ((decide (x = 0) || decide (y = 0)) && gaps (y :: r)) = true := h
    have h1 := (Bool.and_eq_true_iff.mp h').1
    have hy : y = 0 := by simpa [hx] using h1
    show (y + 2 * val r) % 2 = 0
    omega
theorem lean_only : ∀ (r t : List Int), Row r → Row t → gaps r = true → gaps t = true → val r = val t → r = t
  | [], [], _, _, _, _, _ => rfl
  | [], y :: t, _, ht, _, _, e => absurd e.symm (val_ne (y :: t) ht.1 ht.2 (by simp))
  | x :: r, [], hr, _, _, _, e => absurd e (val_ne (x :: r) hr.1 hr.2 (by simp))
  | x :: r, y :: t, hr, ht, gr, gt, e => by
    have hx := hr.1 x List.mem_cons_self
    have hy := ht.1 y List.mem_cons_self
    have e' : x + 2 * val r = y + 2 * val t := e
    have same : x = y := by
      by_cases x0 : x = 0
      · omega
      · by_cases y0 : y = 0
        · omega
        · have o1 := odd_next gr x0
          have o2 := odd_next gt y0
          omega
    subst same
    have ih := lean_only r t (row_tail hr) (row_tail ht) (gaps_tail gr) (gaps_tail gt) (by omega)
    rw [ih]
/-! ### the places of a number as a text -/
def bitsLE : Nat → Nat → List Nat
  | 0, _ => []
  | L + 1, x => (x % 2 + 48) :: bitsLE L (x / 2)
theorem bitsLE_len : ∀ (L x : Nat), (bitsLE L x).length = L
  | 0, _ => rfl
  | L + 1, x => congrArg (· + 1) (bitsLE_len L (x / 2))
theorem bitsLE_zero : ∀ L : Nat, bitsLE L 0 = List.replicate L 48
  | 0 => rfl
  | L + 1 => by
    show (0 % 2 + 48) :: bitsLE L (0 / 2) = _
    rw [Nat.zero_div, bitsLE_zero L]
    rfl
def digs (x : Nat) : List Nat := ((Nat.toDigits 2 x).map Char.toNat).reverse
theorem digs_small {x : Nat} (h : x < 2) : digs x = [x + 48] := by
  unfold digs
  rw [Nat.toDigits_of_lt_base h]
  have c : x = 0 ∨ x = 1 := by omega
  rcases c with e | e <;> subst e <;> rfl
theorem digs_step {x : Nat} (h : 2 ≤ x) : digs x = (x % 2 + 48) :: digs (x / 2) := by
  have e := @Nat.toDigits_append_toDigits 2 (x / 2) (x % 2) (by decide) (by omega) (by omega)
  have e2 : 2 * (x / 2) + x % 2 = x := by omega
  rw [e2] at e
  have e3 := digs_small (x := x % 2) (by omega)
  unfold digs at e3 ⊢
  rw [← e, List.map_append, List.reverse_append, e3]
  rfl
theorem digs_bits : ∀ (L x : Nat), x < 2 ^ (L + 1) → (digs x).length ≤ L + 1 ∧ digs x ++ List.replicate (L + 1 - (digs x).length) 48 = bitsLE (L + 1) x
  | 0, x, h => by
    have hx : x < 2 := by simpa using h
    rw [digs_small hx]
    refine ⟨Nat.le_refl _, ?_⟩
    show [x + 48] ++ [] = [x % 2 + 48]
    rw [List.append_nil, Nat.mod_eq_of_lt hx]
  | L + 1, x, h => by
    by_cases hx : x < 2
    · rw [digs_small hx]
      refine ⟨by simp, ?_⟩
      show (x + 48) :: List.replicate (L + 1 + 1 - 1) 48 = (x % 2 + 48) :: bitsLE (L + 1) (x / 2)
      have e : x / 2 = 0 := by omega
      rw [e, bitsLE_zero, Nat.mod_eq_of_lt hx]
      rfl
    · have h2 : 2 ≤ x := by omega
      have ih := digs_bits L (x / 2) (by rw [Nat.pow_succ] at h; omega)
      rw [digs_step h2]
      refine ⟨by simp only [List.length_cons]; omega, ?_⟩
      show (x % 2 + 48) :: (digs (x / 2) ++ List.replicate (L + 1 + 1 - ((digs (x / 2)).length + 1)) 48) = (x % 2 + 48) :: bitsLE (L + 1) (x / 2)
      have e : L + 1 + 1 - ((digs (x / 2)).length + 1) = L + 1 - (digs (x / 2)).length := by omega
      rw [e, ih.2]
theorem binText_list (x : Nat) : (XB.binText (x : Int)).cps.toList = (digs x).reverse := by
  unfold XB.binText XB.binSigns digs
  have h : decide (((x : Nat) : Int) < 0) = false := decide_eq_false (by omega)
  rw [h]
  simp
theorem binText_len (x : Nat) : (XB.binText (x : Int)).length = (digs x).length := by
  have := congrArg List.length (binText_list x)
  rw [Array.length_toList, List.length_reverse] at this
  exact this
theorem digs_head (x : Nat) : ∀ c ∈ digs x, c = 48 ∨ c = 49 := by
  induction x using Nat.strongRecOn with
  | _ x ih =>
    intro c hc
    by_cases hx : x < 2
    · rw [digs_small hx] at hc
      have := List.mem_singleton.mp hc
      omega
    · rw [digs_step (by omega)] at hc
      rcases List.mem_cons.mp hc with e | e
      · omega
      · exact ih (x / 2) (by omega) c e
/-- filled up with 0 and turned round: the places, the lowest first -/
theorem filled {L x : Nat} (h : x < 2 ^ (L + 1)) : (Txt.zfill (XB.binText (x : Int)) ((L + 1 : Nat) : Int)).cps.toList.reverse = bitsLE (L + 1) x := by
  obtain ⟨h1, h2⟩ := digs_bits L x h
  have el := binText_len x
  unfold Txt.zfill
  by_cases hc : ((L + 1 : Nat) : Int) ≤ ((XB.binText (x : Int)).length : Int)
  · rw [if_pos hc, binText_list, List.reverse_reverse, ← h2]
    have : L + 1 - (digs x).length = 0 := by omega
    rw [this]
    simp
  · rw [if_neg hc]
    have first : ∀ c, (XB.binText (x : Int)).cps[0]? = some c → c = 48 ∨ c = 49 := fun c hc => by
      have : c ∈ (XB.binText (x : Int)).cps.toList := by
        rw [← Array.getElem?_toList] at hc
        exact List.mem_of_getElem? hc
      rw [binText_list] at this
      exact digs_head x c (List.mem_reverse.mp this)
    have eP : zfilled (XB.binText (x : Int)) ((((L + 1 : Nat) : Int)).toNat - (XB.binText (x : Int)).length) = Builtin.Str.padded (XB.binText (x : Int)) ((((L + 1 : Nat) : Int)).toNat - (XB.binText (x : Int)).length) 0 48 := by
      unfold zfilled
      split
      · rename_i e
        have := first _ e
        omega
      · rename_i e
        have := first _ e
        omega
      · rfl
    rw [eP, el, Int.toNat_natCast, ← h2]
    have eq : (Builtin.Str.padded (XB.binText (x : Int)) (L + 1 - (digs x).length) 0 48).cps.toList = List.replicate (L + 1 - (digs x).length) 48 ++ (XB.binText (x : Int)).cps.toList := by
      unfold Builtin.Str.padded
      simp
    rw [eq, List.reverse_append, binText_list, List.reverse_reverse]
    simp
/-- the two texts' figures, one taken from the other -/
theorem bits_dig : ∀ (L : Nat) (u v : Int), 0 ≤ bitXor u v →
    List.zipWith (fun a b : Nat => (a : Int) - (b : Int)) (bitsLE L (bitAnd u (bitXor u v)).toNat) (bitsLE L (bitAnd v (bitXor u v)).toNat) = dig L u v
  | 0, _, _, _ => rfl
  | L + 1, u, v, h => by
    have hx := xor_div u v
    have hm := xor_mod u v
    have ih := bits_dig L (u / 2) (v / 2) (by omega)
    have a1 := and_bounds (x := u) h
    have b1 := and_bounds (x := v) h
    have a2 := and_div u (bitXor u v)
    have b2 := and_div v (bitXor u v)
    have a3 := and_mod u (bitXor u v)
    have b3 := and_mod v (bitXor u v)
    rw [hx] at a2 b2
    rw [hm] at a3 b3
    have e1 : (bitAnd u (bitXor u v)).toNat / 2 = (bitAnd (u / 2) (bitXor (u / 2) (v / 2))).toNat := by omega
    have e2 : (bitAnd v (bitXor u v)).toNat / 2 = (bitAnd (v / 2) (bitXor (u / 2) (v / 2))).toNat := by omega
    show ((((bitAnd u (bitXor u v)).toNat % 2 + 48 : Nat) : Int) - (((bitAnd v (bitXor u v)).toNat % 2 + 48 : Nat) : Int)) :: List.zipWith _ (bitsLE L ((bitAnd u (bitXor u v)).toNat / 2)) (bitsLE L ((bitAnd v (bitXor u v)).toNat / 2)) = (u % 2 - v % 2) :: dig L (u / 2) (v / 2)
    rw [e1, e2, ih]
    congr 1
    have c1 : (((bitAnd u (bitXor u v)).toNat % 2 : Nat) : Int) = bitAnd u (bitXor u v) % 2 := by omega
    have c2 : (((bitAnd v (bitXor u v)).toNat % 2 : Nat) : Int) = bitAnd v (bitXor u v) % 2 := by omega
    have c3 : ((((bitAnd u (bitXor u v)).toNat % 2 + 48 : Nat) : Int) - (((bitAnd v (bitXor u v)).toNat % 2 + 48 : Nat) : Int)) = bitAnd u (bitXor u v) % 2 - bitAnd v (bitXor u v) % 2 := by omega
    rw [c3, a3, b3]
    rcases bit01 u with p | p <;> rcases bit01 v with q | q
    all_goals
      have z : (u + v) % 2 = (u % 2 + v % 2) % 2 := by omega
      rw [z, p, q]
      rfl
theorem bitsLE_get : ∀ (L x i : Nat), i < L → ∃ c, (bitsLE L x)[i]? = some c ∧ (c = 48 ∨ c = 49)
  | 0, _, _, h => absurd h (Nat.not_lt_zero _)
  | L + 1, x, 0, _ => ⟨x % 2 + 48, rfl, by omega⟩
  | L + 1, x, i + 1, h => bitsLE_get L (x / 2) i (by omega)
/-- what lean's numbers are: the parts of three halves -/
theorem lean_facts {n : Int} {N : Nat} (h : n.natAbs < 2 ^ N) : 0 ≤ bitXor (n + n / 2) (n / 2) ∧ bitXor (n + n / 2) (n / 2) < 2 ^ (N + 1) := by
  refine xor_same ?_
  have e : (2 : Int) ^ (N + 1) = 2 * 2 ^ N := by rw [Int.pow_succ, Int.mul_comm]
  have c : ((2 ^ N : Nat) : Int) = (2 : Int) ^ N := Int.natCast_pow 2 N
  rw [e]
  by_cases h0 : 0 ≤ n
  · exact .inl ⟨by omega, by omega, by omega, by omega⟩
  · exact .inr ⟨by omega, by omega, by omega, by omega⟩
/-- the row that lean tells -/
theorem lean_row {n : Int} (hn : n ≠ 0) {N : Nat} (h : n.natAbs < 2 ^ N) :
    ∃ L, Builtin.Int.intBits (bitXor (n + n / 2) (n / 2)) = L + 1 ∧ L + 1 ≤ N + 1 ∧ (bitAnd (n + n / 2) (bitXor (n + n / 2) (n / 2))).toNat < 2 ^ (L + 1) ∧ (bitAnd (n / 2) (bitXor (n + n / 2) (n / 2))).toNat < 2 ^ (L + 1) ∧
      Row (dig (L + 1) (n + n / 2) (n / 2)) ∧ gaps (dig (L + 1) (n + n / 2) (n / 2)) = true ∧ val (dig (L + 1) (n + n / 2) (n / 2)) = n := by
  obtain ⟨x0, x1⟩ := lean_facts h
  have xn : bitXor (n + n / 2) (n / 2) ≠ 0 := fun e => by
    have := xor_zero _ _ _ (Nat.le_refl _) e
    omega
  generalize hX : bitXor (n + n / 2) (n / 2) = X at x0 x1 xn
  have hb : Builtin.Int.intBits X = X.natAbs.log2 + 1 := by
    unfold Builtin.Int.intBits
    rw [if_neg (by simpa using xn)]
  have hx' : X.natAbs ≠ 0 := by omega
  have l1 := Nat.log2_self_le hx'
  have l2 : X.natAbs < 2 ^ (X.natAbs.log2 + 1) := (Nat.log2_lt hx').mp (Nat.lt_succ_self _)
  have l3 : X.natAbs.log2 < N + 1 := by
    refine (Nat.log2_lt hx').mpr ?_
    have c : ((2 ^ (N + 1) : Nat) : Int) = (2 : Int) ^ (N + 1) := Int.natCast_pow 2 (N + 1)
    omega
  generalize X.natAbs.log2 = L at hb l1 l2 l3
  have c1 : ((2 ^ L : Nat) : Int) = (2 : Int) ^ L := Int.natCast_pow 2 L
  have c2 : ((2 ^ (L + 1) : Nat) : Int) = (2 : Int) ^ (L + 1) := Int.natCast_pow 2 (L + 1)
  have a1 := and_bounds (x := n + n / 2) (y := X) x0
  have b1 := and_bounds (x := n / 2) (y := X) x0
  refine ⟨L, hb, by omega, by omega, by omega, ⟨dig_fig _ _ _, ?_⟩, ?_, ?_⟩
  · exact dig_last L _ _ (by rw [hX]; omega) (by rw [hX]; omega)
  · exact (dig_gaps (L + 1) (n + n / 2) (n / 2) (n % 2) (by omega) (by omega) (by omega)).1
  · rw [dig_val (L + 1) _ _ (by rw [hX]; exact x0) (by rw [hX]; omega)]
    omega
end FG

set_option maxHeartbeats 4000000
/-! the two numbers that have the places of a lean row's 1 and -1. -/
namespace XParts
open PySem PyProof.Rows L2 FG
open PySem.Builtin (bitAnd bitOr bitXor bitNot)
theorem none_back {H H' : Hp} {p : Addr} (s : Same H H') (h : H' p = none) : H p = none := by
  cases e : H p with
  | none => rfl
  | some o => exact absurd ((s p o e).symm.trans h) (by simp)
/-! ### the two parts of a difference -/
theorem parts_half (u v : Int) (h : 0 ≤ bitXor u v) : bitAnd u (bitXor u v) / 2 = bitAnd (u / 2) (bitXor (u / 2) (v / 2)) ∧ bitAnd v (bitXor u v) / 2 = bitAnd (v / 2) (bitXor (u / 2) (v / 2)) ∧
    bitAnd u (bitXor u v) % 2 = (u % 2) * ((u + v) % 2) ∧ bitAnd v (bitXor u v) % 2 = (v % 2) * ((u + v) % 2) := by
  have hx := xor_div u v
  have hm := xor_mod u v
  have a2 := and_div u (bitXor u v)
  have b2 := and_div v (bitXor u v)
  have a3 := and_mod u (bitXor u v)
  have b3 := and_mod v (bitXor u v)
  rw [hx] at a2 b2
  rw [hm] at a3 b3
  exact ⟨a2, b2, a3, b3⟩
theorem bits_two (u v : Int) : (u % 2) * ((u + v) % 2) + (v % 2) * ((u + v) % 2) = (u + v) % 2 := by
  have z : (u + v) % 2 = (u % 2 + v % 2) % 2 := by omega
  rw [z]
  rcases bit01 u with p | p <;> rcases bit01 v with q | q <;> rw [p, q] <;> rfl
/-- together they are all places that are unlike -/
theorem parts_sum : ∀ (L : Nat) (u v : Int), 0 ≤ bitXor u v → bitXor u v < 2 ^ L → bitAnd u (bitXor u v) + bitAnd v (bitXor u v) = bitXor u v
  | 0, u, v, h0, h1 => by
    have e : bitXor u v = 0 := by
      have e0 : (2 : Int) ^ 0 = 1 := rfl
      omega
    have a1 := and_bounds (x := u) h0
    have b1 := and_bounds (x := v) h0
    omega
  | L + 1, u, v, h0, h1 => by
    have hx := xor_div u v
    have hm := xor_mod u v
    have ih := parts_sum L (u / 2) (v / 2) (by omega) (by rw [Int.pow_succ] at h1; omega)
    obtain ⟨a, b, c, d⟩ := parts_half u v h0
    have t := bits_two u v
    generalize bitAnd (u / 2) (bitXor (u / 2) (v / 2)) = A at *
    generalize bitAnd (v / 2) (bitXor (u / 2) (v / 2)) = B at *
    generalize (u % 2) * ((u + v) % 2) = C at *
    generalize (v % 2) * ((u + v) % 2) = E at *
    omega
/-- the topmost place is in one of them -/
theorem parts_top : ∀ (L : Nat) (u v : Int), 2 ^ L ≤ bitXor u v → bitXor u v < 2 ^ (L + 1) → 2 ^ L ≤ bitAnd u (bitXor u v) ∨ 2 ^ L ≤ bitAnd v (bitXor u v)
  | 0, u, v, h0, h1 => by
    have e0 : (2 : Int) ^ 0 = 1 := rfl
    have e1 : (2 : Int) ^ 1 = 2 := rfl
    have h := parts_sum 1 u v (by omega) (by omega)
    have a1 := and_bounds (x := u) (y := bitXor u v) (by omega)
    have b1 := and_bounds (x := v) (y := bitXor u v) (by omega)
    omega
  | L + 1, u, v, h0, h1 => by
    have hx := xor_div u v
    have e1 : (2 : Int) ^ (L + 1) = 2 * 2 ^ L := by rw [Int.pow_succ, Int.mul_comm]
    have e2 : (2 : Int) ^ (L + 1 + 1) = 2 * 2 ^ (L + 1) := by rw [Int.pow_succ, Int.mul_comm]
    have p0 : (0 : Int) < 2 ^ L := Int.pow_pos (by omega)
    obtain ⟨a, b, _, _⟩ := parts_half u v (by omega)
    have ih := parts_top L (u / 2) (v / 2) (by omega) (by omega)
    rcases ih with h | h
    · exact .inl (by omega)
    · exact .inr (by omega)
/-- the greater of the two has just so many places -/
theorem bits_top {L : Nat} {x : Int} (h0 : 2 ^ L ≤ x) (h1 : x < 2 ^ (L + 1)) : Builtin.Int.intBits x = L + 1 := by
  have p0 : (0 : Int) < 2 ^ L := Int.pow_pos (by omega)
  have hb : Builtin.Int.intBits x = x.natAbs.log2 + 1 := by
    unfold Builtin.Int.intBits
    rw [if_neg (by simp; omega)]
  have hx' : x.natAbs ≠ 0 := by omega
  have c1 : ((2 ^ L : Nat) : Int) = (2 : Int) ^ L := Int.natCast_pow 2 L
  have c2 : ((2 ^ (L + 1) : Nat) : Int) = (2 : Int) ^ (L + 1) := Int.natCast_pow 2 (L + 1)
  have e : x.natAbs.log2 = L := (Nat.log2_eq_iff hx').mpr ⟨by omega, by omega⟩
  omega
/-- the row that lean tells, its parts and how many places the greater part has -/
theorem parts_row {n : Int} (hn : n ≠ 0) {N : Nat} (h : n.natAbs < 2 ^ N) :
    ∃ L, Builtin.Int.intBits (if bitAnd (n / 2) (bitXor (n + n / 2) (n / 2)) > bitAnd (n + n / 2) (bitXor (n + n / 2) (n / 2)) then bitAnd (n / 2) (bitXor (n + n / 2) (n / 2)) else bitAnd (n + n / 2) (bitXor (n + n / 2) (n / 2))) = L + 1 ∧ L + 1 ≤ N + 1 ∧ (bitAnd (n + n / 2) (bitXor (n + n / 2) (n / 2))).toNat < 2 ^ (L + 1) ∧ (bitAnd (n / 2) (bitXor (n + n / 2) (n / 2))).toNat < 2 ^ (L + 1) ∧
      Row (dig (L + 1) (n + n / 2) (n / 2)) ∧ gaps (dig (L + 1) (n + n / 2) (n / 2)) = true ∧ val (dig (L + 1) (n + n / 2) (n / 2)) = n := by
  obtain ⟨L, hb, hL, ha, hd, rr, rg, rv⟩ := lean_row hn h
  obtain ⟨x0, x1⟩ := lean_facts h
  have xn : bitXor (n + n / 2) (n / 2) ≠ 0 := fun e => by
    have := xor_zero _ _ _ (Nat.le_refl _) e
    omega
  have hb2 : Builtin.Int.intBits (bitXor (n + n / 2) (n / 2)) = (bitXor (n + n / 2) (n / 2)).natAbs.log2 + 1 := by
    unfold Builtin.Int.intBits
    rw [if_neg (by simpa using xn)]
  have hx' : (bitXor (n + n / 2) (n / 2)).natAbs ≠ 0 := by omega
  have l1 := Nat.log2_self_le hx'
  have l2 : (bitXor (n + n / 2) (n / 2)).natAbs < 2 ^ ((bitXor (n + n / 2) (n / 2)).natAbs.log2 + 1) := (Nat.log2_lt hx').mp (Nat.lt_succ_self _)
  have el : (bitXor (n + n / 2) (n / 2)).natAbs.log2 = L := by omega
  rw [el] at l1 l2
  have c1 : ((2 ^ L : Nat) : Int) = (2 : Int) ^ L := Int.natCast_pow 2 L
  have c2 : ((2 ^ (L + 1) : Nat) : Int) = (2 : Int) ^ (L + 1) := Int.natCast_pow 2 (L + 1)
  have tp := parts_top L (n + n / 2) (n / 2) (by omega) (by omega)
  have a1 := and_bounds (x := n + n / 2) x0
  have b1 := and_bounds (x := n / 2) x0
  refine ⟨L, ?_, hL, ha, hd, rr, rg, rv⟩
  split
  · exact bits_top (by omega) (by omega)
  · exact bits_top (by omega) (by omega)
end XParts

set_option maxHeartbeats 4000000
namespace FG
open PySem PyProof.Rows L2
theorem gaps_mid : ∀ (a : List Int) {b : List Int}, gaps a = true → gaps (0 :: b) = true → gaps (a ++ 0 :: b) = true
  | [], _, _, h => h
  | [x], b, _, h => gaps_cons (.inr (.inl rfl)) h
  | x :: y :: r, b, ha, h => by
    have ha' : ((decide (x = 0) || decide (y = 0)) && gaps (y :: r)) = true := ha
    obtain ⟨h1, h2⟩ := Bool.and_eq_true_iff.mp ha'
    have ih := gaps_mid (y :: r) h2 h
    show ((decide (x = 0) || decide (y = 0)) && gaps ((y :: r) ++ 0 :: b)) = true
    rw [h1, ih]
    rfl
/-- rows of 0 alone ahead of a row -/
theorem gaps_zeros : ∀ (g : Nat) {b : List Int}, gaps b = true → gaps (List.replicate g 0 ++ b) = true
  | 0, _, h => h
  | g + 1, b, h => by
    rw [List.replicate_succ, List.cons_append]
    exact gaps_cons (.inl rfl) (gaps_zeros g h)
theorem gaps_left : ∀ (a : List Int) {b : List Int}, gaps (a ++ b) = true → gaps a = true
  | [], _, _ => rfl
  | [x], _, _ => rfl
  | x :: y :: r, b, h => by
    have h' : ((decide (x = 0) || decide (y = 0)) && gaps ((y :: r) ++ b)) = true := h
    obtain ⟨h1, h2⟩ := Bool.and_eq_true_iff.mp h'
    show ((decide (x = 0) || decide (y = 0)) && gaps (y :: r)) = true
    rw [h1, gaps_left (y :: r) h2]
    rfl
theorem gaps_right : ∀ (a : List Int) {b : List Int}, gaps (a ++ b) = true → gaps b = true
  | [], _, h => h
  | x :: r, b, h => gaps_right r (gaps_tail h)
/-- another head in a row's place -/
theorem gaps_swap {a : List Int} {r s : Int} {b : List Int} (h : gaps (a ++ r :: b) = true) (hr : r ≠ 0) : gaps (a ++ s :: b) = true := by
  have hb : b.head? = some 0 ∨ b = [] := by
    have h1 := gaps_right a h
    match b, h1 with
    | [], _ => exact .inr rfl
    | y :: t, h1 =>
      have h' : ((decide (r = 0) || decide (y = 0)) && gaps (y :: t)) = true := h1
      have h2 := (Bool.and_eq_true_iff.mp h').1
      have hy : y = 0 := by simpa [hr] using h2
      exact .inl (by rw [hy]; rfl)
  have hs : gaps (s :: b) = true := by
    refine gaps_cons ?_ (gaps_tail (gaps_right a h))
    rcases hb with h | h
    · exact .inr (.inl h)
    · exact .inr (.inr h)
  -- the figure ahead of r is 0
  induction a with
  | nil => exact hs
  | cons x t ih =>
    have ht := ih (gaps_tail h)
    match t, h, ht with
    | [], h, ht =>
      have h' : ((decide (x = 0) || decide (r = 0)) && gaps (r :: b)) = true := h
      have h2 := (Bool.and_eq_true_iff.mp h').1
      have hx : x = 0 := by simpa [hr] using h2
      exact gaps_cons (.inl hx) ht
    | y :: u, h, ht =>
      have h' : ((decide (x = 0) || decide (y = 0)) && gaps ((y :: u) ++ r :: b)) = true := h
      have h2 := (Bool.and_eq_true_iff.mp h').1
      show ((decide (x = 0) || decide (y = 0)) && gaps ((y :: u) ++ s :: b)) = true
      rw [h2, ht]
      rfl
theorem gaps_behind {r : Int} {b : List Int} (h : gaps (r :: b) = true) (hr : r ≠ 0) : b.head? = some 0 ∨ b = [] := by
  match b, h with
  | [], _ => exact .inr rfl
  | y :: t, h =>
    have h' : ((decide (r = 0) || decide (y = 0)) && gaps (y :: t)) = true := h
    have h2 := (Bool.and_eq_true_iff.mp h').1
    have hy : y = 0 := by simpa [hr] using h2
    exact .inl (by rw [hy]; rfl)
/-- a row's figure moved up by a place -/
theorem gaps_move {a : List Int} {r : Int} {b : List Int} (h : gaps (a ++ r :: b) = true) (hr : r ≠ 0) : gaps (a ++ 0 :: r :: b) = true := by
  have h1 := gaps_right a h
  exact gaps_mid a (gaps_left a h) (gaps_cons (.inl rfl) h1)
/-- the row without the 0 at its end -/
def strip (l : List Int) : List Int := if l.getLast? = some 0 then strip l.dropLast else l
termination_by l.length
decreasing_by
  rename_i h
  cases l with
  | nil => exact nomatch h
  | cons x t => simp
theorem val_snoc0 (l : List Int) : val (l ++ [0]) = val l := by
  rw [val_append]
  show val l + 2 ^ l.length * (0 + 2 * 0) = val l
  simp
theorem last_split {l : List Int} {x : Int} (h : l.getLast? = some x) : l = l.dropLast ++ [x] := by
  cases l with
  | nil => exact nomatch h
  | cons y t =>
    have e := List.getLast?_eq_getLast (List.cons_ne_nil y t)
    rw [e] at h
    have h' := Option.some.inj h
    rw [← h']
    exact (List.dropLast_concat_getLast _).symm
theorem val_abs : ∀ l : List Int, (∀ n ∈ l, -1 ≤ n ∧ n ≤ 1) → (val l).natAbs < 2 ^ l.length
  | [], _ => by decide
  | n :: r, h => by
    have ih := val_abs r fun m hm => h m (List.mem_cons_of_mem _ hm)
    have hn := h n List.mem_cons_self
    show (n + 2 * val r).natAbs < 2 ^ (r.length + 1)
    rw [Nat.pow_succ]
    omega
theorem row_drop1 {l : List Int} (h1 : ∀ n ∈ l, -1 ≤ n ∧ n ≤ 1) (h2 : l.getLast? ≠ some 0) : Row (l.drop 1) := by
  cases l with
  | nil => exact ⟨fun n hn => (nomatch hn), fun z => (nomatch z)⟩
  | cons x t => exact row_tail ⟨h1, h2⟩
theorem ne_neg {A B : List Int} {r : Int} (hr : r = 1 ∨ r = -1) : val (A ++ (0 - r) :: B) ≠ val (A ++ r :: B) := by
  rw [val_append, val_append]
  have p : (0 : Int) < 2 ^ A.length := Int.pow_pos (by decide)
  show val A + 2 ^ A.length * (0 - r + 2 * val B) ≠ val A + 2 ^ A.length * (r + 2 * val B)
  intro e
  have e2 : (2 : Int) ^ A.length * (0 - r + 2 * val B) = 2 ^ A.length * (r + 2 * val B) := by omega
  have e3 := Int.eq_of_mul_eq_mul_left (by omega) e2
  omega
theorem ne_out {A B : List Int} {r : Int} (hr : r = 1 ∨ r = -1) : val (A ++ 0 :: B) ≠ val (A ++ r :: B) := by
  rw [val_append, val_append]
  have p : (0 : Int) < 2 ^ A.length := Int.pow_pos (by decide)
  show val A + 2 ^ A.length * (0 + 2 * val B) ≠ val A + 2 ^ A.length * (r + 2 * val B)
  intro e
  have e2 : (2 : Int) ^ A.length * (0 + 2 * val B) = 2 ^ A.length * (r + 2 * val B) := by omega
  have e3 := Int.eq_of_mul_eq_mul_left (by omega) e2
  omega
theorem ne_move {A B : List Int} {r : Int} (hr : r = 1 ∨ r = -1) : val (A ++ 0 :: r :: B) ≠ val (A ++ r :: B) := by
  rw [val_append, val_append]
  have p : (0 : Int) < 2 ^ A.length := Int.pow_pos (by decide)
  show val A + 2 ^ A.length * (0 + 2 * (r + 2 * val B)) ≠ val A + 2 ^ A.length * (r + 2 * val B)
  intro e
  have e2 : (2 : Int) ^ A.length * (0 + 2 * (r + 2 * val B)) = 2 ^ A.length * (r + 2 * val B) := by omega
  have e3 := Int.eq_of_mul_eq_mul_left (by omega) e2
  omega
theorem rep_zero : ∀ g : Nat, (List.replicate g [V.int 0]).flatten = (List.replicate g (0 : Int)).map V.int
  | 0 => rfl
  | g + 1 => by
    rw [List.replicate_succ, List.flatten_cons, rep_zero g, List.replicate_succ, List.map_cons]
    rfl
/-- slices of rows -/
theorem cut_from (ns : List Int) (k : Nat) : cutV (ns.map V.int) (some (k : Int)) none = (ns.drop k).map V.int := by
  unfold cutV
  rw [HT.sIx_nat, HT.sIx_none, List.map_drop]
  by_cases h : k ≤ (ns.map V.int).length
  · rw [Nat.min_eq_left h]
    apply List.take_of_length_le
    rw [List.length_drop]
    exact Nat.le_refl _
  · have h' : (ns.map V.int).length ≤ k := by omega
    rw [Nat.min_eq_right h', List.drop_eq_nil_of_le h', List.drop_eq_nil_of_le (Nat.le_refl _)]
    simp
theorem cut_to (ns : List Int) (k : Nat) : cutV (ns.map V.int) none (some (k : Int)) = (ns.take k).map V.int := by
  unfold cutV
  rw [HT.sIx_nat, HT.sIx_none, List.map_take]
  show List.take (min k (ns.map V.int).length - 0) (List.drop 0 (ns.map V.int)) = _
  rw [Nat.sub_zero, List.drop_zero]
  by_cases h : k ≤ (ns.map V.int).length
  · rw [Nat.min_eq_left h]
  · have h' : (ns.map V.int).length ≤ k := by omega
    rw [Nat.min_eq_right h', List.take_length, List.take_of_length_le h']
theorem cut_but (ns : List Int) : cutV (ns.map V.int) none (some (-1)) = ns.dropLast.map V.int := by
  have e : HT.sIx (ns.map V.int).length (ns.map V.int).length (some (-1)) = ns.length - 1 := by
    show (if (-1 : Int) < 0 then ((-1 : Int) + ((ns.map V.int).length : Int)).toNat else min (-1 : Int).toNat (ns.map V.int).length) = _
    rw [if_pos (by decide), List.length_map]
    show ((-1 : Int) + (ns.length : Int)).toNat = ns.length - 1
    omega
  unfold cutV
  rw [e, HT.sIx_none]
  show List.take (ns.length - 1 - 0) (List.drop 0 (ns.map V.int)) = _
  rw [Nat.sub_zero, List.drop_zero, ← List.map_take, List.dropLast_eq_take]
theorem drop_last_one {ns : List Int} : (ns.drop (ns.length - 1) = [0]) ↔ ns.getLast? = some 0 := by
  constructor
  · intro e
    rw [List.getLast?_eq_getElem?]
    have z := congrArg (fun l => l[0]?) e
    simp only [List.getElem?_drop] at z
    simpa using z
  · intro e
    have s := last_split e
    rw [s]
    simp
end FG

set_option maxHeartbeats 4000000
/-! lists and pairs of lists of whole numbers, as data; many rows at many places -/
namespace FG
open PySem PySem.Spec PyProof.Rows L2
theorem dI_depth (ns : List Int) : PyData.depth (dI ns) ≤ 2 := by
  have := dI_depthAll ns
  simp only [dI, PyData.depth]
  omega
theorem dLs_depth : ∀ rs : List (List Int), PyData.depthAll (rs.map dI) ≤ 2
  | [] => by simp [PyData.depthAll]
  | r :: rs => by
    have ih := dLs_depth rs
    have h := dI_depth r
    simp only [List.map_cons, PyData.depthAll]
    omega
theorem dI_lay1 (ns : List Int) : PyData.canLay0 (dI ns) = true := by
  simp only [dI, PyData.canLay0]
  exact dI_lay ns
theorem dLs_lay : ∀ rs : List (List Int), PyData.canLayAll0 (rs.map dI) = true
  | [] => by simp [PyData.canLayAll0]
  | r :: rs => by
    have ih := dLs_lay rs
    simp [PyData.canLayAll0, dI_lay1, ih]
theorem dLs_eqvAll : ∀ rs ts : List (List Int), PyData.eqvAll (rs.map dI) (ts.map dI) = decide (rs = ts)
  | [], [] => by simp [PyData.eqvAll]
  | [], _ :: _ => by simp [PyData.eqvAll]
  | _ :: _, [] => by simp [PyData.eqvAll]
  | r :: rs, t :: ts => by
    have ih := dLs_eqvAll rs ts
    simp only [List.map_cons, PyData.eqvAll, dI_eqv, ih]
    by_cases h1 : r = t
    · by_cases h2 : rs = ts
      · simp [h1, h2]
      · simp [h1, h2]
    · simp [h1]
/-- a list of lists of whole numbers -/
def dL (rs : List (List Int)) : PyData := .list (rs.map dI)
/-- a tuple of them -/
def dT (rs : List (List Int)) : PyData := .tuple (rs.map dI)
theorem dL_shaped (rs : List (List Int)) : SeqAt.shaped (dL rs) = true := by
  have h1 := dLs_depth rs
  have h2 : PyData.depth (dL rs) ≤ 64 := by
    simp only [dL, PyData.depth]
    omega
  unfold SeqAt.shaped
  rw [Bool.and_eq_true]
  exact ⟨by simp only [dL, PyData.canLay0]; exact dLs_lay rs, decide_eq_true h2⟩
theorem dT_shaped (rs : List (List Int)) : SeqAt.shaped (dT rs) = true := by
  have h1 := dLs_depth rs
  have h2 : PyData.depth (dT rs) ≤ 64 := by
    simp only [dT, PyData.depth]
    omega
  unfold SeqAt.shaped
  rw [Bool.and_eq_true]
  exact ⟨by simp only [dT, PyData.canLay0]; exact dLs_lay rs, decide_eq_true h2⟩
theorem dL_eqv (rs ts : List (List Int)) : PyData.eqv (dL rs) (dL ts) = decide (rs = ts) := by
  show PyData.eqvAll _ _ = _
  exact dLs_eqvAll rs ts
theorem dT_eqv (rs ts : List (List Int)) : PyData.eqv (dT rs) (dT ts) = decide (rs = ts) := by
  show PyData.eqvAll _ _ = _
  exact dLs_eqvAll rs ts
/-- lists of whole numbers, one at each place -/
inductive IntsAt (K : PySem.W.Frag) (H : Hp) : List Addr → List (List Int) → Prop
  | nil : IntsAt K H [] []
  | cons {a : Addr} {ns : List Int} {as : List Addr} {rs : List (List Int)} : SqL K H a (ns.map V.int) → IntsAt K H as rs → IntsAt K H (a :: as) (ns :: rs)
section
variable {K : PySem.W.Frag} {H H' : Hp}
theorem IntsAt.mono {as : List Addr} {rs : List (List Int)} (h : IntsAt K H as rs) (s : Same H H') : IntsAt K H' as rs := by
  induction h with
  | nil => exact .nil
  | cons h1 _ ih => exact .cons (s.seq h1) ih
theorem IntsAt.len {as : List Addr} {rs : List (List Int)} (h : IntsAt K H as rs) : as.length = rs.length := by
  induction h with
  | nil => rfl
  | cons _ _ ih => simp [ih]
theorem IntsAt.get {as : List Addr} {rs : List (List Int)} (h : IntsAt K H as rs) : ∀ {i : Nat} {x : V}, (as.map V.ref)[i]? = some x → ∃ a ns, x = .ref a ∧ as[i]? = some a ∧ rs[i]? = some ns ∧ SqL K H a (ns.map V.int) := by
  induction h with
  | nil => exact fun e => nomatch e
  | cons h1 _ ih =>
    intro i x e
    cases i with
    | zero => exact ⟨_, _, (Option.some.inj e).symm, rfl, rfl, h1⟩
    | succ i => exact ih e
theorem IntsAt.snoc {as : List Addr} {rs : List (List Int)} {a : Addr} {ns : List Int} (h : IntsAt K H as rs) (h1 : SqL K H a (ns.map V.int)) : IntsAt K H (as ++ [a]) (rs ++ [ns]) := by
  induction h with
  | nil => exact .cons h1 .nil
  | cons h2 _ ih => exact .cons h2 ih
theorem IntsAt.reverse {as : List Addr} {rs : List (List Int)} (h : IntsAt K H as rs) : IntsAt K H as.reverse rs.reverse := by
  induction h with
  | nil => exact .nil
  | cons h1 _ ih =>
    rw [List.reverse_cons, List.reverse_cons]
    exact ih.snoc h1
theorem IntsAt.take {as : List Addr} {rs : List (List Int)} (h : IntsAt K H as rs) : ∀ i : Nat, IntsAt K H (as.take i) (rs.take i) := by
  induction h with
  | nil => intro i; rw [List.take_nil, List.take_nil]; exact .nil
  | cons h1 _ ih =>
    intro i
    cases i with
    | zero => exact .nil
    | succ i => exact .cons h1 (ih i)
theorem IntsAt.drop {as : List Addr} {rs : List (List Int)} (h : IntsAt K H as rs) : ∀ i : Nat, IntsAt K H (as.drop i) (rs.drop i) := by
  induction h with
  | nil => intro i; rw [List.drop_nil, List.drop_nil]; exact .nil
  | cons h1 h2 ih =>
    intro i
    cases i with
    | zero => exact .cons h1 h2
    | succ i => exact ih i
theorem IntsAt.dp {as : List Addr} {rs : List (List Int)} (h : IntsAt K H as rs) : DpAll K H (as.map V.ref) (rs.map dI) := by
  induction h with
  | nil => exact .nil
  | cons h1 _ ih => exact .cons (dp_ints h1) ih
theorem dp_lists {p : Addr} {as : List Addr} {rs : List (List Int)} (hp : SqL K H p (as.map V.ref)) (h : IntsAt K H as rs) : Dp K H (.ref p) (dL rs) := .lst hp h.dp
theorem dp_tup {p : Addr} {as : List Addr} {rs : List (List Int)} (hp : SqT K H p (as.map V.ref)) (h : IntsAt K H as rs) : Dp K H (.ref p) (dT rs) := .tup hp h.dp
theorem seqT {t : Addr} {xs : List V} (s : Same H H') (h : SqT K H t xs) : SqT K H' t xs := by
  rcases h with h | h
  · rcases h with h | ⟨ob, h⟩
    · exact .inl (.inl (s _ _ h))
    · exact .inl (.inr ⟨ob, s _ _ h⟩)
  · exact .inr h
end
end FG

set_option maxHeartbeats 4000000
/-! what a def that tells a lean row promises; rows that stand as lists of their own -/
namespace FG
open PySem PySem.Spec PyProof.Rows L2
theorem none_same {H H' : Hp} {p : Addr} (s : Same H H') (h : H' p = none) : H p = none := by
  cases e : H p with
  | none => rfl
  | some o => exact absurd ((s p o e).symm.trans h) (by simp)
def LeanTold (H : Hp) (n : Int) (N : Nat) (Q : VK) : Prop :=
  ∀ (H' : Hp) (p : Addr) (r : List Int), Same H H' → H p = none → Row r → gaps r = true → val r = n → r.length ≤ N + 1 → H' p = some (.lst (r.map V.int)) → Q (.ref p) H'
theorem LeanTold.mono {H H1 : Hp} {n : Int} {N : Nat} {Q : VK} (q : LeanTold H n N Q) (s : Same H H1) : LeanTold H1 n N Q :=
  fun H' p r s' np => q H' p r (s.trans s') (none_same s np)
theorem cut_fromV (xs : List V) (k : Nat) : cutV xs (some (k : Int)) none = xs.drop k := by
  unfold cutV
  rw [HT.sIx_nat, HT.sIx_none]
  by_cases h : k ≤ xs.length
  · rw [Nat.min_eq_left h]
    apply List.take_of_length_le
    rw [List.length_drop]
    exact Nat.le_refl _
  · have h' : xs.length ≤ k := by omega
    rw [Nat.min_eq_right h', List.drop_eq_nil_of_le h', List.drop_eq_nil_of_le (Nat.le_refl _)]
    simp
theorem cut_toV (xs : List V) (k : Nat) : cutV xs none (some (k : Int)) = xs.take k := by
  unfold cutV
  rw [HT.sIx_nat, HT.sIx_none]
  show List.take (min k xs.length - 0) (List.drop 0 xs) = _
  rw [Nat.sub_zero, List.drop_zero]
  by_cases h : k ≤ xs.length
  · rw [Nat.min_eq_left h]
  · have h' : xs.length ≤ k := by omega
    rw [Nat.min_eq_right h', List.take_length, List.take_of_length_le h']
/-- lists of whole numbers, each a list of its own -/
inductive Own (H : Hp) : List Addr → List (List Int) → Prop
  | nil : Own H [] []
  | cons {a : Addr} {ns : List Int} {as : List Addr} {rs : List (List Int)} : H a = some (.lst (ns.map V.int)) → Own H as rs → Own H (a :: as) (ns :: rs)
section
variable {K : PySem.W.Frag} {H H' : Hp} {as : List Addr} {rs : List (List Int)}
theorem Own.ints (h : Own H as rs) : IntsAt K H as rs := by
  induction h with
  | nil => exact .nil
  | cons h1 _ ih => exact .cons (SqL.of h1) ih
theorem Own.mono (h : Own H as rs) (s : Same H H') : Own H' as rs := by
  induction h with
  | nil => exact .nil
  | cons h1 _ ih => exact .cons (s _ _ h1) ih
theorem Own.len (h : Own H as rs) : as.length = rs.length := by
  induction h with
  | nil => rfl
  | cons _ _ ih => simp [ih]
theorem Own.snoc {a : Addr} {ns : List Int} (h : Own H as rs) (h1 : H a = some (.lst (ns.map V.int))) : Own H (as ++ [a]) (rs ++ [ns]) := by
  induction h with
  | nil => exact .cons h1 .nil
  | cons h2 _ ih => exact .cons h2 ih
/-- none of them is a place that was free -/
theorem Own.free {x : Addr} (h : Own H as rs) (nx : H x = none) : x ∉ as := by
  induction h with
  | nil => simp
  | cons h1 _ ih =>
    intro m
    rcases List.mem_cons.mp m with e | e
    · subst e
      rw [nx] at h1
      cases h1
    · exact ih e
/-- they stand while all but x stands -/
theorem Own.but {x : Addr} (h : Own H as rs) (nx : x ∉ as) (f : ∀ b o, b ≠ x → H b = some o → H' b = some o) : Own H' as rs := by
  induction h with
  | nil => exact .nil
  | cons h1 _ ih =>
    exact .cons (f _ _ (fun e => nx (by rw [e]; exact List.mem_cons_self)) h1) (ih fun m => nx (List.mem_cons_of_mem _ m))
theorem Own.get (h : Own H as rs) {i : Nat} {ns : List Int} (e : rs[i]? = some ns) : ∃ a, as[i]? = some a ∧ H a = some (.lst (ns.map V.int)) := by
  induction h generalizing i with
  | nil => exact nomatch e
  | cons h1 _ ih =>
    cases i with
    | zero =>
      cases e
      exact ⟨_, rfl, h1⟩
    | succ i => exact ih e
end
section
variable {H H' : Hp} {as : List Addr} {rs : List (List Int)}
theorem Own.keep (h : Own H as rs) (f : ∀ b u, b ∈ as → H b = some u → H' b = some u) : Own H' as rs := by
  induction h with
  | nil => exact .nil
  | cons h1 _ ih => exact .cons (f _ _ List.mem_cons_self h1) (ih fun b u m => f b u (List.mem_cons_of_mem _ m))
theorem Own.there {b : Addr} (h : Own H as rs) (m : b ∈ as) : ∃ u, H b = some u := by
  induction h with
  | nil => exact nomatch m
  | cons h1 _ ih =>
    rcases List.mem_cons.mp m with e | e
    · rw [e]
      exact ⟨_, h1⟩
    · exact ih e
theorem Own.reverse (h : Own H as rs) : Own H as.reverse rs.reverse := by
  induction h with
  | nil => exact .nil
  | cons h1 _ ih =>
    rw [List.reverse_cons, List.reverse_cons]
    exact ih.snoc h1
theorem Own.drop (h : Own H as rs) : ∀ i : Nat, Own H (as.drop i) (rs.drop i) := by
  induction h with
  | nil => intro i; rw [List.drop_nil, List.drop_nil]; exact .nil
  | cons h1 h2 ih =>
    intro i
    cases i with
    | zero => exact .cons h1 h2
    | succ i => exact ih i
theorem Own.take (h : Own H as rs) : ∀ i : Nat, Own H (as.take i) (rs.take i) := by
  induction h with
  | nil => intro i; rw [List.take_nil, List.take_nil]; exact .nil
  | cons h1 _ ih =>
    intro i
    cases i with
    | zero => exact .nil
    | succ i => exact .cons h1 (ih i)
end
theorem upd_but {H : Hp} {x : Addr} {o : HO} : ∀ b u, b ≠ x → H b = some u → upd H x o b = some u := fun b u n e => by
  rw [upd_ne n]
  exact e
/-- the first lists copied, one by one, into a new list at D -/
def Copied (H1 : Hp) (D : Addr) (rs : List (List Int)) (i : Nat) (Hx : Hp) : Prop :=
  ∃ bs, Own Hx bs (rs.take i) ∧ D ∉ bs ∧ Same H1 Hx ∧ Hx D = some (.lst (bs.map V.ref)) ∧ ∀ b ∈ bs, H1 b = none
theorem Copied.start {H1 : Hp} {D : Addr} {rs : List (List Int)} (nD : H1 D = none) : Copied H1 D rs 0 (upd H1 D (.lst [])) :=
  ⟨[], .nil, by simp, same_upd nD, upd_same, fun _ m => nomatch m⟩
theorem Copied.step {H1 Hx : Hp} {D l : Addr} {rs : List (List Int)} {i : Nat} {r : List Int} (c : Copied H1 D rs i Hx) (nD : H1 D = none) (e : rs[i]? = some r) (nl : Hx l = none) :
    ∃ acc, (upd Hx l (.lst (r.map V.int))) D = some (.lst acc) ∧ acc.length ≤ rs.length ∧ Copied H1 D rs (i + 1) (upd (upd Hx l (.lst (r.map V.int))) D (.lst (acc ++ [.ref l]))) := by
  obtain ⟨bs, own, nb, s1, eD, nw⟩ := c
  have s2 : Same Hx (upd Hx l (.lst (r.map V.int))) := same_upd nl
  have lD : l ≠ D := fun z => by rw [z, eD] at nl; cases nl
  refine ⟨bs.map V.ref, s2 _ _ eD, ?_, bs ++ [l], ?_, ?_, fun b u h => ?_, ?_, fun b m => ?_⟩
  · rw [List.length_map, own.len, List.length_take]
    omega
  · rw [List.take_add_one, e]
    refine ((own.mono s2).snoc (a := l) upd_same).but (x := D) ?_ upd_but
    intro m
    rcases List.mem_append.mp m with m | m
    · exact nb m
    · exact lD (List.mem_singleton.mp m).symm
  · intro m
    rcases List.mem_append.mp m with m | m
    · exact nb m
    · exact lD (List.mem_singleton.mp m).symm
  · rw [upd_ne (ne_of_none h nD)]
    exact s2 _ _ (s1 _ _ h)
  · rw [upd_same, List.map_append]
    rfl
  · rcases List.mem_append.mp m with m | m
    · exact nw b m
    · rw [List.mem_singleton.mp m]
      exact none_same s1 nl
theorem Copied.done {H1 Hx : Hp} {D : Addr} {rs : List (List Int)} {m : Nat} (c : Copied H1 D rs m Hx) (e : rs.length ≤ m) :
    ∃ bs, Own Hx bs rs ∧ D ∉ bs ∧ Same H1 Hx ∧ Hx D = some (.lst (bs.map V.ref)) ∧ ∀ b ∈ bs, H1 b = none := by
  obtain ⟨bs, own, h⟩ := c
  rw [List.take_of_length_le e] at own
  exact ⟨bs, own, h⟩
/-- pairs that are held at h: each one of two lists alike -/
def HeldOk (H : Hp) (h : Addr) (hs : List V) : Prop := ∀ x ∈ hs, ∃ (t p o : Addr) (xs : List Int), x = .ref t ∧ t ≠ h ∧ p ≠ h ∧ o ≠ h ∧ H t = some (.tup [.ref p, .ref o]) ∧ H p = some (.lst (xs.map V.int)) ∧ H o = some (.lst (xs.map V.int))
theorem HeldOk.keep {H H' : Hp} {h : Addr} {hs : List V} (k : HeldOk H h hs) (f : ∀ b u, b ≠ h → H b = some u → H' b = some u) : HeldOk H' h hs := fun x hx => by
  obtain ⟨t, p, o, xs, e, a, b, c, d1, d2, d3⟩ := k x hx
  exact ⟨t, p, o, xs, e, a, b, c, f _ _ a d1, f _ _ b d2, f _ _ c d3⟩
theorem HeldOk.snoc {H : Hp} {h t p o : Addr} {hs : List V} {xs : List Int} (k : HeldOk H h hs) (a : t ≠ h) (b : p ≠ h) (c : o ≠ h) (d1 : H t = some (.tup [.ref p, .ref o])) (d2 : H p = some (.lst (xs.map V.int))) (d3 : H o = some (.lst (xs.map V.int))) :
    HeldOk H h (hs ++ [.ref t]) := fun x hx => by
  rcases List.mem_append.mp hx with m | m
  · exact k x m
  · exact ⟨t, p, o, xs, List.mem_singleton.mp m, a, b, c, d1, d2, d3⟩
theorem if_heap {S A P : Hp → Prop} {c : Bool} (go : ∀ Hx, S Hx → P Hx) (hA : ∀ Hx, S Hx → c = true → (∀ Hx, S Hx → P Hx) → A Hx) : ∀ Hx, S Hx → if c = true then A Hx else P Hx := fun z hz => by
  by_cases h : c = true
  · rw [if_pos h]
    exact hA z hz h go
  · rw [if_neg h]
    exact go z hz
theorem if_num {b A P : Int → Prop} {c : Bool} (go : ∀ n, b n → P n) (hA : ∀ z, b z → c = true → (∀ n, b n → P n) → A z) : ∀ z, b z → if c = true then A z else P z := fun z hz => by
  by_cases h : c = true
  · rw [if_pos h]
    exact hA z hz h go
  · rw [if_neg h]
    exact go z hz
theorem sign_small (z : Int) : -(2 ^ 64 : Int) < 1 - 2 * (if decide (z < 0) = true then (1 : Int) else 0) ∧ 1 - 2 * (if decide (z < 0) = true then (1 : Int) else 0) < 2 ^ 64 := by
  split <;> omega
theorem cut_lt {z m : Int} {k : Nat} (h : 0 < m) (hm : m ≤ ((2 ^ k : Nat) : Int)) : ((if z < 0 then -z else z) % m * (1 - 2 * (if decide (z < 0) = true then (1 : Int) else 0))).natAbs < 2 ^ k := by
  have h1 := Int.emod_nonneg (if z < 0 then -z else z) (show m ≠ 0 by omega)
  have h2 := Int.emod_lt_of_pos (if z < 0 then -z else z) h
  generalize (if z < 0 then -z else z) % m = r at h1 h2
  generalize 2 ^ k = P at hm
  split <;> omega
/-- list(xs), as a rule whose reading names the frame alone -/
def rListOf (K : PySem.W.Frag) : List V → Hp → VK → Prop := fun xs H Q => ∃ p ys, xs = [.ref p] ∧ (SqL K H p ys ∨ SqT K H p ys) ∧ ∀ l, H l = none → Q (.ref l) (upd H l (.lst ys))
theorem call_listOf {X : Cx} : CallR X (.type "list") (rListOf X.K) := call_list_of
/-- what numbers are together -/
def total (rs : List (List Int)) : Int := (rs.map val).sum
theorem total_snoc (rs : List (List Int)) (r : List Int) : total (rs ++ [r]) = total rs + val r := by
  unfold total
  simp
theorem total_append (rs ts : List (List Int)) : total (rs ++ ts) = total rs + total ts := by
  unfold total
  rw [List.map_append, List.sum_append_int]
theorem total_rev (rs : List (List Int)) : total rs.reverse = total rs := by
  induction rs with
  | nil => rfl
  | cons r rs ih =>
    rw [List.reverse_cons, total_snoc, ih]
    unfold total
    rw [List.map_cons, List.sum_cons, Int.add_comm]
theorem total_lt {k : Nat} : ∀ {m : Nat} (rs : List (List Int)), (∀ r ∈ rs, (val r).natAbs < 2 ^ k) → rs.length ≤ m → (total rs).natAbs ≤ m * 2 ^ k
  | m, [], _, _ => by
    unfold total
    simp
  | 0, _ :: _, _, h => absurd h (by simp)
  | m + 1, r :: rs, hb, h => by
    have ih := total_lt (m := m) rs (fun q hq => hb q (List.mem_cons_of_mem _ hq)) (by simpa using h)
    have h1 := hb r List.mem_cons_self
    have e : total (r :: rs) = val r + total rs := rfl
    rw [e, Nat.succ_mul]
    omega
end FG

set_option maxHeartbeats 4000000
/-! deeds done one by one; balances of steps joined two by two; a text cut at one sign, its signs counted; xs[::2], xs[1::2] -/
namespace XLed
open PySem PySem.Spec PyProof.Rows PySem.Builtin PySem.Builtin.Str L2 FG
open PySem.StrLaws (ChainG At occ_tight subAt_one)
/-! ### one sign counted -/
theorem count_tail (x : Str) (c : Nat) : ∀ (cuts : List Nat) (a f : Nat), a ≤ x.cps.toList.length → ChainG x ⟨#[c]⟩ x.length a cuts f → (∀ k, f ≤ k → ¬ At x ⟨#[c]⟩ x.length k) →
    cuts.length = (x.cps.toList.drop a).count c
  | [], a, f, _, h, hn => by
    have e : f = a := h
    subst e
    have z : (x.cps.toList.drop f).count c = 0 := by
      rw [List.count_eq_zero]
      intro m
      obtain ⟨j, hj⟩ := List.getElem?_of_mem m
      rw [List.getElem?_drop] at hj
      exact hn (f + j) (by omega) ((subAt_one x c (f + j)).mpr hj)
    rw [z]
    rfl
  | d :: r, a, f, ha, h, hn => by
    obtain ⟨h1, h2, h3, h4⟩ := h
    have hd := (subAt_one x c d).mp h2
    have hlt := (List.getElem?_eq_some_iff.mp hd).1
    have ih := count_tail x c r (d + 1) f (by omega) h4 hn
    have e1 : x.cps.toList.drop a = (x.cps.toList.drop a).take (d - a) ++ x.cps.toList.drop d := by
      have := (List.take_append_drop (d - a) (x.cps.toList.drop a)).symm
      rw [List.drop_drop] at this
      rw [show a + (d - a) = d by omega] at this
      exact this
    have e2 : x.cps.toList.drop d = c :: x.cps.toList.drop (d + 1) := by
      rw [List.drop_eq_getElem_cons hlt]
      rw [List.getElem?_eq_getElem hlt] at hd
      rw [Option.some.inj hd]
    have z : ((x.cps.toList.drop a).take (d - a)).count c = 0 := by
      rw [List.count_eq_zero]
      intro m
      obtain ⟨j, hj⟩ := List.getElem?_of_mem m
      have hj2 : j < d - a := by
        have := (List.getElem?_eq_some_iff.mp hj).1
        rw [List.length_take] at this
        omega
      rw [List.getElem?_take_of_lt hj2, List.getElem?_drop] at hj
      exact h3 (a + j) (by omega) (by omega) ((subAt_one x c (a + j)).mpr hj)
    rw [e1, List.count_append, z, e2, List.count_cons_self, List.length_cons, ih]
    omega
/-- x.count of one sign -/
theorem count_one (x : Str) (c : Nat) : Txt.count x ⟨#[c]⟩ = ((x.cps.toList.count c : Nat) : Int) := by
  obtain ⟨f, g, hn⟩ := occ_tight x ⟨#[c]⟩ (Nat.le_refl 1)
  have h := count_tail x c _ 0 f (Nat.zero_le _) g hn
  rw [List.drop_zero] at h
  show ((_ : Nat) : Int) = _
  rw [h]
/-! ### cut at one sign -/
/-- the parts between the signs s -/
def cutAt (s : Nat) : List Nat → List Nat → List (List Nat)
  | acc, [] => [acc]
  | acc, c :: r => if c = s then acc :: cutAt s [] r else cutAt s (acc ++ [c]) r
theorem spl_cut (s : Nat) : ∀ (l acc : List Nat), TL.spl [s] 0 acc l = cutAt s acc l
  | [], acc => TL.spl_nil _ _ _
  | c :: r, acc => by
    by_cases h : c = s
    · have hp : TL.pre [s] (c :: r) = true := by
        rw [h]
        exact TL.pre_self [s] r
      rw [TL.spl_hit hp]
      show acc :: TL.spl [s] 0 [] r = _
      rw [spl_cut s r []]
      simp [cutAt, h]
    · rw [TL.spl_miss (TL.pre_of_head [] r h), spl_cut s r]
      simp [cutAt, h]
theorem cut_text (x : Str) (s : Nat) (hs : s < 256) : (Txt.split x ⟨#[s]⟩).map TL.tl = cutAt s [] (TL.tl x) := by
  have h := TL.split_spl x ⟨#[s]⟩ (by show [s] ≠ []; simp) (TL.kind_ok (by simp [hs]))
  rw [h]
  exact spl_cut s (TL.tl x) []
/-! ### deeds -/
/-- one deed -/
def deed (n : Int) (c : Nat) : Int := if c = 100 then 2 * n else if c = 117 then n + 1 else n - 1
/-- deeds from n on -/
def going (l : List Nat) (n : Int) : Int := l.foldl deed n
/-- how far a part's steps lead -/
def bal (p : List Nat) : Int := (p.count 117 : Int) - (p.count 119 : Int)
/-- balances with places of D doublings between -/
def hf (D : Nat) (acc : Int) (cs : List Int) : Int := cs.foldl (fun a b => a * 2 ^ D + b) acc
theorem bal_snoc (p : List Nat) (c : Nat) (h : c = 117 ∨ c = 119) : bal (p ++ [c]) = deed (bal p) c := by
  unfold bal deed
  rw [List.count_append, List.count_append]
  rcases h with e | e <;> subst e <;> simp <;> omega
theorem going_cut : ∀ (l acc : List Nat) (n : Int), (∀ c ∈ l, c = 100 ∨ c = 117 ∨ c = 119) → hf 1 n ((cutAt 100 acc l).map bal) = going l (2 * n + bal acc)
  | [], acc, n, _ => by
    show n * 2 ^ 1 + bal acc = 2 * n + bal acc
    omega
  | c :: r, acc, n, h => by
    have hr : ∀ c ∈ r, c = 100 ∨ c = 117 ∨ c = 119 := fun d hd => h d (List.mem_cons_of_mem _ hd)
    by_cases e : c = 100
    · subst e
      have ih := going_cut r [] (n * 2 ^ 1 + bal acc) hr
      have b0 : bal [] = 0 := rfl
      rw [b0, Int.add_zero] at ih
      have ec : cutAt 100 acc (100 :: r) = acc :: cutAt 100 [] r := by simp [cutAt]
      rw [ec, List.map_cons]
      show hf 1 (n * 2 ^ 1 + bal acc) ((cutAt 100 [] r).map bal) = going r (deed (2 * n + bal acc) 100)
      rw [ih]
      have : deed (2 * n + bal acc) 100 = 2 * (n * 2 ^ 1 + bal acc) := by
        show 2 * (2 * n + bal acc) = _
        omega
      rw [this]
    · have hc : c = 117 ∨ c = 119 := by
        rcases h c List.mem_cons_self with z | z
        · exact absurd z e
        · exact z
      have ih := going_cut r (acc ++ [c]) n hr
      have ec : cutAt 100 acc (c :: r) = cutAt 100 (acc ++ [c]) r := by simp [cutAt, e]
      rw [ec, ih, bal_snoc acc c hc]
      show going r (2 * n + deed (bal acc) c) = going r (deed (2 * n + bal acc) c)
      have : deed (2 * n + bal acc) c = 2 * n + deed (bal acc) c := by
        rcases hc with z | z <;> subst z <;> simp [deed] <;> omega
      rw [this]
/-- deeds done, told by the balances -/
theorem going_hf (l : List Nat) (h : ∀ c ∈ l, c = 100 ∨ c = 117 ∨ c = 119) : hf 1 0 ((cutAt 100 [] l).map bal) = going l 0 := going_cut l [] 0 h
theorem cut_ne (s : Nat) : ∀ l acc : List Nat, cutAt s acc l ≠ []
  | [], _ => by simp [cutAt]
  | c :: r, acc => by
    unfold cutAt
    split
    · simp
    · exact cut_ne s r _
theorem cut_len (s : Nat) : ∀ l acc : List Nat, (cutAt s acc l).length ≤ l.length + 1
  | [], _ => by simp [cutAt]
  | c :: r, acc => by
    unfold cutAt
    split
    · have := cut_len s r []
      simp only [List.length_cons]
      omega
    · have := cut_len s r (acc ++ [c])
      simp only [List.length_cons]
      omega
theorem cut_part (s : Nat) : ∀ l acc : List Nat, ∀ p ∈ cutAt s acc l, p.length ≤ acc.length + l.length
  | [], acc, p, h => by
    rw [List.mem_singleton.mp h]
    exact Nat.le_refl _
  | c :: r, acc, p, h => by
    unfold cutAt at h
    split at h
    · rcases List.mem_cons.mp h with e | e
      · rw [e]
        omega
      · have := cut_part s r [] p e
        simp only [List.length_cons, List.length_nil] at this ⊢
        omega
    · have := cut_part s r _ p h
      simp only [List.length_append, List.length_cons, List.length_nil] at this ⊢
      omega
theorem bal_lt (p : List Nat) : (bal p).natAbs ≤ p.length := by
  have h1 := List.count_le_length (a := 117) (l := p)
  have h2 := List.count_le_length (a := 119) (l := p)
  unfold bal
  omega
/-! ### every second item -/
def strided {α : Type} (off : Nat) (xs : List α) : List α := (List.range (xs.length / 2)).filterMap fun i => xs[2 * i + off]?
theorem strided_two {α : Type} (off : Nat) (a b : α) (r : List α) : strided off (a :: b :: r) = ([a, b][off]?).toList ++ strided off r ∨ 1 < off := by
  by_cases h : 1 < off
  · exact .inr h
  · refine .inl ?_
    unfold strided
    have e : (a :: b :: r).length / 2 = r.length / 2 + 1 := by
      simp only [List.length_cons]
      omega
    rw [e, List.range_succ_eq_map, List.filterMap_cons, List.filterMap_map]
    have e2 : ((fun i => (a :: b :: r)[2 * i + off]?) ∘ Nat.succ) = fun i => r[2 * i + off]? := by
      funext i
      show (a :: b :: r)[2 * (i + 1) + off]? = _
      rw [show 2 * (i + 1) + off = 2 * i + off + 1 + 1 by omega]
      rfl
    rw [e2]
    have c : off = 0 ∨ off = 1 := by omega
    rcases c with c | c <;> subst c <;> rfl
theorem strided0 {α : Type} (a b : α) (r : List α) : strided 0 (a :: b :: r) = a :: strided 0 r := by
  rcases strided_two 0 a b r with h | h
  · exact h
  · omega
theorem strided1 {α : Type} (a b : α) (r : List α) : strided 1 (a :: b :: r) = b :: strided 1 r := by
  rcases strided_two 1 a b r with h | h
  · exact h
  · omega
theorem strided_map {α β : Type} (f : α → β) (off : Nat) (xs : List α) : strided off (xs.map f) = (strided off xs).map f := by
  unfold strided
  rw [List.length_map, List.map_filterMap]
  apply congrArg (fun g => List.filterMap g _)
  funext i
  rw [List.getElem?_map]
/-- neighbours joined -/
def joined (D : Nat) (cs : List Int) : List Int := List.zipWith (fun a b => a * 2 ^ D + b) (strided 0 cs) (strided 1 cs)
theorem joined_two (D : Nat) (a b : Int) (r : List Int) : joined D (a :: b :: r) = (a * 2 ^ D + b) :: joined D r := by
  unfold joined
  rw [strided0, strided1]
  rfl
theorem hf_joined (D : Nat) : ∀ (cs : List Int) (acc : Int), cs.length % 2 = 0 → hf (D * 2) acc (joined D cs) = hf D acc cs
  | [], acc, _ => rfl
  | [x], acc, h => by simp at h
  | a :: b :: r, acc, h => by
    have ih := hf_joined D r (acc * 2 ^ (D * 2) + (a * 2 ^ D + b)) (by simp only [List.length_cons] at h; omega)
    rw [joined_two]
    show hf (D * 2) (acc * 2 ^ (D * 2) + (a * 2 ^ D + b)) (joined D r) = hf D ((acc * 2 ^ D + a) * 2 ^ D + b) r
    rw [ih]
    have e : acc * 2 ^ (D * 2) + (a * 2 ^ D + b) = (acc * 2 ^ D + a) * 2 ^ D + b := by
      have e2 : (2 : Int) ^ (D * 2) = 2 ^ D * 2 ^ D := by rw [Nat.mul_comm, Nat.two_mul, Int.pow_add]
      rw [e2, Int.add_mul, ← Int.mul_assoc]
      omega
    rw [e]
theorem joined_len (D : Nat) : ∀ (cs : List Int), cs.length % 2 = 0 → (joined D cs).length = cs.length / 2
  | [], _ => rfl
  | [x], h => by simp at h
  | a :: b :: r, h => by
    have ih := joined_len D r (by simp only [List.length_cons] at h; omega)
    rw [joined_two, List.length_cons, ih]
    simp only [List.length_cons]
    omega
theorem strided_len {α : Type} : ∀ (off : Nat) (cs : List α), off ≤ 1 → cs.length % 2 = 0 → (strided off cs).length = cs.length / 2
  | _, [], _, _ => by simp [strided]
  | _, [x], _, h => by simp at h
  | off, a :: b :: r, ho, h => by
    have ih := strided_len off r ho (by simp only [List.length_cons] at h; omega)
    have c : off = 0 ∨ off = 1 := by omega
    rcases c with c | c <;> subst c
    · rw [strided0, List.length_cons, ih]
      simp only [List.length_cons]
      omega
    · rw [strided1, List.length_cons, ih]
      simp only [List.length_cons]
      omega
theorem joined_lt {D E : Nat} : ∀ (cs : List Int), cs.length % 2 = 0 → (∀ c ∈ cs, c.natAbs < 2 ^ E) → ∀ c ∈ joined D cs, c.natAbs < 2 ^ (E + D + 1)
  | [], _, _, c, h => nomatch h
  | [x], h, _, _, _ => by simp at h
  | a :: b :: r, h, hb, c, hc => by
    rw [joined_two] at hc
    rcases List.mem_cons.mp hc with e | e
    · have ha := hb a List.mem_cons_self
      have hb2 := hb b (List.mem_cons_of_mem _ List.mem_cons_self)
      have e1 : (a * 2 ^ D).natAbs = a.natAbs * 2 ^ D := by
        rw [Int.natAbs_mul, Int.natAbs_pow]
        rfl
      have e2 : (a * 2 ^ D + b).natAbs ≤ (a * 2 ^ D).natAbs + b.natAbs := Int.natAbs_add_le _ _
      have e3 : a.natAbs * 2 ^ D < 2 ^ E * 2 ^ D := Nat.mul_lt_mul_of_pos_right ha (Nat.pow_pos (by decide))
      have e4 : 2 ^ E ≤ 2 ^ (E + D) := Nat.pow_le_pow_right (by decide) (by omega)
      rw [← Nat.pow_add] at e3
      rw [e, Nat.pow_succ]
      omega
    · exact joined_lt r (by simp only [List.length_cons] at h; omega) (fun c hc => hb c (List.mem_cons_of_mem _ (List.mem_cons_of_mem _ hc))) c e
/-! ### xs[::2], xs[1::2] -/
theorem vals_get : ∀ {xs : List V} {its : List Value}, Vals xs its → ∀ j : Nat, (xs[j]? = none ∧ its[j]? = none) ∨ ∃ x u, xs[j]? = some x ∧ its[j]? = some u ∧ RelV x u
  | _, _, .nil, _ => .inl ⟨rfl, rfl⟩
  | _, _, .cons r _, 0 => .inr ⟨_, _, rfl, rfl, r⟩
  | _, _, .cons _ rs, j + 1 => vals_get rs j
theorem vals_pick {xs : List V} {its : List Value} (r : Vals xs its) (f : Nat → Nat) : ∀ js : List Nat, Vals (js.filterMap fun j => xs[f j]?) (js.filterMap fun j => its[f j]?)
  | [] => .nil
  | j :: js => by
    rcases vals_get r (f j) with ⟨h1, h2⟩ | ⟨x, u, h1, h2, h3⟩
    · rw [List.filterMap_cons, List.filterMap_cons, h1, h2]
      exact vals_pick r f js
    · rw [List.filterMap_cons, List.filterMap_cons, h1, h2]
      exact .cons h3 (vals_pick r f js)
theorem pick_step (its : Array Value) (lo : Option Int) (off : Nat) (hlo : (lo = none ∧ off = 0) ∨ (lo = some 1 ∧ off = 1)) (he : its.size % 2 = 0) :
    slicePick its lo none (some 2) = ((List.range (its.size / 2)).filterMap fun j => its.toList[2 * j + off]?).toArray := by
  unfold slicePick
  have eb : sliceBounds lo none (some 2) its.size = (if its.size = 0 then 0 else (off : Int), (its.size : Int), 2) := by
    rcases hlo with ⟨e1, e2⟩ | ⟨e1, e2⟩ <;> subst e1 <;> subst e2
    · show ((0 : Int), (its.size : Int), (2 : Int)) = _
      split <;> rfl
    · show (max 0 (min 1 (its.size : Int)), (its.size : Int), (2 : Int)) = _
      by_cases h : its.size = 0
      · rw [if_pos h, h]
        rfl
      · rw [if_neg h]
        have : max 0 (min 1 (its.size : Int)) = 1 := by omega
        rw [this]
        rfl
  rw [eb]
  show ((sliceRange (if its.size = 0 then 0 else (off : Int)) (its.size : Int) 2).filterMap (its[·]?)).toArray = _
  have hoff : off ≤ 1 := by
    rcases hlo with ⟨_, e⟩ | ⟨_, e⟩ <;> omega
  have er : sliceRange (if its.size = 0 then 0 else (off : Int)) (its.size : Int) 2 = (List.range (its.size / 2)).map fun j => 2 * j + off := by
    by_cases h : its.size = 0
    · rw [if_pos h, h]
      rfl
    · rw [if_neg h]
      unfold sliceRange
      have h1 : (2 : Int) > 0 := by decide
      have h2 : (off : Int) < (its.size : Int) := by omega
      simp only [h1, if_true, h2]
      have h3 : (((its.size : Int) - off + 2 - 1) / 2).toNat = its.size / 2 := by omega
      rw [h3]
      apply List.map_congr_left
      intro k hk
      omega
  rw [er, List.filterMap_map]
  apply congrArg List.toArray
  apply congrArg (fun g => List.filterMap g _)
  funext j
  show its[2 * j + off]? = its.toList[2 * j + off]?
  simp
def tStep (K : PySem.W.Frag) (off : Nat) (te : TE) : TE := fun σ H Q => te σ H fun x H1 => ∃ a xs, x = .ref a ∧ SqL K H1 a xs ∧ xs.length % 2 = 0 ∧ ∀ p, H1 p = none → Q (.ref p) (upd H1 p (.lst (strided off xs)))
theorem step_run {X : Cx} {pins : List (Addr × Obj)} {σ : L2.St} {H : Hp} {s : Shared} {Q : VK} {a : Addr} {xs : List V} {vl vu vs : Value} {lo : Option Int} {off : Nat}
    (I : Inv X pins σ H s) (hx : SqL X.K H a xs) (he : xs.length % 2 = 0) (hlo : (lo = none ∧ off = 0) ∨ (lo = some 1 ∧ off = 1)) (pl : IsPart vl lo) (pu : IsPart vu none) (ps : IsPart vs (some 2))
    (q : ∀ p, H p = none → Q (.ref p) (upd H p (.lst (strided off xs)))) :
    wpAny (model X.prog X.w) X.A (getItem (.ref a) (.ref s.heap.objs.size)) (EP X pins σ Q) X.xe { s with heap := s.heap.push { cls := .type "slice", data := .fields #[vl, vu, vs] } } := by
  have I5 : Inv X pins σ H { s with heap := s.heap.push { cls := .type "slice", data := .fields #[vl, vu, vs] } } := I.kept (t' := s.toks) fun b ob q => Heap.get?_push_of_some _ q
  obtain ⟨its, r, ht, hz⟩ := I5.list hx
  have hlen := r.length
  have hsz : its.toArray.size = xs.length := by rw [List.size_toArray]; exact hlen.symm
  refine wpAny_getItem_list_slice ht.isList (Heap.IsSliceOf.new _ vl vu vs) pl pu ps (by decide) ?_ (by rw [List.size_toArray]; omega)
  rw [pick_step its.toArray lo off hlo (by rw [hsz]; exact he), hsz]
  refine ⟨.ref _, _, I5.laid (t' := s.toks) (o := .lst (strided off xs)) (fun b ob q => Heap.get?_push_of_some _ q) (Nat.le_refl _) ?_, rfl, q _ (I5.hok.fresh (Nat.le_refl _))⟩
  refine ⟨?_, _, 0, vals_pick r (fun j => 2 * j + off) (List.range (xs.length / 2)), Heap.get?_push_size _ rfl⟩
  have : (strided off xs).length ≤ xs.length / 2 := by
    unfold strided
    refine Nat.le_trans (List.length_filterMap_le _ _) ?_
    rw [List.length_range]
    exact Nat.le_refl _
  omega
theorem pe_ev {X : Cx} {e : Expr} {te : TE} {k : Nat} {p1 p3 pos : Pos} (he : PE X e te) : PE X (.Subscript e (.Slice none none (some (.Constant (.int 2) k p1)) p3) pos) (tStep X.K 0 te) := by
  refine ⟨fun pins s σ H Q I h => ?_⟩
  refine Subscript_ (thn (he.run pins s σ H _ I h) fun v s1 ⟨x, H1, I1, r1, q1⟩ => ?_)
  obtain ⟨a, xs, ex, hx, ee, q⟩ := q1
  subst ex
  cases r1
  have hst : PO X (some (.Constant (.int 2) k p1)) (tPart (tC (.int 2))) := po_some pe_int
  refine wpAny_Slice (thn (po_none.run pins s1 σ H1 (fun o H2 => o = none ∧ H2 = H1) I1 ⟨rfl, rfl⟩) fun vl s2 ⟨l, H2, I2, pl, el, e2⟩ => ?_)
  subst el e2
  refine thn (po_none.run pins s2 σ H2 (fun o H3 => o = none ∧ H3 = H2) I2 ⟨rfl, rfl⟩) fun vu s3 ⟨u, H3, I3, pu, eu, e3⟩ => ?_
  subst eu e3
  refine thn (hst.run pins s3 σ H3 (fun o H4 => o = some 2 ∧ H4 = H3) I3 ⟨2, rfl, rfl, rfl⟩) fun vs s4 ⟨o, H4, I4, ps, eo, e4⟩ => ?_
  subst eo e4
  show wpAny (model X.prog X.w) X.A (subscriptTail e (.Slice none none (some (.Constant (.int 2) k p1)) p3) (.ref a) (.ref s4.heap.objs.size)) (EP X pins σ Q) X.xe { s4 with heap := s4.heap.push { cls := .type "slice", data := .fields #[vl, vu, vs] } }
  have I5 : Inv X pins σ H4 { s4 with heap := s4.heap.push { cls := .type "slice", data := .fields #[vl, vu, vs] } } := I4.kept (t' := s4.toks) fun b ob q => Heap.get?_push_of_some _ q
  obtain ⟨its, r, ht, hz⟩ := I5.list hx
  refine tail_any (ops := [.ref a, .ref s4.heap.objs.size]) ht.isList.typeIs (PySem.slot_list_getitem.lookup) ?_ (by with_unfolding_all rfl)
  exact step_run I4 hx ee (.inl ⟨rfl, rfl⟩) pl pu ps q
theorem pe_od {X : Cx} {e : Expr} {te : TE} {k k0 : Nat} {p0 p1 p3 pos : Pos} (he : PE X e te) : PE X (.Subscript e (.Slice (some (.Constant (.int 1) k0 p0)) none (some (.Constant (.int 2) k p1)) p3) pos) (tStep X.K 1 te) := by
  refine ⟨fun pins s σ H Q I h => ?_⟩
  refine Subscript_ (thn (he.run pins s σ H _ I h) fun v s1 ⟨x, H1, I1, r1, q1⟩ => ?_)
  obtain ⟨a, xs, ex, hx, ee, q⟩ := q1
  subst ex
  cases r1
  have hst : PO X (some (.Constant (.int 2) k p1)) (tPart (tC (.int 2))) := po_some pe_int
  have hlo : PO X (some (.Constant (.int 1) k0 p0)) (tPart (tC (.int 1))) := po_some pe_int
  refine wpAny_Slice (thn (hlo.run pins s1 σ H1 (fun o H2 => o = some 1 ∧ H2 = H1) I1 ⟨1, rfl, rfl, rfl⟩) fun vl s2 ⟨l, H2, I2, pl, el, e2⟩ => ?_)
  subst el e2
  refine thn (po_none.run pins s2 σ H2 (fun o H3 => o = none ∧ H3 = H2) I2 ⟨rfl, rfl⟩) fun vu s3 ⟨u, H3, I3, pu, eu, e3⟩ => ?_
  subst eu e3
  refine thn (hst.run pins s3 σ H3 (fun o H4 => o = some 2 ∧ H4 = H3) I3 ⟨2, rfl, rfl, rfl⟩) fun vs s4 ⟨o, H4, I4, ps, eo, e4⟩ => ?_
  subst eo e4
  show wpAny (model X.prog X.w) X.A (subscriptTail e (.Slice (some (.Constant (.int 1) k0 p0)) none (some (.Constant (.int 2) k p1)) p3) (.ref a) (.ref s4.heap.objs.size)) (EP X pins σ Q) X.xe { s4 with heap := s4.heap.push { cls := .type "slice", data := .fields #[vl, vu, vs] } }
  have I5 : Inv X pins σ H4 { s4 with heap := s4.heap.push { cls := .type "slice", data := .fields #[vl, vu, vs] } } := I4.kept (t' := s4.toks) fun b ob q => Heap.get?_push_of_some _ q
  obtain ⟨its, r, ht, hz⟩ := I5.list hx
  refine tail_any (ops := [.ref a, .ref s4.heap.objs.size]) ht.isList.typeIs (PySem.slot_list_getitem.lookup) ?_ (by with_unfolding_all rfl)
  exact step_run I4 hx ee (.inr ⟨rfl, rfl⟩) pl pu ps q
/-! ### walks over a text, over two lists -/
theorem lc_str {x : Str} {g : TG} {tt : TT} {te : TE} {vs : List Nat} {σ : L2.St} {H1 : Hp} {D : Addr} {Qd : Hp → Prop} (Pv : Nat → Hp → Prop) (h0 : Pv 0 (upd H1 D (.lst [])))
    (hs : ∀ i c H, x.cps.toList[i]? = some c → Pv i H → g (.str ⟨#[c]⟩) (wipe σ vs) H fun σ2 H2 => wipe σ2 vs = wipe σ vs ∧ tt σ2 H2 fun b H3 =>
      if b = true then te σ2 H3 fun y H4 => ∃ acc, H4 D = some (.lst acc) ∧ acc.length < sizeLine ∧ Pv (i + 1) (upd H4 D (.lst (acc ++ [y]))) else Pv (i + 1) H3) (hd : ∀ H, Pv x.cps.toList.length H → Qd H) :
    ∃ W : Nat → Nat → Hp → Prop, (∃ m, W 0 m (upd H1 D (.lst []))) ∧ ∀ i m H, W i m H →
      ((Its x).stop i H ∧ Qd H) ∨ ((Its x).go i H ∧ ∃ Nx : Hp → Prop, (∀ H', Nx H' → ∃ m', m' < m ∧ W (i + 1) m' H') ∧ ∀ v H', (Its x).yld i H v H' → g v (wipe σ vs) H' fun σ2 H2 => wipe σ2 vs = wipe σ vs ∧ tt σ2 H2 fun b H3 =>
        if b = true then te σ2 H3 fun y H4 => ∃ acc, H4 D = some (.lst acc) ∧ acc.length < sizeLine ∧ Nx (upd H4 D (.lst (acc ++ [y]))) else Nx H3) := by
  have sz : x.cps.toList.length = x.cps.size := Array.length_toList
  refine ⟨fun i m H => m = x.cps.size - i ∧ i ≤ x.cps.size ∧ Pv i H, ⟨_, rfl, Nat.zero_le _, h0⟩, ?_⟩
  rintro i m H ⟨rfl, hi, p⟩
  by_cases hlt : i < x.cps.size
  · refine .inr ⟨hlt, Pv (i + 1), fun H' p' => ⟨x.cps.size - (i + 1), by omega, rfl, hlt, p'⟩, fun v H' y => ?_⟩
    obtain ⟨rfl, c, hc, rfl⟩ := y
    exact hs i c _ (by rw [Array.getElem?_toList]; exact hc) p
  · have e : i = x.cps.toList.length := by omega
    subst e
    exact .inl ⟨by show x.cps.size ≤ _; omega, hd H p⟩
theorem for_str {x : Str} {g : TG} {tb : TS} {D : Ends} {σ : L2.St} {H : Hp} (Pv : Nat → L2.St → Hp → Prop) (h0 : Pv 0 σ H)
    (hs : ∀ (i c : Nat) (σ : L2.St) (H : Hp), x.cps.toList[i]? = some c → Pv i σ H → g (.str ⟨#[c]⟩) σ H fun σ2 H2 => tb { D with nx := Pv (i + 1), ct := Pv (i + 1), bk := D.nx } σ2 H2) (hd : ∀ σ H, Pv x.cps.toList.length σ H → D.nx σ H) :
    ∃ W : Nat → Nat → L2.St → Hp → Prop, (∃ m, W 0 m σ H) ∧ ∀ i m σ H, W i m σ H →
      ((Its x).stop i H ∧ D.nx σ H) ∨ ((Its x).go i H ∧ ∃ N : L2.St → Hp → Prop, (∀ σ' H', N σ' H' → ∃ m', m' < m ∧ W (i + 1) m' σ' H') ∧ ∀ v H', (Its x).yld i H v H' → g v σ H' fun σ2 H2 => tb { D with nx := N, ct := N, bk := D.nx } σ2 H2) := by
  have sz : x.cps.toList.length = x.cps.size := Array.length_toList
  refine ⟨fun i m σ H => m = x.cps.size - i ∧ i ≤ x.cps.size ∧ Pv i σ H, ⟨_, rfl, Nat.zero_le _, h0⟩, ?_⟩
  rintro i m σ H ⟨rfl, hi, p⟩
  by_cases hlt : i < x.cps.size
  · refine .inr ⟨hlt, Pv (i + 1), fun σ' H' p' => ⟨x.cps.size - (i + 1), by omega, rfl, hlt, p'⟩, fun v H' y => ?_⟩
    obtain ⟨rfl, c, hc, rfl⟩ := y
    exact hs i c _ _ (by rw [Array.getElem?_toList]; exact hc) p
  · have e : i = x.cps.toList.length := by omega
    subst e
    exact .inl ⟨by show x.cps.size ≤ _; omega, hd σ H p⟩
theorem lc_zip {K : PySem.W.Frag} {a b : Addr} {xs ys : List V} {g : TG} {tt : TT} {te : TE} {vs : List Nat} {σ : L2.St} {H1 : Hp} {D : Addr} {Qd : Hp → Prop} (hl : xs.length = ys.length) (Pv : Nat → Hp → Prop) (h0 : Pv 0 (upd H1 D (.lst [])))
    (hq : ∀ i H, Pv i H → SqL K H a xs ∧ SqL K H b ys)
    (hs : ∀ i x y T H, xs[i]? = some x → ys[i]? = some y → Pv i H → H T = none → g (.ref T) (wipe σ vs) (upd H T (.tup [x, y])) fun σ2 H2 => wipe σ2 vs = wipe σ vs ∧ tt σ2 H2 fun b H3 =>
      if b = true then te σ2 H3 fun y H4 => ∃ acc, H4 D = some (.lst acc) ∧ acc.length < sizeLine ∧ Pv (i + 1) (upd H4 D (.lst (acc ++ [y]))) else Pv (i + 1) H3) (hd : ∀ H, Pv xs.length H → Qd H) :
    ∃ W : Nat → Nat → Hp → Prop, (∃ m, W 0 m (upd H1 D (.lst []))) ∧ ∀ i m H, W i m H →
      ((Itz K a b).stop i H ∧ Qd H) ∨ ((Itz K a b).go i H ∧ ∃ Nx : Hp → Prop, (∀ H', Nx H' → ∃ m', m' < m ∧ W (i + 1) m' H') ∧ ∀ v H', (Itz K a b).yld i H v H' → g v (wipe σ vs) H' fun σ2 H2 => wipe σ2 vs = wipe σ vs ∧ tt σ2 H2 fun b H3 =>
        if b = true then te σ2 H3 fun y H4 => ∃ acc, H4 D = some (.lst acc) ∧ acc.length < sizeLine ∧ Nx (upd H4 D (.lst (acc ++ [y]))) else Nx H3) := by
  refine ⟨fun i m H => m = xs.length - i ∧ i ≤ xs.length ∧ Pv i H, ⟨_, rfl, Nat.zero_le _, h0⟩, ?_⟩
  rintro i m H ⟨rfl, hi, p⟩
  obtain ⟨qx, qy⟩ := hq i H p
  by_cases hlt : i < xs.length
  · have hx : xs[i]? = some xs[i] := List.getElem?_eq_getElem hlt
    have hlt2 : i < ys.length := by omega
    have hy : ys[i]? = some ys[i] := List.getElem?_eq_getElem hlt2
    refine .inr ⟨⟨xs, ys, _, _, qx, qy, hx, hy⟩, Pv (i + 1), fun H' p' => ⟨xs.length - (i + 1), by omega, rfl, hlt, p'⟩, fun v H' y => ?_⟩
    obtain ⟨T, x', y', rfl, hT, rfl, f1, f2⟩ := y
    exact hs i x' y' T H (f1 _ qx) (f2 _ qy) p hT
  · have e : i = xs.length := by omega
    subst e
    exact .inl ⟨⟨xs, ys, qx, qy, .inl (Nat.le_refl _)⟩, hd H p⟩
/-! ### slices of a text -/
theorem cutS_to (z : Str) (k : Nat) : (cutS z none (some (k : Int))).cps.toList = z.cps.toList.take k := by
  have hl : z.length = z.cps.toList.length := by rw [Array.length_toList]; rfl
  show (z.cps.toList.drop (HT.sIx z.length 0 none)).take (HT.sIx z.length z.length (some (k : Int)) - HT.sIx z.length 0 none) = _
  rw [HT.sIx_nat, HT.sIx_none, List.drop_zero, Nat.sub_zero, hl]
  by_cases h : k ≤ z.cps.toList.length
  · rw [Nat.min_eq_left h]
  · rw [Nat.min_eq_right (by omega), List.take_length, List.take_of_length_le (by omega)]
theorem cutS_from (z : Str) (k : Nat) : (cutS z (some (k : Int)) none).cps.toList = z.cps.toList.drop k := by
  have hl : z.length = z.cps.toList.length := by rw [Array.length_toList]; rfl
  show (z.cps.toList.drop (HT.sIx z.length 0 (some (k : Int)))).take (HT.sIx z.length z.length none - HT.sIx z.length 0 (some (k : Int))) = _
  rw [HT.sIx_nat, HT.sIx_none, hl]
  by_cases h : k ≤ z.cps.toList.length
  · rw [Nat.min_eq_left h]
    exact List.take_of_length_le (by rw [List.length_drop]; exact Nat.le_refl _)
  · rw [Nat.min_eq_right (by omega), List.drop_eq_nil_of_le (Nat.le_refl _), List.drop_eq_nil_of_le (by omega)]
    simp
theorem cutS_one (z : Str) (k : Nat) : (cutS z (some (k : Int)) (some ((k + 1 : Nat) : Int))).cps.toList = (z.cps.toList.drop k).take 1 := by
  have hl : z.length = z.cps.toList.length := by rw [Array.length_toList]; rfl
  show (z.cps.toList.drop (HT.sIx z.length 0 (some (k : Int)))).take (HT.sIx z.length z.length (some ((k + 1 : Nat) : Int)) - HT.sIx z.length 0 (some (k : Int))) = _
  rw [HT.sIx_nat, HT.sIx_nat, hl]
  by_cases h : k + 1 ≤ z.cps.toList.length
  · rw [Nat.min_eq_left h, Nat.min_eq_left (by omega : k ≤ z.cps.toList.length)]
    have : k + 1 - k = 1 := by omega
    rw [this]
  · rw [Nat.min_eq_right (by omega : z.cps.toList.length ≤ k + 1)]
    have e : z.cps.toList.drop k = [] := List.drop_eq_nil_of_le (by omega)
    by_cases h2 : k ≤ z.cps.toList.length
    · rw [Nat.min_eq_left h2, e]
      simp
    · rw [Nat.min_eq_right (by omega), List.drop_eq_nil_of_le (Nat.le_refl _), e]
      simp
/-! ### texts and other things -/
/-- a thing that is no text -/
def NoStr (K : PySem.W.Frag) (H : Hp) (x : V) : Prop := ∃ t, TyX K H x t ∧ PySem.W.kitOne K t (.type "str") = some false
section
variable {K : PySem.W.Frag} {H H' : Hp}
theorem NoStr.mono {x : V} (h : NoStr K H x) (s : Same H H') : NoStr K H' x := let ⟨t, h1, h2⟩ := h; ⟨t, Same.tyx s h1, h2⟩
theorem noStr_of {x : V} {n : String} (h : TyX K H x (.type n)) (h1 : kitB n "str" = some false) : NoStr K H x := ⟨_, h, kit_ty h1⟩
theorem noStr_non : NoStr K H .non := noStr_of (.base .non) (by decide +kernel)
theorem noStr_int (i : Int) : NoStr K H (.int i) := noStr_of (.base (.int i)) (by decide +kernel)
theorem noStr_bl (b : Bool) : NoStr K H (.bl b) := noStr_of (.base (.bl b)) (by decide +kernel)
theorem noStr_list {a : Addr} {xs : List V} (h : H a = some (.lst xs)) : NoStr K H (.ref a) := noStr_of (.base (.lst h)) (by decide +kernel)
theorem noStr_tup {a : Addr} {xs : List V} (h : H a = some (.tup xs)) : NoStr K H (.ref a) := noStr_of (.base (.tup h)) (by decide +kernel)
theorem noStr_dict {a : Addr} {kvs : List (Key × V)} (h : H a = some (.dK kvs)) : NoStr K H (.ref a) := noStr_of (.base (.dK h)) (by decide +kernel)
theorem str_ty (x : Str) : ∃ t, TyX K H (.str x) t ∧ PySem.W.kitOne K t (.type "str") = some true := ⟨_, .base (.str x), kit_ty (by decide +kernel)⟩
end
/-- the signs of deeds alone -/
def okS (z : Str) : Bool := z.cps.toList.all fun c => decide (c ∈ [100, 117, 119])
theorem okS_mem {z : Str} (h : okS z = true) : ∀ c ∈ z.cps.toList, c = 100 ∨ c = 117 ∨ c = 119 := fun c hc => by
  have := of_decide_eq_true (List.all_eq_true.mp h c hc)
  simpa using this
/-- a thing as deeds -/
def okD : V → Bool
  | .str z => okS z
  | _ => false
/-- a text of no great length, or no text -/
def Thing (K : PySem.W.Frag) (H : Hp) (x : V) : Prop := (∃ z : Str, x = .str z ∧ z.length ≤ 100000) ∨ (okD x = false ∧ NoStr K H x)
theorem Thing.mono {K : PySem.W.Frag} {H H' : Hp} {x : V} (h : Thing K H x) (s : Same H H') : Thing K H' x := by
  rcases h with h | ⟨h1, h2⟩
  · exact .inl h
  · exact .inr ⟨h1, h2.mono s⟩
/-- what deeds cost -/
def costI (z : Str) (d s : Int) : Int := ((z.cps.toList.count 100 : Nat) : Int) * d + (((z.length : Nat) : Int) - ((z.cps.toList.count 100 : Nat) : Int)) * s
theorem deed_lt {n : Int} {c k : Nat} (h : n.natAbs < 2 ^ k) : (deed n c).natAbs < 2 ^ (k + 1) := by
  unfold deed
  rw [Nat.pow_succ]
  split
  · omega
  · split <;> omega
theorem if_list {S0 S A P : Addr → Hp → Prop} {c : Bool} (h0 : ∀ p H, S0 p H → c = false → S p H) (go : ∀ p H, S p H → P p H) (hA : ∀ p H, S0 p H → c = true → (∀ p H, S p H → P p H) → A p H) :
    ∀ p H, S0 p H → if c = true then A p H else P p H := fun p H hs => by
  cases h : c with
  | true =>
    rw [if_pos rfl]
    exact hA p H hs h go
  | false =>
    rw [if_neg Bool.false_ne_true]
    exact go p H (h0 p H hs h)
end XLed

set_option maxHeartbeats 4000000
/-! a tuple of one text, of a text and a number; what deeds cost, sign by sign -/
namespace XLed
open PySem PySem.Spec PyProof.Rows L2 FG
def dW (w : Str) : PyData := .tuple [.str w]
def dWI (w : Str) (n : Int) : PyData := .tuple [.str w, .int n]
theorem dW_shaped {w : Str} (h : PyData.canLay0 (.str w) = true) : SeqAt.shaped (dW w) = true := by
  unfold SeqAt.shaped dW
  rw [Bool.and_eq_true]
  refine ⟨?_, decide_eq_true ?_⟩
  · simp only [PyData.canLay0, PyData.canLayAll0] at h ⊢
    simp [h]
  · simp [PyData.depth, PyData.depthAll]
theorem dWI_shaped {w : Str} {n : Int} (h : PyData.canLay0 (.str w) = true) : SeqAt.shaped (dWI w n) = true := by
  unfold SeqAt.shaped dWI
  rw [Bool.and_eq_true]
  refine ⟨?_, decide_eq_true ?_⟩
  · simp only [PyData.canLay0, PyData.canLayAll0] at h ⊢
    simp [h]
  · simp [PyData.depth, PyData.depthAll]
theorem dW_eqv (w : Str) : PyData.eqv (dW w) (dW w) = true := by
  simp [dW, PyData.eqv, PyData.eqvAll]
theorem dWI_eqv (w : Str) (n : Int) : PyData.eqv (dWI w n) (dWI w n) = true := by
  simp [dWI, PyData.eqv, PyData.eqvAll]
/-- a text and a list -/
def dWL (w : Str) (ns : List Int) : PyData := .tuple [.str w, dI ns]
theorem dWL_shaped {w : Str} {ns : List Int} (h : PyData.canLay0 (.str w) = true) : SeqAt.shaped (dWL w ns) = true := by
  have hd := dI_depth ns
  unfold SeqAt.shaped dWL
  rw [Bool.and_eq_true]
  refine ⟨?_, decide_eq_true ?_⟩
  · have hl := dI_lay1 ns
    simp only [PyData.canLay0, PyData.canLayAll0] at h ⊢
    rw [hl, h]
    rfl
  · simp only [PyData.depth, PyData.depthAll]
    omega
theorem dWL_eqv (w : Str) (ns : List Int) : PyData.eqv (dWL w ns) (dWL w ns) = true := by
  simp [dWL, PyData.eqv, PyData.eqvAll, dI_eqv]
section
variable {K : PySem.W.Frag} {H : Hp}
theorem dp_WL {a b : Addr} {w : Str} {ns : List Int} (h : H a = some (.tup [.str w, .ref b])) (h2 : SqL K H b (ns.map V.int)) : Dp K H (.ref a) (dWL w ns) := .tup (SqT.of h) (.cons (.str w) (.cons (dp_ints h2) .nil))
theorem dp_W {a : Addr} {w : Str} (h : H a = some (.tup [.str w])) : Dp K H (.ref a) (dW w) := .tup (SqT.of h) (.cons (.str w) .nil)
theorem dp_WI {a : Addr} {w : Str} {n : Int} (h : H a = some (.tup [.str w, .int n])) : Dp K H (.ref a) (dWI w n) := .tup (SqT.of h) (.cons (.str w) (.cons (.int n) .nil))
theorem plain_bl (b : Bool) : Plain K H (.bl b) := ⟨_, _, _, kind_bl b, rfl⟩
theorem plain_non : Plain K H .non := ⟨_, _, _, kind_non, rfl⟩
theorem plain_str (x : Str) : Plain K H (.str x) := ⟨_, _, _, kind_str x, rfl⟩
theorem plain_list {a : Addr} {xs : List V} (h : H a = some (.lst xs)) : Plain K H (.ref a) := ⟨_, _, _, kind_list (SqL.of h), rfl⟩
theorem plain_tup {a : Addr} {xs : List V} (h : H a = some (.tup xs)) : Plain K H (.ref a) := ⟨_, _, _, kind_tup h, rfl⟩
theorem plain_dict {a : Addr} {kvs : List (Key × V)} (h : H a = some (.dK kvs)) : Plain K H (.ref a) := ⟨_, _, _, kind_dict h, rfl⟩
end
def costL (l : List Nat) (d s : Int) : Int := ((l.count 100 : Nat) : Int) * d + (((l.length : Nat) : Int) - ((l.count 100 : Nat) : Int)) * s
theorem costI_L (z : Str) (d s : Int) : costI z d s = costL z.cps.toList d s := by
  unfold costI costL
  rw [Array.length_toList]
  rfl
theorem costL_nil (d s : Int) : costL [] d s = 0 := by
  unfold costL
  simp
theorem costL_snoc (l : List Nat) (c : Nat) (d s : Int) : costL (l ++ [c]) d s = costL l d s + (if c = 100 then d else s) := by
  unfold costL
  rw [List.count_append, List.length_append]
  by_cases h : c = 100
  · subst h
    have e1 : ([100] : List Nat).count 100 = 1 := rfl
    have e2 : ([100] : List Nat).length = 1 := rfl
    rw [if_pos rfl, e1, e2]
    have a1 : (((l.count 100 + 1 : Nat) : Int)) * d = ((l.count 100 : Nat) : Int) * d + d := by
      rw [show ((l.count 100 + 1 : Nat) : Int) = ((l.count 100 : Nat) : Int) + 1 by omega, Int.add_mul, Int.one_mul]
    have a2 : (((l.length + 1 : Nat) : Int) - ((l.count 100 + 1 : Nat) : Int)) = (((l.length : Nat) : Int) - ((l.count 100 : Nat) : Int)) := by omega
    rw [a1, a2]
    omega
  · have e1 : ([c] : List Nat).count 100 = 0 := by
      rw [List.count_eq_zero]
      simp
      omega
    have e2 : ([c] : List Nat).length = 1 := rfl
    rw [if_neg h, e1, e2, Nat.add_zero]
    have a2 : (((l.length + 1 : Nat) : Int) - ((l.count 100 : Nat) : Int)) * s = (((l.length : Nat) : Int) - ((l.count 100 : Nat) : Int)) * s + s := by
      rw [show (((l.length + 1 : Nat) : Int) - ((l.count 100 : Nat) : Int)) = ((((l.length : Nat) : Int) - ((l.count 100 : Nat) : Int)) + 1) by omega, Int.add_mul, Int.one_mul]
    rw [a2]
    omega
theorem going_snoc (l : List Nat) (c : Nat) (n : Int) : going (l ++ [c]) n = deed (going l n) c := by
  unfold going
  rw [List.foldl_append]
  rfl
/-- texts are told by their signs -/
theorem str_iff {x y : Str} : x = y ↔ x.cps.toList = y.cps.toList := ⟨fun h => by rw [h], fun h => TL.ext_tl h⟩
theorem okS_list {z z2 : Str} {l : List Nat} (h : okS z = true) (e : z2.cps.toList = l) (hl : ∀ c ∈ l, c ∈ z.cps.toList) : okS z2 = true := by
  unfold okS at h ⊢
  rw [List.all_eq_true] at h ⊢
  intro c hc
  rw [e] at hc
  exact h c (hl c hc)
end XLed

set_option maxHeartbeats 4000000
/-! dicts of the program's own top, read: whole numbers to texts, texts to whole numbers -/
namespace XTab
open PySem PySem.Spec PyProof.Rows L2
def KeysInt : List DictEntry → Prop
  | [] => True
  | e :: r => (∃ i t, e.key = .int i t ∧ e.hash = hashInt i) ∧ KeysInt r
theorem KeysInt.all : ∀ {l : List DictEntry}, KeysInt l → ∀ e ∈ l, ∃ i t, e.key = .int i t ∧ e.hash = hashInt i
  | _ :: _, ⟨h, _⟩, _, .head _ => h
  | _ :: _, ⟨_, r⟩, _, .tail _ m => r.all _ m
/-- a table of whole numbers to texts -/
def TabI : List DictEntry → List (Int × Str) → Prop
  | [], [] => True
  | e :: r, kv :: s => (∃ t u, e.key = .int kv.1 t ∧ e.val = .str kv.2 u) ∧ TabI r s
  | _, _ => False
/-- a table of texts to whole numbers -/
def TabS : List DictEntry → List (Str × Int) → Prop
  | [], [] => True
  | e :: r, kv :: s => (∃ t u, e.key = .str kv.1 t ∧ e.val = .int kv.2 u) ∧ TabS r s
  | _, _ => False
section
variable {prog : Program} {w : World} {h : Heap} {K : PySem.W.Frag} {a : Addr} {es : Array DictEntry} {n : Nat}
theorem mapInt (X : K.In h) (hl : K.lookup a = some ⟨.type "dict", none, .dict es n, #[]⟩) (hk : KeysInt es.toList) : h.MapOf (intKind prog w) a (fun k => findBy Value.isInt es k) :=
  ⟨_, es, n, X _ _ hl, ⟨rfl, rfl, rfl⟩, rfl, fun e he => by
    obtain ⟨i, t, e1, e2⟩ := hk.all e (Array.mem_toList_iff.mpr he)
    exact ⟨i, by rw [e1]; show Value.isInt i (.int i t) = true; simp [Value.isInt], e2⟩, fun _ => rfl⟩
theorem find_int : ∀ {l : List DictEntry} {kvs : List (Int × Str)}, TabI l kvs → ∀ {i : Int} {x : Str}, kvs.lookup i = some x → ∃ u, (l.find? fun d => Value.isInt i d.key).map (·.val) = some (.str x u)
  | [], [], _, _, _, h => by cases h
  | [], _ :: _, h, _, _, _ => h.elim
  | _ :: _, [], h, _, _, _ => h.elim
  | e :: r, (k, v) :: s, h, i, x, hx => by
    obtain ⟨⟨t, u, e1, e2⟩, hr⟩ := h
    by_cases hi : i = k
    · subst hi
      have hv : v = x := by simpa [List.lookup] using hx
      subst hv
      refine ⟨u, ?_⟩
      rw [List.find?_cons, e1]
      simp [Value.isInt, e2]
    · have hx2 : s.lookup i = some x := by
        have hb : (i == k) = false := by simp [hi]
        rw [List.lookup_cons, hb] at hx
        exact hx
      obtain ⟨u2, h2⟩ := find_int hr hx2
      refine ⟨u2, ?_⟩
      rw [List.find?_cons, e1]
      have hb : Value.isInt i (.int k t) = false := by
        simp [Value.isInt]
        omega
      rw [hb]
      exact h2
def rIxI (K : PySem.W.Frag) : R2 := fun x y H Q => ∃ p i es n kvs z, x = .ref p ∧ y = .int i ∧ K.lookup p = some ⟨.type "dict", none, .dict es n, #[]⟩ ∧ KeysInt es.toList ∧ TabI es.toList kvs ∧ kvs.lookup i = some z ∧ Q (.str z) H
theorem ix_int {X : Cx} : IxR X (rIxI X.K) := by
  intro value slice pins s σ H x y v u Q I rx ry h hs
  obtain ⟨p, i, es, n, kvs, z, rfl, rfl, hl, hk, ht, hz, q⟩ := h
  obtain rfl : v = Value.ref p := rx
  obtain ⟨t, rfl⟩ := ry
  have hm := mapInt (prog := X.prog) (w := X.w) I.kIn hl hk
  obtain ⟨u0, hu⟩ := find_int ht hz
  have hf : findBy Value.isInt es i = some (.str z u0) := by
    obtain ⟨l⟩ := es
    unfold findBy
    rw [List.find?_toArray]
    exact hu
  refine tail_any hm.typeIs slot_dict_getitem.lookup (wpAny_getItem_of (knd := intKind X.prog X.w) (k := i) (by show Value.isInt i (.int i t) = true; simp [Value.isInt]) hm hf ⟨.str z, H, I.tok _, ⟨_, rfl⟩, q⟩) hs
theorem ns_str {l : List DictEntry} : ∀ {kvs : List (Str × Int)}, TabS l kvs → ∀ z : Str, (∃ v u e, kvs.lookup z = some v ∧ l.find? (·.key.isStr z) = some e ∧ e.val = .int v u) ∨ (kvs.lookup z = none ∧ l.find? (·.key.isStr z) = none ∧ l.any (·.refKey) = false) := by
  induction l with
  | nil =>
    intro kvs h z
    cases kvs with
    | nil => exact .inr ⟨rfl, rfl, rfl⟩
    | cons _ _ => exact h.elim
  | cons e r ih =>
    intro kvs h z
    cases kvs with
    | nil => exact h.elim
    | cons kv s =>
      obtain ⟨k, v⟩ := kv
      obtain ⟨⟨t, u, e1, e2⟩, hr⟩ := h
      have hs : e.key.isStr z = decide (k = z) := by
        rw [e1]
        show (k == z) = decide (k = z)
        by_cases h : k = z <;> simp [h]
      by_cases hz : k = z
      · subst hz
        refine .inl ⟨v, u, e, ?_, ?_, e2⟩
        · rw [List.lookup_cons]
          simp
        · rw [List.find?_cons, hs]
          simp
      · have hb : (z == k) = false := by
          simp
          exact fun h => hz h.symm
        have hf : decide (k = z) = false := decide_eq_false hz
        rcases ih hr z with ⟨v2, u2, e3, h1, h2, h3⟩ | ⟨h1, h2, h3⟩
        · refine .inl ⟨v2, u2, e3, ?_, ?_, h3⟩
          · rw [List.lookup_cons, hb]
            exact h1
          · rw [List.find?_cons, hs, hf]
            exact h2
        · refine .inr ⟨?_, ?_, ?_⟩
          · rw [List.lookup_cons, hb]
            exact h1
          · rw [List.find?_cons, hs, hf]
            exact h2
          · rw [List.any_cons, h3, Bool.or_false]
            have : e.refKey = false := by
              show DictEntry.refKey e = false
              unfold DictEntry.refKey
              rw [e1]
            exact this
theorem ns_some (hl : K.lookup a = some ⟨.type "dict", none, .dict es n, #[]⟩) {kvs : List (Str × Int)} (ht : TabS es.toList kvs) {z : Str} {v : Int} (h : kvs.lookup z = some v) : ∃ u, PySem.W.nsIn K a z = some (some (.int v u)) := by
  rcases ns_str ht z with ⟨v2, u, e, h1, h2, h3⟩ | ⟨h1, _⟩
  · rw [h] at h1
    cases h1
    refine ⟨u, ?_⟩
    unfold PySem.W.nsIn
    rw [hl]
    dsimp only
    rw [h2]
    dsimp only
    rw [h3]
  · rw [h] at h1
    cases h1
theorem ns_none (hl : K.lookup a = some ⟨.type "dict", none, .dict es n, #[]⟩) {kvs : List (Str × Int)} (ht : TabS es.toList kvs) {z : Str} (h : kvs.lookup z = none) : PySem.W.nsIn K a z = some none := by
  rcases ns_str ht z with ⟨v2, u, e, h1, _⟩ | ⟨_, h2, h3⟩
  · rw [h] at h1
    cases h1
  · unfold PySem.W.nsIn
    rw [hl]
    dsimp only
    rw [h2, h3]
    rfl
end
end XTab

set_option maxHeartbeats 4000000
/-! reversed(text), walked sign by sign -/
namespace XRevS
open PySem PySem.Spec PyProof.Rows L2 RT
theorem norev_str : typeLookup (.type "str") "__reversed__" = pure none := by rw [typeLookup_type, builtinLookup_eq_fast]; kernel_rfl
theorem get_str : typeLookup (.type "str") "__getitem__" = pure (some (.builtin "str.__getitem__")) := by rw [typeLookup_type, builtinLookup_eq_fast]; kernel_rfl
def rsObj (x : Str) (t : Tok) (i : Int) : Obj := { cls := .type "reversed", data := .fields #[.str x t, rawInt i] }
/-- reversed(x), the next place i -/
def IsRs (h : Heap) (a : Addr) (x : Str) (t : Tok) (i : Int) : Prop := ∃ o, h.get? a = some o ∧ o.cls = .type "reversed" ∧ o.data = .fields #[.str x t, rawInt i]
theorem IsRs.at {h h' : Heap} {a : Addr} {x : Str} {t : Tok} {i : Int} (r : IsRs h a x t i) (e : ∀ o, h.get? a = some o → h'.get? a = some o) : IsRs h' a x t i := let ⟨o, ho, q⟩ := r; ⟨o, e _ ho, q⟩
section
variable {prog : Program} {w : World} {A : Around} {E : Value → Shared → Prop} {s : Shared}
theorem IsRs.typeIs {a : Addr} {x : Str} {t : Tok} {i : Int} (r : IsRs s.heap a x t i) : s.TypeIs (.ref a) "reversed" := let ⟨o, ho, hc, _⟩ := r; ⟨o, ho, hc⟩
theorem code_reversed_str {x : Str} {t : Tok} {Q₁ : Value → Shared → Prop}
    (hlen : ∀ (A : Around) (E : Value → Shared → Prop) (Q : Value → Shared → Prop), Q (.int x.length (s.toks + 1)) { s with toks := s.toks + 1 + 1 } → wpAny (model prog w) A (call (.builtin "len") [.str x t]) Q E s)
    (h : Q₁ (.ref s.heap.objs.size) { s with heap := s.heap.push (rsObj x t ((x.length : Int) - 1)), toks := s.toks + 1 + 1 }) :
    codeAny (model prog w) A (.call (.builtin "reversed.__new__") ⟨[.type "reversed", .str x t], []⟩) (wants Q₁ E) s := by
  have hT : s.TypeIs (.str x t) "str" := typeIs_str s x t
  refine codeAny_of_tree ?_
  show wpAny _ A.in1 (do checkBuiltinCall "reversed.__new__" ⟨[.type "reversed", .str x t], []⟩; again (.builtin "reversed.__new__" ⟨[.type "reversed", .str x t], []⟩)) _ _ s
  refine wpAny_bind (wpAny_of_eq (F.newCall_reversed_1 _) (wpAny_pure ⟨plainId_quiet F.plain_reversed_new _, codeAny_builtin F.entry_reversed_new ?_⟩))
  rw [Around.under_plainId F.plain_reversed_new _]
  unfold Builtin.«reversed.__new__»
  refine wpAny_bind (wpAny_of_eq (newClass_reversed _) ?_)
  try dsimp only
  refine wpAny_bind (wpAny_of_eq (a := ()) (by first | rfl | kernel_rfl) ?_)
  try dsimp only
  refine wpAny_bind (wpAny_of_eq (a := ()) (by first | rfl | kernel_rfl) ?_)
  try dsimp only
  refine wpAny_bind (wpAny_specialOf hT norev_str ?_)
  try dsimp only
  refine wpAny_bind ?_
  wp_delta
  refine wpAny_bind (wpAny_isInstance (T := "str") (U := "dict") (b := false) hT PySem.F.sub_str_dict ?_)
  try dsimp only
  try rw [if_neg Bool.false_ne_true]
  try dsimp only
  refine wpAny_bind (wpAny_specialOf hT get_str ?_)
  try dsimp only
  try rw [if_pos (by decide +kernel)]
  refine wpAny_pure ?_
  try dsimp only
  try rw [if_neg (by decide)]
  try dsimp only
  refine wpAny_bind (hlen _ _ _ ?_)
  refine wpAny_bind (wpAny_of_eq (a := some ((x.length : Nat) : Int)) rfl ?_)
  try dsimp only
  refine wpAny_bind ?_
  show wpAny _ _ (newObj (.type "reversed") (.fields #[.str x t, rawInt ((x.length : Int) - 1)])) _ _ _
  refine wpAny_newObj_type ?_
  exact wpAny_pure h
theorem call_reversed_str {x : Str} {t : Tok} {Q : Value → Shared → Prop}
    (hlen : ∀ (A : Around) (E : Value → Shared → Prop) (Q : Value → Shared → Prop), Q (.int x.length (s.toks + 1)) { s with toks := s.toks + 1 + 1 } → wpAny (model prog w) A (call (.builtin "len") [.str x t]) Q E s)
    (h : Q (.ref s.heap.objs.size) { s with heap := s.heap.push (rsObj x t ((x.length : Int) - 1)), toks := s.toks + 1 + 1 }) : wpAny (model prog w) A (call (.type "reversed") [.str x t]) Q E s := by
  refine callType_codes (Q₁ := fun obj s₁ => s₁.TypeIs obj "reversed" ∧ Q obj s₁) called_rt (F.typeCall_reversed_1 _) F.entry_object_init
    (code_reversed_str (A := A.in1) hlen ⟨⟨_, Heap.get?_push_size _ rfl, rfl⟩, h⟩) fun obj s₁ h₁ => ?_
  exact ⟨h₁.1, F.args_object_init_2 obj _, object_init_meets called_rt.init.lookup called_rt.made (by decide) prog w A.in1 _ s₁ ⟨h₁.1, rfl, h₁.2⟩⟩
theorem next_rs_item {it : Addr} {x : Str} {t : Tok} {i c : Nat} {Q : Option Value → Shared → Prop} (hit : IsRs s.heap it x t (i : Int)) (hx : x.cps[i]? = some c) (hsz : x.length ≤ sizeLine)
    (hQ : ∀ h' tk, IsRs h' it x t ((i : Int) - 1) → Heap.SameBut it s.heap h' → Q (some (.str ⟨#[c]⟩ (s.toks + 1))) { s with heap := h', toks := tk }) : wpAny (model prog w) A (pyNext (.ref it)) Q E s := by
  obtain ⟨o, ho, hc, hd⟩ := id hit
  have hi : i < x.cps.size := (Array.getElem?_eq_some_iff.mp hx).1
  have hl : x.length = x.cps.size := rfl
  have hT : s.TypeIs (.str x t) "str" := typeIs_str s x t
  rw [sizeLine_eq] at hsz
  unfold pyNext
  refine wpAny_bind (wpAny_attempt (wpAny_callSpecial?_slot (name := Str.ofString "__next__") hit.typeIs slot_rt_next
    (wpAny_call_entry slot_rt_next hit.typeIs entry_rt_next ?_ (args_rt_next _))))
  unfold Builtin.«reversed.__next__»
  refine wpAny_bind (wpAny_of_eq (a := (Value.ref it, [])) rfl ?_)
  try dsimp only
  refine wpAny_bind (wpAny_field ho hd (x := .str x t) rfl ?_)
  try dsimp only
  refine wpAny_bind (wpAny_field ho hd (x := rawInt (i : Int)) rfl ?_)
  show wpAny _ _ (if (i : Int) < 0 then _ else _) _ _ s
  rw [if_neg (by omega)]
  try dsimp only
  refine wpAny_bind (wpAny_specialOf hT get_str ?_)
  try dsimp only
  try rw [if_neg (by decide)]
  try dsimp only
  refine wpAny_bind (wpAny_mkInt ?_)
  refine wpAny_bind (wpAny_attempt ?_)
  have fin : seqIndex? (i : Int) x.length = some i := seqIndex_of (by omega) (by omega)
  refine PyProof.Rows.getItem_str (s := { s with toks := s.toks + 1 }) (c := c) (by
    have e1 : decide ((i : Int) < -(2 ^ 63 : Int)) = false := decide_eq_false (by omega)
    have e2 : decide ((i : Int) ≥ 2 ^ 63) = false := decide_eq_false (by omega)
    rw [e1, e2, Bool.or_false]) (by rw [fin]; exact hx) ?_
  try dsimp only
  refine wpAny_bind (wpAny_field (s := { s with toks := s.toks + 1 + 1 }) ho hd (x := rawInt (i : Int)) rfl ?_)
  try dsimp only
  refine wpAny_bind (wpAny_setField (s := { s with toks := s.toks + 1 + 1 }) ho hd (by simp) ?_)
  first
  | refine wpAny_pure ⟨_, rfl, wpAny_pure (hQ _ _ ?_ (Heap.SameBut.update ..))⟩
  | refine wpAny_bind (wpAny_pure (wpAny_pure ⟨_, rfl, wpAny_pure (hQ _ _ ?_ (Heap.SameBut.update ..))⟩))
  exact ⟨_, Heap.get?_update_self _ ho (Obj.isFreed_of_fields (Obj.data_mapFields hd _)), (Obj.cls_mapFields ..).trans hc, by
    rw [Obj.data_mapFields hd]; simp⟩
theorem next_rs_end {it : Addr} {x : Str} {t : Tok} {Q : Option Value → Shared → Prop} (hh : A.handled = none) (hit : IsRs s.heap it x t (-1))
    (hQ : ∀ h', Heap.ExtBut it s.heap h' → Q none { s with heap := h' }) : wpAny (model prog w) A (pyNext (.ref it)) Q E s := by
  obtain ⟨o, ho, hc, hd⟩ := id hit
  unfold pyNext
  refine wpAny_bind (wpAny_attempt (wpAny_callSpecial?_slot (name := Str.ofString "__next__") hit.typeIs slot_rt_next
    (wpAny_call_entry slot_rt_next hit.typeIs entry_rt_next ?_ (args_rt_next _))))
  unfold Builtin.«reversed.__next__»
  refine wpAny_bind (wpAny_of_eq (a := (Value.ref it, [])) rfl ?_)
  try dsimp only
  refine wpAny_bind (wpAny_field ho hd (x := .str x t) rfl ?_)
  try dsimp only
  refine wpAny_bind (wpAny_field ho hd (x := rawInt (-1)) rfl ?_)
  show wpAny _ _ (if (-1 : Int) < 0 then _ else _) _ _ s
  rw [if_pos (by decide)]
  try dsimp only
  refine wpAny_bind (wpAny_rule ?_)
  refine wpAny_bind ?_
  wp_delta
  refine wpAny_bind (wpAny_setField ho hd (by simp) ?_)
  have ho2 := Heap.get?_update_self (Obj.mapFields (·.setIfInBounds 1 (rawInt (-1)))) ho (Obj.isFreed_of_fields (Obj.data_mapFields hd _))
  refine wpAny_setField (s := { s with heap := s.heap.update it (Obj.mapFields (·.setIfInBounds 1 (rawInt (-1)))) }) ho2 (Obj.data_mapFields hd _) (by simp) ?_
  try dsimp only
  first
  | show wpAny _ _ (newExc (.type "StopIteration") [] >>= _) _ _ _
  | (refine wpAny_bind ?_; show wpAny _ _ (newExc (.type "StopIteration") [] >>= _) _ _ _)
  | (refine wpAny_bind ?_; wp_delta; show wpAny _ _ (newExc (.type "StopIteration") [] >>= _) _ _ _)
  refine wpAny_bind ?_
  simp only [newExc, newTuple]
  refine wpAny_bind (wpAny_newObj_type ?_ (by size_fits))
  refine wpAny_bind (m := firstArgMember _ _) (wpAny_of_eq (a := Value.none) (by first | rfl | (simp only [firstArgMember]; rfl)) ?_)
  refine wpAny_newObj_type ?_ (by size_fits)
  simp only [raiseNew]
  refine wpAny_bind (wpAny_handled ?_)
  first | rw [show A.in1.handled = none from hh] | rw [hh]
  refine wpAny_bind (wpAny_pure (wpAny_throw ?_))
  refine wpAny_bind (wpAny_isInstance (T := "StopIteration") (b := true) ⟨_, Heap.get?_push_size _ rfl, rfl⟩ isSubtype_stop ?_)
  refine wpAny_pure (hQ _ ?_)
  refine ((?_ : Heap.ExtBut it s.heap _).push _).push _
  exact fun b ob hb e => (Heap.get?_update_other _ _ (Ne.symm hb)).trans ((Heap.get?_update_other _ _ (Ne.symm hb)).trans e)
theorem iter_rs {it : Addr} {x : Str} {t : Tok} {i : Int} {Q : Value → Shared → Prop} (hit : IsRs s.heap it x t i) (h : Q (.ref it) s) : wpAny (model prog w) A (pyIter (.ref it)) Q E s := by
  refine wpAny_pyIter_slot hit.typeIs slot_rt_iter (wpAny_call_entry slot_rt_iter hit.typeIs entry_rt_iter ?_ (args_rt_iter _))
  show wpAny _ _ (ret (.ref it)) _ _ s
  exact wpAny_pure ⟨_, rfl, "reversed", _, hit.typeIs, slot_rt_next.lookup, h⟩
end
def Itsr (x : Str) : It := ⟨fun i _ => i < x.cps.size, fun i H v H' => H' = H ∧ ∃ c, x.cps[x.cps.size - 1 - i]? = some c ∧ v = .str ⟨#[c]⟩, fun i _ => x.cps.size ≤ i⟩
theorem turn_rs {P : Program} {w : World} {K : PySem.W.Frag} {tg : Expr} (it : Addr) (x : Str) (t : Tok) (hz : x.length ≤ sizeLine) : Turn P w K tg (Itsr x) [it] it (fun i h => i ≤ x.cps.size ∧ IsRs h it x t ((x.cps.size : Int) - 1 - (i : Nat))) where
  mem := by simp
  obj := fun i h st b hb => by
    have e : b = it := by simpa using hb
    subst e
    obtain ⟨_, o, e, c, d⟩ := st
    exact ⟨o, e, fun v z => by rw [d] at z; cases z⟩
  keep := fun i h h' st k => ⟨st.1, st.2.at fun o e => k it (by simp) o e⟩
  item := by
    intro X hP hw hK hc i pins s σ H E I hf st hg
    subst hP hw hK
    have hin : i < x.cps.size := hg
    obtain ⟨f0, f1, f2, f3, f4, f5⟩ := hf it (by simp)
    obtain ⟨_, hit⟩ := st
    have e1 : (x.cps.size : Int) - 1 - ((i : Nat) : Int) = ((x.cps.size - 1 - i : Nat) : Int) := by omega
    rw [e1] at hit
    have hj : x.cps.size - 1 - i < x.cps.size := by omega
    refine next_rs_item hit (c := x.cps[x.cps.size - 1 - i]) (Array.getElem?_eq_getElem hj) hz fun h' tk st' sb => ?_
    have e2 : ((x.cps.size - 1 - i : Nat) : Int) - 1 = (x.cps.size : Int) - 1 - ((i + 1 : Nat) : Int) := by omega
    rw [e2] at st'
    have I1 : Inv X pins σ H { s with heap := h', toks := tk } := I.turned (t' := tk) (fun b o hb e => (sb.2 b hb).trans e) f0 f1 f3 f4 f5
    obtain ⟨o, e, c, d⟩ := id st'
    exact ⟨_, rfl, go_of (s := { s with heap := h', toks := tk }) e c d (by decide) ⟨.str ⟨#[x.cps[x.cps.size - 1 - i]]⟩, H, I1, ⟨_, rfl⟩, ⟨rfl, _, Array.getElem?_eq_getElem hj, rfl⟩, ⟨hin, st'⟩, fun b hb => (hf b hb).1⟩⟩
  done := by
    intro X hP hw hK hc i pins s σ H E I hf st hg
    subst hP hw hK
    obtain ⟨f0, f1, f2, f3, f4, f5⟩ := hf it (by simp)
    obtain ⟨hin, hit⟩ := st
    have hge : x.cps.size ≤ i := hg
    have e1 : (x.cps.size : Int) - 1 - ((i : Nat) : Int) = -1 := by omega
    rw [e1] at hit
    exact next_rs_end (I.ok.hd hc) hit fun h' eb => ⟨rfl, I.turned (t' := s.toks) (fun b o hb e => eb b o hb e) f0 f1 f3 f4 f5⟩
  self := fun A i s Q E st h => iter_rs st.2 h
def iRevS (te : TE) : TI := fun σ H R => te σ H fun v H1 => ∃ x : Str, v = .str x ∧ x.length ≤ sizeLine ∧ R (Itsr x) H1
theorem pi_revS {X : Cx} {tg e : Expr} {te : TE} {p pos : Pos} (hg : Gl X "reversed") (hm : X.mg "reversed" = none) (he : PE X e te) (hs : starEach [e] X.env = (false, eval e X.env) :: starEach [] X.env := by rfl) : PI X tg (.Call (.Name "reversed" p) [e] [] pos) (iRevS te) := by
  refine ⟨fun pins s σ H R I h => ?_⟩
  refine Call_ (ld_blt I hg hm PyProof.Rows.boot_reversed (PyProof.Rows.callWith_type1 (args_cons (thn (he.run pins s σ H _ I h) fun u s1 ⟨v, H1, I1, r1, q1⟩ => args_nil ?_) hs) hs rfl))
  obtain ⟨x, ev, hz, q⟩ := q1
  subst ev
  obtain ⟨t, rfl⟩ := r1
  have hn := line63
  have e1 : ((x.length : Nat) : Int) - 1 = (x.cps.size : Int) - 1 - ((0 : Nat) : Int) := by
    show ((x.cps.size : Nat) : Int) - 1 = _
    omega
  refine call_reversed_str (fun A E Q k => len_str (by omega) k) (iter_rs (x := x) (t := t) (i := ((x.length : Nat) : Int) - 1) ⟨_, Heap.get?_push_size _ rfl, rfl, rfl⟩ ?_)
  refine pi_one (tk := s1.toks + 1 + 1) I1 _ (turn_rs _ x t hz) ⟨Nat.zero_le _, ?_⟩ q
  rw [← e1]
  exact ⟨_, Heap.get?_push_size _ rfl, rfl, rfl⟩
end XRevS

set_option maxHeartbeats 4000000
/-! rows as texts: signs and figures; a text said over; its first sign; walks over a text turned round -/
namespace XShow
open PySem PySem.Spec PyProof.Rows PySem.Builtin PySem.Builtin.Str L2 FG XLed XRevS
/-! ### signs and figures -/
def sgn (n : Int) : Nat := if n = 1 then 43 else if n = 0 then 48 else 45
def fig (c : Nat) : Int := if c = 43 then 1 else if c = 48 then 0 else -1
def showL (ns : List Int) : List Nat := if ns = [] then [48] else ns.reverse.map sgn
def okC (c : Nat) : Bool := decide (c ∈ [43, 48, 45])
def showsL (l : List Nat) : Bool := decide (l = [48]) || (!l.isEmpty && !decide (l.head? = some 48) && l.all okC)
def figsL (l : List Nat) : List Int := if l = [48] then [] else l.reverse.map fig
theorem fig_sgn {n : Int} (h : -1 ≤ n ∧ n ≤ 1) : fig (sgn n) = n := by
  have c : n = -1 ∨ n = 0 ∨ n = 1 := by omega
  rcases c with e | e | e <;> subst e <;> rfl
theorem sgn_fig {c : Nat} (h : okC c = true) : sgn (fig c) = c := by
  have := of_decide_eq_true h
  simp at this
  rcases this with e | e | e <;> subst e <;> rfl
theorem okC_sgn {n : Int} (h : -1 ≤ n ∧ n ≤ 1) : okC (sgn n) = true := by
  have c : n = -1 ∨ n = 0 ∨ n = 1 := by omega
  rcases c with e | e | e <;> subst e <;> rfl
theorem fig_b (c : Nat) : -1 ≤ fig c ∧ fig c ≤ 1 := by
  unfold fig
  split
  · omega
  · split <;> omega
theorem head_rev {α : Type} (l : List α) : l.reverse.getLast? = l.head? := by
  rw [List.getLast?_reverse]
theorem shows_cases {l : List Nat} (h : showsL l = true) : l = [48] ∨ (l ≠ [] ∧ l ≠ [48] ∧ l.head? ≠ some 48 ∧ ∀ c ∈ l, okC c = true) := by
  unfold showsL at h
  by_cases e : l = [48]
  · exact .inl e
  · rw [decide_eq_false e, Bool.false_or, Bool.and_eq_true, Bool.and_eq_true] at h
    refine .inr ⟨?_, e, ?_, List.all_eq_true.mp h.2⟩
    · intro z
      rw [z] at h
      simp at h
    · intro z
      rw [z] at h
      simp at h
theorem figs_row {l : List Nat} (h : showsL l = true) : Row (figsL l) := by
  rcases shows_cases h with e | ⟨h1, h2, h3, h4⟩
  · subst e
    exact ⟨(fun _ hm => nomatch hm), fun z => nomatch z⟩
  · unfold figsL
    rw [if_neg h2]
    refine ⟨fun n hn => ?_, ?_⟩
    · obtain ⟨c, _, rfl⟩ := List.mem_map.mp hn
      exact fig_b c
    · rw [List.getLast?_map, head_rev]
      intro z
      cases e : l.head? with
      | none => rw [e] at z; cases z
      | some c =>
        rw [e] at z h3
        have hc : c ∈ l := List.mem_of_mem_head? (by rw [e]; rfl)
        have := of_decide_eq_true (h4 c hc)
        simp at this
        rcases this with q | q | q
        · subst q; simp [fig] at z
        · exact h3 (by rw [q])
        · subst q; simp [fig] at z
theorem figs_ne {l : List Nat} (h : l ≠ []) (h2 : l ≠ [48]) : figsL l ≠ [] := by
  unfold figsL
  rw [if_neg h2]
  simp [h]
theorem show_figs {l : List Nat} (h : showsL l = true) : showL (figsL l) = l := by
  rcases shows_cases h with e | ⟨h1, h2, h3, h4⟩
  · subst e
    rfl
  · have hf : figsL l = l.reverse.map fig := by unfold figsL; rw [if_neg h2]
    unfold showL
    rw [if_neg (figs_ne h1 h2), hf, ← List.map_reverse, List.reverse_reverse, List.map_map]
    have : l.map (sgn ∘ fig) = l.map _root_.id := List.map_congr_left fun c hc => sgn_fig (h4 c hc)
    rw [this, List.map_id]
theorem figs_len (l : List Nat) : (figsL l).length ≤ l.length := by
  unfold figsL
  split
  · exact Nat.zero_le _
  · rw [List.length_map, List.length_reverse]
    exact Nat.le_refl _
theorem show_len (ns : List Int) : (showL ns).length ≤ ns.length + 1 := by
  unfold showL
  split
  · simp
  · rw [List.length_map, List.length_reverse]
    omega
theorem shows_show {ns : List Int} (r : Row ns) : showsL (showL ns) = true := by
  unfold showL
  by_cases e : ns = []
  · rw [if_pos e]
    rfl
  · rw [if_neg e]
    unfold showsL
    rw [Bool.or_eq_true]
    refine .inr ?_
    rw [Bool.and_eq_true, Bool.and_eq_true]
    refine ⟨⟨?_, ?_⟩, ?_⟩
    · simp [e]
    · rw [List.head?_map, List.head?_reverse]
      cases h : ns.getLast? with
      | none => rfl
      | some n =>
        have hn := r.1 n (List.mem_of_getLast? h)
        have h0 : n ≠ 0 := fun z => r.2 (by rw [h, z])
        have c : n = -1 ∨ n = 1 := by omega
        rcases c with q | q <;> subst q <;> rfl
    · rw [List.all_eq_true]
      intro c hc
      obtain ⟨n, hn, rfl⟩ := List.mem_map.mp hc
      exact okC_sgn (r.1 n (List.mem_reverse.mp hn))
theorem figs_show {ns : List Int} (r : Row ns) : figsL (showL ns) = ns := by
  unfold showL
  by_cases e : ns = []
  · rw [if_pos e, e]
    rfl
  · rw [if_neg e]
    unfold figsL
    by_cases z : ns.reverse.map sgn = [48]
    · -- one figure alone: it is 0, and a row has no such last one
      exfalso
      have l1 : ns.length = 1 := by
        have := congrArg List.length z
        simpa using this
      match ns, l1 with
      | [n], _ =>
        have hs : sgn n = 48 := by simpa using z
        have hn := r.1 n List.mem_cons_self
        have h0 : n ≠ 0 := fun q => r.2 (by rw [q]; rfl)
        have c : n = -1 ∨ n = 1 := by omega
        rcases c with q | q <;> subst q <;> simp [sgn] at hs
    · rw [if_neg z, ← List.map_reverse, List.reverse_reverse, List.map_map]
      have : ns.map (fig ∘ sgn) = ns.map _root_.id := List.map_congr_left fun n hn => fig_sgn (r.1 n hn)
      rw [this, List.map_id]
/-- said over -/
theorem show_over {ns : List Int} (h : ns ≠ []) (k : Nat) (hk : 1 ≤ k) : showL ((List.replicate k ns).flatten) = (List.replicate k (showL ns)).flatten := by
  have ne : (List.replicate k ns).flatten ≠ [] := by
    cases k with
    | zero => omega
    | succ k =>
      rw [List.replicate_succ, List.flatten_cons]
      simp [h]
  unfold showL
  rw [if_neg ne, if_neg h, List.reverse_flatten, List.map_flatten]
  congr 1
  rw [List.map_replicate, List.reverse_replicate, List.map_replicate]
/-! ### the first sign of a text -/
theorem starts_one (x : Str) (c : Nat) : Txt.startswith x ⟨#[c]⟩ = decide (x.cps.toList.head? = some c) := by
  have h := PySem.StrLaws.subAt_one x c 0
  have e : x.cps.toList.head? = x.cps.toList[0]? := List.head?_eq_getElem?
  rw [e]
  show (decide (0 + (⟨#[c]⟩ : Str).length ≤ x.length) && subAt x ⟨#[c]⟩ 0) = _
  by_cases q : x.cps.toList[0]? = some c
  · rw [decide_eq_true q]
    obtain ⟨h1, h2⟩ := h.mpr q
    rw [decide_eq_true h1, h2]
    rfl
  · rw [decide_eq_false q]
    cases hb : (decide (0 + (⟨#[c]⟩ : Str).length ≤ x.length) && subAt x ⟨#[c]⟩ 0) with
    | false => rfl
    | true =>
      rw [Bool.and_eq_true] at hb
      exact absurd (h.mp ⟨of_decide_eq_true hb.1, hb.2⟩) q
/-! ### a text said over -/
theorem fold_cat (a : Array Nat) : ∀ l : List (Array Nat), (l.foldl (· ++ ·) a).toList = a.toList ++ (l.map Array.toList).flatten
  | [] => by simp
  | x :: r => by
    rw [List.foldl_cons, fold_cat (a ++ x) r]
    simp
def rRepS : R2 := fun x y H Q => ∃ (z : Str) (n : Nat), x = .str z ∧ y = .int n ∧ 1 ≤ n ∧ n ≤ 1000000 ∧ z.length * n ≤ 1000000 ∧ ∀ o : Str, o.cps.toList = (List.replicate n z.cps.toList).flatten → Q (.str o) H
theorem op_repS {X : Cx} : OpR X (binaryOp .Mult) rRepS := by
  intro pins s σ H x y v u Q I rx ry h
  obtain ⟨z, n, rfl, rfl, h1, h2, h3, q⟩ := h
  obtain ⟨t, rfl⟩ := rx
  obtain ⟨t', rfl⟩ := ry
  have hz : z.length ≤ 1000000 := Nat.le_trans (Nat.le_mul_of_pos_right _ h1) h3
  have lim : (1000000 : Nat) ≤ sizeLine := by decide
  refine PySem.P.mul_str ?_ (fun _ _ => ?_) (fun _ _ => ?_) ?_
  · have e1 : decide ((n : Int) < -(2 ^ 63 : Int)) = false := decide_eq_false (by omega)
    have e2 : decide ((n : Int) ≥ 2 ^ 63) = false := decide_eq_false (by omega)
    rw [e1, e2]
    rfl
  · have hm : (z.length : Int) * (n : Int) ≤ 2 ^ 63 - 1 := by
      have : ((z.length * n : Nat) : Int) ≤ 1000000 := by omega
      rw [Int.natCast_mul] at this
      omega
    have := (Int.le_ediv_iff_mul_le (a := (z.length : Int)) (b := 2 ^ 63 - 1) (show (0 : Int) < n by omega)).mpr hm
    omega
  · rw [Int.toNat_natCast]
    unfold Builtin.Str.tooLong
    simp
    omega
  · rw [if_neg (by omega)]
    by_cases c : (((n : Int) == 1) || z.length == 0) = true
    · rw [if_pos c]
      have eo : z.cps.toList = (List.replicate n z.cps.toList).flatten := by
        rw [Bool.or_eq_true] at c
        rcases c with c | c
        · have : n = 1 := by
            have := eq_of_beq c
            omega
          subst this
          simp
        · have l0 : z.cps.toList = [] := by
            apply List.length_eq_zero_iff.mp
            rw [Array.length_toList]
            exact eq_of_beq c
          rw [l0]
          simp
      exact ⟨.str z, H, I, ⟨_, rfl⟩, q z eo⟩
    · rw [if_neg c, Int.toNat_natCast]
      have eo : (⟨(List.replicate n z.cps).foldl (· ++ ·) #[]⟩ : Str).cps.toList = (List.replicate n z.cps.toList).flatten := by
        show ((List.replicate n z.cps).foldl (· ++ ·) #[]).toList = _
        rw [fold_cat, List.map_replicate]
        simp
      refine ⟨?_, .str _, H, I.tok _, ⟨_, rfl⟩, q _ eo⟩
      show ((List.replicate n z.cps).foldl (· ++ ·) #[]).size ≤ sizeLine
      have := congrArg List.length eo
      rw [Array.length_toList] at this
      have e2 : ((List.replicate n z.cps.toList).flatten).length = n * z.length := by
        rw [List.length_flatten, List.map_replicate, List.sum_replicate_nat, Array.length_toList]
        rfl
      rw [e2, Nat.mul_comm] at this
      show ((List.replicate n z.cps).foldl (· ++ ·) #[]).size ≤ sizeLine
      have e3 : ((List.replicate n z.cps).foldl (· ++ ·) #[]).size = z.length * n := this
      omega
/-! ### a walk over a text turned round -/
theorem lc_revS {x : Str} {g : TG} {tt : TT} {te : TE} {vs : List Nat} {σ : L2.St} {H1 : Hp} {D : Addr} {Qd : Hp → Prop} (Pv : Nat → Hp → Prop) (h0 : Pv 0 (upd H1 D (.lst [])))
    (hs : ∀ i c H, x.cps.toList.reverse[i]? = some c → Pv i H → g (.str ⟨#[c]⟩) (wipe σ vs) H fun σ2 H2 => wipe σ2 vs = wipe σ vs ∧ tt σ2 H2 fun b H3 =>
      if b = true then te σ2 H3 fun y H4 => ∃ acc, H4 D = some (.lst acc) ∧ acc.length < sizeLine ∧ Pv (i + 1) (upd H4 D (.lst (acc ++ [y]))) else Pv (i + 1) H3) (hd : ∀ H, Pv x.cps.toList.length H → Qd H) :
    ∃ W : Nat → Nat → Hp → Prop, (∃ m, W 0 m (upd H1 D (.lst []))) ∧ ∀ i m H, W i m H →
      ((Itsr x).stop i H ∧ Qd H) ∨ ((Itsr x).go i H ∧ ∃ Nx : Hp → Prop, (∀ H', Nx H' → ∃ m', m' < m ∧ W (i + 1) m' H') ∧ ∀ v H', (Itsr x).yld i H v H' → g v (wipe σ vs) H' fun σ2 H2 => wipe σ2 vs = wipe σ vs ∧ tt σ2 H2 fun b H3 =>
        if b = true then te σ2 H3 fun y H4 => ∃ acc, H4 D = some (.lst acc) ∧ acc.length < sizeLine ∧ Nx (upd H4 D (.lst (acc ++ [y]))) else Nx H3) := by
  have sz : x.cps.toList.length = x.cps.size := Array.length_toList
  refine ⟨fun i m H => m = x.cps.size - i ∧ i ≤ x.cps.size ∧ Pv i H, ⟨_, rfl, Nat.zero_le _, h0⟩, ?_⟩
  rintro i m H ⟨rfl, hi, p⟩
  by_cases hlt : i < x.cps.size
  · refine .inr ⟨hlt, Pv (i + 1), fun H' p' => ⟨x.cps.size - (i + 1), by omega, rfl, hlt, p'⟩, fun v H' y => ?_⟩
    obtain ⟨rfl, c, hc, rfl⟩ := y
    refine hs i c _ ?_ p
    rw [List.getElem?_reverse (by omega), sz, Array.getElem?_toList]
    exact hc
  · have e : i = x.cps.toList.length := by omega
    subst e
    exact .inl ⟨by show x.cps.size ≤ _; omega, hd H p⟩
theorem lc_enum {K : PySem.W.Frag} {a : Addr} {xs : List V} {g : TG} {tt : TT} {te : TE} {vs : List Nat} {σ : L2.St} {H1 : Hp} {D : Addr} {Qd : Hp → Prop} (Pv : Nat → Hp → Prop) (h0 : Pv 0 (upd H1 D (.lst [])))
    (hq : ∀ i H, Pv i H → SqL K H a xs)
    (hs : ∀ i x t H, xs[i]? = some x → Pv i H → H t = none → g (.ref t) (wipe σ vs) (upd H t (.tup [.int (i : Nat), x])) fun σ2 H2 => wipe σ2 vs = wipe σ vs ∧ tt σ2 H2 fun b H3 =>
      if b = true then te σ2 H3 fun y H4 => ∃ acc, H4 D = some (.lst acc) ∧ acc.length < sizeLine ∧ Pv (i + 1) (upd H4 D (.lst (acc ++ [y]))) else Pv (i + 1) H3) (hd : ∀ H, Pv xs.length H → Qd H) :
    ∃ W : Nat → Nat → Hp → Prop, (∃ m, W 0 m (upd H1 D (.lst []))) ∧ ∀ i m H, W i m H →
      ((Ite K a).stop i H ∧ Qd H) ∨ ((Ite K a).go i H ∧ ∃ Nx : Hp → Prop, (∀ H', Nx H' → ∃ m', m' < m ∧ W (i + 1) m' H') ∧ ∀ v H', (Ite K a).yld i H v H' → g v (wipe σ vs) H' fun σ2 H2 => wipe σ2 vs = wipe σ vs ∧ tt σ2 H2 fun b H3 =>
        if b = true then te σ2 H3 fun y H4 => ∃ acc, H4 D = some (.lst acc) ∧ acc.length < sizeLine ∧ Nx (upd H4 D (.lst (acc ++ [y]))) else Nx H3) := by
  refine ⟨fun i m H => m = xs.length - i ∧ i ≤ xs.length ∧ Pv i H, ⟨_, rfl, Nat.zero_le _, h0⟩, ?_⟩
  rintro i m H ⟨rfl, hi, p⟩
  have sq := hq i H p
  by_cases hlt : i < xs.length
  · refine .inr ⟨⟨xs, xs[i], sq, List.getElem?_eq_getElem hlt⟩, Pv (i + 1), fun H' p' => ⟨xs.length - (i + 1), by omega, rfl, hlt, p'⟩, fun v H' y => ?_⟩
    obtain ⟨t, x, rfl, nt, rfl, fx⟩ := y
    exact hs i x t H (fx _ sq) p nt
  · have e : i = xs.length := by omega
    subst e
    exact .inl ⟨⟨xs, sq, Nat.le_refl _⟩, hd H p⟩
/-- a text of no great length, or no text -/
def ThingT (K : PySem.W.Frag) (H : Hp) (x : V) : Prop := (∃ z : Str, x = .str z ∧ z.length ≤ 100000) ∨ ((∀ z, x ≠ .str z) ∧ NoStr K H x)
theorem ThingT.mono {K : PySem.W.Frag} {H H' : Hp} {x : V} (h : ThingT K H x) (s : Same H H') : ThingT K H' x := by
  rcases h with h | ⟨h1, h2⟩
  · exact .inl h
  · exact .inr ⟨h1, h2.mono s⟩
/-- whether a thing shows a row -/
def showsB : V → Bool
  | .str z => showsL z.cps.toList
  | _ => false
end XShow

set_option maxHeartbeats 4000000
/-! A caught error that the def keeps behind the suite: it stays an object that is tracked, with its class. -/
namespace XErr
open PySem PySem.Spec PyProof.Rows L2

/-- an error of the class cls that was caught and is kept at a -/
def Kept (cls : Value) (d : Option Addr) (a : Addr) : HO :=
  .ext fun h => ∃ o, h.get? a = some o ∧ Zc cls d o ∧ ∃ vs, o.data = .fields vs

theorem kept_ok {P : Program} {w : World} {H : Hp} {h : Heap} {a : Addr} {cls : Value} {d : Option Addr} {o : Obj}
    (e : h.get? a = some o) (z : Zc cls d o) (f : ∃ vs, o.data = .fields vs) : ObjOk P w H h a (Kept cls d a) :=
  ⟨⟨o, e, z, f⟩, ⟨o, e⟩, fun _ _ ⟨q, eq, r⟩ k => ⟨q, k q eq, r⟩⟩

section
variable {X : Cx} {pins : List (Addr × Obj)} {σ : L2.St} {H : Hp} {s : Shared}

/-- an object that is new since the def began, and that nothing else speaks of, may be tracked from here on -/
theorem track {a : Addr} {cls : Value} {d : Option Addr} {o : Obj} (I : Inv X pins σ H s)
    (e : s.heap.get? a = some o) (z : Zc cls d o) (f : ∃ vs, o.data = .fields vs) (na : H a = none)
    (old : X.s_0.heap.get? a = none) (nL : a ≠ X.env.locals) (np : ∀ p ∈ X.pn ++ pins, p.1 ≠ a) :
    Inv X pins σ (upd H a (Kept cls d a)) s where
  ok := I.ok
  os := I.os
  bare := I.bare
  base :=
    { keep := I.base.keep
      slot := I.base.slot
      free := fun b q h1 h2 h3 => by
        have ne : b ≠ a := fun t => by rw [t, old] at h1; cases h1
        rw [upd_ne ne]
        exact I.base.free b q h1 h2 h3
      there := I.base.there
      tups := fun b xs h1 => by
        have h2 := I.base.tups b xs h1
        rw [upd_ne (ne_of_none h2 na)]
        exact h2
      frzs := fun b q u h1 => by
        have h2 := I.base.frzs b q u h1
        rw [upd_ne (ne_of_none h2 na)]
        exact h2
      tbls := fun b ps h1 => by
        obtain ⟨m, h2⟩ := I.base.tbls b ps h1
        exact ⟨m, by rw [upd_ne (ne_of_none h2 na)]; exact h2⟩ }
  loc := I.loc
  cell := I.cell
  free := by rw [upd_ne (Ne.symm nL)]; exact I.free
  freeC := fun x k h1 => by
    have ne : k ≠ a := fun t => by
      obtain ⟨v, q, h2, h3⟩ := I.cell x k h1
      obtain ⟨vs, f⟩ := f
      rw [t, e] at h2
      cases h2
      rw [f] at h3
      cases h3
    rw [upd_ne ne]
    exact I.freeC x k h1
  pin := fun p hp => by
    obtain ⟨p1, p2, p3⟩ := I.pin p hp
    exact ⟨p1, by rw [upd_ne (np p hp)]; exact p2, p3⟩
  hok := I.hok.laidN (fun _ _ t => t) na (kept_ok e z f)
  len := I.len
end

/-- what «except x as n» wishes where the error is kept: no other way out of the suite than on behind it -/
def wKeep (K : PySem.W.Frag) (c : Value) (i : Nat) (ts : Addr → Value → Option Addr → TS) (D : Ends) : WX := fun cls d σ H =>
  PySem.W.exmOne K cls c = some true ∧ ∀ a, H a = none →
    ts a cls d { nx := fun σ' H' => H' a = none → D.nx (σ'.set i none) (upd H' a (Kept cls d a)), rt := fun _ _ => False, bk := fun _ _ => False, ct := fun _ _ => False }
      (σ.set i (some (.ref a))) H

section
variable {X : Cx} {x n : Str} {c : Value} {i : Nat} {body suite : List Stmt} {b₀ : Stmt} {np pos pos' : Pos} {tb : WX → TS} {ts : Addr → Value → Option Addr → TS}

theorem ps_try_keep (hs : X.stack = X.env :: X.outer) (hf : X.env.frame = some X.env.locals) (hex : X.ex = []) (hN : X.N.Nodup) (hi : X.N[i]? = some n)
    (hln : X.env.kindOf n = some .local) (hc : Names X x c)
    (hb : ∀ (W : WX) (pn : List (Addr × Obj)) (xe : Value → Shared → Prop), Takes (X.tr pn xe) W → PassesOwn (model X.prog X.w) X.A X.env xe →
      PSs (X.tr pn xe) body (tb W))
    (hsu : ∀ (a : Addr) (oe : Obj) (cls : Value) (d : Option Addr) (pn : List (Addr × Obj)), Zc cls d oe → (∃ vs, oe.data = .fields vs) →
      PSs (X.suite a ((a, oe) :: pn)) (b₀ :: suite) (ts a cls d)) :
    PS X (.Try body [.ExceptHandler (some (.Name x np)) (some n) (b₀ :: suite) pos'] [] [] pos) (fun D σ H => tb (wKeep X.K c i ts D) D σ H) := by
  constructor
  intro pins s σ H D I h
  have ok := I.ok
  -- what is asked of an error that comes out of the body: noted, landed, handled
  let catch_ : Value → Shared → Prop := fun e t =>
    wpAny (model X.prog X.w) X.A (noteFrame e X.env) (fun _ t2 => wpAny (model X.prog X.w) X.A (setFlight e none)
      (fun _ t3 => wpAny (model X.prog X.w) X.A (handleBy e X.env [.ExceptHandler (some (.Name x np)) (some n) (b₀ :: suite) pos']) (SP X pins D) X.xe t3) X.xe t2) X.xe t
  have takes : Takes (X.tr (X.pn ++ pins) catch_) (wKeep X.K c i ts D) := by
    rintro u t ⟨a, B, sI, pins1, σ1, H1, cls, d, rfl, J0, nb, up, sky, na, os, ag, isC, go⟩
    have J : Inv X pins σ1 H1 sI := J0.ofTry ok
    rw [show (X.tr (X.pn ++ pins) catch_).stack = X.env :: X.outer from hs] at sky
    refine Sky.land Zc.steady (by rw [ok.frames, hs]) hf sky fun h3 fl3 up3 => ?_
    have J3 : Inv X pins σ1 H1 { t with heap := h3 } := J.landed nb fl3.1 (up.trans up3) os ag
    obtain ⟨o3, v3, e3, z3, d3⟩ := fl3.there
    -- the error is none of the frames: its data are fields
    have nfr : a ∉ frs (X.env :: X.outer) := fun hm => by
      obtain ⟨_, o', e', no⟩ := fl3.2.2.1.mem hm
      have q := e3.symm.trans e'
      cases q
      exact no _ d3
    have nL : a ≠ X.env.locals := fun q => nfr (by rw [q]; exact List.mem_filterMap.mpr ⟨X.env, List.mem_cons_self, hf⟩)
    have nF : a ∉ X.fs := fun hm => by
      obtain ⟨v, hv, q⟩ := List.mem_filterMap.mp hm
      exact nfr (List.mem_filterMap.mpr ⟨v, List.mem_cons_of_mem _ hv, q⟩)
    -- it is new: the state without it has nothing there
    have new : sI.heap.get? a = none := by
      cases q : sI.heap.get? a with
      | none => rfl
      | some o =>
        have r := nb a o q (by rw [show (X.tr (X.pn ++ pins) catch_).stack = X.env :: X.outer from hs]; exact nfr)
        rw [fl3.2.1] at r
        cases r
    have old : X.s_0.heap.get? a = none := by
      cases q : X.s_0.heap.get? a with
      | none => rfl
      | some o =>
        obtain ⟨o', r⟩ := J.base.there a o q (by rw [hex]; exact fun t => nomatch t)
        rw [new] at r
        cases r
    have npin : ∀ p ∈ X.pn ++ pins, p.1 ≠ a := fun p hp q => by
      have r := (J.pin p hp).1
      rw [q, new] at r
      cases r
    have S3 := J3.suite e3 d3 na nL nF
    refine wpAny_handleBy_cons (codeAny_handlers_test ?_) (fun q => nomatch q)
    have looks : PySem.W.Looks (model X.prog X.w) h3 (typeOf (.ref a)) cls := fun _ _ _ _ k q => wpAny_typeOf_ref (k _ _ e3) (by rw [z3.1]; exact q)
    have test := PySem.W.exm_one (M := model X.prog X.w) J3.kIn looks isC
    have named : ∀ {Q E : Value → Shared → Prop}, Q c { t with heap := h3 } →
        wpAny (model X.prog X.w) (X.A.mark (some (.ref a))) (eval (.Name x np) X.env) Q E { t with heap := h3 } := fun {Q E} q => by
      rcases hc with ⟨g, dbg, m | ⟨m, v, nn⟩⟩
      · exact ld_glob (X := X.suite a ((a, o3) :: (X.pn ++ pins))) S3 g m q dbg
      · exact ld_blt (X := X.suite a ((a, o3) :: (X.pn ++ pins))) S3 g m v q nn dbg
    refine named (test.here (codeAny_handlers_suite_as ?_))
    refine HandSPX.lands_againZ fl3 fun h4 fl4 up4 => ?_
    have J4 : Inv X pins σ1 H1 { t with heap := h4 } := J.landed nb fl4.1 ((up.trans up3).trans up4) os ag
    obtain ⟨o4, v4, e4, z4, d4⟩ := fl4.there
    have S4 := J4.suite e4 d4 na nL nF
    refine store_ok (X := X.suite a ((a, o4) :: (X.pn ++ pins))) (v := .ref a) S4 hN hi (.inl hln) rfl (fun s5 S5 => ?_) (.inr hln)
    refine wpAny_mono ((hsu a o4 cls d (X.pn ++ pins) z4 ⟨_, d4⟩).run [] s5 _ H1 _ S5 (go a na)) (fun f s6 r => ?_) (fun _ _ q => q.elim)
    cases f with
    | next =>
      obtain ⟨σ6, H6, S6, q6⟩ := r
      have pin6 := S6.pin (a, o4) (List.mem_append_left _ List.mem_cons_self)
      have K6 := track (S6.unsuite ok) pin6.1 z4 ⟨_, d4⟩ pin6.2.1 old nL npin
      exact gone_ok K6 hN hi hln fun s7 J7 => ⟨_, _, J7, q6 pin6.2.1⟩
    | brk => obtain ⟨_, _, _, q⟩ := r; exact q.elim
    | cont => obtain ⟨_, _, _, q⟩ := r; exact q.elim
    | ret u => obtain ⟨_, _, _, _, _, q⟩ := r; exact q.elim
  refine wpAny_Try_except (wpAny_mono ((hb _ (X.pn ++ pins) catch_ takes PassesOwn.looking).run [] s σ H D (I.toTry _) h) (fun f s1 r => ?_) (fun _ _ q => q))
  cases f with
  | next => obtain ⟨σ1, H1, J, q⟩ := r; exact wpAny_execs_nil ⟨σ1, H1, J.ofTry ok, q⟩
  | brk => obtain ⟨σ1, H1, J, q⟩ := r; exact ⟨σ1, H1, J.ofTry ok, q⟩
  | cont => obtain ⟨σ1, H1, J, q⟩ := r; exact ⟨σ1, H1, J.ofTry ok, q⟩
  | ret u => obtain ⟨v, σ1, H1, J, r, q⟩ := r; exact ⟨v, σ1, H1, J.ofTry ok, r, q⟩
end

/-- isinstance of an error that is kept -/
def rIsKept (K : PySem.W.Frag) : List V → Hp → VK → Prop := fun xs H Q => ∃ (a D : Addr) (c : V) (cv : Value) (b : Bool),
  xs = [.ref a, c] ∧ H a = some (Kept (.ref D) none a) ∧ ExcC K D ∧ (∀ u, RelV c u → u = cv) ∧ PySem.W.kitOne K (.ref D) cv = some b ∧ Q (.bl b) H
theorem call_isKept {X : Cx} : CallR X (.builtin "isinstance") (rIsKept X.K) := by
  intro pins s σ H xs us Q I r h
  obtain ⟨a, D, c, cv, b, rfl, ha, C, one, e, q⟩ := h
  obtain ⟨⟨⟨k, kd, kf, ks⟩, g1, ⟨z1, z2⟩, vs, fl⟩, _⟩ := I.hok a _ ha
  cases r with
  | cons rx rr =>
    cases rr with
    | cons rt rr =>
      cases rr
      cases rx
      obtain rfl := one _ rt
      dsimp only at z1 z2 fl
      subst z1 z2 fl
      have J : PySem.W.InstAt s.heap a _ D none := ⟨g1, rfl, rfl, trivial⟩
      refine PySem.W.kia_one (PySem.W.handS_kitx_exc C.hg C.hk C.hs C.hd C.ha C.hn C.ht C.hm) I.kIn J e (fun t => nomatch t) fun tk => ?_
      exact ⟨.bl b, H, I.kept (t' := tk) fun _ _ t => t, rfl, q⟩
end XErr

set_option maxHeartbeats 4000000
/-! list.count of a flat thing (a truth, a text, None, a number) in a list of flat things. -/
namespace XCount
open PySem PySem.Spec PyProof.Rows L2

theorem many {y : V} : ∀ {ys : List V} {its : List Value}, Vals ys its → ys.all flatV = true →
    its.countP (eqU y) = ys.countP fun z => eqV z y
  | _, _, .nil, _ => rfl
  | _, _, .cons (a := x) (l₁ := xs) r rs, f => by
    have f2 : flatV x = true ∧ xs.all flatV = true := by simpa using f
    rw [List.countP_cons, List.countP_cons, many rs f2.2, eqU_of r f2.1]

/-- xs.count(y) -/
def rCount (K : PySem.W.Frag) : V → List V → Hp → VK → Prop := fun x args H Q => ∃ (a : Addr) (ys : List V) (y : V),
  x = .ref a ∧ args = [y] ∧ SqL K H a ys ∧ flatV y = true ∧ ys.all flatV = true ∧ Q (.int (ys.countP fun z => eqV z y : Nat)) H
theorem mt_countV {X : Cx} : MtR X "list.count" (rCount X.K) := by
  intro pins s σ H x args v us Q I rx rargs h
  obtain ⟨a, ys, y, rfl, rfl, hs, fy, fys, q⟩ := h
  cases rx
  obtain ⟨u, rfl, ru⟩ := rargs.one
  obtain ⟨its, rv, ⟨⟨k, dd, dat, sl⟩, n, there, kind, none_, data⟩, _⟩ := I.list hs
  dsimp only at kind data
  subst kind data
  refine call_meets PySem.F.slot_list_count ⟨_, there, rfl⟩ PySem.F.entry_list_count (PySem.F.args_list_count_2 _ _)
    (SeqAt.list_countAt a its.toArray n dd sl u (eqU y)) ⟨there, fun z hz => mem_eqAt ru fy rv fys z (by simpa using hz), ?_⟩
  have e : its.toArray.toList.countP (eqU y) = ys.countP fun z => eqV z y := many rv fys
  rw [e]
  exact ⟨.int (ys.countP fun z => eqV z y : Nat), H, I.tok _, ⟨s.toks, rfl⟩, q⟩
end XCount

set_option maxHeartbeats 4000000
/-! an exception out of a comprehension's element -/
namespace XLcx
open PySem PySem.Spec PyProof.Rows L2
/-- an address's object set anew -/
theorem heap_with (h : Heap) {C : Addr} {o : Obj} (e : h.get? C = some o) {h2 : Heap} {o' : Obj} (e2 : h2.get? C = some o') : ∃ g : Heap, g.get? C = some o' ∧ ∀ b, b ≠ C → g.get? b = h.get? b :=
  ⟨h.update C fun _ => o', Heap.get?_update_self _ e (Heap.get?_some_iff.mp e2).2, fun b hb => Heap.get?_update_other h _ (Ne.symm hb)⟩
theorem frame_low {X : Cx} {pins : List (Addr × Obj)} {σ : L2.St} {H : Hp} {s : Shared} (I : Inv X pins σ H s) : ∀ b ∈ frs X.stack, b < s.heap.objs.size := fun b hb => by
  have loc : X.env.locals < s.heap.objs.size := by
    obtain ⟨m, ⟨o, _, _, ho, _⟩, _⟩ := I.loc
    exact Heap.lt_size ho
  rcases List.mem_cons.mp (I.stkSub b hb) with e | e
  · rw [e]
    exact loc
  · have all : ∀ l : List Env, X.s_0.heap.FunFrames X.base l → ∀ b ∈ frs l, b < X.s_0.heap.objs.size := by
      intro l
      induction l with
      | nil => intro _ b hb; simp [frs] at hb
      | cons env r ih =>
        rintro ⟨_, ⟨L, o, hf, _, ho, _⟩, hr⟩ b hb
        unfold frs at hb
        rw [List.filterMap_cons, hf] at hb
        rcases List.mem_cons.mp hb with e | e
        · rw [e]
          exact Heap.lt_size ho
        · exact ih hr b e
    have := all X.outer I.ok.funs b e
    have := I.ok.above
    exact Nat.lt_of_lt_of_le (by assumption) (Nat.le_of_lt (Nat.lt_of_le_of_lt this loc))
/-- the same flight over a ground whose block is let go -/
theorem held_but {B B2 h1 h2 : Heap} {l : List Env} {a L C : Addr} {Z : Obj → Prop} {oC : Obj} (hh : HandSPX.HeldZ B l a Z L h1) (sb : Heap.SameBut C h1 h2) (bC : B.get? C = some oC)
    (hB2 : ∀ b, b ≠ C → B2.get? b = B.get? b) (hC : B2.get? C = h2.get? C) (fl : ∀ b ∈ frs l, b ≠ C) : HandSPX.HeldZ B2 l a Z L h2 := by
  obtain ⟨k1, k2, k3, oe, vs, T, oT, ts, he, hz, hd, h1', hnT, hTe, hT, hdT, h3⟩ := hh
  have ne : ∀ b, B.get? b = none → b ≠ C := fun b e z => by rw [z, bC] at e; cases e
  have aC := ne a k2
  have TC := ne T hnT
  refine ⟨fun b o e => ?_, by rw [hB2 a aC]; exact k2, ?_, oe, vs, T, oT, ts, by rw [sb.2 a aC]; exact he, hz, hd, h1', by rw [hB2 T TC]; exact hnT, hTe, by rw [sb.2 T TC]; exact hT, hdT, h3⟩
  · by_cases z : b = C
    · rw [z] at e ⊢
      rw [← hC]
      exact e
    · rw [sb.2 b z]
      exact k1 b o ((hB2 b z).symm.trans e)
  · clear he hz hd h1' hT hdT h3 k1 k2 hnT hTe
    induction l with
    | nil => trivial
    | cons env r ih =>
      obtain ⟨f1, ⟨L2, o, hf, hn, ho, hd2⟩, f2⟩ := k3
      have hL : L2 ∈ frs (env :: r) := by
        unfold frs
        rw [List.filterMap_cons, hf]
        exact List.mem_cons_self
      have lC := fl L2 hL
      refine ⟨f1, ⟨L2, o, hf, by rw [hB2 L2 lC]; exact hn, by rw [sb.2 L2 lC]; exact ho, hd2⟩, ih ?_ f2⟩
      intro b hb
      refine fl b ?_
      unfold frs at hb ⊢
      rw [List.filterMap_cons, hf]
      exact List.mem_cons_of_mem _ hb
theorem comp_fails {X : Cx} {pins : List (Addr × Obj)} {σ : L2.St} {H3 : Hp} {s3 : Shared} {scope : Scope} {ce : Env} {fp : List Addr} {pB : List (Addr × Obj)} {σB : L2.St} {HB : Hp} {sB : Shared} {E : XK} {W : WX} {u : Value} {s' : Shared}
    (I3 : Inv X pins σ H3 s3) (hch : ∀ b ∈ fp, (b ∈ X.ex ∨ X.s_0.heap.objs.size ≤ b) ∧ b ≠ X.env.locals ∧ (∀ x c, X.env.cells.lookup x = some c → c ≠ b) ∧ ∀ p ∈ X.pn ++ pins, p.1 ≠ b)
    (cL : ce.locals = s3.heap.objs.size) (hcf : ce.frame = X.env.frame) (hf : X.env.frame = some X.env.locals) (hstk : X.stack = X.env :: X.outer)
    (IB : Inv (X.blk s3 H3 scope ce fp) pB σB HB sB) (tk : Takes X W) (hW : ∀ cls d H', E cls d H' → W cls d σ H') (c : CX X.prog X.w X.stack HB sB E u s') :
    notedBy (model X.prog X.w) X.A ce (CompFails (model X.prog X.w) X.A X.xe ce) u s' := by
  obtain ⟨a, B, H', cls, d, rfl, fl, hok, ub, na, os, ag, hE⟩ := c
  obtain ⟨G, g1, g2⟩ := restrict s'.heap fun b => (B.get? b).isSome || decide (b ∈ frs X.stack)
  have st : B.StaysIn s'.heap := fl.1
  have gB : ∀ b o, B.get? b = some o → G.get? b = some o := fun b o e => by
    rw [g1 b (by simp [e])]
    exact st b o e
  have gF : ∀ b, b ∈ frs X.stack → G.get? b = s'.heap.get? b := fun b hb => g1 b (by simp [hb])
  have og : ∀ b o, G.get? b = some o → s'.heap.get? b = some o ∧ ((B.get? b).isSome = true ∨ b ∈ frs X.stack) := fun b o e => by
    cases q : ((B.get? b).isSome || decide (b ∈ frs X.stack)) with
    | false => rw [g2 b q] at e; cases e
    | true =>
      rw [g1 b q] at e
      exact ⟨e, by simpa [Bool.or_eq_true] using q⟩
  have I2 : Inv (X.blk s3 H3 scope ce fp) pB σB H' { sB with heap := G, gens := s'.gens, drawn := s'.drawn, toks := s'.toks } := by
    refine IB.call (ch := []) ⟨fun b o e n hb _ => gB b o (ub.keep b o e n hb), fun b o e n hb _ => ?_, fun b o e n _ => ub.free b o e n, fun b o e _ => ?_, ub.tups, ub.frzs, ub.tbls⟩ (hok.kept gB) ag (fun _ z => nomatch z)
    · obtain ⟨sl, q⟩ := ub.slot b o e hb
      exact ⟨sl, by rw [gF b hb]; exact q⟩
    · by_cases hb : b ∈ frs X.stack
      · obtain ⟨sl, q⟩ := ub.slot b o e hb
        exact ⟨_, by rw [gF b hb]; exact q⟩
      · obtain ⟨o', q⟩ := ub.there b o e hb
        exact ⟨o', gB b o' q⟩
  have nb : ∀ b o, G.get? b = some o → b ∉ frs X.stack → B.get? b = some o := fun b o e hb => by
    obtain ⟨e', h⟩ := og b o e
    rcases h with h | h
    · obtain ⟨o', q⟩ := Option.isSome_iff_exists.mp h
      have z := st b o' q
      rw [e'] at z; cases z
      exact q
    · exact absurd h hb
  -- in the def's own context
  have I7 : Inv X pins σ H' { sB with heap := G, gens := s'.gens, drawn := s'.drawn, toks := s'.toks } := I3.call' (ch := fp) I2.os I2.base I2.hok I2.bare hch
  have flow : ∀ b ∈ frs X.stack, b ≠ ce.locals := fun b hb z => by
    have := frame_low I3 b hb
    rw [z, cL] at this
    exact absurd this (Nat.lt_irrefl _)
  have nC : H' ce.locals = none := I2.free
  obtain ⟨m, hn, _⟩ := I2.loc
  have hn : G.Ns ce.locals m := hn
  obtain ⟨oC, es, ep, hoC, hdC, hr⟩ := id hn
  have cF : ce.locals ∉ frs X.stack := fun z => flow _ z rfl
  have bC : B.get? ce.locals = some oC := nb _ _ hoC cF
  have fpC : FpOk X pins H' ce.locals := by
    rw [cL] at nC ⊢
    exact I3.fpOk (Nat.le_refl _) nC
  -- noted
  show wpAny (model X.prog X.w) X.A (noteFrame (.ref a) ce) _ _ s'
  rw [noteFrame_env _ hcf]
  have hfr : X.A.frames = some (X.env :: X.outer) := by rw [I3.ok.frames, hstk]
  have fl' : HandSPX.FlyingZ B (X.env :: X.outer) a (Zc cls d) s'.heap := by rw [← hstk]; exact fl
  refine HandSPX.looks_onZ Zc.steady hfr hf fl' fun h1 hh up1 => ?_
  have hn1 : h1.Ns ce.locals m := up1.ns (by
    refine ⟨oC, es, ep, (og _ _ hoC).1, hdC, hr⟩)
  refine ⟨m, hn1, fun h2 m2 hn2 sb => ?_⟩
  obtain ⟨oC2, es2, ep2, hoC2, hdC2, hr2⟩ := id hn2
  obtain ⟨B2, b1, b2⟩ := heap_with B bC hoC2
  obtain ⟨G2, e1, e2⟩ := heap_with G hoC hoC2
  have hh2 := held_but (B2 := B2) hh sb bC b2 (by rw [b1, hoC2]) (by rw [← hstk]; exact flow)
  obtain ⟨oe, vs, T, oT, ts, he, hz, hd, hv1, r⟩ := id hh2.2.2.2
  unfold PySem.passOn
  refine wpAny_bind (wpAny_field he hd hv1 ?_)
  rw [if_neg (show ¬ ((Value.ref T == Value.none) = true) from by simp), hcf, hf]
  refine wpAny_bind (HandSPX.setFlight_onZ hh2 fun h3 hh3 up3 => ?_)
  refine wpAny_throw ?_
  refine tk _ _ ⟨a, B2, { sB with heap := G2, gens := s'.gens, drawn := s'.drawn, toks := s'.toks }, pins, σ, H', cls, d, rfl, ?_, fun b o e hb => ?_, ?_, .inr (.inr ?_), na, os, ag, hW _ _ _ hE⟩
  · obtain ⟨f0, f1, f2, f3, f4, f5⟩ := fpC
    exact I7.turned (t' := s'.toks) (h' := G2) (fun b o hb e => (e2 b hb).trans e) f0 f1 f3 f4 f5
  · by_cases z : b = ce.locals
    · have e' : G2.get? b = some o := e
      rw [z, e1] at e'
      rw [z, b1]
      exact e'
    · rw [b2 b z]
      exact nb b o ((e2 b z).symm.trans e) hb
  · intro b o e nf
    have e' : G2.get? b = some o := e
    by_cases z : b = ce.locals
    · rw [z, e1] at e'
      cases e'
      rw [z]
      exact up3 _ _ hoC2 nf
    · rw [e2 b z] at e'
      obtain ⟨sl, q1⟩ := up1 b o (og b o e').1 nf
      obtain ⟨sl2, q2⟩ := up3 b _ ((sb.2 b z).trans q1) nf
      exact ⟨sl2, q2⟩
  · rw [hstk]
    exact hh3
/-- [elt for target in iter if ..], the element one that may raise: what it lets out goes on -/
theorem pe_lcX {X : Cx} {elt tg iter : Expr} {ifs : List Expr} {scope : Scope} {own : List (Str × Nat)} {pos : Pos} {wi : TI} {g : TG} {tt : TT} {te : TE} {EC : XK} (hc : X.calm = true) (hN : X.N.Nodup) (hi : PI X tg iter wi) (ok : BlkOk X.N X.env.scope scope own)
    (tk : Takes X (fun cls d _ H => EC cls d H)) (hstk : X.stack = X.env :: X.outer) (hf : X.env.frame = some X.env.locals)
    (hg : ∀ (s : Shared) (H : Hp) (C : Addr) (cl : List (Str × Addr)) (fp : List Addr), PG (X.blk s H scope (compEnvC scope cl C X.env) fp) tg g) (ht : ∀ (s : Shared) (H : Hp) (C : Addr) (cl : List (Str × Addr)) (fp : List Addr), PTs (X.blk s H scope (compEnvC scope cl C X.env) fp) ifs tt)
    (he : ∀ (s : Shared) (H : Hp) (C : Addr) (cl : List (Str × Addr)) (fp : List Addr) (F : Value → Shared → Prop)
      (_ : ∀ (E : XK), (∀ cls d H', E cls d H' → EC cls d H') → Passes (CX X.prog X.w) ((X.blk s H scope (compEnvC scope cl C X.env) fp).wish F) E), PE ((X.blk s H scope (compEnvC scope cl C X.env) fp).wish F) elt te)
    (hs : ∀ x, foldedSetIterable iter X.env x = pure x := by intro _; rfl) :
    PE X (.ListComp elt [⟨tg, iter, ifs, 0⟩] scope pos) (tLc wi g tt te (own.map (·.2))) := by
  refine ⟨fun pins s σ H Q I h => ?_⟩
  rw [eval_ListComp]
  have hfree : ∀ y ∈ scope.names, y.2 = .free → ∃ c, X.env.cells.lookup y.1 = some c := fun y hy e => by
    rcases ok.free y hy e with k | k
    · exact I.ok.has _ (.inl k)
    · exact I.ok.has _ (.inr k)
  refine comprehension_at (use := none) rfl hs (closure_ok hfree) ok.kind (fun y hy e => by rw [ok.uniq y hy, e])
    (thn (hi.run pins s σ H _ I h) fun xv s1 hx => thn hx fun itv s2 h2 => ?_)
  obtain ⟨it, fp, tn, J, H2, e, I2, T, st2, f2, q⟩ := h2
  subst e
  refine wpAny_newObj_type (newEnv_comp ?_) (by show 0 ≤ sizeLine; decide)
  generalize hD : s2.heap.objs.size = D
  have hDn : H2 D = none := I2.hok.fresh (Nat.le_of_eq hD)
  obtain ⟨W, ⟨m0, w0⟩, turn⟩ := q D hDn
  generalize hs3 : ({ s2 with heap := s2.heap.push { cls := .type "list", data := .seq ([] : List Value).toArray } } : Shared) = s3
  have I3 : Inv X pins σ (upd H2 D (.lst [])) s3 := by
    rw [← hs3]
    refine I2.laid (t' := s2.toks) (fun b o e => Heap.get?_push_of_some _ e) (Nat.le_of_eq hD) ⟨Nat.zero_le _, [], 0, .nil, ?_⟩
    rw [← hD]
    exact Heap.get?_push_size _ rfl
  have h3 : s3.heap = s2.heap.push { cls := .type "list", data := .seq ([] : List Value).toArray } := by rw [← hs3]
  have f3 : ∀ b ∈ fp, FpOk X pins (upd H2 D (.lst [])) b ∧ b < s3.heap.objs.size := fun b hb => by
    obtain ⟨o, e, _⟩ := T.obj _ _ st2 b hb
    have hlt := Heap.lt_size e
    refine ⟨⟨?_, (f2 b hb).2⟩, by rw [h3, Heap.size_push]; exact Nat.lt_succ_of_lt hlt⟩
    rw [upd_ne (by rw [← hD]; exact Nat.ne_of_lt hlt)]
    exact (f2 b hb).1
  have st3 : tn 0 s3.heap := T.keep _ _ _ st2 fun b _ o e => by rw [h3]; exact Heap.get?_push_of_some _ e
  have I4 := block_start I3 ok hN f3
  have pg := hg s3 (upd H2 D (.lst [])) s3.heap.objs.size (cellsFrom (s3.heap.objs.size + 1) scope.names (cloFrom X.env.cells scope.names [])) fp
  have pt := ht s3 (upd H2 D (.lst [])) s3.heap.objs.size (cellsFrom (s3.heap.objs.size + 1) scope.names (cloFrom X.env.cells scope.names [])) fp
  have pe := he s3 (upd H2 D (.lst [])) s3.heap.objs.size (cellsFrom (s3.heap.objs.size + 1) scope.names (cloFrom X.env.cells scope.names [])) fp
  show codeAny _ _ (.compStart (.ListComp elt [⟨tg, iter, ifs, 0⟩] scope pos) 0 (.ref it) (.ref D) (compEnvC scope (cellsFrom (s3.heap.objs.size + 1) scope.names (cloFrom X.env.cells scope.names [])) s3.heap.objs.size X.env)) (compEnds (model X.prog X.w) X.A X.xe none (EP X pins σ Q) (.ref D) (compEnvC scope (cellsFrom (s3.heap.objs.size + 1) scope.names (cloFrom X.env.cells scope.names [])) s3.heap.objs.size X.env)) { s3 with heap := pushCells (s3.heap.push { cls := .type "dict", data := .dict #[] }) scope.names }
  have nfp : ∀ b ∈ fp, (upd H2 D (.lst [])) b = none := fun b hb => (f3 b hb).1.1
  have cfr : (compEnvC scope (cellsFrom (s3.heap.objs.size + 1) scope.names (cloFrom X.env.cells scope.names [])) s3.heap.objs.size X.env).frame = X.env.frame := rfl
  generalize hce : compEnvC scope (cellsFrom (s3.heap.objs.size + 1) scope.names (cloFrom X.env.cells scope.names [])) s3.heap.objs.size X.env = ce at I4 pg pt pe cfr ⊢
  have cL : ce.locals = s3.heap.objs.size := by subst hce; rfl
  generalize hH3 : upd H2 D (.lst []) = H3 at I3 I4 pg pt pe w0 nfp f3
  generalize hs4 : ({ s3 with heap := pushCells (s3.heap.push { cls := .type "dict", data := .dict #[] }) scope.names } : Shared) = s4 at I4 ⊢
  have st4 : tn 0 s4.heap := T.keep _ _ _ st3 fun b _ o e => by rw [← hs4]; exact pushCells_keeps _ _ _ _ (Heap.get?_push_of_some _ e)
  have hch : ∀ b ∈ fp, (b ∈ X.ex ∨ X.s_0.heap.objs.size ≤ b) ∧ b ≠ X.env.locals ∧ (∀ x c, X.env.cells.lookup x = some c → c ≠ b) ∧ ∀ p ∈ X.pn ++ pins, p.1 ≠ b := fun b hb => ⟨(f3 b hb).1.2.2.2.1, (f3 b hb).1.2.1, (f3 b hb).1.2.2.2.2.1, (f3 b hb).1.2.2.2.2.2⟩
  have pe := pe (notedBy (model X.prog X.w) X.A ce (CompFails (model X.prog X.w) X.A X.xe ce)) fun E hE pB σB HB sB u s' IB c =>
    comp_fails I3 hch cL cfr hf hstk IB.unwish tk (fun cls d H' h => hE cls d H' h) c
  have stat : ∀ {σ' : L2.St} {H' : Hp} {s' : Shared}, Inv (X.blk s3 H3 scope ce fp) [] σ' H' s' → (∀ b ∈ fp, H' b = none) → ∀ b ∈ fp, FpOk (X.blk s3 H3 scope ce fp) [] H' b := fun {σ' H' s'} I' hn b hb =>
    ⟨hn b hb, (I'.ok.exf b hb).1, I'.ok.exfs b hb, .inl hb, fun x c e => (I'.ok.exf b hb).2 x c e, fun p hp => absurd (show p ∈ ([] : List (Addr × Obj)) ++ [] from hp) (by simp)⟩
  have loop : codeAny (model X.prog X.w) X.A (.compLoop (.ListComp elt [⟨tg, iter, ifs, 0⟩] scope pos) 0 (.ref it) (.ref D) ce) (compEnds (model X.prog X.w) X.A X.xe none (EP X pins σ Q) (.ref D) ce) s4 := by
    refine compLoop_any (fun n s' => ∃ i H', Inv (X.blk s3 H3 scope ce fp) [] (wipe σ (own.map (·.2))) H' s' ∧ tn i s'.heap ∧ (∀ b ∈ fp, H' b = none) ∧ W i n H') ?_ m0 ⟨0, H3, I4, st4, nfp, w0⟩
    rintro n s5 ⟨i, H5, I5, st5, n5, w5⟩
    rcases turn i n H5 w5 with ⟨stop, qq⟩ | ⟨go, Nx, hNx, step⟩
    · have td := T.done (X.blk s3 H3 scope ce fp) rfl rfl rfl hc i [] s5 _ H5 (fun _ _ => False) I5 (stat I5 n5) st5 stop
      refine thnF td fun r s6 ⟨hr, I6⟩ => ?_
      subst hr
      have I7 : Inv X pins σ H5 s6 := I3.call' (ch := fp) I6.os I6.base I6.hok I6.bare hch
      have nC : H5 ce.locals = none := I6.free
      obtain ⟨m, hn, _⟩ := I6.loc
      have hn : s6.heap.Ns ce.locals m := hn
      have fC : FpOk X pins H5 ce.locals := by
        rw [cL] at nC ⊢
        exact I3.fpOk (Nat.le_refl _) nC
      refine ⟨m, hn, fun h'' sb => ?_⟩
      obtain ⟨f0, f1, f2, f3, f4, f5⟩ := fC
      exact ⟨.ref D, H5, I7.turned (t' := s6.toks) (fun b o hb e => (sb.2 b hb).trans e) f0 f1 f3 f4 f5, rfl, qq⟩
    · have ti := T.item (X.blk s3 H3 scope ce fp) rfl rfl rfl hc i [] s5 _ H5 (fun _ _ => False) I5 (stat I5 n5) st5 go
      refine thnF ti fun r s6 ⟨u, hr, h6⟩ => ?_
      subst hr
      refine thnF h6 fun _ s7 ⟨x, H7, I7, r7, y7, st7, n7⟩ => ?_
      have I7' := I7.pinned (stat I7 n7) (T.obj _ _ st7)
      refine thnF (pg.run _ s7 _ H7 x u _ I7' r7 (step x H7 y7)) fun _ s8 ⟨σ8, H8, I8, hw8, q8⟩ => ?_
      refine thnF (pt.run _ s8 σ8 H8 _ I8 q8) fun b s9 ⟨H9, I9, q9⟩ => ?_
      have fin : ∀ {s' : Shared} {H' : Hp}, Inv (X.blk s3 H3 scope ce fp) ([] ++ pinsAt fp s7.heap) σ8 H' s' → Nx H' → ∃ m, m < n ∧ ∃ i H', Inv (X.blk s3 H3 scope ce fp) [] (wipe σ (own.map (·.2))) H' s' ∧ tn i s'.heap ∧ (∀ b ∈ fp, H' b = none) ∧ W i m H' := fun {s' H'} I' nx => by
        obtain ⟨m', hm, w'⟩ := hNx H' nx
        have pin' : ∀ b ∈ fp, ∀ o, s7.heap.get? b = some o → s'.heap.get? b = some o ∧ H' b = none := fun b hb o e =>
          let z := I'.pin (b, o) (List.mem_append_right _ (List.mem_append_right _ (mem_pinsAt hb e)))
          ⟨z.1, z.2.1⟩
        have hl : (wipe σ (own.map (·.2))).length = σ8.length := by rw [← hw8, wipe_length]
        refine ⟨m', hm, i + 1, H', (I'.unpinned (pins := [])).weak hl (fun j v e => ?_), T.keep _ _ _ st7 fun b hb o e => (pin' b hb o e).1, fun b hb => ?_, w'⟩
        · rw [← hw8] at e
          exact (wipe_some e).1
        · obtain ⟨o, e, _⟩ := T.obj _ _ st7 b hb
          exact (pin' b hb o e).2
      cases b with
      | false =>
        simp only [Bool.false_eq_true, if_false] at q9 ⊢
        exact fin I9 q9
      | true =>
        simp only [if_true] at q9 ⊢
        refine wpAny_mono (pe.run _ s9 σ8 H9 _ (I9.wish _) q9) (fun z s10 hz => ?_) fun _ _ h' => h'
        obtain ⟨yv, H10, I10, r10, acc, hD10, hz10, nx⟩ := hz
        exact app_ok (X := X.blk s3 H3 scope ce fp) I10.unwish hD10 hz10 r10 fun s11 I11 => fin I11 nx
  exact codeAny_compStart_list loop (T.self X.A 0 _ _ _ st4 loop)
end XLcx

set_option maxHeartbeats 4000000
/-! a call of a def that an expression tells -/
namespace XCallD
open PySem PySem.Spec PyProof.Rows L2
/-- the def at f, called with vs: one of its promises -/
def Does (X : Cx) (f : Addr) (vs : List V) (H : Hp) (Q : VK) (E : XK) : Prop :=
  PySem.W.keepIn X.K (.ref f) = true ∧ ∃ k fd ps sp, FnOk X.prog X.w X.K X.mg X.base (L2.CX X.prog X.w) k f fd ps sp ∧ Room k X.A ∧ Binds X.K fd ps [] ∧ sp vs H Q E
def tCallD (X : Cx) (E : XK) (tf : TE) (t : TA) : TE := fun σ H Q => tf σ H fun x H1 => ∃ f, x = .ref f ∧ PySem.W.keepIn X.K (.ref f) = true ∧ t σ H1 fun vs H2 => Does X f vs H2 Q E
theorem pe_callD {X : Cx} {E : XK} {fe e : Expr} {es : List Expr} {tf : TE} {t : TA} {pos : Pos} (hx : Passes (L2.CX X.prog X.w) X E) (hf : PE X fe tf) (ha : PA X (e :: es) t)
    (ht : eval (.Call fe (e :: es) [] pos) X.env = (do
      let f ← eval fe X.env
      callWith pos f [] (backTo pos (starEach (e :: es) X.env)) (backToKw pos (keywordEach [] X.env))) := by rfl)
    (he : starEach (e :: es) X.env = (false, eval e X.env) :: starEach es X.env := by rfl) (hpl : (backTo pos (starEach es X.env)).any (·.1) = false := by rfl) :
    PE X (.Call fe (e :: es) [] pos) (tCallD X E tf t) := by
  refine ⟨fun pins s σ H Q I h => ?_⟩
  rw [ht]
  refine wpAny_bind (thn (hf.run pins s σ H _ I h) fun u s1 ⟨x, H1, I1, r1, f, ex, kp, q1⟩ => ?_)
  subst ex
  cases r1
  refine PySem.W.callWith_K (h₀ := X.base) I.ok.mod.kin kp (thn (ha.run pos pins s1 σ H1 _ I1 q1) fun us s2 ⟨vs, H2, I2, r, q⟩ => ⟨I2.kIn, ?_⟩) he hpl
  obtain ⟨_, k, fd, ps, sp, F, hr, hb, q⟩ := q
  exact run_fn (dvs := []) F hr hb .nil hx I2 r (by rw [List.append_nil]; exact q)
end XCallD

namespace K12
open PySem PySem.Spec PyProof.Rows L2 FG XLed XShow
/-! ### the text -/
def topS (i : Nat) : Stmt := PySem.Challenge.pw_leanfigures_k12_rows_refused.main.body.getD i (.Pass ⟨0, 0, 0, 0⟩)
abbrev t_is_whole : Stmt := topS 8
abbrev p_is_whole : List Str := ["thing"]
theorem sc_is_whole : FnScope ["thing"] p_is_whole (defScope t_is_whole) := ⟨rfl, rfl, rfl, by decide +kernel, rfl, by decide +kernel, by decide +kernel⟩
abbrev t_is_figure : Stmt := topS 9
abbrev p_is_figure : List Str := ["thing"]
theorem sc_is_figure : FnScope ["thing"] p_is_figure (defScope t_is_figure) := ⟨rfl, rfl, rfl, by decide +kernel, rfl, by decide +kernel, by decide +kernel⟩
abbrev t_is_row : Stmt := topS 10
abbrev p_is_row : List Str := ["thing"]
theorem sc_is_row : FnScope ["thing", "item"] p_is_row (defScope t_is_row) := ⟨rfl, rfl, rfl, by decide +kernel, rfl, by decide +kernel, by decide +kernel⟩
abbrev t_refuse_no_row : Stmt := topS 11
abbrev p_refuse_no_row : List Str := ["thing"]
theorem sc_refuse_no_row : FnScope ["thing"] p_refuse_no_row (defScope t_refuse_no_row) := ⟨rfl, rfl, rfl, by decide +kernel, rfl, by decide +kernel, by decide +kernel⟩
abbrev t_refuse_no_number : Stmt := topS 12
abbrev p_refuse_no_number : List Str := ["thing"]
theorem sc_refuse_no_number : FnScope ["thing"] p_refuse_no_number (defScope t_refuse_no_number) := ⟨rfl, rfl, rfl, by decide +kernel, rfl, by decide +kernel, by decide +kernel⟩
abbrev t_worth : Stmt := topS 13
abbrev p_worth : List Str := ["row"]
theorem sc_worth : FnScope ["row"] p_worth (defScope t_worth) := ⟨rfl, rfl, rfl, by decide +kernel, rfl, by decide +kernel, by decide +kernel⟩
abbrev t_marked : Stmt := topS 14
abbrev p_marked : List Str := ["row", "figure"]
theorem sc_marked : FnScope ["row", "figure", "marks", "item"] p_marked (defScope t_marked) := ⟨rfl, rfl, rfl, by decide +kernel, rfl, by decide +kernel, by decide +kernel⟩
abbrev t_weight : Stmt := topS 15
abbrev p_weight : List Str := ["row"]
theorem sc_weight : FnScope ["row"] p_weight (defScope t_weight) := ⟨rfl, rfl, rfl, by decide +kernel, rfl, by decide +kernel, by decide +kernel⟩
abbrev t_is_lean : Stmt := topS 16
abbrev p_is_lean : List Str := ["row"]
theorem sc_is_lean : FnScope ["row", "one", "other"] p_is_lean (defScope t_is_lean) := ⟨rfl, rfl, rfl, by decide +kernel, rfl, by decide +kernel, by decide +kernel⟩
abbrev t_lean : Stmt := topS 17
abbrev p_lean : List Str := ["number"]
theorem sc_lean : FnScope ["number", "ups", "downs", "many", "up", "down"] p_lean (defScope t_lean) := ⟨rfl, rfl, rfl, by decide +kernel, rfl, by decide +kernel, by decide +kernel⟩
abbrev t_lean_parts : Stmt := topS 18
abbrev p_lean_parts : List Str := ["number"]
theorem sc_lean_parts : FnScope ["number", "half", "more", "apart"] p_lean_parts (defScope t_lean_parts) := ⟨rfl, rfl, rfl, by decide +kernel, rfl, by decide +kernel, by decide +kernel⟩
abbrev t_places : Stmt := topS 19
abbrev p_places : List Str := ["number", "many"]
theorem sc_places : FnScope ["number", "many", "text"] p_places (defScope t_places) := ⟨rfl, rfl, rfl, by decide +kernel, rfl, by decide +kernel, by decide +kernel⟩
abbrev t_shown : Stmt := topS 24
abbrev p_shown : List Str := ["row"]
theorem sc_shown : FnScope ["row", "figure"] p_shown (defScope t_shown) := ⟨rfl, rfl, rfl, by decide +kernel, rfl, by decide +kernel, by decide +kernel⟩
abbrev t_read : Stmt := topS 25
abbrev p_read : List Str := ["text"]
theorem sc_read : FnScope ["text", "sign"] p_read (defScope t_read) := ⟨rfl, rfl, rfl, by decide +kernel, rfl, by decide +kernel, by decide +kernel⟩
abbrev t_shows_row : Stmt := topS 26
abbrev p_shows_row : List Str := ["thing"]
theorem sc_shows_row : FnScope ["thing", "sign"] p_shows_row (defScope t_shows_row) := ⟨rfl, rfl, rfl, by decide +kernel, rfl, by decide +kernel, by decide +kernel⟩
abbrev t_negated : Stmt := topS 28
abbrev p_negated : List Str := ["row"]
theorem sc_negated : FnScope ["row"] p_negated (defScope t_negated) := ⟨rfl, rfl, rfl, by decide +kernel, rfl, by decide +kernel, by decide +kernel⟩
abbrev t_added : Stmt := topS 29
abbrev p_added : List Str := ["one", "other"]
theorem sc_added : FnScope ["one", "other"] p_added (defScope t_added) := ⟨rfl, rfl, rfl, by decide +kernel, rfl, by decide +kernel, by decide +kernel⟩
abbrev t_multiplied : Stmt := topS 30
abbrev p_multiplied : List Str := ["one", "other"]
theorem sc_multiplied : FnScope ["one", "other"] p_multiplied (defScope t_multiplied) := ⟨rfl, rfl, rfl, by decide +kernel, rfl, by decide +kernel, by decide +kernel⟩
abbrev t_compared : Stmt := topS 31
abbrev p_compared : List Str := ["one", "other"]
theorem sc_compared : FnScope ["one", "other", "first", "second"] p_compared (defScope t_compared) := ⟨rfl, rfl, rfl, by decide +kernel, rfl, by decide +kernel, by decide +kernel⟩
abbrev t_together : Stmt := topS 32
abbrev p_together : List Str := ["rows"]
theorem sc_together : FnScope ["rows", "row"] p_together (defScope t_together) := ⟨rfl, rfl, rfl, by decide +kernel, rfl, by decide +kernel, by decide +kernel⟩
abbrev t_Lmixed : Stmt := topS 35
abbrev p_Lmixed : List Str := ["_law_cell", "_law_k"]
theorem sc_Lmixed : FnScope ["_law_cell", "_law_k", "_law_number"] p_Lmixed (defScope t_Lmixed) := ⟨rfl, rfl, rfl, by decide +kernel, rfl, by decide +kernel, by decide +kernel⟩
abbrev t_Lasked : Stmt := topS 37
abbrev p_Lasked : List Str := ["_law_way", "_law_thing_here"]
theorem sc_Lasked : FnScope ["_law_way", "_law_thing_here"] p_Lasked (defScope t_Lasked) := ⟨rfl, rfl, rfl, by decide +kernel, rfl, by decide +kernel, by decide +kernel⟩
abbrev t_Lword : Stmt := topS 38
abbrev p_Lword : List Str := ["_law_way", "_law_thing_here"]
theorem sc_Lword : FnScope ["_law_way", "_law_thing_here", "_law_caught", "error", "_law_found"] p_Lword (defScope t_Lword) := ⟨rfl, rfl, rfl, by decide +kernel, rfl, by decide +kernel, by decide +kernel⟩
abbrev t_Lthing : Stmt := topS 39
abbrev p_Lthing : List Str := ["_law_way", "_law_cell"]
theorem sc_Lthing : FnScope ["_law_way", "_law_cell", "_law_some"] p_Lthing (defScope t_Lthing) := ⟨rfl, rfl, rfl, by decide +kernel, rfl, by decide +kernel, by decide +kernel⟩
abbrev t_law : Stmt := topS 40
abbrev p_law : List Str := ["_law_script"]
theorem sc_law : FnScope ["_law_script", "_law_words", "_law_k", "_law_cell", "_law_number", "_law_way", "_law_thing_here"] p_law (defScope t_law) := ⟨rfl, rfl, rfl, by decide +kernel, rfl, by decide +kernel, by decide +kernel⟩
/-- what the top has left: where each def stands, and that the built-in names are still the built-in ones -/
structure Txt (K : PySem.W.Frag) (mg : Str → Option Value) where
  a_is_whole : Addr
  d_is_whole : FuncData
  F_is_whole : Fun K "is_whole" "is_whole" t_is_whole a_is_whole d_is_whole
  b_is_whole : Binds K d_is_whole p_is_whole []
  g_is_whole : mg "is_whole" = some (.ref a_is_whole)
  a_is_figure : Addr
  d_is_figure : FuncData
  F_is_figure : Fun K "is_figure" "is_figure" t_is_figure a_is_figure d_is_figure
  b_is_figure : Binds K d_is_figure p_is_figure []
  g_is_figure : mg "is_figure" = some (.ref a_is_figure)
  a_is_row : Addr
  d_is_row : FuncData
  F_is_row : Fun K "is_row" "is_row" t_is_row a_is_row d_is_row
  b_is_row : Binds K d_is_row p_is_row []
  g_is_row : mg "is_row" = some (.ref a_is_row)
  a_refuse_no_row : Addr
  d_refuse_no_row : FuncData
  F_refuse_no_row : Fun K "refuse_no_row" "refuse_no_row" t_refuse_no_row a_refuse_no_row d_refuse_no_row
  b_refuse_no_row : Binds K d_refuse_no_row p_refuse_no_row []
  g_refuse_no_row : mg "refuse_no_row" = some (.ref a_refuse_no_row)
  a_refuse_no_number : Addr
  d_refuse_no_number : FuncData
  F_refuse_no_number : Fun K "refuse_no_number" "refuse_no_number" t_refuse_no_number a_refuse_no_number d_refuse_no_number
  b_refuse_no_number : Binds K d_refuse_no_number p_refuse_no_number []
  g_refuse_no_number : mg "refuse_no_number" = some (.ref a_refuse_no_number)
  a_worth : Addr
  d_worth : FuncData
  F_worth : Fun K "worth" "worth" t_worth a_worth d_worth
  b_worth : Binds K d_worth p_worth []
  g_worth : mg "worth" = some (.ref a_worth)
  a_marked : Addr
  d_marked : FuncData
  F_marked : Fun K "marked" "marked" t_marked a_marked d_marked
  b_marked : Binds K d_marked p_marked []
  g_marked : mg "marked" = some (.ref a_marked)
  a_weight : Addr
  d_weight : FuncData
  F_weight : Fun K "weight" "weight" t_weight a_weight d_weight
  b_weight : Binds K d_weight p_weight []
  g_weight : mg "weight" = some (.ref a_weight)
  a_is_lean : Addr
  d_is_lean : FuncData
  F_is_lean : Fun K "is_lean" "is_lean" t_is_lean a_is_lean d_is_lean
  b_is_lean : Binds K d_is_lean p_is_lean []
  g_is_lean : mg "is_lean" = some (.ref a_is_lean)
  a_lean : Addr
  d_lean : FuncData
  F_lean : Fun K "lean" "lean" t_lean a_lean d_lean
  b_lean : Binds K d_lean p_lean []
  g_lean : mg "lean" = some (.ref a_lean)
  a_lean_parts : Addr
  d_lean_parts : FuncData
  F_lean_parts : Fun K "lean_parts" "lean_parts" t_lean_parts a_lean_parts d_lean_parts
  b_lean_parts : Binds K d_lean_parts p_lean_parts []
  g_lean_parts : mg "lean_parts" = some (.ref a_lean_parts)
  a_places : Addr
  d_places : FuncData
  F_places : Fun K "places" "places" t_places a_places d_places
  b_places : Binds K d_places p_places []
  g_places : mg "places" = some (.ref a_places)
  a_shown : Addr
  d_shown : FuncData
  F_shown : Fun K "shown" "shown" t_shown a_shown d_shown
  b_shown : Binds K d_shown p_shown []
  g_shown : mg "shown" = some (.ref a_shown)
  a_read : Addr
  d_read : FuncData
  F_read : Fun K "read" "read" t_read a_read d_read
  b_read : Binds K d_read p_read []
  g_read : mg "read" = some (.ref a_read)
  a_shows_row : Addr
  d_shows_row : FuncData
  F_shows_row : Fun K "shows_row" "shows_row" t_shows_row a_shows_row d_shows_row
  b_shows_row : Binds K d_shows_row p_shows_row []
  g_shows_row : mg "shows_row" = some (.ref a_shows_row)
  a_negated : Addr
  d_negated : FuncData
  F_negated : Fun K "negated" "negated" t_negated a_negated d_negated
  b_negated : Binds K d_negated p_negated []
  g_negated : mg "negated" = some (.ref a_negated)
  a_added : Addr
  d_added : FuncData
  F_added : Fun K "added" "added" t_added a_added d_added
  b_added : Binds K d_added p_added []
  g_added : mg "added" = some (.ref a_added)
  a_multiplied : Addr
  d_multiplied : FuncData
  F_multiplied : Fun K "multiplied" "multiplied" t_multiplied a_multiplied d_multiplied
  b_multiplied : Binds K d_multiplied p_multiplied []
  g_multiplied : mg "multiplied" = some (.ref a_multiplied)
  a_compared : Addr
  d_compared : FuncData
  F_compared : Fun K "compared" "compared" t_compared a_compared d_compared
  b_compared : Binds K d_compared p_compared []
  g_compared : mg "compared" = some (.ref a_compared)
  a_together : Addr
  d_together : FuncData
  F_together : Fun K "together" "together" t_together a_together d_together
  b_together : Binds K d_together p_together []
  g_together : mg "together" = some (.ref a_together)
  a_Lmixed : Addr
  d_Lmixed : FuncData
  F_Lmixed : Fun K "_law_mixed" "_law_mixed" t_Lmixed a_Lmixed d_Lmixed
  b_Lmixed : Binds K d_Lmixed p_Lmixed []
  g_Lmixed : mg "_law_mixed" = some (.ref a_Lmixed)
  a_Lasked : Addr
  d_Lasked : FuncData
  F_Lasked : Fun K "_law_asked" "_law_asked" t_Lasked a_Lasked d_Lasked
  b_Lasked : Binds K d_Lasked p_Lasked []
  g_Lasked : mg "_law_asked" = some (.ref a_Lasked)
  a_Lword : Addr
  d_Lword : FuncData
  F_Lword : Fun K "_law_word" "_law_word" t_Lword a_Lword d_Lword
  b_Lword : Binds K d_Lword p_Lword []
  g_Lword : mg "_law_word" = some (.ref a_Lword)
  a_Lthing : Addr
  d_Lthing : FuncData
  F_Lthing : Fun K "_law_thing" "_law_thing" t_Lthing a_Lthing d_Lthing
  b_Lthing : Binds K d_Lthing p_Lthing []
  g_Lthing : mg "_law_thing" = some (.ref a_Lthing)
  a_law : Addr
  d_law : FuncData
  F_law : Fun K "law" "law" t_law a_law d_law
  b_law : Binds K d_law p_law []
  g_law : mg "law" = some (.ref a_law)
  pw : Params
  gl_EMPTY : ∃ t, mg "EMPTY" = some (.str "0" t)
  D_SIGNS : Addr
  gd_SIGNS : mg "SIGNS" = some (.ref D_SIGNS)
  es_SIGNS : Array DictEntry
  n_SIGNS : Nat
  at_SIGNS : K.lookup D_SIGNS = some ⟨.type "dict", none, .dict es_SIGNS n_SIGNS, #[]⟩
  lo_SIGNS : (D_SIGNS == sysModules) = false
  ki_SIGNS : XTab.KeysInt es_SIGNS.toList
  ti_SIGNS : XTab.TabI es_SIGNS.toList [(1, "+"), (0, "0"), (-1, "-")]
  D_FIGURES : Addr
  gd_FIGURES : mg "FIGURES" = some (.ref D_FIGURES)
  es_FIGURES : Array DictEntry
  n_FIGURES : Nat
  at_FIGURES : K.lookup D_FIGURES = some ⟨.type "dict", none, .dict es_FIGURES n_FIGURES, #[]⟩
  lo_FIGURES : (D_FIGURES == sysModules) = false
  kl_FIGURES : PySem.W.KeysLit pw es_FIGURES.toList
  ti_FIGURES : XTab.TabS es_FIGURES.toList [("+", 1), ("0", 0), ("-", -1)]
  z_isinstance : mg "isinstance" = none
  z_int : mg "int" = none
  z_bool : mg "bool" = none
  z_list : mg "list" = none
  z_all : mg "all" = none
  z_len : mg "len" = none
  z_reversed : mg "reversed" = none
  z_zip : mg "zip" = none
  z_max : mg "max" = none
  z_str : mg "str" = none
  z_sum : mg "sum" = none
  z_ValueError : mg "ValueError" = none
  z_enumerate : mg "enumerate" = none
  c_LeanError : Addr
  gc_LeanError : mg "LeanError" = some (.ref c_LeanError)
  c_NoNumber : Addr
  gc_NoNumber : mg "NoNumber" = some (.ref c_NoNumber)
  c_NoRow : Addr
  gc_NoRow : mg "NoRow" = some (.ref c_NoRow)
  c_NoText : Addr
  gc_NoText : mg "NoText" = some (.ref c_NoText)
  c_NoDeeds : Addr
  gc_NoDeeds : mg "NoDeeds" = some (.ref c_NoDeeds)
  c_NoCost : Addr
  gc_NoCost : mg "NoCost" = some (.ref c_NoCost)
  x_LeanError : PySem.W.excIn K c_LeanError [.type "ValueError", .type "Exception", .type "BaseException", .type "object"] "ValueError.__new__" = true
  kp_LeanError : PySem.W.keepIn K (.ref c_LeanError) = true
  bs_LeanError : PySem.W.subIn K (.ref c_LeanError) (.type "BaseException") = some true
  ve_LeanError : PySem.W.subIn K (.ref c_LeanError) (.type "ValueError") = some true
  ty_LeanError : PySem.W.typeIn K (.ref c_LeanError) = some (.type "type")
  ic_LeanError : PySem.W.isClsIn K c_LeanError = true
  ga_LeanError : PySem.W.findIn K (.ref c_LeanError) "__getattribute__" = some (some (.builtin "BaseException.__getattribute__"))
  gt_LeanError : PySem.W.findIn K (.ref c_LeanError) "__getattr__" = some none
  gk_LeanError : PySem.W.findIn K (.ref c_LeanError) "__class__" = some (some (.builtin "object.__class__"))
  hd_LeanError : PySem.W.hasDictIn K c_LeanError = true
  mo_LeanError : PySem.W.mroIn K c_LeanError (.type "object") = some true
  su_LeanError_LeanError : PySem.W.subIn K (.ref c_LeanError) (.ref c_LeanError) = some true
  su_LeanError_NoNumber : PySem.W.subIn K (.ref c_LeanError) (.ref c_NoNumber) = some false
  su_LeanError_NoRow : PySem.W.subIn K (.ref c_LeanError) (.ref c_NoRow) = some false
  su_LeanError_NoText : PySem.W.subIn K (.ref c_LeanError) (.ref c_NoText) = some false
  su_LeanError_NoDeeds : PySem.W.subIn K (.ref c_LeanError) (.ref c_NoDeeds) = some false
  su_LeanError_NoCost : PySem.W.subIn K (.ref c_LeanError) (.ref c_NoCost) = some false
  x_NoNumber : PySem.W.excIn K c_NoNumber [.type "ValueError", .type "Exception", .type "BaseException", .type "object"] "ValueError.__new__" = true
  kp_NoNumber : PySem.W.keepIn K (.ref c_NoNumber) = true
  bs_NoNumber : PySem.W.subIn K (.ref c_NoNumber) (.type "BaseException") = some true
  ve_NoNumber : PySem.W.subIn K (.ref c_NoNumber) (.type "ValueError") = some true
  ty_NoNumber : PySem.W.typeIn K (.ref c_NoNumber) = some (.type "type")
  ic_NoNumber : PySem.W.isClsIn K c_NoNumber = true
  ga_NoNumber : PySem.W.findIn K (.ref c_NoNumber) "__getattribute__" = some (some (.builtin "BaseException.__getattribute__"))
  gt_NoNumber : PySem.W.findIn K (.ref c_NoNumber) "__getattr__" = some none
  gk_NoNumber : PySem.W.findIn K (.ref c_NoNumber) "__class__" = some (some (.builtin "object.__class__"))
  hd_NoNumber : PySem.W.hasDictIn K c_NoNumber = true
  mo_NoNumber : PySem.W.mroIn K c_NoNumber (.type "object") = some true
  su_NoNumber_LeanError : PySem.W.subIn K (.ref c_NoNumber) (.ref c_LeanError) = some true
  su_NoNumber_NoNumber : PySem.W.subIn K (.ref c_NoNumber) (.ref c_NoNumber) = some true
  su_NoNumber_NoRow : PySem.W.subIn K (.ref c_NoNumber) (.ref c_NoRow) = some false
  su_NoNumber_NoText : PySem.W.subIn K (.ref c_NoNumber) (.ref c_NoText) = some false
  su_NoNumber_NoDeeds : PySem.W.subIn K (.ref c_NoNumber) (.ref c_NoDeeds) = some false
  su_NoNumber_NoCost : PySem.W.subIn K (.ref c_NoNumber) (.ref c_NoCost) = some false
  x_NoRow : PySem.W.excIn K c_NoRow [.type "ValueError", .type "Exception", .type "BaseException", .type "object"] "ValueError.__new__" = true
  kp_NoRow : PySem.W.keepIn K (.ref c_NoRow) = true
  bs_NoRow : PySem.W.subIn K (.ref c_NoRow) (.type "BaseException") = some true
  ve_NoRow : PySem.W.subIn K (.ref c_NoRow) (.type "ValueError") = some true
  ty_NoRow : PySem.W.typeIn K (.ref c_NoRow) = some (.type "type")
  ic_NoRow : PySem.W.isClsIn K c_NoRow = true
  ga_NoRow : PySem.W.findIn K (.ref c_NoRow) "__getattribute__" = some (some (.builtin "BaseException.__getattribute__"))
  gt_NoRow : PySem.W.findIn K (.ref c_NoRow) "__getattr__" = some none
  gk_NoRow : PySem.W.findIn K (.ref c_NoRow) "__class__" = some (some (.builtin "object.__class__"))
  hd_NoRow : PySem.W.hasDictIn K c_NoRow = true
  mo_NoRow : PySem.W.mroIn K c_NoRow (.type "object") = some true
  su_NoRow_LeanError : PySem.W.subIn K (.ref c_NoRow) (.ref c_LeanError) = some true
  su_NoRow_NoNumber : PySem.W.subIn K (.ref c_NoRow) (.ref c_NoNumber) = some false
  su_NoRow_NoRow : PySem.W.subIn K (.ref c_NoRow) (.ref c_NoRow) = some true
  su_NoRow_NoText : PySem.W.subIn K (.ref c_NoRow) (.ref c_NoText) = some false
  su_NoRow_NoDeeds : PySem.W.subIn K (.ref c_NoRow) (.ref c_NoDeeds) = some false
  su_NoRow_NoCost : PySem.W.subIn K (.ref c_NoRow) (.ref c_NoCost) = some false
  x_NoText : PySem.W.excIn K c_NoText [.type "ValueError", .type "Exception", .type "BaseException", .type "object"] "ValueError.__new__" = true
  kp_NoText : PySem.W.keepIn K (.ref c_NoText) = true
  bs_NoText : PySem.W.subIn K (.ref c_NoText) (.type "BaseException") = some true
  ve_NoText : PySem.W.subIn K (.ref c_NoText) (.type "ValueError") = some true
  ty_NoText : PySem.W.typeIn K (.ref c_NoText) = some (.type "type")
  ic_NoText : PySem.W.isClsIn K c_NoText = true
  ga_NoText : PySem.W.findIn K (.ref c_NoText) "__getattribute__" = some (some (.builtin "BaseException.__getattribute__"))
  gt_NoText : PySem.W.findIn K (.ref c_NoText) "__getattr__" = some none
  gk_NoText : PySem.W.findIn K (.ref c_NoText) "__class__" = some (some (.builtin "object.__class__"))
  hd_NoText : PySem.W.hasDictIn K c_NoText = true
  mo_NoText : PySem.W.mroIn K c_NoText (.type "object") = some true
  su_NoText_LeanError : PySem.W.subIn K (.ref c_NoText) (.ref c_LeanError) = some true
  su_NoText_NoNumber : PySem.W.subIn K (.ref c_NoText) (.ref c_NoNumber) = some false
  su_NoText_NoRow : PySem.W.subIn K (.ref c_NoText) (.ref c_NoRow) = some false
  su_NoText_NoText : PySem.W.subIn K (.ref c_NoText) (.ref c_NoText) = some true
  su_NoText_NoDeeds : PySem.W.subIn K (.ref c_NoText) (.ref c_NoDeeds) = some false
  su_NoText_NoCost : PySem.W.subIn K (.ref c_NoText) (.ref c_NoCost) = some false
  x_NoDeeds : PySem.W.excIn K c_NoDeeds [.type "ValueError", .type "Exception", .type "BaseException", .type "object"] "ValueError.__new__" = true
  kp_NoDeeds : PySem.W.keepIn K (.ref c_NoDeeds) = true
  bs_NoDeeds : PySem.W.subIn K (.ref c_NoDeeds) (.type "BaseException") = some true
  ve_NoDeeds : PySem.W.subIn K (.ref c_NoDeeds) (.type "ValueError") = some true
  ty_NoDeeds : PySem.W.typeIn K (.ref c_NoDeeds) = some (.type "type")
  ic_NoDeeds : PySem.W.isClsIn K c_NoDeeds = true
  ga_NoDeeds : PySem.W.findIn K (.ref c_NoDeeds) "__getattribute__" = some (some (.builtin "BaseException.__getattribute__"))
  gt_NoDeeds : PySem.W.findIn K (.ref c_NoDeeds) "__getattr__" = some none
  gk_NoDeeds : PySem.W.findIn K (.ref c_NoDeeds) "__class__" = some (some (.builtin "object.__class__"))
  hd_NoDeeds : PySem.W.hasDictIn K c_NoDeeds = true
  mo_NoDeeds : PySem.W.mroIn K c_NoDeeds (.type "object") = some true
  su_NoDeeds_LeanError : PySem.W.subIn K (.ref c_NoDeeds) (.ref c_LeanError) = some true
  su_NoDeeds_NoNumber : PySem.W.subIn K (.ref c_NoDeeds) (.ref c_NoNumber) = some false
  su_NoDeeds_NoRow : PySem.W.subIn K (.ref c_NoDeeds) (.ref c_NoRow) = some false
  su_NoDeeds_NoText : PySem.W.subIn K (.ref c_NoDeeds) (.ref c_NoText) = some false
  su_NoDeeds_NoDeeds : PySem.W.subIn K (.ref c_NoDeeds) (.ref c_NoDeeds) = some true
  su_NoDeeds_NoCost : PySem.W.subIn K (.ref c_NoDeeds) (.ref c_NoCost) = some false
  x_NoCost : PySem.W.excIn K c_NoCost [.type "ValueError", .type "Exception", .type "BaseException", .type "object"] "ValueError.__new__" = true
  kp_NoCost : PySem.W.keepIn K (.ref c_NoCost) = true
  bs_NoCost : PySem.W.subIn K (.ref c_NoCost) (.type "BaseException") = some true
  ve_NoCost : PySem.W.subIn K (.ref c_NoCost) (.type "ValueError") = some true
  ty_NoCost : PySem.W.typeIn K (.ref c_NoCost) = some (.type "type")
  ic_NoCost : PySem.W.isClsIn K c_NoCost = true
  ga_NoCost : PySem.W.findIn K (.ref c_NoCost) "__getattribute__" = some (some (.builtin "BaseException.__getattribute__"))
  gt_NoCost : PySem.W.findIn K (.ref c_NoCost) "__getattr__" = some none
  gk_NoCost : PySem.W.findIn K (.ref c_NoCost) "__class__" = some (some (.builtin "object.__class__"))
  hd_NoCost : PySem.W.hasDictIn K c_NoCost = true
  mo_NoCost : PySem.W.mroIn K c_NoCost (.type "object") = some true
  su_NoCost_LeanError : PySem.W.subIn K (.ref c_NoCost) (.ref c_LeanError) = some true
  su_NoCost_NoNumber : PySem.W.subIn K (.ref c_NoCost) (.ref c_NoNumber) = some false
  su_NoCost_NoRow : PySem.W.subIn K (.ref c_NoCost) (.ref c_NoRow) = some false
  su_NoCost_NoText : PySem.W.subIn K (.ref c_NoCost) (.ref c_NoText) = some false
  su_NoCost_NoDeeds : PySem.W.subIn K (.ref c_NoCost) (.ref c_NoDeeds) = some false
  su_NoCost_NoCost : PySem.W.subIn K (.ref c_NoCost) (.ref c_NoCost) = some true
  sp_class : PySem.W.specialIn K (.builtin "object.__class__") "__get__" = some (some (.builtin "getset_descriptor.__get__"))
  tk_class : PySem.W.takesIn K (.builtin "object.__class__") = some true
  digits : PySem.W.nsIn K cStatics "sys.int_max_str_digits" = some none
section
variable {P : Program} {w : World} {K : PySem.W.Frag} {mg : Str → Option Value} {base : Heap}
/-! ### is_whole -/
def sp_is_whole (K : PySem.W.Frag) : Sp := fun vs H Q _ => ∃ x, vs = [x] ∧ Plain K H x ∧ Q (.bl (intV x)) H
theorem ok_is_whole (T : Txt K mg) : FnOk P w K mg base CX0 1 T.a_is_whole T.d_is_whole p_is_whole (sp_is_whole K) := by
  refine T.F_is_whole.ok sc_is_whole (fun vs H Q E h => ?_) (fun cdv A outer s H vs Q E hr h => ?_)
  · obtain ⟨x, rfl, _⟩ := h
    rfl
  · obtain ⟨x, rfl, ⟨i, b, l, k, e⟩, q⟩ := h
    obtain ⟨t, ty, h1, h2, _⟩ := k.ex
    refine ⟨_, pss_one (ps_ret (pe_and (pe_callB call_isi (by rfl) T.z_isinstance (by decide +kernel) (pa_cons (pv 0) (pa_cons (pe_bltn (v := .ty "int") (by rfl) T.z_int (by decide +kernel) rfl) pa_nil)))
      (pe_one (pe_not (pe_callB call_isi (by rfl) T.z_isinstance (by decide +kernel) (pa_cons (pv 0) (pa_cons (pe_bltn (v := .ty "bool") (by rfl) T.z_bool (by decide +kernel) rfl) pa_nil))))))), ?_⟩
    refine ⟨x, rfl, x, _, t, _, i, rfl, .ty _, ty, h1, i, rfl, ?_⟩
    cases i with
    | true => exact iteT ⟨x, rfl, x, _, t, _, b, rfl, .ty _, ty, h2, b, rfl, by rw [← e] at q; exact q⟩
    | false => exact iteF (by rw [← e] at q; exact q)
/-! ### is_figure -/
def sp_is_figure (K : PySem.W.Frag) : Sp := fun vs H Q _ => ∃ x, vs = [x] ∧ Plain K H x ∧ Q (.bl (figV x)) H
theorem ok_is_figure (T : Txt K mg) : FnOk P w K mg base CX0 2 T.a_is_figure T.d_is_figure p_is_figure (sp_is_figure K) := by
  refine T.F_is_figure.ok sc_is_figure (fun vs H Q E h => ?_) (fun cdv A outer s H vs Q E hr h => ?_)
  · obtain ⟨x, rfl, _⟩ := h
    rfl
  · obtain ⟨x, rfl, k, q⟩ := h
    refine ⟨_, pss_one (ps_ret (pe_and (pe_call (ok_is_whole T) hr (by rfl) T.g_is_whole T.F_is_whole.kp T.b_is_whole .nil pass0 (pa_cons (pv 0) pa_nil))
      (pe_one (pe_chain op_le op_le (pe_un un_neg pe_int) (pv 0) pe_int)))), ?_⟩
    refine ⟨x, rfl, x, rfl, k, _, rfl, ?_⟩
    cases x with
    | int i =>
      refine iteT ⟨1, rfl, .int i, rfl, _, _, rfl, rfl, _, rfl, ?_⟩
      by_cases h0 : -1 ≤ i
      · rw [decide_eq_true h0]
        refine iteT ⟨_, _, rfl, rfl, ?_⟩
        have e : figV (.int i) = decide (i ≤ 1) := by simp [figV, h0]
        rw [e] at q
        exact q
      · rw [decide_eq_false h0]
        have e : figV (.int i) = false := by simp [figV, h0]
        rw [e] at q
        exact iteF q
    | _ => exact iteF q
/-! ### is_row -/
/-- what a list of known things is told -/
def rowB (xs : List V) : Bool := xs.all figV && (xs.isEmpty || !decide (xs.getLast? = some (.int 0)))
def sp_is_row (K : PySem.W.Frag) : Sp := fun vs H Q _ => ∃ x, vs = [x] ∧
  ((∃ i b, Kind K H x i b false ∧ Q (.bl false) H) ∨ ∃ a xs, x = .ref a ∧ SqL K H a xs ∧ (∀ y ∈ xs, Plain K H y) ∧ xs.length ≤ 4000000 ∧ ∀ H', Same H H' → Q (.bl (rowB xs)) H')
theorem ok_is_row (T : Txt K mg) : FnOk P w K mg base CX0 3 T.a_is_row T.d_is_row p_is_row (sp_is_row K) := by
  refine T.F_is_row.ok sc_is_row (fun vs H Q E h => ?_) (fun cdv A outer s H vs Q E hr h => ?_)
  · obtain ⟨x, rfl, _⟩ := h
    rfl
  · obtain ⟨x, rfl, h⟩ := h
    refine ⟨_, pss_cons (ps_if (pt_not (pt_val (pe_callB call_isi (by rfl) T.z_isinstance (by decide +kernel) (pa_cons (pv 0) (pa_cons (pe_bltn (v := .ty "list") (by rfl) T.z_list (by decide +kernel) rfl) pa_nil))))) (pss_one (ps_ret pe_bl)) pss_nil)
      (pss_cons (ps_if (pt_not (pt_val (pe_callB (cr_all rfl) (by rfl) T.z_all (by decide +kernel) (pa_cons (pe_lc (own := [("item", 1)]) (g := gName 1) (tt := tYes) (by rfl) sc_is_row.nd (pi_list (pv 0)) (blkOk_by (N := ["thing", "item"]) (own := [("item", 1)]) (sc := defScope t_is_row) (by decide +kernel))
          (fun _ _ _ _ _ => pg_name (i := 1) sc_is_row.nd rfl (Or.inl rfl)) (fun _ _ _ _ _ => pts_nil)
          (fun _ _ _ _ _ => pe_call (ok_is_figure T) (by exact hr) (by rfl) T.g_is_figure T.F_is_figure.kp T.b_is_figure .nil pass0 (pa_cons (pv 1) pa_nil))) pa_nil)))) (pss_one (ps_ret pe_bl)) pss_nil)
      (pss_one (ps_ret (pe_or (pe_cmpR op_eq (pe_callB call_len_seq (by rfl) T.z_len PySem.boot_len (pa_cons (pv 0) pa_nil)) pe_int (nomark _))
        (pe_one (pe_cmpR op_ne (pe_ix ix_list (pv 0) (pe_un un_neg pe_int) (fun _ _ => rfl)) pe_int (nomark _))))))), ?_⟩
    rcases h with ⟨i, b, k, q⟩ | ⟨a, xs, rfl, hS, hp, hl, q⟩
    · obtain ⟨t, ty, _, _, h3⟩ := k.ex
      refine ⟨x, rfl, x, _, t, _, false, rfl, .ty _, ty, h3, false, rfl, ?_⟩
      exact iteT q
    · obtain ⟨t, ty, _, _, h3⟩ := (kind_list (K := K) (H := H) hS).ex
      refine ⟨.ref a, rfl, .ref a, _, t, _, true, rfl, .ty _, ty, h3, true, rfl, ?_⟩
      refine iteF ?_
      refine ⟨.ref a, rfl, a, rfl, ⟨_, hS⟩, fun D nD => ?_⟩
      have sD : ∀ ys, Same H (upd H D (.lst ys)) := fun ys => same_upd nD
      refine lc_list (K := K) (a := a) (xs := xs) (fun i H1 => H1 = upd H D (.lst ((xs.take i).map fun y => .bl (figV y)))) rfl (fun i H1 _ e => by rw [e]; exact (sD _).seq hS) (fun i y H1 hy e => ?_) (fun H1 e => ?_)
      · subst e
        have py := (hp y (List.mem_of_getElem? hy)).mono (sD ((xs.take i).map fun y => .bl (figV y)))
        refine ⟨rfl, y, rfl, y, rfl, py, _, upd_same, ?_, ?_⟩
        · rw [List.length_map, List.length_take]
          have : xs.length < sizeLine := Nat.lt_of_le_of_lt hl (by decide)
          omega
        · rw [upd_upd, List.take_add_one, hy, List.map_append]
          rfl
      · subst e
        rw [List.take_length]
        have hD : SqL K (upd H D (.lst (xs.map fun y => .bl (figV y)))) D ((xs.map figV).map V.bl) := by
          rw [List.map_map]
          exact SqL.of upd_same
        refine ⟨D, xs.map figV, rfl, hD, _, rfl, ?_⟩
        have ea : (xs.map figV).all id = xs.all figV := by
          rw [List.all_map]
          rfl
        rw [ea]
        have sH : Same H (upd H D (.lst (xs.map fun y => .bl (figV y)))) := sD _
        have q' := q _ sH
        cases hb : xs.all figV with
        | false =>
          have er : rowB xs = false := by simp [rowB, hb]
          rw [er] at q'
          exact iteT q'
        | true =>
          refine iteF ?_
          refine ⟨.ref a, rfl, a, xs, rfl, .inl (sH.seq hS), rfl, _, rfl, ?_⟩
          by_cases h0 : xs = []
          · subst h0
            refine iteT ?_
            exact q'
          · have hne : ¬ ((V.int (xs.length : Int)) = V.int 0) := fun z => h0 (List.length_eq_zero_iff.mp (by have := V.int.inj z; omega))
            rw [decide_eq_false hne]
            have hg := atI_getLast xs h0
            refine iteF ⟨.ref a, rfl, 1, rfl, a, xs, -1, _, rfl, rfl, sH.seq hS, hg, ?_⟩
            have hm : figV (xs.getLast h0) = true := List.all_eq_true.mp hb _ (List.getLast_mem h0)
            have er : rowB xs = !decide (xs.getLast h0 = .int 0) := by
              have e1 : xs.isEmpty = false := by simp [h0]
              simp [rowB, hb, e1, List.getLast?_eq_getLast h0]
            rw [er] at q'
            cases hv : xs.getLast h0 with
            | int j =>
              rw [hv] at q'
              exact ⟨rfl, q'⟩
            | _ => rw [hv] at hm; cases hm
/-! ### refuse_no_row, of rows -/
theorem row_all {ns : List Int} (r : Row ns) : (ns.map V.int).all figV = true := by
  rw [List.all_map, List.all_eq_true]
  intro n hn
  have := r.1 n hn
  simp [figV, this]
theorem row_yes {ns : List Int} (r : Row ns) : rowB (ns.map V.int) = true := by
  have h1 := row_all r
  have h2 : decide ((ns.map V.int).getLast? = some (.int 0)) = false := by
    rw [decide_eq_false_iff_not, List.getLast?_map]
    intro z
    cases e : ns.getLast? with
    | none => rw [e] at z; exact nomatch z
    | some n =>
      rw [e] at z
      have z2 : V.int n = V.int 0 := Option.some.inj z
      exact r.2 (by rw [e, V.int.inj z2])
  unfold rowB
  rw [h1, h2]
  simp
theorem RowAt.plain {K : PySem.W.Frag} {H : Hp} {ns : List Int} : ∀ y ∈ ns.map V.int, Plain K H y := fun y hy => by
  obtain ⟨n, _, rfl⟩ := List.mem_map.mp hy
  exact plain_int n
def sp_refuse (K : PySem.W.Frag) : Sp := fun vs H Q _ => ∃ a ns, vs = [.ref a] ∧ RowAt K H a ns ∧ ∀ H', Same H H' → Q .non H'
theorem ok_refuse_no_row (T : Txt K mg) : FnOk P w K mg base CX0 4 T.a_refuse_no_row T.d_refuse_no_row p_refuse_no_row (sp_refuse K) := by
  refine T.F_refuse_no_row.ok sc_refuse_no_row (fun vs H Q E h => ?_) (fun cdv A outer s H vs Q E hr h => ?_)
  · obtain ⟨x, _, rfl, _⟩ := h
    rfl
  · obtain ⟨a, ns, rfl, hS, q⟩ := h
    refine ⟨_, pss_one (ps_if (pt_not (pt_val (pe_call (ok_is_row T) hr (by rfl) T.g_is_row T.F_is_row.kp T.b_is_row .nil pass0 (pa_cons (pv 0) pa_nil)))) (pss_one ps_never) pss_nil), ?_⟩
    refine ⟨.ref a, rfl, .ref a, rfl, .inr ⟨a, ns.map V.int, rfl, hS.1, RowAt.plain, by rw [List.length_map]; exact hS.2.2, fun H' s' => ?_⟩⟩
    refine ⟨_, rfl, ?_⟩
    rw [row_yes hS.2.1]
    exact iteF (q _ s')
/-! ### refuse_no_number, of numbers -/
def sp_refuse_number : Sp := fun vs H Q _ => ∃ n : Int, vs = [.int n] ∧ Q .non H
theorem ok_refuse_no_number (T : Txt K mg) : FnOk P w K mg base CX0 2 T.a_refuse_no_number T.d_refuse_no_number p_refuse_no_number sp_refuse_number := by
  refine T.F_refuse_no_number.ok sc_refuse_no_number (fun vs H Q E h => ?_) (fun cdv A outer s H vs Q E hr h => ?_)
  · obtain ⟨_, rfl, _⟩ := h
    rfl
  · obtain ⟨n, rfl, q⟩ := h
    refine ⟨_, pss_one (ps_if (pt_not (pt_val (pe_call (ok_is_whole T) hr (by rfl) T.g_is_whole T.F_is_whole.kp T.b_is_whole .nil pass0 (pa_cons (pv 0) pa_nil)))) (pss_one ps_never) pss_nil), ?_⟩
    refine ⟨.int n, rfl, .int n, rfl, plain_int n, _, rfl, ?_⟩
    exact iteF q
/-! ### marked -/
def sp_marked (K : PySem.W.Frag) : Sp := fun vs H Q _ => ∃ a ns f, vs = [.ref a, .int f] ∧ SqL K H a (ns.map V.int) ∧ ns.length ≤ 4000000 ∧ ∀ H', Same H H' → Q (.int ((mk f ns : Nat) : Int)) H'
theorem ok_marked (T : Txt K mg) : FnOk P w K mg base CX0 1 T.a_marked T.d_marked p_marked (sp_marked K) := by
  refine T.F_marked.ok sc_marked (fun vs H Q E h => ?_) (fun cdv A outer s H vs Q E hr h => ?_)
  · obtain ⟨_, _, _, rfl, _⟩ := h
    rfl
  · obtain ⟨a, ns, f, rfl, hS, hl, q⟩ := h
    refine ⟨_, pss_cons (ps_setLc (i := 2) (own := [("item", 3)]) (g := gName 3) (tt := tYes) (by rfl) sc_marked.nd rfl rfl (sw_true rfl rfl rfl (by decide +kernel)) (pi_reversed (by rfl) T.z_reversed (pa_cons (pv 0) pa_nil))
        (blkOk_by (N := ["row", "figure", "marks", "item"]) (own := [("item", 3)]) (sc := defScope t_marked) (by decide +kernel))
        (fun _ _ _ _ _ => pg_name (i := 3) sc_marked.nd rfl (Or.inl rfl)) (fun _ _ _ _ _ => pts_nil)
        (fun _ _ _ _ _ => pe_ifExp (pt_cmpR op_eq (pv 3) (pv 1) (nomark _)) pe_str pe_str))
      (pss_one (ps_ret (pe_callTy (call_int2 T.digits) (by rfl) T.z_int (by decide +kernel) (pa_cons (pe_op op_add_str pe_str (pe_join pe_str (pv 2))) (pa_cons pe_int pa_nil))))), ?_⟩
    refine ⟨.ref a, rfl, a, ns.map V.int, rfl, hS, fun D nD => ?_⟩
    have sD : ∀ ys, Same H (upd H D (.lst ys)) := fun ys => same_upd nD
    have el : (ns.map V.int).length = ns.length := List.length_map ..
    refine ⟨fun i m H1 => i + m = ns.length ∧ H1 = upd H D (.lst (((ns.reverse.take i).map fun n => .str (sign1 (sg f n))))), ⟨ns.length, by omega, rfl⟩, fun i m H1 hW => ?_⟩
    obtain ⟨em, rfl⟩ := hW
    by_cases hi : i < ns.length
    · have hj : ns.length - 1 - i < ns.length := by omega
      have g : (ns.map V.int)[(ns.map V.int).length - 1 - i]? = some (.int ns[ns.length - 1 - i]) := by
        rw [el, List.getElem?_map, List.getElem?_eq_getElem hj]
        rfl
      have gr : ns.reverse[i]? = some ns[ns.length - 1 - i] := by
        rw [List.getElem?_reverse hi, List.getElem?_eq_getElem hj]
      refine .inr ⟨⟨by rw [el]; exact hi, _, _, (sD _).seq hS, g⟩, fun H' => H' = upd H D (.lst (((ns.reverse.take (i + 1)).map fun n => .str (sign1 (sg f n))))), fun H' e => ⟨m - 1, by omega, by omega, e⟩, fun x H' hy => ?_⟩
      obtain ⟨rfl, fx⟩ := hy
      have ex := Option.some.inj ((fx _ ((sD _).seq hS)).symm.trans g)
      subst ex
      have fin : ∀ z : V, z = .str (sign1 (sg f ns[ns.length - 1 - i])) → ∃ acc, (upd H D (.lst (((ns.reverse.take i).map fun n => .str (sign1 (sg f n)))))) D = some (.lst acc) ∧ acc.length < sizeLine ∧
          upd (upd H D (.lst (((ns.reverse.take i).map fun n => .str (sign1 (sg f n)))))) D (.lst (acc ++ [z])) = upd H D (.lst (((ns.reverse.take (i + 1)).map fun n => .str (sign1 (sg f n))))) := fun z ez => by
        subst ez
        refine ⟨_, upd_same, ?_, ?_⟩
        · rw [List.length_map, List.length_take]
          have : ns.length < sizeLine := Nat.lt_of_le_of_lt hl (by decide)
          omega
        · rw [upd_upd, List.take_add_one, gr, List.map_append]
          rfl
      refine ⟨rfl, .int ns[ns.length - 1 - i], rfl, .int f, rfl, rfl, _, rfl, ?_⟩
      by_cases hf : ns[ns.length - 1 - i] = f
      · rw [decide_eq_true (show V.int ns[ns.length - 1 - i] = V.int f by rw [hf])]
        refine iteT (fin _ ?_)
        rw [show sg f ns[ns.length - 1 - i] = 49 from if_pos hf]
        rfl
      · rw [decide_eq_false (show ¬ V.int ns[ns.length - 1 - i] = V.int f from fun z => hf (V.int.inj z))]
        refine iteF (fin _ ?_)
        rw [show sg f ns[ns.length - 1 - i] = 48 from if_neg hf]
        rfl
    · refine .inl ⟨(show (ns.map V.int).length ≤ i by rw [el]; omega), ?_⟩
      have et : ns.reverse.take i = ns.reverse := List.take_of_length_le (by rw [List.length_reverse]; omega)
      rw [et]
      have hD : SqL K (upd H D (.lst (ns.reverse.map fun n => V.str (sign1 (sg f n))))) D (((ns.reverse.map (sg f)).map sign1).map V.str) := by
        rw [List.map_map, List.map_map]
        exact SqL.of upd_same
      have e1 := joined_signs Str.empty rfl (ns.reverse.map (sg f))
      have l1 : (Txt.join Str.empty ((ns.reverse.map (sg f)).map sign1)).length = ns.length := by
        have := congrArg List.length e1
        rw [Array.length_toList, List.length_map, List.length_reverse] at this
        exact this
      have lim : (16777216 : Nat) = sizeLine := by decide
      refine ⟨⟨_, rfl⟩, .ref D, rfl, Str.empty, D, (ns.reverse.map (sg f)).map sign1, rfl, rfl, .inl hD, ?_, _, _, rfl, rfl, ?_, ?_⟩
      · have e2 : (((ns.reverse.map (sg f)).map sign1).map (·.length)) = List.replicate ns.length 1 := by
          rw [List.map_map, List.map_map]
          refine List.eq_replicate_iff.mpr ⟨by rw [List.length_map, List.length_reverse], fun b hb => ?_⟩
          obtain ⟨n, _, rfl⟩ := List.mem_map.mp hb
          rfl
        rw [e2, List.sum_replicate_nat]
        show ns.length * 1 + _ * 0 ≤ 16777216
        omega
      · rw [l1]
        show 1 + ns.length ≤ sizeLine
        omega
      · have e3 : ((("0" : Str) ++ Txt.join Str.empty ((ns.reverse.map (sg f)).map sign1))).cps.toList = 48 :: (ns.reverse.map (sg f)) := by
          rw [app_list, e1]
          rfl
        refine ⟨_, rfl, ?_, ?_, ?_⟩
        · rw [e3]
          exact sg_bits f ns.reverse
        · rw [e3]
          exact fun z => nomatch z
        · rw [e3, sg_val]
          exact q _ (sD _)
/-! ### worth -/
def sp_worth (K : PySem.W.Frag) : Sp := fun vs H Q _ => ∃ a ns, vs = [.ref a] ∧ RowAt K H a ns ∧ ∀ H', Same H H' → Q (.int (val ns)) H'
theorem ok_worth (T : Txt K mg) : FnOk P w K mg base CX0 5 T.a_worth T.d_worth p_worth (sp_worth K) := by
  refine T.F_worth.ok sc_worth (fun vs H Q E h => ?_) (fun cdv A outer s H vs Q E hr h => ?_)
  · obtain ⟨_, _, rfl, _⟩ := h
    rfl
  · obtain ⟨a, ns, rfl, hS, q⟩ := h
    refine ⟨_, pss_cons (ps_expr (pe_call (ok_refuse_no_row T) hr (by rfl) T.g_refuse_no_row T.F_refuse_no_row.kp T.b_refuse_no_row .nil pass0 (pa_cons (pv 0) pa_nil)))
      (pss_one (ps_ret (pe_op op_sub (pe_call (ok_marked T) (hr.mono (by decide)) (by rfl) T.g_marked T.F_marked.kp T.b_marked .nil pass0 (pa_cons (pv 0) (pa_cons pe_int pa_nil)))
        (pe_call (ok_marked T) (hr.mono (by decide)) (by rfl) T.g_marked T.F_marked.kp T.b_marked .nil pass0 (pa_cons (pv 0) (pa_cons (pe_un un_neg pe_int) pa_nil)))))), ?_⟩
    refine ⟨.ref a, rfl, a, ns, rfl, hS, fun H1 s1 => ?_⟩
    refine ⟨.ref a, rfl, a, ns, 1, rfl, s1.seq hS.1, hS.2.2, fun H2 s2 => ?_⟩
    refine ⟨.ref a, rfl, 1, rfl, a, ns, -1, rfl, s2.seq (s1.seq hS.1), hS.2.2, fun H3 s3 => ?_⟩
    refine ⟨_, _, rfl, rfl, ?_⟩
    show Q (.int (((mk 1 ns : Nat) : Int) - ((mk (-1) ns : Nat) : Int))) H3
    rw [mk_val ns hS.2.1.1]
    exact q _ (s1.trans (s2.trans s3))
/-! ### places -/
def sp_places (K : PySem.W.Frag) : Sp := fun vs H Q _ => ∃ (x L : Nat), vs = [.int (x : Int), .int ((L + 1 : Nat) : Int)] ∧ x < 2 ^ (L + 1) ∧ L + 1 ≤ 4000000 ∧ ∀ y : Str, y.cps.toList = bitsLE (L + 1) x → Q (.str y) H
theorem ok_places (T : Txt K mg) : FnOk P w K mg base CX0 1 T.a_places T.d_places p_places (sp_places K) := by
  refine T.F_places.ok sc_places (fun vs H Q E h => ?_) (fun cdv A outer s H vs Q E hr h => ?_)
  · obtain ⟨_, _, rfl, _⟩ := h
    rfl
  · obtain ⟨x, L, rfl, hx, hL, q⟩ := h
    refine ⟨_, pss_cons (ps_set (i := 2) sc_places.nd rfl (.inl rfl) (pe_joined1 (pe_fmtB (pv 0))))
      (pss_one (ps_ret (pe_revT (pe_bm PySem.F.plainAttrs_str PySem.F.slot_str_zfill PySem.F.type_str_zfill mt_zfill (pv 2) (pa_cons (pv 1) pa_nil))))), ?_⟩
    obtain ⟨l1, l2⟩ := digs_bits L x hx
    have lt := binText_len x
    have lim : (4000001 : Nat) ≤ sizeLine := by decide
    refine ⟨.int x, rfl, (x : Int), rfl, by omega, ?_⟩
    have hf := filled hx
    have lf : (Txt.zfill (XB.binText (x : Int)) ((L + 1 : Nat) : Int)).length = L + 1 := by
      have := congrArg List.length hf
      rw [List.length_reverse, Array.length_toList, bitsLE_len] at this
      exact this
    refine ⟨.str (XB.binText (x : Int)), rfl, rfl, .int ((L + 1 : Nat) : Int), rfl, XB.binText (x : Int), ((L + 1 : Nat) : Int), rfl, rfl, ?_, _, rfl, by rw [lf]; omega, fun y hy => ?_⟩
    · unfold PadOk fitsSsize
      rw [Bool.and_eq_true]
      refine ⟨?_, ?_⟩
      · simp
        omega
      · have : Builtin.Str.tooLong (L + 1) = false := by
          unfold Builtin.Str.tooLong
          simp
          omega
        rw [Int.toNat_natCast, this]
        rfl
    · rw [hf] at hy
      exact q y hy
/-! ### lean_parts -/
def upsOf (n : Int) : Int := PySem.Builtin.bitAnd (n + n / 2) (PySem.Builtin.bitXor (n + n / 2) (n / 2))
def downsOf (n : Int) : Int := PySem.Builtin.bitAnd (n / 2) (PySem.Builtin.bitXor (n + n / 2) (n / 2))
theorem ups_pos (n : Int) : 0 ≤ upsOf n ∧ 0 ≤ downsOf n := by
  obtain ⟨x0, _⟩ := lean_facts (n := n) (N := n.natAbs) Nat.lt_two_pow_self
  exact ⟨(and_bounds x0).1, (and_bounds x0).1⟩
def sp_lean_parts : Sp := fun vs H Q _ => ∃ n : Int, vs = [.int n] ∧ ∀ H' p, Same H H' → H p = none → H' p = some (.tup [.int (upsOf n), .int (downsOf n)]) → Q (.ref p) H'
theorem ok_lean_parts (T : Txt K mg) : FnOk P w K mg base CX0 1 T.a_lean_parts T.d_lean_parts p_lean_parts sp_lean_parts := by
  refine T.F_lean_parts.ok sc_lean_parts (fun vs H Q E h => ?_) (fun cdv A outer s H vs Q E hr h => ?_)
  · obtain ⟨_, rfl, _⟩ := h
    rfl
  · obtain ⟨n, rfl, q⟩ := h
    refine ⟨_, pss_cons (ps_set (i := 1) sc_lean_parts.nd rfl (.inl rfl) (pe_op op_shr (pv 0) pe_int))
      (pss_cons (ps_set (i := 2) sc_lean_parts.nd rfl (.inl rfl) (pe_op op_add (pv 0) (pv 1)))
      (pss_cons (ps_set (i := 3) sc_lean_parts.nd rfl (.inl rfl) (pe_op op_xor (pv 2) (pv 1)))
      (pss_one (ps_ret (pe_tup (pa_cons (pe_op op_and (pv 2) (pv 3)) (pa_cons (pe_op op_and (pv 1) (pv 3)) pa_nil))))))), ?_⟩
    refine ⟨.int n, rfl, _, _, rfl, rfl, (by show (0 : Int) ≤ 1; decide), ?_⟩
    refine ⟨.int n, rfl, .int (n / 2), rfl, _, _, rfl, rfl, ?_⟩
    refine ⟨.int (n + n / 2), rfl, .int (n / 2), rfl, _, _, rfl, rfl, ?_⟩
    refine ⟨.int (n + n / 2), rfl, .int (PySem.Builtin.bitXor (n + n / 2) (n / 2)), rfl, _, _, rfl, rfl, .int (n / 2), rfl, .int (PySem.Builtin.bitXor (n + n / 2) (n / 2)), rfl, _, _, rfl, rfl, (by show 2 ≤ sizeLine; decide), fun p np => ?_⟩
    exact q _ p (same_upd np) np upd_same
/-! ### lean -/
theorem int_bit {c : Nat} (h : c = 48 ∨ c = 49) : PySem.intText? (sign1 c) = some ((c : Int) - 48) := by
  rcases h with e | e <;> subst e <;> decide +kernel
def sp_lean (K : PySem.W.Frag) : Sp := fun vs H Q _ => ∃ (n : Int) (N : Nat), vs = [.int n] ∧ n.natAbs < 2 ^ N ∧ N ≤ 3000000 ∧
  ∀ H' p r, Same H H' → H p = none → Row r → gaps r = true → val r = n → r.length ≤ N + 1 → H' p = some (.lst (r.map V.int)) → Q (.ref p) H'
theorem ok_lean (T : Txt K mg) : FnOk P w K mg base CX0 3 T.a_lean T.d_lean p_lean (sp_lean K) := by
  refine T.F_lean.ok sc_lean (fun vs H Q E h => ?_) (fun cdv A outer s H vs Q E hr h => ?_)
  · obtain ⟨_, _, rfl, _⟩ := h
    rfl
  · obtain ⟨n, N, rfl, hn, hN, q⟩ := h
    refine ⟨_, pss_cons (ps_expr (pe_call (ok_refuse_no_number T) hr (by rfl) T.g_refuse_no_number T.F_refuse_no_number.kp T.b_refuse_no_number .nil pass0 (pa_cons (pv 0) pa_nil)))
      (pss_cons (ps_if (pt_cmpR op_eq (pv 0) pe_int (nomark _)) (pss_one (ps_ret (pe_lst pa_nil))) pss_nil)
      (pss_cons (ps_asg (pe_call (ok_lean_parts T) (hr.mono (by decide)) (by rfl) T.g_lean_parts T.F_lean_parts.kp T.b_lean_parts .nil pass0 (pa_cons (pv 0) pa_nil)) (pg_tup rfl (pgs_cons (pg_name (i := 1) sc_lean.nd rfl (.inl rfl)) (pgs_cons (pg_name (i := 2) sc_lean.nd rfl (.inl rfl)) pgs_nil))))
      (pss_cons (ps_set (i := 3) sc_lean.nd rfl (.inl rfl) (pe_bits (pe_callB (call_max2 rfl) (by rfl) T.z_max (by decide +kernel) (pa_cons (pv 1) (pa_cons (pv 2) pa_nil)))))
      (pss_one (ps_ret (pe_lc (own := [("up", 4), ("down", 5)]) (g := gTup K 2 (gCons (gName 4) (gCons (gName 5) gNil))) (tt := tYes) (by rfl) sc_lean.nd (pi_zipS (by rfl) T.z_zip (pa_cons (pe_call (ok_places T) (hr.mono (by decide)) (by rfl) T.g_places T.F_places.kp T.b_places .nil pass0 (pa_cons (pv 1) (pa_cons (pv 3) pa_nil))) (pa_cons (pe_call (ok_places T) (hr.mono (by decide)) (by rfl) T.g_places T.F_places.kp T.b_places .nil pass0 (pa_cons (pv 2) (pa_cons (pv 3) pa_nil))) pa_nil)))
          (blkOk_by (N := ["number", "ups", "downs", "many", "up", "down"]) (own := [("up", 4), ("down", 5)]) (sc := defScope t_lean) (by decide +kernel))
          (fun _ _ _ _ _ => by exact pg_tup rfl (pgs_cons (pg_name (i := 4) sc_lean.nd rfl (Or.inl rfl)) (pgs_cons (pg_name (i := 5) sc_lean.nd rfl (Or.inl rfl)) pgs_nil)))
          (fun _ _ _ _ _ => pts_nil)
          (fun _ _ _ _ _ => pe_op op_sub (pe_callTy call_int_str (by rfl) T.z_int (by decide +kernel) (pa_cons (pv 4) pa_nil)) (pe_callTy call_int_str (by rfl) T.z_int (by decide +kernel) (pa_cons (pv 5) pa_nil))))))))), ?_⟩
    refine ⟨.int n, rfl, n, rfl, ?_⟩
    refine ⟨.int n, rfl, rfl, _, rfl, ?_⟩
    by_cases h0 : n = 0
    · subst h0
      rw [decide_eq_true rfl]
      refine iteT ⟨Nat.zero_le _, fun p np => ?_⟩
      exact q _ p [] (same_upd np) np ⟨(fun _ hm => nomatch hm), fun z => nomatch z⟩ rfl rfl (Nat.zero_le _) upd_same
    · rw [decide_eq_false (show ¬ V.int n = V.int 0 from fun z => h0 (V.int.inj z))]
      refine iteF ?_
      obtain ⟨L, hb, hL, ha, hd, rr, rg, rv⟩ := XParts.parts_row h0 hn
      obtain ⟨x0, _⟩ := lean_facts hn
      have ed : List.zipWith (fun a b : Nat => (a : Int) - (b : Int)) (bitsLE (L + 1) (upsOf n).toNat) (bitsLE (L + 1) (downsOf n).toNat) = dig (L + 1) (n + n / 2) (n / 2) := bits_dig (L + 1) (n + n / 2) (n / 2) x0
      obtain ⟨a0, b0⟩ := ups_pos n
      refine ⟨.int n, rfl, n, rfl, fun H0 p0 s0 np0 e0 => ?_⟩
      refine ⟨p0, _, rfl, SqT.of e0, rfl, _, _, rfl, _, _, rfl, rfl, ?_⟩
      refine ⟨.int (upsOf n), rfl, .int (downsOf n), rfl, upsOf n, downsOf n, rfl, _, rfl, ?_⟩
      have hb' : Builtin.Int.intBits (if downsOf n > upsOf n then downsOf n else upsOf n) = L + 1 := hb
      rw [hb']
      refine ⟨.int (upsOf n), rfl, .int ((L + 1 : Nat) : Int), rfl, (upsOf n).toNat, L, ?_, ha, by omega, fun y1 e1 => ?_⟩
      · rw [Int.toNat_of_nonneg a0]
        rfl
      refine ⟨.int (downsOf n), rfl, .int ((L + 1 : Nat) : Int), rfl, (downsOf n).toNat, L, ?_, hd, by omega, fun y2 e2 => ?_⟩
      · rw [Int.toNat_of_nonneg b0]
        rfl
      refine ⟨y1, y2, rfl, fun D nD => ?_⟩
      have z1 : y1.cps.size = L + 1 := by
        have := congrArg List.length e1
        rw [Array.length_toList, bitsLE_len] at this
        exact this
      have z2 : y2.cps.size = L + 1 := by
        have := congrArg List.length e2
        rw [Array.length_toList, bitsLE_len] at this
        exact this
      have ld := dig_len (L + 1) (n + n / 2) (n / 2)
      generalize dig (L + 1) (n + n / 2) (n / 2) = R at ed rr rg rv ld
      have nD' : H D = none := XParts.none_back s0 nD
      refine ⟨fun i m H3 => i + m = L + 1 ∧ Same H H3 ∧ H3 D = some (.lst ((R.take i).map V.int)), ⟨L + 1, by omega, s0.trans (same_upd nD), upd_same⟩, fun i m H3 hW => ?_⟩
      obtain ⟨em, s3, eD⟩ := hW
      by_cases hi : i < L + 1
      · refine .inr ⟨⟨by rw [z1]; exact hi, by rw [z2]; exact hi⟩, fun H' => Same H H' ∧ H' D = some (.lst ((R.take (i + 1)).map V.int)), fun H' e => ⟨m - 1, by omega, by omega, e⟩, fun x H' hy => ?_⟩
        obtain ⟨t, c, d, rfl, nt, rfl, ec, ee⟩ := hy
        rw [← Array.getElem?_toList, e1] at ec
        rw [← Array.getElem?_toList, e2] at ee
        obtain ⟨c', hc1, hc2⟩ := bitsLE_get (L + 1) (upsOf n).toNat i hi
        obtain ⟨d', hd1, hd2⟩ := bitsLE_get (L + 1) (downsOf n).toNat i hi
        have cc : c = c' := Option.some.inj (ec.symm.trans hc1)
        have dd : d = d' := Option.some.inj (ee.symm.trans hd1)
        subst cc
        subst dd
        have gR : R[i]? = some ((c : Int) - (d : Int)) := by
          rw [← ed, List.getElem?_zipWith, ec, ee]
        have sT : Same H3 (upd H3 t (.tup [.str (sign1 c), .str (sign1 d)])) := same_upd nt
        have eT := sT _ _ eD
        refine ⟨t, [.str (sign1 c), .str (sign1 d)], rfl, SqT.of upd_same, rfl, _, _, rfl, _, _, rfl, rfl, rfl, ?_⟩
        refine ⟨.str (sign1 c), rfl, sign1 c, _, rfl, int_bit hc2, (by show 1 ≤ 640; decide), .str (sign1 d), rfl, sign1 d, _, rfl, int_bit hd2, (by show 1 ≤ 640; decide), _, _, rfl, rfl, _, eT, ?_, fun b o e => ?_, ?_⟩
        · rw [List.length_map, List.length_take]
          have : L + 1 < sizeLine := Nat.lt_of_le_of_lt (show L + 1 ≤ 3000001 by omega) (by decide)
          omega
        · have nb : b ≠ D := ne_of_none e nD'
          rw [upd_ne nb]
          exact sT _ _ (s3 _ _ e)
        · rw [upd_same, List.take_add_one, gR, List.map_append]
          have ez : (c : Int) - 48 - ((d : Int) - 48) = (c : Int) - (d : Int) := by omega
          show some (HO.lst (_ ++ [V.int ((c : Int) - 48 - ((d : Int) - 48))])) = _
          rw [ez]
          rfl
      · refine .inl ⟨.inl (by rw [z1]; omega), ?_⟩
        have et : R.take i = R := List.take_of_length_le (by omega)
        rw [et] at eD
        exact q H3 D R s3 nD' rr rg rv (by omega) eD
/-! ### the law's mixed -/
def mixA (c : Int) : Int := (c % 1000000007 + 1) * 48271 % 2147483647
def mixd (c k : Int) : Int := mixA c * (16807 + 7919 * k * k + 31 * k) % 2147483629 / 7
theorem mixA_b (c : Int) : 0 ≤ mixA c ∧ mixA c < 2147483647 := ⟨Int.emod_nonneg _ (by decide), Int.emod_lt_of_pos _ (by decide)⟩
theorem mixd_b (c k : Int) : 0 ≤ mixd c k ∧ mixd c k < 2147483629 := by
  have h1 := Int.emod_nonneg (mixA c * (16807 + 7919 * k * k + 31 * k)) (show (2147483629 : Int) ≠ 0 by decide)
  have h2 := Int.emod_lt_of_pos (mixA c * (16807 + 7919 * k * k + 31 * k)) (show (0 : Int) < 2147483629 by decide)
  unfold mixd
  omega
def sp_Lmixed (K : PySem.W.Frag) : Sp := fun vs H Q _ => ∃ c k : Int, vs = [.int c, .int k] ∧ 0 ≤ k ∧ k ≤ 1000 ∧ Q (.int (mixd c k)) H
theorem ok_Lmixed (T : Txt K mg) : FnOk P w K mg base CX0 1 T.a_Lmixed T.d_Lmixed p_Lmixed (sp_Lmixed K) := by
  refine T.F_Lmixed.ok sc_Lmixed (fun vs H Q E h => ?_) (fun cdv A outer s H vs Q E hr h => ?_)
  · obtain ⟨_, _, rfl, _⟩ := h
    rfl
  · obtain ⟨c, k, rfl, h0, h1, q⟩ := h
    refine ⟨_, pss_cons (ps_set (i := 2) sc_Lmixed.nd rfl (.inl rfl) (pe_op op_mod (pe_op op_mul (pe_op op_add (pe_op op_mod (pv 0) pe_int) pe_int) pe_int) pe_int))
      (pss_one (ps_ret (pe_op op_fdiv (pe_op op_mod (pe_op op_mul (pv 2) (pe_op op_add (pe_op op_add pe_int (pe_op op_mul (pe_op op_mul pe_int (pv 1)) (pv 1))) (pe_op op_mul pe_int (pv 1)))) pe_int) pe_int))), ?_⟩
    have b1 := Int.emod_nonneg c (show (1000000007 : Int) ≠ 0 by decide)
    have b2 := Int.emod_lt_of_pos c (show (0 : Int) < 1000000007 by decide)
    refine ⟨.int c, rfl, _, _, rfl, rfl, (by show (0 : Int) < 1000000007; decide), _, _, rfl, rfl, _, _, rfl, rfl, .inr (by show -(2 ^ 64 : Int) < 48271 ∧ (48271 : Int) < 2 ^ 64; decide), _, _, rfl, rfl, (by show (0 : Int) < 2147483647; decide), ?_⟩
    have b3 := mixA_b c
    refine ⟨.int (mixA c), rfl, .int k, rfl, _, _, rfl, rfl, .inl (by show -(2 ^ 64 : Int) < 7919 ∧ (7919 : Int) < 2 ^ 64; decide), .int k, rfl, _, _, rfl, rfl, .inr (by show -(2 ^ 64 : Int) < k ∧ k < 2 ^ 64; omega), _, _, rfl, rfl, .int k, rfl, _, _, rfl, rfl, .inl (by show -(2 ^ 64 : Int) < 31 ∧ (31 : Int) < 2 ^ 64; decide),
      _, _, rfl, rfl, _, _, rfl, rfl, .inl (by show -(2 ^ 64 : Int) < mixA c ∧ mixA c < 2 ^ 64; omega), _, _, rfl, rfl, (by show (0 : Int) < 2147483629; decide), _, _, rfl, rfl, ⟨by decide, by decide⟩, ?_⟩
    exact q
/-! ### negated, added -/
def sp_negated (K : PySem.W.Frag) : Sp := fun vs H Q _ => ∃ a ns N, vs = [.ref a] ∧ RowAt K H a ns ∧ (val ns).natAbs < 2 ^ N ∧ N ≤ 3000000 ∧ LeanTold H (-(val ns)) N Q
theorem ok_negated (T : Txt K mg) : FnOk P w K mg base CX0 6 T.a_negated T.d_negated p_negated (sp_negated K) := by
  refine T.F_negated.ok sc_negated (fun vs H Q E h => ?_) (fun cdv A outer s H vs Q E hr h => ?_)
  · obtain ⟨_, _, _, rfl, _⟩ := h
    rfl
  · obtain ⟨a, ns, N, rfl, hA, hn, hN, q⟩ := h
    refine ⟨_, pss_one (ps_ret (pe_call (ok_lean T) (hr.mono (by decide)) (by rfl) T.g_lean T.F_lean.kp T.b_lean .nil pass0 (pa_cons (pe_un un_neg (pe_call (ok_worth T) hr (by rfl) T.g_worth T.F_worth.kp T.b_worth .nil pass0 (pa_cons (pv 0) pa_nil))) pa_nil))), ?_⟩
    refine ⟨.ref a, rfl, a, ns, rfl, hA, fun H1 s1 => ?_⟩
    exact ⟨val ns, rfl, -(val ns), N, rfl, by rw [Int.natAbs_neg]; exact hn, hN, q.mono s1⟩
def sp_added (K : PySem.W.Frag) : Sp := fun vs H Q _ => ∃ a b ns ms N, vs = [.ref a, .ref b] ∧ RowAt K H a ns ∧ RowAt K H b ms ∧ (val ns + val ms).natAbs < 2 ^ N ∧ N ≤ 3000000 ∧ LeanTold H (val ns + val ms) N Q
theorem ok_added (T : Txt K mg) : FnOk P w K mg base CX0 6 T.a_added T.d_added p_added (sp_added K) := by
  refine T.F_added.ok sc_added (fun vs H Q E h => ?_) (fun cdv A outer s H vs Q E hr h => ?_)
  · obtain ⟨_, _, _, _, _, rfl, _⟩ := h
    rfl
  · obtain ⟨a, b, ns, ms, N, rfl, hA, hB, hn, hN, q⟩ := h
    refine ⟨_, pss_one (ps_ret (pe_call (ok_lean T) (hr.mono (by decide)) (by rfl) T.g_lean T.F_lean.kp T.b_lean .nil pass0 (pa_cons (pe_op op_add (pe_call (ok_worth T) hr (by rfl) T.g_worth T.F_worth.kp T.b_worth .nil pass0 (pa_cons (pv 0) pa_nil)) (pe_call (ok_worth T) hr (by rfl) T.g_worth T.F_worth.kp T.b_worth .nil pass0 (pa_cons (pv 1) pa_nil))) pa_nil))), ?_⟩
    refine ⟨.ref a, rfl, a, ns, rfl, hA, fun H1 s1 => ?_⟩
    refine ⟨.ref b, rfl, b, ms, rfl, hB.mono s1, fun H2 s2 => ?_⟩
    exact ⟨_, _, rfl, rfl, val ns + val ms, N, rfl, hn, hN, q.mono (s1.trans s2)⟩
/-! ### shown, of rows -/
def sp_shown (K : PySem.W.Frag) : Sp := fun vs H Q _ => ∃ a ns, vs = [.ref a] ∧ RowAt K H a ns ∧ ns.length ≤ 100000 ∧ ∀ H' y, Same H H' → y.cps.toList = showL ns → Q (.str y) H'
theorem ok_shown (T : Txt K mg) : FnOk P w K mg base CX0 5 T.a_shown T.d_shown p_shown (sp_shown K) := by
  obtain ⟨te, gE⟩ := T.gl_EMPTY
  refine T.F_shown.ok sc_shown (fun vs H Q E h => ?_) (fun cdv A outer s H vs Q E hr h => ?_)
  · obtain ⟨_, _, rfl, _⟩ := h
    rfl
  · obtain ⟨a, ns, rfl, hS, hl, q⟩ := h
    refine ⟨_, pss_cons (ps_expr (pe_call (ok_refuse_no_row T) hr (by rfl) T.g_refuse_no_row T.F_refuse_no_row.kp T.b_refuse_no_row .nil pass0 (pa_cons (pv 0) pa_nil)))
      (pss_cons (ps_if (pt_cmpR op_eq (pe_callB call_len_seq (by rfl) T.z_len PySem.boot_len (pa_cons (pv 0) pa_nil)) pe_int (nomark _)) (pss_one (ps_ret (pe_glob (v := .str "0") (by rfl) gE ⟨_, rfl⟩))) pss_nil)
      (pss_one (ps_ret (pe_join pe_str (pe_lc (own := [("figure", 1)]) (g := gName 1) (tt := tYes) (by rfl) sc_shown.nd (pi_reversed (by rfl) T.z_reversed (pa_cons (pv 0) pa_nil)) (blkOk_by (N := ["row", "figure"]) (own := [("figure", 1)]) (sc := defScope t_shown) (by decide +kernel))
          (fun _ _ _ _ _ => pg_name (i := 1) sc_shown.nd rfl (Or.inl rfl)) (fun _ _ _ _ _ => pts_nil)
          (fun _ _ _ _ _ => pe_ix (r := XTab.rIxI K) XTab.ix_int (pe_glob (v := .ref T.D_SIGNS) (by rfl) (by exact T.gd_SIGNS) rfl) (pv 1) (fun _ _ => rfl))))))), ?_⟩
    have lim : (16777216 : Nat) = sizeLine := by decide
    refine ⟨.ref a, rfl, a, ns, rfl, hS, fun H1 s1 => ?_⟩
    have hS1 := s1.seq hS.1
    have lm : (ns.map V.int).length = ns.length := List.length_map ..
    refine ⟨.ref a, rfl, a, _, rfl, .inl hS1, rfl, _, rfl, ?_⟩
    by_cases h0 : ns = []
    · subst h0
      exact iteT (q H1 _ s1 rfl)
    · have hne : ¬ (V.int ((ns.map V.int).length : Int) = V.int 0) := fun z => h0 (List.length_eq_zero_iff.mp (by have := V.int.inj z; omega))
      rw [decide_eq_false hne]
      refine iteF ⟨⟨_, rfl⟩, .ref a, rfl, a, ns.map V.int, rfl, hS1, fun D nD => ?_⟩
      have sD : ∀ ys, Same H1 (upd H1 D (.lst ys)) := fun ys => same_upd nD
      refine ⟨fun i m Hx => i + m = ns.length ∧ Hx = upd H1 D (.lst (((ns.reverse.take i).map fun n => .str (sign1 (sgn n))))), ⟨ns.length, by omega, rfl⟩, fun i m Hx hW => ?_⟩
      obtain ⟨em, rfl⟩ := hW
      by_cases hi : i < ns.length
      · have hj : ns.length - 1 - i < ns.length := by omega
        have g : (ns.map V.int)[(ns.map V.int).length - 1 - i]? = some (.int ns[ns.length - 1 - i]) := by
          rw [lm, List.getElem?_map, List.getElem?_eq_getElem hj]
          rfl
        have gr : ns.reverse[i]? = some ns[ns.length - 1 - i] := by
          rw [List.getElem?_reverse hi, List.getElem?_eq_getElem hj]
        have hn := hS.2.1.1 _ (List.getElem_mem hj)
        refine .inr ⟨⟨by rw [lm]; exact hi, _, _, (sD _).seq hS1, g⟩, fun H' => H' = upd H1 D (.lst (((ns.reverse.take (i + 1)).map fun n => .str (sign1 (sgn n))))), fun H' e => ⟨m - 1, by omega, by omega, e⟩, fun x H' hy => ?_⟩
        obtain ⟨rfl, fx⟩ := hy
        have ex := Option.some.inj ((fx _ ((sD _).seq hS1)).symm.trans g)
        subst ex
        generalize ns[ns.length - 1 - i] = n at gr hn
        have fin : ∀ z : V, z = .str (sign1 (sgn n)) → ∃ acc, (upd H1 D (.lst (((ns.reverse.take i).map fun n => .str (sign1 (sgn n)))))) D = some (.lst acc) ∧ acc.length < sizeLine ∧
            upd (upd H1 D (.lst (((ns.reverse.take i).map fun n => .str (sign1 (sgn n)))))) D (.lst (acc ++ [z])) = upd H1 D (.lst (((ns.reverse.take (i + 1)).map fun n => .str (sign1 (sgn n))))) := fun z ez => by
          subst ez
          refine ⟨_, upd_same, ?_, ?_⟩
          · rw [List.length_map, List.length_take]
            omega
          · rw [upd_upd, List.take_add_one, gr, List.map_append]
            rfl
        have look : ∃ z : Str, ([(1, "+"), (0, "0"), (-1, "-")] : List (Int × Str)).lookup n = some z ∧ z = sign1 (sgn n) := by
          have c : n = -1 ∨ n = 0 ∨ n = 1 := by omega
          rcases c with e | e | e <;> subst e
          · exact ⟨"-", rfl, rfl⟩
          · exact ⟨"0", rfl, rfl⟩
          · exact ⟨"+", rfl, rfl⟩
        obtain ⟨z, hz, ez⟩ := look
        refine ⟨rfl, .int n, rfl, T.D_SIGNS, n, T.es_SIGNS, T.n_SIGNS, _, z, rfl, rfl, T.at_SIGNS, T.ki_SIGNS, T.ti_SIGNS, hz, fin _ (by rw [ez])⟩
      · refine .inl ⟨(show (ns.map V.int).length ≤ i by rw [lm]; omega), ?_⟩
        have et : ns.reverse.take i = ns.reverse := List.take_of_length_le (by rw [List.length_reverse]; omega)
        rw [et]
        have hD : SqL K (upd H1 D (.lst (ns.reverse.map fun n => V.str (sign1 (sgn n))))) D (((ns.reverse.map sgn).map sign1).map V.str) := by
          rw [List.map_map, List.map_map]
          exact SqL.of upd_same
        have e1 := joined_signs Str.empty rfl (ns.reverse.map sgn)
        refine ⟨Str.empty, D, (ns.reverse.map sgn).map sign1, rfl, rfl, .inl hD, ?_, q _ _ (s1.trans (sD _)) ?_⟩
        · have e2 : (((ns.reverse.map sgn).map sign1).map (·.length)) = List.replicate ns.length 1 := by
            rw [List.map_map, List.map_map]
            refine List.eq_replicate_iff.mpr ⟨by rw [List.length_map, List.length_reverse], fun b hb => ?_⟩
            obtain ⟨n, _, rfl⟩ := List.mem_map.mp hb
            rfl
          rw [e2, List.sum_replicate_nat]
          show ns.length * 1 + _ * 0 ≤ 16777216
          omega
        · rw [e1]
          unfold showL
          rw [if_neg h0]
/-! ### shows_row -/
theorem kd_figures (T : Txt K mg) (hw : T.pw = w.params) : KDict K w T.D_FIGURES T.es_FIGURES T.n_FIGURES := ⟨T.at_FIGURES, by rw [← hw]; exact T.kl_FIGURES, T.lo_FIGURES⟩
theorem ns_figures (T : Txt K mg) (c : Nat) : ∃ r, PySem.W.nsIn K T.D_FIGURES ⟨#[c]⟩ = some r ∧ r.isSome = okC c := by
  by_cases h : ∃ v, ([("+", 1), ("0", 0), ("-", -1)] : List (Str × Int)).lookup ⟨#[c]⟩ = some v
  · obtain ⟨v, hv⟩ := h
    obtain ⟨u, hu⟩ := XTab.ns_some T.at_FIGURES T.ti_FIGURES hv
    refine ⟨_, hu, ?_⟩
    have : c = 43 ∨ c = 48 ∨ c = 45 := by
      have e : ([("+", 1), ("0", 0), ("-", -1)] : List (Str × Int)) = [(⟨#[43]⟩, 1), (⟨#[48]⟩, 0), (⟨#[45]⟩, -1)] := rfl
      rw [e] at hv
      simp only [List.lookup_cons] at hv
      have b : ∀ d : Nat, c ≠ d → ((⟨#[c]⟩ : Str) == ⟨#[d]⟩) = false := fun d h => beq_eq_false_iff_ne.mpr fun e => h (by
        have := congrArg (fun x : Str => x.cps.toList) e
        simpa using this)
      by_cases c1 : c = 43
      · exact .inl c1
      · by_cases c2 : c = 48
        · exact .inr (.inl c2)
        · by_cases c3 : c = 45
          · exact .inr (.inr c3)
          · rw [b 43 c1, b 48 c2, b 45 c3] at hv
            cases hv
    rcases this with e | e | e <;> subst e <;> rfl
  · have hn : ([("+", 1), ("0", 0), ("-", -1)] : List (Str × Int)).lookup ⟨#[c]⟩ = none := by
      cases e : ([("+", 1), ("0", 0), ("-", -1)] : List (Str × Int)).lookup ⟨#[c]⟩ with
      | none => rfl
      | some v => exact absurd ⟨v, e⟩ h
    refine ⟨none, XTab.ns_none T.at_FIGURES T.ti_FIGURES hn, ?_⟩
    have c1 : c ≠ 43 := fun e => by subst e; exact h ⟨1, rfl⟩
    have c2 : c ≠ 48 := fun e => by subst e; exact h ⟨0, rfl⟩
    have c3 : c ≠ 45 := fun e => by subst e; exact h ⟨-1, rfl⟩
    simp [okC, c1, c2, c3]
theorem str_ne {z : Str} {l : List Nat} (h : z.cps.toList ≠ l) : ¬ (V.str z = V.str ⟨l.toArray⟩) := fun e => h (by
  have := V.str.inj e
  rw [this])
def sp_shows (K : PySem.W.Frag) : Sp := fun vs H Q _ => ∃ x, vs = [x] ∧ ThingT K H x ∧ ∀ H', Same H H' → Q (.bl (showsB x)) H'
theorem ok_shows (T : Txt K mg) (hw : T.pw = w.params) : FnOk P w K mg base CX0 1 T.a_shows_row T.d_shows_row p_shows_row (sp_shows K) := by
  obtain ⟨te, gE⟩ := T.gl_EMPTY
  refine T.F_shows_row.ok sc_shows_row (fun vs H Q E h => ?_) (fun cdv A outer s H vs Q E hr h => ?_)
  · obtain ⟨_, rfl, _⟩ := h
    rfl
  · obtain ⟨x, rfl, th, q⟩ := h
    refine ⟨_, pss_cons (ps_if (pt_not (pt_val (pe_callB call_isi (by rfl) T.z_isinstance (by decide +kernel) (pa_cons (pv 0) (pa_cons (pe_bltn (v := .ty "str") (by rfl) T.z_str (by decide +kernel) rfl) pa_nil))))) (pss_one (ps_ret pe_bl)) pss_nil)
      (pss_cons (ps_if (pt_cmpR op_eq (pv 0) (pe_glob (v := .str "0") (by rfl) gE ⟨_, rfl⟩) (nomark _)) (pss_one (ps_ret pe_bl)) pss_nil)
      (pss_cons (ps_if (PW.pt (pw_or (pt_cmpR op_eq (pv 0) pe_str (nomark _)) (pw_or1 (pt_val (pe_m1 PySem.F.slot_str_startswith PySem.F.type_str_startswith mt_startswith (pv 0) pe_str))))) (pss_one (ps_ret pe_bl)) pss_nil)
      (pss_one (ps_ret (pe_callB (cr_all rfl) (by rfl) T.z_all (by decide +kernel) (pa_cons (pe_lc (own := [("sign", 1)]) (g := gName 1) (tt := tYes) (by rfl) sc_shows_row.nd (pi_str (pv 0)) (blkOk_by (N := ["thing", "sign"]) (own := [("sign", 1)]) (sc := defScope t_shows_row) (by decide +kernel))
          (fun _ _ _ _ _ => pg_name (i := 1) sc_shows_row.nd rfl (Or.inl rfl)) (fun _ _ _ _ _ => pts_nil)
          (fun _ _ _ _ _ => pe_cmpR (r := fun x y H Q => ∃ (z : Str) (r : Option Value), x = .str z ∧ y = .ref T.D_FIGURES ∧ PySem.W.nsIn K T.D_FIGURES z = some r ∧ Q (.bl r.isSome) H) (by exact op_in_kd (kd_figures T hw)) (pv 1) (pe_glob (v := .ref T.D_FIGURES) (by rfl) (by exact T.gd_FIGURES) rfl) (by rfl))) pa_nil)))))), ?_⟩
    rcases th with ⟨z, rfl, hl⟩ | ⟨no, t, ty, k⟩
    · obtain ⟨t, ty, k⟩ := str_ty (K := K) (H := H) z
      have lim : (200000 : Nat) ≤ sizeLine := by decide
      have sz : z.cps.toList.length = z.length := Array.length_toList
      refine ⟨.str z, rfl, .str z, _, t, _, true, rfl, .ty _, ty, k, true, rfl, ?_⟩
      refine iteF ⟨.str z, rfl, rfl, _, rfl, ?_⟩
      by_cases h0 : z.cps.toList = [48]
      · have ez : z = "0" := TL.ext_tl h0
        rw [decide_eq_true (show V.str z = V.str (Str.ofString "0") by rw [ez])]
        have := q H (Same.refl _)
        have es : showsB (.str z) = true := by
          show showsL z.cps.toList = true
          rw [h0]
          rfl
        rw [es] at this
        exact iteT this
      · rw [decide_eq_false (show ¬ (V.str z = V.str (Str.ofString "0")) from str_ne h0)]
        refine iteF ⟨.str z, rfl, rfl, _, rfl, ?_⟩
        by_cases h1 : z.cps.toList = []
        · have ez : z = "" := TL.ext_tl h1
          rw [decide_eq_true (show V.str z = V.str (Str.ofString "") by rw [ez])]
          have := q H (Same.refl _)
          have es : showsB (.str z) = false := by
            show showsL z.cps.toList = false
            rw [h1]
            rfl
          rw [es] at this
          exact iteT (iteT this)
        · rw [decide_eq_false (show ¬ (V.str z = V.str (Str.ofString "")) from str_ne h1)]
          refine iteF ⟨.str z, rfl, ⟨z, rfl⟩, z, _, rfl, rfl, _, rfl, ?_⟩
          have e2 : Txt.startswith z (Str.ofString "0") = decide (z.cps.toList.head? = some 48) := starts_one z 48
          rw [e2]
          by_cases h2 : z.cps.toList.head? = some 48
          · rw [decide_eq_true h2]
            have := q H (Same.refl _)
            have es : showsB (.str z) = false := by
              show showsL z.cps.toList = false
              unfold showsL
              rw [decide_eq_false h0, decide_eq_true h2]
              simp
            rw [es] at this
            exact iteT this
          · rw [decide_eq_false h2]
            refine iteF ⟨.str z, rfl, z, rfl, fun D nD => ?_⟩
            refine lc_str (fun i Hx => Same H Hx ∧ Hx D = some (.lst (((z.cps.toList.take i).map okC).map V.bl))) ⟨same_upd nD, upd_same⟩ (fun i c Hx hc e => ?_) (fun Hx e => ?_)
            · obtain ⟨s1, eD⟩ := e
              obtain ⟨r, hr1, hr2⟩ := ns_figures T c
              refine ⟨rfl, .str ⟨#[c]⟩, rfl, ⟨#[c]⟩, r, rfl, rfl, hr1, _, eD, ?_, fun b u e => ?_, ?_⟩
              · rw [List.length_map, List.length_map, List.length_take]
                omega
              · rw [upd_ne (ne_of_none e nD)]
                exact s1 _ _ e
              · rw [upd_same, List.take_add_one, hc, List.map_append, List.map_append, hr2]
                rfl
            · obtain ⟨s1, eD⟩ := e
              rw [List.take_length] at eD
              refine ⟨D, _, rfl, SqL.of eD, ?_⟩
              have ea : ((z.cps.toList.map okC).all id) = showsB (.str z) := by
                show _ = showsL z.cps.toList
                unfold showsL
                rw [List.all_map, decide_eq_false h0, decide_eq_false h2]
                have he : z.cps.toList.isEmpty = false := by
                  cases hq : z.cps.toList with
                  | nil => exact absurd hq h1
                  | cons _ _ => rfl
                rw [he]
                simp
              rw [ea]
              exact q _ s1
    · refine ⟨x, rfl, x, _, t, _, false, rfl, .ty _, ty, k, false, rfl, ?_⟩
      have := q H (Same.refl _)
      cases x with
      | str z => exact absurd rfl (no z)
      | _ => exact iteT this
/-! ### read -/
def sp_read_x (K : PySem.W.Frag) (C : Addr) : Sp := fun vs H Q E => ∃ x, vs = [x] ∧ ThingT K H x ∧ (showsB x = false → ∀ H', Same H H' → E (.ref C) none H') ∧
  ∀ z, x = .str z → showsL z.cps.toList = true → ∀ H' p, Same H H' → H p = none → H' p = some (.lst ((figsL z.cps.toList).map V.int)) → Q (.ref p) H'
theorem fig_look (T : Txt K mg) (hw : T.pw = w.params) {c : Nat} (h : okC c = true) : KDct K w T.D_FIGURES ⟨#[c]⟩ (.int (fig c)) := by
  have hv : ([("+", 1), ("0", 0), ("-", -1)] : List (Str × Int)).lookup ⟨#[c]⟩ = some (fig c) := by
    have := of_decide_eq_true h
    simp at this
    rcases this with e | e | e <;> subst e <;> rfl
  obtain ⟨u, hu⟩ := XTab.ns_some T.at_FIGURES T.ti_FIGURES hv
  exact ⟨T.es_FIGURES, T.n_FIGURES, _, T.at_FIGURES, by rw [← hw]; exact T.kl_FIGURES, hu, ⟨_, rfl⟩⟩
theorem ok_read_x (T : Txt K mg) (hw : T.pw = w.params) : FnOk P w K mg base (L2.CX P w) 2 T.a_read T.d_read p_read (sp_read_x K T.c_NoText) := by
  obtain ⟨te, gE⟩ := T.gl_EMPTY
  refine T.F_read.okX sc_read (fun vs H Q E h => ?_) (fun cdv A outer s H vs Q E hr h => ?_)
  · obtain ⟨_, rfl, _⟩ := h
    rfl
  · obtain ⟨x, rfl, th, e, q⟩ := h
    refine ⟨_, pss_cons (ps_if (pt_not (pt_val (pe_call (ok_shows T hw) hr (by rfl) T.g_shows_row T.F_shows_row.kp T.b_shows_row .nil pass0 (pa_cons (pv 0) pa_nil))))
        (pss_one (ps_raise rfl (takes_of rfl rfl rfl rfl) (pmk_own PySem.F.excBase_ValueError T.x_NoText T.gc_NoText T.kp_NoText (raises_own T.bs_NoText T.ty_NoText) (by rfl)))) pss_nil)
      (pss_cons (ps_if (pt_cmpR op_eq (pv 0) (pe_glob (v := .str "0") (by rfl) gE ⟨_, rfl⟩) (nomark _)) (pss_one (ps_ret (pe_lst pa_nil))) pss_nil)
      (pss_one (ps_ret (pe_lc (own := [("sign", 1)]) (g := gName 1) (tt := tYes) (by rfl) sc_read.nd (XRevS.pi_revS (by rfl) T.z_reversed (pv 0)) (blkOk_by (N := ["text", "sign"]) (own := [("sign", 1)]) (sc := defScope t_read) (by decide +kernel))
          (fun _ _ _ _ _ => pg_name (i := 1) sc_read.nd rfl (Or.inl rfl)) (fun _ _ _ _ _ => pts_nil)
          (fun _ _ _ _ _ => pe_ix (r := rIxD K w) ix_kdict (pe_glob (v := .ref T.D_FIGURES) (by rfl) (by exact T.gd_FIGURES) rfl) (pv 1) (fun _ _ => rfl)))))), ?_⟩
    refine ⟨x, rfl, x, rfl, th, fun H1 s1 => ⟨_, rfl, ?_⟩⟩
    cases hb : showsB x with
    | false => exact iteT (e hb H1 s1)
    | true =>
      refine iteF ?_
      rcases th with ⟨z, rfl, hl⟩ | ⟨no, _⟩
      · have hz : showsL z.cps.toList = true := hb
        have lim : (200000 : Nat) ≤ sizeLine := by decide
        have sz : z.cps.toList.length = z.length := Array.length_toList
        refine ⟨.str z, rfl, rfl, _, rfl, ?_⟩
        by_cases h0 : z.cps.toList = [48]
        · have ez : z = "0" := TL.ext_tl h0
          rw [decide_eq_true (show V.str z = V.str (Str.ofString "0") by rw [ez])]
          refine iteT ⟨Nat.zero_le _, fun p np => ?_⟩
          refine q z rfl hz _ p (s1.trans (same_upd np)) (none_same s1 np) ?_
          rw [upd_same, h0]
          rfl
        · rw [decide_eq_false (show ¬ (V.str z = V.str (Str.ofString "0")) from str_ne h0)]
          rcases shows_cases hz with h | ⟨h1, h2, h3, h4⟩
          · exact absurd h h0
          · refine iteF ⟨.str z, rfl, z, rfl, by omega, fun D nD => ?_⟩
            refine lc_revS (fun i Hx => Same H1 Hx ∧ Hx D = some (.lst (((z.cps.toList.reverse.take i).map fig).map V.int))) ⟨same_upd nD, upd_same⟩ (fun i c Hx hc e => ?_) (fun Hx e => ?_)
            · obtain ⟨s2, eD⟩ := e
              have ok := h4 c (List.mem_reverse.mp (List.mem_of_getElem? hc))
              refine ⟨rfl, .str ⟨#[c]⟩, rfl, T.D_FIGURES, ⟨#[c]⟩, .int (fig c), rfl, rfl, fig_look T hw ok, _, eD, ?_, fun b u e => ?_, ?_⟩
              · rw [List.length_map, List.length_map, List.length_take, List.length_reverse]
                omega
              · rw [upd_ne (ne_of_none e nD)]
                exact s2 _ _ e
              · rw [upd_same, List.take_add_one, hc, List.map_append, List.map_append]
                rfl
            · obtain ⟨s2, eD⟩ := e
              rw [List.take_of_length_le (by rw [List.length_reverse]; exact Nat.le_refl _)] at eD
              refine q z rfl hz _ D (s1.trans s2) (none_same s1 nD) ?_
              rw [eD]
              unfold figsL
              rw [if_neg h0]
      · cases x with
        | str z => exact absurd rfl (no z)
        | _ => cases hb
/-! ### read, of what shows a row -/
def sp_read_good (K : PySem.W.Frag) : Sp := fun vs H Q _ => ∃ z : Str, vs = [.str z] ∧ z.length ≤ 100000 ∧ showsL z.cps.toList = true ∧ ∀ H' p, Same H H' → H p = none → H' p = some (.lst ((figsL z.cps.toList).map V.int)) → Q (.ref p) H'
theorem ok_read_good (T : Txt K mg) (hw : T.pw = w.params) : FnOk P w K mg base CX0 2 T.a_read T.d_read p_read (sp_read_good K) := by
  obtain ⟨te, gE⟩ := T.gl_EMPTY
  refine T.F_read.ok sc_read (fun vs H Q E h => ?_) (fun cdv A outer s H vs Q E hr h => ?_)
  · obtain ⟨_, rfl, _⟩ := h
    rfl
  · obtain ⟨z0, rfl, hl0, hz0, q0⟩ := h
    obtain ⟨x, ex⟩ : ∃ x : V, x = .str z0 := ⟨_, rfl⟩
    rw [← ex]
    have th : ThingT K H x := .inl ⟨z0, ex, hl0⟩
    have hx : showsB x = true := by rw [ex]; exact hz0
    have e : showsB x = false → False := fun h => by rw [hx] at h; cases h
    have q : ∀ z, x = .str z → showsL z.cps.toList = true → ∀ H' p, Same H H' → H p = none → H' p = some (.lst ((figsL z.cps.toList).map V.int)) → Q (.ref p) H' := fun z ez _ => by
      have : z = z0 := V.str.inj (ez.symm.trans ex)
      subst this
      exact q0
    refine ⟨_, pss_cons (ps_if (pt_not (pt_val (pe_call (ok_shows T hw) hr (by rfl) T.g_shows_row T.F_shows_row.kp T.b_shows_row .nil pass0 (pa_cons (pv 0) pa_nil))))
        (pss_one ps_never) pss_nil)
      (pss_cons (ps_if (pt_cmpR op_eq (pv 0) (pe_glob (v := .str "0") (by rfl) gE ⟨_, rfl⟩) (nomark _)) (pss_one (ps_ret (pe_lst pa_nil))) pss_nil)
      (pss_one (ps_ret (pe_lc (own := [("sign", 1)]) (g := gName 1) (tt := tYes) (by rfl) sc_read.nd (XRevS.pi_revS (by rfl) T.z_reversed (pv 0)) (blkOk_by (N := ["text", "sign"]) (own := [("sign", 1)]) (sc := defScope t_read) (by decide +kernel))
          (fun _ _ _ _ _ => pg_name (i := 1) sc_read.nd rfl (Or.inl rfl)) (fun _ _ _ _ _ => pts_nil)
          (fun _ _ _ _ _ => pe_ix (r := rIxD K w) ix_kdict (pe_glob (v := .ref T.D_FIGURES) (by rfl) (by exact T.gd_FIGURES) rfl) (pv 1) (fun _ _ => rfl)))))), ?_⟩
    refine ⟨x, rfl, x, rfl, th, fun H1 s1 => ⟨_, rfl, ?_⟩⟩
    cases hb : showsB x with
    | false => exact (e hb).elim
    | true =>
      refine iteF ?_
      rcases th with ⟨z, rfl, hl⟩ | ⟨no, _⟩
      · have hz : showsL z.cps.toList = true := hb
        have lim : (200000 : Nat) ≤ sizeLine := by decide
        have sz : z.cps.toList.length = z.length := Array.length_toList
        refine ⟨.str z, rfl, rfl, _, rfl, ?_⟩
        by_cases h0 : z.cps.toList = [48]
        · have ez : z = "0" := TL.ext_tl h0
          rw [decide_eq_true (show V.str z = V.str (Str.ofString "0") by rw [ez])]
          refine iteT ⟨Nat.zero_le _, fun p np => ?_⟩
          refine q z rfl hz _ p (s1.trans (same_upd np)) (none_same s1 np) ?_
          rw [upd_same, h0]
          rfl
        · rw [decide_eq_false (show ¬ (V.str z = V.str (Str.ofString "0")) from str_ne h0)]
          rcases shows_cases hz with h | ⟨h1, h2, h3, h4⟩
          · exact absurd h h0
          · refine iteF ⟨.str z, rfl, z, rfl, by omega, fun D nD => ?_⟩
            refine lc_revS (fun i Hx => Same H1 Hx ∧ Hx D = some (.lst (((z.cps.toList.reverse.take i).map fig).map V.int))) ⟨same_upd nD, upd_same⟩ (fun i c Hx hc e => ?_) (fun Hx e => ?_)
            · obtain ⟨s2, eD⟩ := e
              have ok := h4 c (List.mem_reverse.mp (List.mem_of_getElem? hc))
              refine ⟨rfl, .str ⟨#[c]⟩, rfl, T.D_FIGURES, ⟨#[c]⟩, .int (fig c), rfl, rfl, fig_look T hw ok, _, eD, ?_, fun b u e => ?_, ?_⟩
              · rw [List.length_map, List.length_map, List.length_take, List.length_reverse]
                omega
              · rw [upd_ne (ne_of_none e nD)]
                exact s2 _ _ e
              · rw [upd_same, List.take_add_one, hc, List.map_append, List.map_append]
                rfl
            · obtain ⟨s2, eD⟩ := e
              rw [List.take_of_length_le (by rw [List.length_reverse]; exact Nat.le_refl _)] at eD
              refine q z rfl hz _ D (s1.trans s2) (none_same s1 nD) ?_
              rw [eD]
              unfold figsL
              rw [if_neg h0]
      · cases x with
        | str z => exact absurd rfl (no z)
        | _ => cases hb
/-! ### what is no row, refused -/
def GoodRow (K : PySem.W.Frag) (H : Hp) (x : V) : Prop := ∃ a ns, x = .ref a ∧ RowAt K H a ns
def BadRow (K : PySem.W.Frag) (H : Hp) (x : V) : Prop := (∃ i b, Kind K H x i b false) ∨ ∃ a xs, x = .ref a ∧ SqL K H a xs ∧ (∀ y ∈ xs, Plain K H y) ∧ xs.length ≤ 4000000 ∧ rowB xs = false
theorem GoodRow.mono {K : PySem.W.Frag} {H H' : Hp} {x : V} (h : GoodRow K H x) (s : Same H H') : GoodRow K H' x := let ⟨a, ns, e, r⟩ := h; ⟨a, ns, e, r.mono s⟩
theorem BadRow.mono {K : PySem.W.Frag} {H H' : Hp} {x : V} (h : BadRow K H x) (s : Same H H') : BadRow K H' x := by
  rcases h with ⟨i, b, k⟩ | ⟨a, xs, e, q, p, l, r⟩
  · exact .inl ⟨i, b, k.mono s⟩
  · exact .inr ⟨a, xs, e, s.seq q, fun y hy => (p y hy).mono s, l, r⟩
abbrev passX {X : Cx} {W : WX} {E : XK} (tk : Takes X W) (hW : ∀ cls d σ H, E cls d H → W cls d σ H) : Passes (L2.CX X.prog X.w) X E := passes_call tk hW
def sp_row_any (K : PySem.W.Frag) (C : Addr) : Sp := fun vs H Q E => ∃ x, vs = [x] ∧ ((GoodRow K H x ∧ ∀ H', Same H H' → Q .non H') ∨ (BadRow K H x ∧ ∀ H', Same H H' → E (.ref C) none H'))
theorem ok_row_any (T : Txt K mg) : FnOk P w K mg base (L2.CX P w) 4 T.a_refuse_no_row T.d_refuse_no_row p_refuse_no_row (sp_row_any K T.c_NoRow) := by
  refine T.F_refuse_no_row.okX sc_refuse_no_row (fun vs H Q E h => ?_) (fun cdv A outer s H vs Q E hr h => ?_)
  · obtain ⟨x, rfl, _⟩ := h
    rfl
  · obtain ⟨x, rfl, h⟩ := h
    refine ⟨_, pss_one (ps_if (pt_not (pt_val (pe_call (ok_is_row T) hr (by rfl) T.g_is_row T.F_is_row.kp T.b_is_row .nil pass0 (pa_cons (pv 0) pa_nil))))
      (pss_one (ps_raise rfl (takes_of rfl rfl rfl rfl) (pmk_own PySem.F.excBase_ValueError T.x_NoRow T.gc_NoRow T.kp_NoRow (raises_own T.bs_NoRow T.ty_NoRow) (by rfl)))) pss_nil), ?_⟩
    rcases h with ⟨⟨a, ns, rfl, hS⟩, q⟩ | ⟨⟨i, b, k⟩ | ⟨a, xs, rfl, hS, hp, hl, hb⟩, e⟩
    · refine ⟨.ref a, rfl, .ref a, rfl, .inr ⟨a, ns.map V.int, rfl, hS.1, RowAt.plain, by rw [List.length_map]; exact hS.2.2, fun H' s' => ?_⟩⟩
      refine ⟨_, rfl, ?_⟩
      rw [row_yes hS.2.1]
      exact iteF (q _ s')
    · exact ⟨x, rfl, x, rfl, .inl ⟨i, b, k, _, rfl, iteT (e _ (Same.refl _))⟩⟩
    · refine ⟨.ref a, rfl, .ref a, rfl, .inr ⟨a, xs, rfl, hS, hp, hl, fun H' s' => ?_⟩⟩
      refine ⟨_, rfl, ?_⟩
      rw [hb]
      exact iteT (e _ s')
def sp_worth_any (K : PySem.W.Frag) (C : Addr) : Sp := fun vs H Q E => ∃ x, vs = [x] ∧ ((∃ a ns, x = .ref a ∧ RowAt K H a ns ∧ ∀ H', Same H H' → Q (.int (val ns)) H') ∨ (BadRow K H x ∧ ∀ H', Same H H' → E (.ref C) none H'))
theorem ok_worth_any (T : Txt K mg) : FnOk P w K mg base (L2.CX P w) 5 T.a_worth T.d_worth p_worth (sp_worth_any K T.c_NoRow) := by
  refine T.F_worth.okX sc_worth (fun vs H Q E h => ?_) (fun cdv A outer s H vs Q E hr h => ?_)
  · obtain ⟨x, rfl, _⟩ := h
    rfl
  · obtain ⟨x, rfl, h⟩ := h
    refine ⟨_, pss_cons (ps_expr (pe_call (ok_row_any T) hr (by rfl) T.g_refuse_no_row T.F_refuse_no_row.kp T.b_refuse_no_row .nil (passes_call (takes_of rfl rfl rfl rfl) fun _ _ _ _ h => h) (pa_cons (pv 0) pa_nil)))
      (pss_one (ps_ret (pe_op op_sub (pe_call (ok_marked T) (hr.mono (by decide)) (by rfl) T.g_marked T.F_marked.kp T.b_marked .nil pass0 (pa_cons (pv 0) (pa_cons pe_int pa_nil)))
        (pe_call (ok_marked T) (hr.mono (by decide)) (by rfl) T.g_marked T.F_marked.kp T.b_marked .nil pass0 (pa_cons (pv 0) (pa_cons (pe_un un_neg pe_int) pa_nil)))))), ?_⟩
    rcases h with ⟨a, ns, rfl, hS, q⟩ | ⟨bad, e⟩
    · refine ⟨.ref a, rfl, .ref a, rfl, .inl ⟨⟨a, ns, rfl, hS⟩, fun H1 s1 => ?_⟩⟩
      refine ⟨.ref a, rfl, a, ns, 1, rfl, s1.seq hS.1, hS.2.2, fun H2 s2 => ?_⟩
      refine ⟨.ref a, rfl, 1, rfl, a, ns, -1, rfl, s2.seq (s1.seq hS.1), hS.2.2, fun H3 s3 => ?_⟩
      refine ⟨_, _, rfl, rfl, ?_⟩
      show Q (.int (((mk 1 ns : Nat) : Int) - ((mk (-1) ns : Nat) : Int))) H3
      rw [mk_val ns hS.2.1.1]
      exact q _ (s1.trans (s2.trans s3))
    · exact ⟨x, rfl, x, rfl, .inr ⟨bad, e⟩⟩
/-- one row alone, or none -/
def sp_one_no (K : PySem.W.Frag) (C : Addr) : Sp := fun vs H _ E => ∃ x, vs = [x] ∧ BadRow K H x ∧ ∀ H', Same H H' → E (.ref C) none H'
theorem ok_worth_no (T : Txt K mg) : FnOk P w K mg base (L2.CX P w) 5 T.a_worth T.d_worth p_worth (sp_one_no K T.c_NoRow) := by
  refine T.F_worth.okX sc_worth (fun vs H Q E h => ?_) (fun cdv A outer s H vs Q E hr h => ?_)
  · obtain ⟨x, rfl, _⟩ := h
    rfl
  · obtain ⟨x, rfl, bad, e⟩ := h
    refine ⟨_, pss_cons (ps_expr (pe_call (ok_row_any T) hr (by rfl) T.g_refuse_no_row T.F_refuse_no_row.kp T.b_refuse_no_row .nil (passes_call (takes_of rfl rfl rfl rfl) fun _ _ _ _ h => h) (pa_cons (pv 0) pa_nil))) pss_never, ?_⟩
    exact ⟨x, rfl, x, rfl, .inr ⟨bad, e⟩⟩
theorem ok_weight_no (T : Txt K mg) : FnOk P w K mg base (L2.CX P w) 5 T.a_weight T.d_weight p_weight (sp_one_no K T.c_NoRow) := by
  refine T.F_weight.okX sc_weight (fun vs H Q E h => ?_) (fun cdv A outer s H vs Q E hr h => ?_)
  · obtain ⟨x, rfl, _⟩ := h
    rfl
  · obtain ⟨x, rfl, bad, e⟩ := h
    refine ⟨_, pss_cons (ps_expr (pe_call (ok_row_any T) hr (by rfl) T.g_refuse_no_row T.F_refuse_no_row.kp T.b_refuse_no_row .nil (passes_call (takes_of rfl rfl rfl rfl) fun _ _ _ _ h => h) (pa_cons (pv 0) pa_nil))) pss_never, ?_⟩
    exact ⟨x, rfl, x, rfl, .inr ⟨bad, e⟩⟩
theorem ok_is_lean_no (T : Txt K mg) : FnOk P w K mg base (L2.CX P w) 5 T.a_is_lean T.d_is_lean p_is_lean (sp_one_no K T.c_NoRow) := by
  refine T.F_is_lean.okX sc_is_lean (fun vs H Q E h => ?_) (fun cdv A outer s H vs Q E hr h => ?_)
  · obtain ⟨x, rfl, _⟩ := h
    rfl
  · obtain ⟨x, rfl, bad, e⟩ := h
    refine ⟨_, pss_cons (ps_expr (pe_call (ok_row_any T) hr (by rfl) T.g_refuse_no_row T.F_refuse_no_row.kp T.b_refuse_no_row .nil (passes_call (takes_of rfl rfl rfl rfl) fun _ _ _ _ h => h) (pa_cons (pv 0) pa_nil))) pss_never, ?_⟩
    exact ⟨x, rfl, x, rfl, .inr ⟨bad, e⟩⟩
theorem ok_shown_no (T : Txt K mg) : FnOk P w K mg base (L2.CX P w) 5 T.a_shown T.d_shown p_shown (sp_one_no K T.c_NoRow) := by
  refine T.F_shown.okX sc_shown (fun vs H Q E h => ?_) (fun cdv A outer s H vs Q E hr h => ?_)
  · obtain ⟨x, rfl, _⟩ := h
    rfl
  · obtain ⟨x, rfl, bad, e⟩ := h
    refine ⟨_, pss_cons (ps_expr (pe_call (ok_row_any T) hr (by rfl) T.g_refuse_no_row T.F_refuse_no_row.kp T.b_refuse_no_row .nil (passes_call (takes_of rfl rfl rfl rfl) fun _ _ _ _ h => h) (pa_cons (pv 0) pa_nil))) pss_never, ?_⟩
    exact ⟨x, rfl, x, rfl, .inr ⟨bad, e⟩⟩
theorem ok_negated_no (T : Txt K mg) : FnOk P w K mg base (L2.CX P w) 6 T.a_negated T.d_negated p_negated (sp_one_no K T.c_NoRow) := by
  refine T.F_negated.okX sc_negated (fun vs H Q E h => ?_) (fun cdv A outer s H vs Q E hr h => ?_)
  · obtain ⟨x, rfl, _⟩ := h
    rfl
  · obtain ⟨x, rfl, bad, e⟩ := h
    refine ⟨_, pss_one (ps_ret (pe_call (ok_lean T) (hr.mono (by decide)) (by rfl) T.g_lean T.F_lean.kp T.b_lean .nil pass0 (pa_cons (pe_un un_neg (pe_call (ok_worth_any T) hr (by rfl) T.g_worth T.F_worth.kp T.b_worth .nil (passes_call (takes_of rfl rfl rfl rfl) fun _ _ _ _ h => h) (pa_cons (pv 0) pa_nil))) pa_nil))), ?_⟩
    exact ⟨x, rfl, x, rfl, .inr ⟨bad, e⟩⟩
/-- two, one of them no row -/
def sp_two_no (K : PySem.W.Frag) (C : Addr) : Sp := fun vs H _ E => ∃ x y, vs = [x, y] ∧ (BadRow K H x ∨ (GoodRow K H x ∧ BadRow K H y)) ∧ ∀ H', Same H H' → E (.ref C) none H'
theorem ok_added_no (T : Txt K mg) : FnOk P w K mg base (L2.CX P w) 6 T.a_added T.d_added p_added (sp_two_no K T.c_NoRow) := by
  refine T.F_added.okX sc_added (fun vs H Q E h => ?_) (fun cdv A outer s H vs Q E hr h => ?_)
  · obtain ⟨x, y, rfl, _⟩ := h
    rfl
  · obtain ⟨x, y, rfl, bad, e⟩ := h
    refine ⟨_, pss_one (ps_ret (pe_call (ok_lean T) (hr.mono (by decide)) (by rfl) T.g_lean T.F_lean.kp T.b_lean .nil pass0 (pa_cons (pe_op op_add (pe_call (ok_worth_any T) hr (by rfl) T.g_worth T.F_worth.kp T.b_worth .nil (passes_call (takes_of rfl rfl rfl rfl) fun _ _ _ _ h => h) (pa_cons (pv 0) pa_nil)) (pe_call (ok_worth_any T) hr (by rfl) T.g_worth T.F_worth.kp T.b_worth .nil (passes_call (takes_of rfl rfl rfl rfl) fun _ _ _ _ h => h) (pa_cons (pv 1) pa_nil))) pa_nil))), ?_⟩
    rcases bad with bad | ⟨⟨a, ns, rfl, hS⟩, bad⟩
    · exact ⟨x, rfl, x, rfl, .inr ⟨bad, e⟩⟩
    · exact ⟨.ref a, rfl, .ref a, rfl, .inl ⟨a, ns, rfl, hS, fun H1 s1 => ⟨y, rfl, y, rfl, .inr ⟨bad.mono s1, fun H2 s2 => e H2 (s1.trans s2)⟩⟩⟩⟩
theorem ok_multiplied_no (T : Txt K mg) : FnOk P w K mg base (L2.CX P w) 6 T.a_multiplied T.d_multiplied p_multiplied (sp_two_no K T.c_NoRow) := by
  refine T.F_multiplied.okX sc_multiplied (fun vs H Q E h => ?_) (fun cdv A outer s H vs Q E hr h => ?_)
  · obtain ⟨x, y, rfl, _⟩ := h
    rfl
  · obtain ⟨x, y, rfl, bad, e⟩ := h
    refine ⟨_, pss_one (ps_ret (pe_call (ok_lean T) (hr.mono (by decide)) (by rfl) T.g_lean T.F_lean.kp T.b_lean .nil pass0 (pa_cons (pe_op op_mul (pe_call (ok_worth_any T) hr (by rfl) T.g_worth T.F_worth.kp T.b_worth .nil (passes_call (takes_of rfl rfl rfl rfl) fun _ _ _ _ h => h) (pa_cons (pv 0) pa_nil)) (pe_call (ok_worth_any T) hr (by rfl) T.g_worth T.F_worth.kp T.b_worth .nil (passes_call (takes_of rfl rfl rfl rfl) fun _ _ _ _ h => h) (pa_cons (pv 1) pa_nil))) pa_nil))), ?_⟩
    rcases bad with bad | ⟨⟨a, ns, rfl, hS⟩, bad⟩
    · exact ⟨x, rfl, x, rfl, .inr ⟨bad, e⟩⟩
    · exact ⟨.ref a, rfl, .ref a, rfl, .inl ⟨a, ns, rfl, hS, fun H1 s1 => ⟨y, rfl, y, rfl, .inr ⟨bad.mono s1, fun H2 s2 => e H2 (s1.trans s2)⟩⟩⟩⟩
theorem ok_compared_no (T : Txt K mg) : FnOk P w K mg base (L2.CX P w) 6 T.a_compared T.d_compared p_compared (sp_two_no K T.c_NoRow) := by
  refine T.F_compared.okX sc_compared (fun vs H Q E h => ?_) (fun cdv A outer s H vs Q E hr h => ?_)
  · obtain ⟨x, y, rfl, _⟩ := h
    rfl
  · obtain ⟨x, y, rfl, bad, e⟩ := h
    refine ⟨_, pss_cons (ps_par (i := 2) (j := 3) (by rfl) sc_compared.nd rfl rfl (by decide) rfl rfl (pa_cons (pe_call (ok_worth_any T) hr (by rfl) T.g_worth T.F_worth.kp T.b_worth .nil (passes_call (takes_of rfl rfl rfl rfl) fun _ _ _ _ h => h) (pa_cons (pv 0) pa_nil)) (pa_cons (pe_call (ok_worth_any T) hr (by rfl) T.g_worth T.F_worth.kp T.b_worth .nil (passes_call (takes_of rfl rfl rfl rfl) fun _ _ _ _ h => h) (pa_cons (pv 1) pa_nil)) pa_nil)) (by rfl))
        pss_never, ?_⟩
    rcases bad with bad | ⟨⟨a, ns, rfl, hS⟩, bad⟩
    · exact ⟨x, rfl, x, rfl, .inr ⟨bad, e⟩⟩
    · exact ⟨.ref a, rfl, .ref a, rfl, .inl ⟨a, ns, rfl, hS, fun H1 s1 => ⟨y, rfl, y, rfl, .inr ⟨bad.mono s1, fun H2 s2 => e H2 (s1.trans s2)⟩⟩⟩⟩
/-! ### together and lean, where they refuse; what is asked -/
def BadRows (K : PySem.W.Frag) (H : Hp) (x : V) : Prop := (∃ i b, Kind K H x i b false) ∨ ∃ (a : Addr) (xs : List V) (i : Nat) (y : V), x = .ref a ∧ SqL K H a xs ∧ xs.length ≤ 1000000 ∧ xs[i]? = some y ∧ BadRow K H y ∧ ∀ (j : Nat) (z : V), j < i → xs[j]? = some z → GoodRow K H z
theorem BadRows.mono {K : PySem.W.Frag} {H H' : Hp} {x : V} (h : BadRows K H x) (s : Same H H') : BadRows K H' x := by
  rcases h with ⟨i, b, k⟩ | ⟨a, xs, i, y, e, q, l, hy, b, g⟩
  · exact .inl ⟨i, b, k.mono s⟩
  · exact .inr ⟨a, xs, i, y, e, s.seq q, l, hy, b.mono s, fun j z hj hz => (g j z hj hz).mono s⟩
def sp_rows_no (K : PySem.W.Frag) (C : Addr) : Sp := fun vs H _ E => ∃ x, vs = [x] ∧ BadRows K H x ∧ ∀ H', Same H H' → E (.ref C) none H'
theorem ok_together_no (T : Txt K mg) : FnOk P w K mg base (L2.CX P w) 6 T.a_together T.d_together p_together (sp_rows_no K T.c_NoRow) := by
  refine T.F_together.okX sc_together (fun vs H Q E h => ?_) (fun cdv A outer s H vs Q E hr h => ?_)
  · obtain ⟨_, rfl, _⟩ := h
    rfl
  · obtain ⟨x, rfl, bad, e⟩ := h
    refine ⟨_, pss_cons (ps_if (pt_not (pt_val (pe_callB call_isi (by rfl) T.z_isinstance (by decide +kernel) (pa_cons (pv 0) (pa_cons (pe_bltn (v := .ty "list") (by rfl) T.z_list (by decide +kernel) rfl) pa_nil)))))
        (pss_one (ps_raise rfl (takes_of rfl rfl rfl rfl) (pmk_own PySem.F.excBase_ValueError T.x_NoRow T.gc_NoRow T.kp_NoRow (raises_own T.bs_NoRow T.ty_NoRow) (by rfl)))) pss_nil)
      (pss_one (ps_ret (pe_call (ok_lean T) (hr.mono (by decide)) (by rfl) T.g_lean T.F_lean.kp T.b_lean .nil pass0 (pa_cons (pe_callB (cr_sum rfl) (by rfl) T.z_sum (by decide +kernel) (pa_cons (XLcx.pe_lcX (EC := E) (own := [("row", 1)]) (g := gName 1) (tt := tYes) (by rfl) sc_together.nd (pi_list (pv 0)) (blkOk_by (N := ["rows", "row"]) (own := [("row", 1)]) (sc := defScope t_together) (by decide +kernel))
          (takes_of rfl rfl rfl rfl) rfl rfl
          (fun _ _ _ _ _ => pg_name (i := 1) sc_together.nd rfl (Or.inl rfl)) (fun _ _ _ _ _ => pts_nil)
          (fun _ _ _ _ _ F hx => pe_call (ok_worth_any T) (by exact hr) (by rfl) T.g_worth T.F_worth.kp T.b_worth .nil (hx E fun _ _ _ h => h) (pa_cons (pv 1) pa_nil))) pa_nil)) pa_nil)))), ?_⟩
    rcases bad with ⟨i, b, k⟩ | ⟨a, xs, i, y, rfl, hS, hl, hy, bad, good⟩
    · obtain ⟨t, ty, _, _, h3⟩ := k.ex
      refine ⟨x, rfl, x, _, t, _, false, rfl, .ty _, ty, h3, false, rfl, ?_⟩
      exact iteT (e _ (Same.refl _))
    · obtain ⟨t, ty, _, _, h3⟩ := (kind_list (K := K) (H := H) hS).ex
      refine ⟨.ref a, rfl, .ref a, _, t, _, true, rfl, .ty _, ty, h3, true, rfl, ?_⟩
      refine iteF ?_
      refine ⟨.ref a, rfl, a, rfl, ⟨_, hS⟩, fun D nD => ?_⟩
      have hi := (List.getElem?_eq_some_iff.mp hy).1
      have lim : (2000000 : Nat) ≤ sizeLine := by decide
      refine lc_list (K := K) (a := a) (xs := xs) (fun j H1 => Same H H1 ∧ j ≤ i ∧ ∃ ns : List Int, ns.length = j ∧ H1 D = some (.lst (ns.map V.int))) ⟨same_upd nD, Nat.zero_le _, [], rfl, upd_same⟩ (fun j H1 _ e => e.1.seq hS) (fun j z H1 hz e2 => ?_) (fun H1 e2 => ?_)
      · obtain ⟨s1, hj, ns, hns, eD⟩ := e2
        by_cases ej : j = i
        · subst ej
          obtain rfl : z = y := Option.some.inj (hz.symm.trans hy)
          exact ⟨rfl, z, rfl, z, rfl, .inr ⟨bad.mono s1, fun H2 s2 => e H2 (s1.trans s2)⟩⟩
        · obtain ⟨b, ms, rfl, hR⟩ := good j z (by omega) hz
          refine ⟨rfl, .ref b, rfl, .ref b, rfl, .inl ⟨b, ms, rfl, hR.mono s1, fun H2 s2 => ?_⟩⟩
          refine ⟨_, s2 _ _ eD, ?_, fun c o e => ?_, by omega, ns ++ [val ms], by rw [List.length_append, hns]; rfl, ?_⟩
          · rw [List.length_map]
            omega
          · rw [upd_ne (ne_of_none e nD)]
            exact s2 _ _ (s1 _ _ e)
          · rw [upd_same, List.map_append]
            rfl
      · obtain ⟨_, hj, _⟩ := e2
        omega
def sp_number_any (K : PySem.W.Frag) (C : Addr) : Sp := fun vs H Q E => ∃ x, vs = [x] ∧ Plain K H x ∧ (intV x = true → Q .non H) ∧ (intV x = false → E (.ref C) none H)
theorem ok_number_any (T : Txt K mg) : FnOk P w K mg base (L2.CX P w) 2 T.a_refuse_no_number T.d_refuse_no_number p_refuse_no_number (sp_number_any K T.c_NoNumber) := by
  refine T.F_refuse_no_number.okX sc_refuse_no_number (fun vs H Q E h => ?_) (fun cdv A outer s H vs Q E hr h => ?_)
  · obtain ⟨x, rfl, _⟩ := h
    rfl
  · obtain ⟨x, rfl, k, q, e⟩ := h
    refine ⟨_, pss_one (ps_if (pt_not (pt_val (pe_call (ok_is_whole T) hr (by rfl) T.g_is_whole T.F_is_whole.kp T.b_is_whole .nil pass0 (pa_cons (pv 0) pa_nil))))
      (pss_one (ps_raise rfl (takes_of rfl rfl rfl rfl) (pmk_own PySem.F.excBase_ValueError T.x_NoNumber T.gc_NoNumber T.kp_NoNumber (raises_own T.bs_NoNumber T.ty_NoNumber) (by rfl)))) pss_nil), ?_⟩
    refine ⟨x, rfl, x, rfl, k, _, rfl, ?_⟩
    cases b : intV x with
    | true => exact iteF (q b)
    | false => exact iteT (e b)
def sp_lean_no (K : PySem.W.Frag) (C : Addr) : Sp := fun vs H _ E => ∃ x, vs = [x] ∧ Plain K H x ∧ intV x = false ∧ E (.ref C) none H
theorem ok_lean_no (T : Txt K mg) : FnOk P w K mg base (L2.CX P w) 3 T.a_lean T.d_lean p_lean (sp_lean_no K T.c_NoNumber) := by
  refine T.F_lean.okX sc_lean (fun vs H Q E h => ?_) (fun cdv A outer s H vs Q E hr h => ?_)
  · obtain ⟨_, rfl, _⟩ := h
    rfl
  · obtain ⟨x, rfl, k, nx, e⟩ := h
    refine ⟨_, pss_cons (ps_expr (pe_call (ok_number_any T) hr (by rfl) T.g_refuse_no_number T.F_refuse_no_number.kp T.b_refuse_no_number .nil (passes_call (takes_of rfl rfl rfl rfl) fun _ _ _ _ h => h) (pa_cons (pv 0) pa_nil))) pss_never, ?_⟩
    exact ⟨x, rfl, x, rfl, k, fun z => absurd (nx.symm.trans z) (by simp), fun _ => e⟩
/-- what is none there: by the way -/
def NoneThere (K : PySem.W.Frag) (n : Int) (x : V) (H : Hp) (k : Nat) : Prop :=
  (0 ≤ n ∧ n ≤ 12 ∧ n ≠ 11 ∧ BadRow K H x ∧ k = 0) ∨ (n = 11 ∧ BadRows K H x ∧ k = 0) ∨ (n = 13 ∧ Plain K H x ∧ intV x = false ∧ k = 1) ∨ (n = 14 ∧ ThingT K H x ∧ showsB x = false ∧ k = 2)
/-! ### the law's word of k12: a refusal's class, told by what was caught and kept -/
def Txt.cls (T : Txt K mg) : Nat → Addr
  | 0 => T.c_NoRow
  | 1 => T.c_NoNumber
  | _ => T.c_NoText
def wordOf : Nat → Str
  | 0 => "row"
  | 1 => "number"
  | _ => "text"
theorem kit_of {C D : Addr} {b : Bool} (h1 : PySem.W.subIn K (.ref D) (.ref D) = some true) (h2 : PySem.W.isClsIn K C = true) (h3 : PySem.W.typeIn K (.ref C) = some (.type "type")) (h4 : PySem.W.subIn K (.ref D) (.ref C) = some b) :
    PySem.W.kitOne K (.ref D) (.ref C) = some b := by
  have h2' : (PySem.W.clsIn K C).isSome = true := h2
  by_cases e : D = C
  · subst e
    rw [h1] at h4
    cases h4
    simp [PySem.W.kitOne]
  · have ne : ((Value.ref D) == (Value.ref C)) = false := by simp [e]
    unfold PySem.W.kitOne PySem.W.kitCls
    simp [ne, h2', h3, h4]
theorem kit_ve {D : Addr} (h : PySem.W.subIn K (.ref D) (.type "ValueError") = some true) : PySem.W.kitOne K (.ref D) (.type "ValueError") = some true := by
  have ne : ((Value.ref D) == (Value.type "ValueError")) = false := by simp
  have km : PySem.W.kitMeta "ValueError" = true := by decide +kernel
  unfold PySem.W.kitOne PySem.W.kitCls
  simp [ne, km, h]
/-- what the class at D says, asked of the five -/
structure Told (T : Txt K mg) (D : Addr) (k : Nat) : Prop where
  ec : ExcC K D
  ex : PySem.W.exmOne K (.ref D) (.ref T.c_LeanError) = some true
  r : PySem.W.kitOne K (.ref D) (.ref T.c_NoRow) = some (decide (k = 0))
  n : PySem.W.kitOne K (.ref D) (.ref T.c_NoNumber) = some (decide (k = 1))
  t : PySem.W.kitOne K (.ref D) (.ref T.c_NoText) = some (decide (k = 2))
  c : PySem.W.kitOne K (.ref D) (.ref T.c_NoCost) = some false
  d : PySem.W.kitOne K (.ref D) (.ref T.c_NoDeeds) = some false
  v : PySem.W.kitOne K (.ref D) (.type "ValueError") = some true
theorem exm_of {C D : Addr} {b : Bool} (h1 : PySem.W.subIn K (.ref D) (.type "BaseException") = some true) (h2 : PySem.W.isClsIn K D = true) (h3 : PySem.W.typeIn K (.ref D) = some (.type "type")) (h4 : PySem.W.subIn K (.ref C) (.ref D) = some b) :
    PySem.W.exmOne K (.ref C) (.ref D) = some b := by
  have e1 : (PySem.W.subIn K (.ref D) (.type "BaseException") == some true) = true := by rw [h1] <;> rfl
  have h2' : (PySem.W.clsIn K D).isSome = true := h2
  unfold PySem.W.exmOne PySem.W.kitCls
  rw [if_pos e1]
  simp [h2', h3, h4]
theorem told (T : Txt K mg) : ∀ k, k < 3 → Told T (T.cls k) k
  | 0, _ => ⟨⟨T.ga_NoRow, T.gt_NoRow, T.bs_NoRow, T.hd_NoRow, T.gk_NoRow, T.sp_class, T.tk_class, T.mo_NoRow⟩, exm_of T.bs_LeanError T.ic_LeanError T.ty_LeanError T.su_NoRow_LeanError,
      kit_of T.su_NoRow_NoRow T.ic_NoRow T.ty_NoRow T.su_NoRow_NoRow, kit_of T.su_NoRow_NoRow T.ic_NoNumber T.ty_NoNumber T.su_NoRow_NoNumber, kit_of T.su_NoRow_NoRow T.ic_NoText T.ty_NoText T.su_NoRow_NoText,
      kit_of T.su_NoRow_NoRow T.ic_NoCost T.ty_NoCost T.su_NoRow_NoCost, kit_of T.su_NoRow_NoRow T.ic_NoDeeds T.ty_NoDeeds T.su_NoRow_NoDeeds, kit_ve T.ve_NoRow⟩
  | 1, _ => ⟨⟨T.ga_NoNumber, T.gt_NoNumber, T.bs_NoNumber, T.hd_NoNumber, T.gk_NoNumber, T.sp_class, T.tk_class, T.mo_NoNumber⟩, exm_of T.bs_LeanError T.ic_LeanError T.ty_LeanError T.su_NoNumber_LeanError,
      kit_of T.su_NoNumber_NoNumber T.ic_NoRow T.ty_NoRow T.su_NoNumber_NoRow, kit_of T.su_NoNumber_NoNumber T.ic_NoNumber T.ty_NoNumber T.su_NoNumber_NoNumber, kit_of T.su_NoNumber_NoNumber T.ic_NoText T.ty_NoText T.su_NoNumber_NoText,
      kit_of T.su_NoNumber_NoNumber T.ic_NoCost T.ty_NoCost T.su_NoNumber_NoCost, kit_of T.su_NoNumber_NoNumber T.ic_NoDeeds T.ty_NoDeeds T.su_NoNumber_NoDeeds, kit_ve T.ve_NoNumber⟩
  | 2, _ => ⟨⟨T.ga_NoText, T.gt_NoText, T.bs_NoText, T.hd_NoText, T.gk_NoText, T.sp_class, T.tk_class, T.mo_NoText⟩, exm_of T.bs_LeanError T.ic_LeanError T.ty_LeanError T.su_NoText_LeanError,
      kit_of T.su_NoText_NoText T.ic_NoRow T.ty_NoRow T.su_NoText_NoRow, kit_of T.su_NoText_NoText T.ic_NoNumber T.ty_NoNumber T.su_NoText_NoNumber, kit_of T.su_NoText_NoText T.ic_NoText T.ty_NoText T.su_NoText_NoText,
      kit_of T.su_NoText_NoText T.ic_NoCost T.ty_NoCost T.su_NoText_NoCost, kit_of T.su_NoText_NoText T.ic_NoDeeds T.ty_NoDeeds T.su_NoText_NoDeeds, kit_ve T.ve_NoText⟩
/-- asked where it refuses: R tells of the way, of the thing and of the heap which class it is -/
def sp_asked_no (T : Txt K mg) (R : Int → V → Hp → Nat → Prop) : Sp := fun vs H _ E => ∃ n x k, vs = [.int n, x] ∧ k < 3 ∧ R n x H k ∧ ∀ H', Same H H' → E (.ref (T.cls k)) none H'
def sp_Lword (R : Int → V → Hp → Nat → Prop) : Sp := fun vs H Q _ => ∃ n x k, vs = [.int n, x] ∧ k < 3 ∧ R n x H k ∧ ∀ H', Same H H' → Q (.str (wordOf k)) H'
theorem ok_Lword (T : Txt K mg) {R : Int → V → Hp → Nat → Prop} {j : Nat} (G : FnOk P w K mg base (L2.CX P w) j T.a_Lasked T.d_Lasked p_Lasked (sp_asked_no T R)) :
    FnOk P w K mg base CX0 (j + 1) T.a_Lword T.d_Lword p_Lword (sp_Lword R) := by
  refine T.F_Lword.ok sc_Lword (fun vs H Q E h => ?_) (fun cdv A outer s H vs Q E hr h => ?_)
  · obtain ⟨n, x, k, rfl, _⟩ := h
    rfl
  · obtain ⟨n, x, k, rfl, k3, r, q⟩ := h
    have W := told T k k3
    refine ⟨_, pss_cons (ps_set (i := 2) sc_Lword.nd rfl (Or.inl rfl) pe_non)
      (pss_cons (XErr.ps_try_keep (i := 3) rfl rfl rfl sc_Lword.nd rfl rfl ⟨rfl, by decide, .inl T.gc_LeanError⟩
        (fun W pn xe tk _ => pss_one (ps_expr (pe_callS G hr rfl T.g_Lasked T.F_Lasked.kp T.b_Lasked (fun σ => passAt tk σ) (pa_cons (pv 0) (pa_cons (pv 1) pa_nil)))))
        (fun _ _ _ _ _ _ _ => pss_one (ps_set (i := 2) sc_Lword.nd rfl (Or.inl rfl) (pv 3))))
      (pss_cons (ps_set (i := 4) sc_Lword.nd rfl (Or.inl rfl) (pe_lst (pa_cons (pe_callB XErr.call_isKept (by rfl) T.z_isinstance (by decide +kernel) (pa_cons (pv 2) (pa_cons (pe_glob (v := .ref T.c_NoRow) (by rfl) T.gc_NoRow rfl) pa_nil)))
        (pa_cons (pe_callB XErr.call_isKept (by rfl) T.z_isinstance (by decide +kernel) (pa_cons (pv 2) (pa_cons (pe_glob (v := .ref T.c_NoNumber) (by rfl) T.gc_NoNumber rfl) pa_nil)))
        (pa_cons (pe_callB XErr.call_isKept (by rfl) T.z_isinstance (by decide +kernel) (pa_cons (pv 2) (pa_cons (pe_glob (v := .ref T.c_NoText) (by rfl) T.gc_NoText rfl) pa_nil))) pa_nil)))))
      (pss_cons (ps_set (i := 4) sc_Lword.nd rfl (Or.inl rfl) (pe_op op_cat (pv 4) (pe_lst (pa_cons (pe_callB XErr.call_isKept (by rfl) T.z_isinstance (by decide +kernel) (pa_cons (pv 2) (pa_cons (pe_glob (v := .ref T.c_NoCost) (by rfl) T.gc_NoCost rfl) pa_nil)))
        (pa_cons (pe_callB XErr.call_isKept (by rfl) T.z_isinstance (by decide +kernel) (pa_cons (pv 2) (pa_cons (pe_glob (v := .ref T.c_NoDeeds) (by rfl) T.gc_NoDeeds rfl) pa_nil))) pa_nil)))))
      (pss_cons (ps_if (PW.pt (pw_or (pt_cmpR op_ne (pe_bm PySem.F.plainAttrs_list PySem.F.slot_list_count PySem.F.type_list_count XCount.mt_countV (pv 4) (pa_cons pe_bl pa_nil)) pe_int (nomark _))
          (pw_or1 (pt_not (pt_val (pe_callB XErr.call_isKept (by rfl) T.z_isinstance (by decide +kernel) (pa_cons (pv 2) (pa_cons (pe_bltn (v := .ty "ValueError") (by rfl) T.z_ValueError (by decide +kernel) rfl) pa_nil))))))))
        (pss_one (ps_ret pe_str)) pss_nil)
      (pss_one (ps_ret (pe_ix ix_list (pe_lst (pa_cons pe_str (pa_cons pe_str (pa_cons pe_str (pa_cons pe_str (pa_cons pe_str pa_nil))))))
        (pe_bm PySem.F.plainAttrs_list PySem.F.slot_list_index PySem.F.type_list_index mt_index (pv 4) (pa_cons pe_bl pa_nil)) (fun _ _ => rfl)))))))), ?_⟩
    refine ⟨.int n, rfl, x, rfl, n, x, k, rfl, k3, r, fun H1 s1 => ?_⟩
    refine ⟨W.ex, fun a ha => ?_⟩
    refine ⟨.ref a, rfl, fun ha2 => ?_⟩
    have s2 : Same H (upd H1 a (XErr.Kept (.ref (T.cls k)) none a)) := fun b o e => by
      have e2 := s1 b o e
      rw [upd_ne (ne_of_none e2 ha2)]
      exact e2
    have at2 : upd H1 a (XErr.Kept (.ref (T.cls k)) none a) a = some (XErr.Kept (.ref (T.cls k)) none a) := upd_same
    generalize upd H1 a (XErr.Kept (.ref (T.cls k)) none a) = H2 at s2 at2
    have ref1 : ∀ {D : Addr} (u : Value), RelV (.ref D) u → u = .ref D := fun u h => h
    refine ⟨.ref a, rfl, a, _, _, _, _, rfl, at2, W.ec, ref1, W.r, ?_⟩
    refine ⟨.ref a, rfl, a, _, _, _, _, rfl, at2, W.ec, ref1, W.n, ?_⟩
    refine ⟨.ref a, rfl, a, _, _, _, _, rfl, at2, W.ec, ref1, W.t, ?_⟩
    refine ⟨(by show 3 ≤ sizeLine; decide), fun p3 h3 => ?_⟩
    have s3 : Same H2 (upd H2 p3 (.lst [.bl (decide (k = 0)), .bl (decide (k = 1)), .bl (decide (k = 2))])) := same_upd h3
    have at3 : upd H2 p3 (.lst [.bl (decide (k = 0)), .bl (decide (k = 1)), .bl (decide (k = 2))]) p3 = some (.lst [.bl (decide (k = 0)), .bl (decide (k = 1)), .bl (decide (k = 2))]) := upd_same
    generalize upd H2 p3 (.lst [.bl (decide (k = 0)), .bl (decide (k = 1)), .bl (decide (k = 2))]) = H3 at s3 at3
    refine ⟨.ref p3, rfl, .ref a, rfl, a, _, _, _, _, rfl, s3 _ _ at2, W.ec, ref1, W.c, ?_⟩
    refine ⟨.ref a, rfl, a, _, _, _, _, rfl, s3 _ _ at2, W.ec, ref1, W.d, ?_⟩
    refine ⟨(by show 2 ≤ sizeLine; decide), fun p4 h4 => ?_⟩
    have s4 : Same H3 (upd H3 p4 (.lst [.bl false, .bl false])) := same_upd h4
    have at4 : upd H3 p4 (.lst [.bl false, .bl false]) p4 = some (.lst [.bl false, .bl false]) := upd_same
    generalize upd H3 p4 (.lst [.bl false, .bl false]) = H4 at s4 at4
    refine ⟨p3, p4, _, _, rfl, rfl, s4 _ _ at3, at4, (by show 5 ≤ sizeLine; decide), fun p5 h5 => ?_⟩
    have s5 : Same H4 (upd H4 p5 (.lst ([.bl (decide (k = 0)), .bl (decide (k = 1)), .bl (decide (k = 2))] ++ [.bl false, .bl false]))) := same_upd h5
    have at5 : upd H4 p5 (.lst ([.bl (decide (k = 0)), .bl (decide (k = 1)), .bl (decide (k = 2))] ++ [.bl false, .bl false])) p5 = some (.lst [.bl (decide (k = 0)), .bl (decide (k = 1)), .bl (decide (k = 2)), .bl false, .bl false]) := upd_same
    generalize upd H4 p5 (.lst ([.bl (decide (k = 0)), .bl (decide (k = 1)), .bl (decide (k = 2))] ++ [.bl false, .bl false])) = H5 at s5 at5
    have all5 : Same H H5 := fun b o e => s5 _ _ (s4 _ _ (s3 _ _ (s2 _ _ e)))
    have one : ([.bl (decide (k = 0)), .bl (decide (k = 1)), .bl (decide (k = 2)), .bl false, .bl false] : List V).countP (fun z => eqV z (.bl true)) = 1 := by
      match k, k3 with
      | 0, _ => rfl
      | 1, _ => rfl
      | 2, _ => rfl
    refine ⟨.ref p5, rfl, .inl ⟨rfl, _, SqL.of at5⟩, p5, _, _, rfl, rfl, SqL.of at5, rfl, rfl, ?_⟩
    rw [one]
    refine ⟨rfl, _, rfl, ?_⟩
    refine iteF ⟨.ref a, rfl, a, _, _, _, _, rfl, s5 _ _ (s4 _ _ (s3 _ _ at2)), W.ec, (fun u h => h), W.v, _, rfl, ?_⟩
    refine iteF ⟨(by show 5 ≤ sizeLine; decide), fun p6 h6 => ?_⟩
    have s6 : Same H5 (upd H5 p6 (.lst [.str "row", .str "number", .str "text", .str "cost", .str "deeds"])) := same_upd h6
    have at6 : upd H5 p6 (.lst [.str "row", .str "number", .str "text", .str "cost", .str "deeds"]) p6 = some (.lst [.str "row", .str "number", .str "text", .str "cost", .str "deeds"]) := upd_same
    generalize upd H5 p6 (.lst [.str "row", .str "number", .str "text", .str "cost", .str "deeds"]) = H6 at s6 at6
    refine ⟨.ref p5, rfl, .inl ⟨rfl, _, SqL.of (s6 _ _ at5)⟩, p5, _, _, k, .bl true, rfl, rfl, SqL.of (s6 _ _ at5), rfl, rfl, ?_, rfl, ?_, ?_⟩
    · match k, k3 with
      | 0, _ => rfl
      | 1, _ => rfl
      | 2, _ => rfl
    · intro m z hm hz
      match k, k3, m, hm, hz with
      | 1, _, 0, _, hz => obtain rfl := Option.some.inj hz; rfl
      | 2, _, 0, _, hz => obtain rfl := Option.some.inj hz; rfl
      | 2, _, 1, _, hz => obtain rfl := Option.some.inj hz; rfl
    · have fin : atI ([.str "row", .str "number", .str "text", .str "cost", .str "deeds"] : List V) (k : Nat) = some (.str (wordOf k)) := by
        match k, k3 with
        | 0, _ => rfl
        | 1, _ => rfl
        | 2, _ => rfl
      exact ⟨p6, _, _, _, rfl, rfl, SqL.of at6, fin, q _ fun b o e => s6 _ _ (all5 _ _ e)⟩
/-! ### what is asked -/
theorem lt_yes {n m : Int} (h : n < m) {A B : Prop} (a : A) : if decide (n < m) = true then A else B := by
  rw [decide_eq_true h]
  exact iteT a
theorem lt_no {n m : Int} (h : ¬ n < m) {A B : Prop} (b : B) : if decide (n < m) = true then A else B := by
  rw [decide_eq_false h]
  exact iteF b
theorem eq_yes {n m : Int} (h : n = m) {A B : Prop} (a : A) : if decide (V.int n = V.int m) = true then A else B := by
  rw [decide_eq_true (by rw [h])]
  exact iteT a
theorem eq_no {n m : Int} (h : n ≠ m) {A B : Prop} (b : B) : if decide (V.int n = V.int m) = true then A else B := by
  rw [decide_eq_false (fun z => h (V.int.inj z))]
  exact iteF b
theorem good_one {K : PySem.W.Frag} {H : Hp} {l : Addr} (h : H l = some (.lst [.int 1])) : GoodRow K H (.ref l) := ⟨l, [1], rfl, SqL.of h, ⟨by simp, by simp⟩, by show 1 ≤ 4000000; decide⟩
theorem ok_Lasked (T : Txt K mg) (hw : T.pw = w.params) : FnOk P w K mg base (L2.CX P w) 7 T.a_Lasked T.d_Lasked p_Lasked (sp_asked_no T (NoneThere K)) := by
  refine T.F_Lasked.okX sc_Lasked (fun vs H Q E h => ?_) (fun cdv A outer s H vs Q E hr h => ?_)
  · obtain ⟨n, x, k, rfl, _⟩ := h
    rfl
  · obtain ⟨n, x, k, rfl, k3, r, e⟩ := h
    refine ⟨_, pss_cons (ps_if (pt_cmpR op_lt (pv 0) pe_int (nomark _)) (pss_one (ps_ret (XCallD.pe_callD (E := E) (passes_call (takes_of rfl rfl rfl rfl) fun _ _ _ _ h => h) (pe_ix ix_list (pe_lst (pa_cons (pe_glob (v := .ref T.a_worth) (by rfl) T.g_worth rfl) (pa_cons (pe_glob (v := .ref T.a_weight) (by rfl) T.g_weight rfl) (pa_cons (pe_glob (v := .ref T.a_is_lean) (by rfl) T.g_is_lean rfl) (pa_cons (pe_glob (v := .ref T.a_shown) (by rfl) T.g_shown rfl) pa_nil))))) (pv 0) (fun _ _ => rfl)) (pa_cons (pv 1) pa_nil)))) pss_nil)
      (pss_cons (ps_if (pt_cmpR op_lt (pv 0) pe_int (nomark _)) (pss_one (ps_ret (XCallD.pe_callD (E := E) (passes_call (takes_of rfl rfl rfl rfl) fun _ _ _ _ h => h) (pe_ix ix_list (pe_lst (pa_cons (pe_glob (v := .ref T.a_added) (by rfl) T.g_added rfl) (pa_cons (pe_glob (v := .ref T.a_multiplied) (by rfl) T.g_multiplied rfl) (pa_cons (pe_glob (v := .ref T.a_compared) (by rfl) T.g_compared rfl) pa_nil)))) (pe_op op_sub (pv 0) pe_int) (fun _ _ => rfl)) (pa_cons (pv 1) (pa_cons (pe_lst (pa_cons pe_int pa_nil)) pa_nil))))) pss_nil)
      (pss_cons (ps_if (pt_cmpR op_lt (pv 0) pe_int (nomark _)) (pss_one (ps_ret (XCallD.pe_callD (E := E) (passes_call (takes_of rfl rfl rfl rfl) fun _ _ _ _ h => h) (pe_ix ix_list (pe_lst (pa_cons (pe_glob (v := .ref T.a_added) (by rfl) T.g_added rfl) (pa_cons (pe_glob (v := .ref T.a_multiplied) (by rfl) T.g_multiplied rfl) (pa_cons (pe_glob (v := .ref T.a_compared) (by rfl) T.g_compared rfl) pa_nil)))) (pe_op op_sub (pv 0) pe_int) (fun _ _ => rfl)) (pa_cons (pe_lst (pa_cons pe_int pa_nil)) (pa_cons (pv 1) pa_nil))))) pss_nil)
      (pss_cons (ps_if (pt_cmpR op_lt (pv 0) pe_int (nomark _)) (pss_one (ps_ret (XCallD.pe_callD (E := E) (passes_call (takes_of rfl rfl rfl rfl) fun _ _ _ _ h => h) (pe_ix ix_list (pe_lst (pa_cons (pe_glob (v := .ref T.a_negated) (by rfl) T.g_negated rfl) (pa_cons (pe_glob (v := .ref T.a_together) (by rfl) T.g_together rfl) pa_nil))) (pe_op op_sub (pv 0) pe_int) (fun _ _ => rfl)) (pa_cons (pv 1) pa_nil)))) pss_nil)
      (pss_cons (ps_if (pt_cmpR op_eq (pv 0) pe_int (nomark _)) (pss_one (ps_ret (pe_call (ok_together_no T) (hr.mono (by decide)) (by rfl) T.g_together T.F_together.kp T.b_together .nil (passes_call (takes_of rfl rfl rfl rfl) fun _ _ _ _ h => h) (pa_cons (pe_lst (pa_cons (pe_lst (pa_cons pe_int pa_nil)) (pa_cons (pv 1) (pa_cons (pe_lst pa_nil) pa_nil)))) pa_nil)))) pss_nil)
      (pss_one (ps_ret (XCallD.pe_callD (E := E) (passes_call (takes_of rfl rfl rfl rfl) fun _ _ _ _ h => h) (pe_ix ix_list (pe_lst (pa_cons (pe_glob (v := .ref T.a_lean) (by rfl) T.g_lean rfl) (pa_cons (pe_glob (v := .ref T.a_read) (by rfl) T.g_read rfl) pa_nil))) (pe_op op_sub (pv 0) pe_int) (fun _ _ => rfl)) (pa_cons (pv 1) pa_nil)))))))), ?_⟩
    rcases r with ⟨n0, n1, n2, bad, rfl⟩ | ⟨rfl, bad, rfl⟩ | ⟨rfl, px, ix, rfl⟩ | ⟨rfl, th, no, rfl⟩
    · have e : ∀ H', Same H H' → E (.ref T.c_NoRow) none H' := e
      refine ⟨.int n, rfl, _, _, rfl, rfl, _, rfl, ?_⟩
      by_cases h4 : n < 4
      · refine lt_yes h4 ⟨small_ok (by simp), fun l nl => ?_⟩
        have s1 : Same H (upd H l (.lst [.ref T.a_worth, .ref T.a_weight, .ref T.a_is_lean, .ref T.a_shown])) := same_upd nl
        have k1 : SqL K (upd H l (.lst [.ref T.a_worth, .ref T.a_weight, .ref T.a_is_lean, .ref T.a_shown])) l [.ref T.a_worth, .ref T.a_weight, .ref T.a_is_lean, .ref T.a_shown] := SqL.of upd_same
        generalize upd H l (.lst [.ref T.a_worth, .ref T.a_weight, .ref T.a_is_lean, .ref T.a_shown]) = H1 at s1 k1
        have c : n = ((0 : Nat) : Int) ∨ n = ((1 : Nat) : Int) ∨ n = ((2 : Nat) : Int) ∨ n = ((3 : Nat) : Int) := by omega
        rcases c with rfl | rfl | rfl | rfl
        · exact ⟨.int 0, rfl, l, _, _, .ref T.a_worth, rfl, rfl, k1, atI_nat rfl, T.a_worth, rfl, T.F_worth.kp, x, rfl, T.F_worth.kp, _, _, _, _, ok_worth_no T, hr.mono (by decide), T.b_worth, x, rfl, bad.mono s1, fun H' s' => e H' (s1.trans s')⟩
        · exact ⟨.int 1, rfl, l, _, _, .ref T.a_weight, rfl, rfl, k1, atI_nat rfl, T.a_weight, rfl, T.F_weight.kp, x, rfl, T.F_weight.kp, _, _, _, _, ok_weight_no T, hr.mono (by decide), T.b_weight, x, rfl, bad.mono s1, fun H' s' => e H' (s1.trans s')⟩
        · exact ⟨.int 2, rfl, l, _, _, .ref T.a_is_lean, rfl, rfl, k1, atI_nat rfl, T.a_is_lean, rfl, T.F_is_lean.kp, x, rfl, T.F_is_lean.kp, _, _, _, _, ok_is_lean_no T, hr.mono (by decide), T.b_is_lean, x, rfl, bad.mono s1, fun H' s' => e H' (s1.trans s')⟩
        · exact ⟨.int 3, rfl, l, _, _, .ref T.a_shown, rfl, rfl, k1, atI_nat rfl, T.a_shown, rfl, T.F_shown.kp, x, rfl, T.F_shown.kp, _, _, _, _, ok_shown_no T, hr.mono (by decide), T.b_shown, x, rfl, bad.mono s1, fun H' s' => e H' (s1.trans s')⟩
      · refine lt_no h4 ⟨.int n, rfl, _, _, rfl, rfl, _, rfl, ?_⟩
        by_cases h7 : n < 7
        · refine lt_yes h7 ⟨small_ok (by simp), fun l nl => ?_⟩
          have s1 : Same H (upd H l (.lst [.ref T.a_added, .ref T.a_multiplied, .ref T.a_compared])) := same_upd nl
          have k1 : SqL K (upd H l (.lst [.ref T.a_added, .ref T.a_multiplied, .ref T.a_compared])) l [.ref T.a_added, .ref T.a_multiplied, .ref T.a_compared] := SqL.of upd_same
          generalize upd H l (.lst [.ref T.a_added, .ref T.a_multiplied, .ref T.a_compared]) = H1 at s1 k1
          have c : n - 4 = ((0 : Nat) : Int) ∨ n - 4 = ((1 : Nat) : Int) ∨ n - 4 = ((2 : Nat) : Int) := by omega
          refine ⟨.int n, rfl, _, _, rfl, rfl, ?_⟩
          rcases c with c | c | c
          · exact ⟨l, _, _, .ref T.a_added, rfl, rfl, k1, (by rw [c]; exact atI_nat rfl), T.a_added, rfl, T.F_added.kp, x, rfl, small_ok (by simp), fun l2 n2 => ⟨T.F_added.kp, _, _, _, _, ok_added_no T, hr.mono (by decide), T.b_added, x, .ref l2, rfl, .inl (bad.mono (s1.trans (same_upd n2))), fun H' s' => e H' ((s1.trans (same_upd n2)).trans s')⟩⟩
          · exact ⟨l, _, _, .ref T.a_multiplied, rfl, rfl, k1, (by rw [c]; exact atI_nat rfl), T.a_multiplied, rfl, T.F_multiplied.kp, x, rfl, small_ok (by simp), fun l2 n2 => ⟨T.F_multiplied.kp, _, _, _, _, ok_multiplied_no T, hr.mono (by decide), T.b_multiplied, x, .ref l2, rfl, .inl (bad.mono (s1.trans (same_upd n2))), fun H' s' => e H' ((s1.trans (same_upd n2)).trans s')⟩⟩
          · exact ⟨l, _, _, .ref T.a_compared, rfl, rfl, k1, (by rw [c]; exact atI_nat rfl), T.a_compared, rfl, T.F_compared.kp, x, rfl, small_ok (by simp), fun l2 n2 => ⟨T.F_compared.kp, _, _, _, _, ok_compared_no T, hr.mono (by decide), T.b_compared, x, .ref l2, rfl, .inl (bad.mono (s1.trans (same_upd n2))), fun H' s' => e H' ((s1.trans (same_upd n2)).trans s')⟩⟩
        · refine lt_no h7 ⟨.int n, rfl, _, _, rfl, rfl, _, rfl, ?_⟩
          by_cases h10 : n < 10
          · refine lt_yes h10 ⟨small_ok (by simp), fun l nl => ?_⟩
            have s1 : Same H (upd H l (.lst [.ref T.a_added, .ref T.a_multiplied, .ref T.a_compared])) := same_upd nl
            have k1 : SqL K (upd H l (.lst [.ref T.a_added, .ref T.a_multiplied, .ref T.a_compared])) l [.ref T.a_added, .ref T.a_multiplied, .ref T.a_compared] := SqL.of upd_same
            generalize upd H l (.lst [.ref T.a_added, .ref T.a_multiplied, .ref T.a_compared]) = H1 at s1 k1
            have c : n - 7 = ((0 : Nat) : Int) ∨ n - 7 = ((1 : Nat) : Int) ∨ n - 7 = ((2 : Nat) : Int) := by omega
            refine ⟨.int n, rfl, _, _, rfl, rfl, ?_⟩
            rcases c with c | c | c
            · exact ⟨l, _, _, .ref T.a_added, rfl, rfl, k1, (by rw [c]; exact atI_nat rfl), T.a_added, rfl, T.F_added.kp, small_ok (by simp), fun l2 n2 => ⟨x, rfl, T.F_added.kp, _, _, _, _, ok_added_no T, hr.mono (by decide), T.b_added, .ref l2, x, rfl, .inr ⟨good_one upd_same, bad.mono (s1.trans (same_upd n2))⟩, fun H' s' => e H' ((s1.trans (same_upd n2)).trans s')⟩⟩
            · exact ⟨l, _, _, .ref T.a_multiplied, rfl, rfl, k1, (by rw [c]; exact atI_nat rfl), T.a_multiplied, rfl, T.F_multiplied.kp, small_ok (by simp), fun l2 n2 => ⟨x, rfl, T.F_multiplied.kp, _, _, _, _, ok_multiplied_no T, hr.mono (by decide), T.b_multiplied, .ref l2, x, rfl, .inr ⟨good_one upd_same, bad.mono (s1.trans (same_upd n2))⟩, fun H' s' => e H' ((s1.trans (same_upd n2)).trans s')⟩⟩
            · exact ⟨l, _, _, .ref T.a_compared, rfl, rfl, k1, (by rw [c]; exact atI_nat rfl), T.a_compared, rfl, T.F_compared.kp, small_ok (by simp), fun l2 n2 => ⟨x, rfl, T.F_compared.kp, _, _, _, _, ok_compared_no T, hr.mono (by decide), T.b_compared, .ref l2, x, rfl, .inr ⟨good_one upd_same, bad.mono (s1.trans (same_upd n2))⟩, fun H' s' => e H' ((s1.trans (same_upd n2)).trans s')⟩⟩
          · refine lt_no h10 ⟨.int n, rfl, _, _, rfl, rfl, _, rfl, ?_⟩
            by_cases h12 : n < 12
            · refine lt_yes h12 ⟨small_ok (by simp), fun l nl => ?_⟩
              have s1 : Same H (upd H l (.lst [.ref T.a_negated, .ref T.a_together])) := same_upd nl
              have k1 : SqL K (upd H l (.lst [.ref T.a_negated, .ref T.a_together])) l [.ref T.a_negated, .ref T.a_together] := SqL.of upd_same
              generalize upd H l (.lst [.ref T.a_negated, .ref T.a_together]) = H1 at s1 k1
              have c : n - 10 = ((0 : Nat) : Int) := by omega
              refine ⟨.int n, rfl, _, _, rfl, rfl, ?_⟩
              exact ⟨l, _, _, .ref T.a_negated, rfl, rfl, k1, (by rw [c]; exact atI_nat rfl), T.a_negated, rfl, T.F_negated.kp, x, rfl, T.F_negated.kp, _, _, _, _, ok_negated_no T, hr.mono (by decide), T.b_negated, x, rfl, bad.mono s1, fun H' s' => e H' (s1.trans s')⟩
            · have c : n = 12 := by omega
              refine lt_no h12 ⟨.int n, rfl, rfl, _, rfl, eq_yes c ?_⟩
              refine ⟨small_ok (by simp), fun l1 n1 => ⟨x, rfl, Nat.zero_le _, fun l2 n2 => ⟨small_ok (by simp), fun l3 n3 => ?_⟩⟩⟩
              have s1 : Same H (upd H l1 (.lst [.int 1])) := same_upd n1
              have g1 : GoodRow K (upd H l1 (.lst [.int 1])) (.ref l1) := good_one upd_same
              generalize upd H l1 (.lst [.int 1]) = H1 at s1 g1 n2 n3
              have s2 : Same H1 (upd H1 l2 (.lst [])) := same_upd n2
              generalize upd H1 l2 (.lst []) = H2 at s2 n3
              have s3 : Same H2 (upd H2 l3 (.lst [.ref l1, x, .ref l2])) := same_upd n3
              have k3 : SqL K (upd H2 l3 (.lst [.ref l1, x, .ref l2])) l3 [.ref l1, x, .ref l2] := SqL.of upd_same
              generalize upd H2 l3 (.lst [.ref l1, x, .ref l2]) = H3 at s3 k3
              have t3 := s1.trans (s2.trans s3)
              refine ⟨.ref l3, rfl, .inr ⟨l3, _, 1, x, rfl, k3, by show 3 ≤ 1000000; decide, rfl, bad.mono t3, fun j z hj hz => ?_⟩, fun H' s' => e H' (t3.trans s')⟩
              have : j = 0 := by omega
              subst this
              obtain rfl := Option.some.inj hz
              exact g1.mono (s2.trans s3)
    · have e : ∀ H', Same H H' → E (.ref T.c_NoRow) none H' := e
      refine ⟨.int 11, rfl, _, _, rfl, rfl, _, rfl, lt_no (by decide) ?_⟩
      refine ⟨.int 11, rfl, _, _, rfl, rfl, _, rfl, lt_no (by decide) ?_⟩
      refine ⟨.int 11, rfl, _, _, rfl, rfl, _, rfl, lt_no (by decide) ?_⟩
      refine ⟨.int 11, rfl, _, _, rfl, rfl, _, rfl, lt_yes (by decide) ⟨small_ok (by simp), fun l nl => ?_⟩⟩
      have s1 : Same H (upd H l (.lst [.ref T.a_negated, .ref T.a_together])) := same_upd nl
      have k1 : SqL K (upd H l (.lst [.ref T.a_negated, .ref T.a_together])) l [.ref T.a_negated, .ref T.a_together] := SqL.of upd_same
      generalize upd H l (.lst [.ref T.a_negated, .ref T.a_together]) = H1 at s1 k1
      exact ⟨.int 11, rfl, _, _, rfl, rfl, l, _, _, .ref T.a_together, rfl, rfl, k1, atI_nat (j := 1) rfl, T.a_together, rfl, T.F_together.kp, x, rfl, T.F_together.kp, _, _, _, _, ok_together_no T, hr.mono (by decide), T.b_together, x, rfl, bad.mono s1, fun H' s' => e H' (s1.trans s')⟩
    · have e : ∀ H', Same H H' → E (.ref T.c_NoNumber) none H' := e
      refine ⟨.int 13, rfl, _, _, rfl, rfl, _, rfl, lt_no (by decide) ?_⟩
      refine ⟨.int 13, rfl, _, _, rfl, rfl, _, rfl, lt_no (by decide) ?_⟩
      refine ⟨.int 13, rfl, _, _, rfl, rfl, _, rfl, lt_no (by decide) ?_⟩
      refine ⟨.int 13, rfl, _, _, rfl, rfl, _, rfl, lt_no (by decide) ?_⟩
      refine ⟨.int 13, rfl, rfl, _, rfl, eq_no (by decide) ⟨small_ok (by simp), fun l nl => ?_⟩⟩
      have s1 : Same H (upd H l (.lst [.ref T.a_lean, .ref T.a_read])) := same_upd nl
      have k1 : SqL K (upd H l (.lst [.ref T.a_lean, .ref T.a_read])) l [.ref T.a_lean, .ref T.a_read] := SqL.of upd_same
      generalize upd H l (.lst [.ref T.a_lean, .ref T.a_read]) = H1 at s1 k1
      exact ⟨.int 13, rfl, _, _, rfl, rfl, l, _, _, .ref T.a_lean, rfl, rfl, k1, atI_nat (j := 0) rfl, T.a_lean, rfl, T.F_lean.kp, x, rfl, T.F_lean.kp, _, _, _, _, ok_lean_no T, hr.mono (by decide), T.b_lean, x, rfl, px.mono s1, ix, e _ s1⟩
    · have e : ∀ H', Same H H' → E (.ref T.c_NoText) none H' := e
      refine ⟨.int 14, rfl, _, _, rfl, rfl, _, rfl, lt_no (by decide) ?_⟩
      refine ⟨.int 14, rfl, _, _, rfl, rfl, _, rfl, lt_no (by decide) ?_⟩
      refine ⟨.int 14, rfl, _, _, rfl, rfl, _, rfl, lt_no (by decide) ?_⟩
      refine ⟨.int 14, rfl, _, _, rfl, rfl, _, rfl, lt_no (by decide) ?_⟩
      refine ⟨.int 14, rfl, rfl, _, rfl, eq_no (by decide) ⟨small_ok (by simp), fun l nl => ?_⟩⟩
      have s1 : Same H (upd H l (.lst [.ref T.a_lean, .ref T.a_read])) := same_upd nl
      have k1 : SqL K (upd H l (.lst [.ref T.a_lean, .ref T.a_read])) l [.ref T.a_lean, .ref T.a_read] := SqL.of upd_same
      generalize upd H l (.lst [.ref T.a_lean, .ref T.a_read]) = H1 at s1 k1
      exact ⟨.int 14, rfl, _, _, rfl, rfl, l, _, _, .ref T.a_read, rfl, rfl, k1, atI_nat (j := 1) rfl, T.a_read, rfl, T.F_read.kp, x, rfl, T.F_read.kp, _, _, _, _, ok_read_x T hw, hr.mono (by decide), T.b_read, x, rfl, th.mono s1, fun _ H' s' => e H' (s1.trans s'), fun z hz hs => by subst hz; exact absurd (no.symm.trans hs) (by simp)⟩
/-! ### something that is none there -/
def AllP (P : V → Prop) : List V → Prop
  | [] => True
  | x :: r => P x ∧ AllP P r
theorem allP {P : V → Prop} : ∀ {xs : List V}, AllP P xs → ∀ y ∈ xs, P y
  | [], _, _, h => nomatch h
  | x :: r, h, y, hy => by
    rcases List.mem_cons.mp hy with e | e
    · rw [e]
      exact h.1
    · exact allP h.2 y e
theorem pick {P : V → Prop} {xs : List V} (h : AllP P xs) {m : Int} (hm : m = (xs.length : Int)) (h0 : 0 < xs.length) (c : Int) : ∃ y, atI xs (c % m) = some y ∧ P y := by
  have e1 := Int.emod_nonneg c (show m ≠ 0 by omega)
  have e2 := Int.emod_lt_of_pos c (show 0 < m by omega)
  obtain ⟨j, hj⟩ : ∃ j : Nat, c % m = (j : Int) := ⟨(c % m).toNat, by omega⟩
  have hl : j < xs.length := by omega
  rw [hj]
  exact ⟨xs[j], atI_nat (List.getElem?_eq_getElem hl), allP h _ (List.getElem_mem hl)⟩
def kOf (n : Int) : Nat := if n = 13 then 1 else if n = 14 then 2 else 0
def sp_Lthing (K : PySem.W.Frag) : Sp := fun vs H Q _ => ∃ n c : Int, vs = [.int n, .int c] ∧ 0 ≤ n ∧ n ≤ 14 ∧ ∀ H' x, Same H H' → NoneThere K n x H' (kOf n) → Q x H'
theorem ok_Lthing (T : Txt K mg) : FnOk P w K mg base CX0 1 T.a_Lthing T.d_Lthing p_Lthing (sp_Lthing K) := by
  refine T.F_Lthing.ok sc_Lthing (fun vs H Q E h => ?_) (fun cdv A outer s H vs Q E hr h => ?_)
  · obtain ⟨_, _, rfl, _⟩ := h
    rfl
  · obtain ⟨n, c, rfl, n0, n1, q⟩ := h
    refine ⟨_, pss_cons (ps_set (i := 2) sc_Lthing.nd rfl (.inl rfl) (pe_lst (pa_cons pe_non (pa_cons pe_bl (pa_cons pe_bl (pa_cons (pe_tup (pa_cons pe_int pa_nil)) (pa_cons pe_dnewK (pa_cons pe_str (pa_cons pe_str (pa_cons (pe_lst (pa_cons pe_int pa_nil)) (pa_cons (pe_lst (pa_cons pe_int (pa_cons pe_int pa_nil))) (pa_cons (pe_lst (pa_cons pe_int pa_nil)) (pa_cons (pe_lst (pa_cons pe_int (pa_cons pe_bl pa_nil))) (pa_cons (pe_lst (pa_cons pe_int (pa_cons pe_non pa_nil))) (pa_cons (pe_lst (pa_cons pe_str pa_nil)) (pa_cons (pe_lst (pa_cons (pe_lst (pa_cons pe_int pa_nil)) pa_nil)) (pa_cons (pe_tup (pa_cons pe_int (pa_cons pe_int pa_nil))) (pa_cons (pe_lst (pa_cons pe_int (pa_cons pe_int pa_nil))) pa_nil))))))))))))))))))
      (pss_cons (ps_if (pt_cmpR op_eq (pv 0) pe_int (nomark _)) (pss_one (ps_ret (pe_ix ix_list (pe_lst (pa_cons pe_non (pa_cons pe_int (pa_cons pe_bl (pa_cons (pe_lst (pa_cons pe_int pa_nil)) (pa_cons (pe_tup pa_nil) (pa_cons pe_dnewK (pa_cons pe_str (pa_cons pe_str (pa_cons pe_str (pa_cons pe_str (pa_cons pe_str (pa_cons pe_str pa_nil))))))))))))) (pe_op op_mod (pv 1) pe_int) (fun _ _ => rfl)))) pss_nil)
      (pss_cons (ps_if (pt_cmpR op_eq (pv 0) pe_int (nomark _)) (pss_one (ps_ret (pe_ix ix_list (pe_lst (pa_cons pe_non (pa_cons pe_bl (pa_cons pe_bl (pa_cons pe_str (pa_cons (pe_lst (pa_cons pe_int pa_nil)) (pa_cons (pe_tup (pa_cons pe_int pa_nil)) (pa_cons pe_dnewK (pa_cons (pe_lst pa_nil) (pa_cons pe_str (pa_cons (pe_lst (pa_cons pe_int pa_nil)) pa_nil))))))))))) (pe_op op_mod (pv 1) pe_int) (fun _ _ => rfl)))) pss_nil)
      (pss_cons (ps_if (pt_cmpR op_eq (pv 0) pe_int (nomark _)) (pss_one (ps_ret (pe_ix ix_list (pe_lst (pa_cons pe_non (pa_cons pe_int (pa_cons pe_bl (pa_cons pe_str (pa_cons (pe_tup (pa_cons (pe_lst (pa_cons pe_int pa_nil)) pa_nil)) (pa_cons pe_dnewK (pa_cons (pe_lst (pa_cons pe_int pa_nil)) (pa_cons (pe_lst (pa_cons (pe_lst (pa_cons pe_int pa_nil)) (pa_cons pe_non pa_nil))) (pa_cons (pe_lst (pa_cons (pe_lst (pa_cons pe_int pa_nil)) pa_nil)) (pa_cons (pe_lst (pa_cons (pe_lst (pa_cons pe_int pa_nil)) (pa_cons (pe_lst (pa_cons pe_int pa_nil)) pa_nil))) pa_nil))))))))))) (pe_op op_mod (pv 1) pe_int) (fun _ _ => rfl)))) pss_nil)
      (pss_one (ps_ret (pe_ix ix_list (pe_op op_cat (pv 2) (pe_lst (pa_cons pe_int (pa_cons (pe_un un_neg pe_int) (pa_cons pe_str (pa_cons pe_str pa_nil)))))) (pe_op op_mod (pv 1) pe_int) (fun _ _ => rfl))))))), ?_⟩
    refine ⟨small_ok (by simp), fun a1 m1 => ?_⟩
    have s1 : Same H (upd H a1 (.tup [.int 1])) := same_upd m1
    have k1 : (upd H a1 (.tup [.int 1])) a1 = some (.tup [.int 1]) := upd_same
    generalize upd H a1 (.tup [.int 1]) = J1 at s1 k1 
    refine fun a2 m2 => ?_
    have s2 : Same J1 (upd J1 a2 (.dK [])) := same_upd m2
    have k2 : (upd J1 a2 (.dK [])) a2 = some (.dK []) := upd_same
    have k1 := s2 _ _ k1
    generalize upd J1 a2 (.dK []) = J2 at s2 k2 k1
    refine ⟨small_ok (by simp), fun a3 m3 => ?_⟩
    have s3 : Same J2 (upd J2 a3 (.lst [.int 0])) := same_upd m3
    have k3 : (upd J2 a3 (.lst [.int 0])) a3 = some (.lst [.int 0]) := upd_same
    have k1 := s3 _ _ k1
    have k2 := s3 _ _ k2
    generalize upd J2 a3 (.lst [.int 0]) = J3 at s3 k3 k1 k2
    refine ⟨small_ok (by simp), fun a4 m4 => ?_⟩
    have s4 : Same J3 (upd J3 a4 (.lst [.int 1, .int 0])) := same_upd m4
    have k4 : (upd J3 a4 (.lst [.int 1, .int 0])) a4 = some (.lst [.int 1, .int 0]) := upd_same
    have k1 := s4 _ _ k1
    have k2 := s4 _ _ k2
    have k3 := s4 _ _ k3
    generalize upd J3 a4 (.lst [.int 1, .int 0]) = J4 at s4 k4 k1 k2 k3
    refine ⟨small_ok (by simp), fun a5 m5 => ?_⟩
    have s5 : Same J4 (upd J4 a5 (.lst [.int 2])) := same_upd m5
    have k5 : (upd J4 a5 (.lst [.int 2])) a5 = some (.lst [.int 2]) := upd_same
    have k1 := s5 _ _ k1
    have k2 := s5 _ _ k2
    have k3 := s5 _ _ k3
    have k4 := s5 _ _ k4
    generalize upd J4 a5 (.lst [.int 2]) = J5 at s5 k5 k1 k2 k3 k4
    refine ⟨small_ok (by simp), fun a6 m6 => ?_⟩
    have s6 : Same J5 (upd J5 a6 (.lst [.int 1, .bl true])) := same_upd m6
    have k6 : (upd J5 a6 (.lst [.int 1, .bl true])) a6 = some (.lst [.int 1, .bl true]) := upd_same
    have k1 := s6 _ _ k1
    have k2 := s6 _ _ k2
    have k3 := s6 _ _ k3
    have k4 := s6 _ _ k4
    have k5 := s6 _ _ k5
    generalize upd J5 a6 (.lst [.int 1, .bl true]) = J6 at s6 k6 k1 k2 k3 k4 k5
    refine ⟨small_ok (by simp), fun a7 m7 => ?_⟩
    have s7 : Same J6 (upd J6 a7 (.lst [.int 1, .non])) := same_upd m7
    have k7 : (upd J6 a7 (.lst [.int 1, .non])) a7 = some (.lst [.int 1, .non]) := upd_same
    have k1 := s7 _ _ k1
    have k2 := s7 _ _ k2
    have k3 := s7 _ _ k3
    have k4 := s7 _ _ k4
    have k5 := s7 _ _ k5
    have k6 := s7 _ _ k6
    generalize upd J6 a7 (.lst [.int 1, .non]) = J7 at s7 k7 k1 k2 k3 k4 k5 k6
    refine ⟨small_ok (by simp), fun a8 m8 => ?_⟩
    have s8 : Same J7 (upd J7 a8 (.lst [.str "1"])) := same_upd m8
    have k8 : (upd J7 a8 (.lst [.str "1"])) a8 = some (.lst [.str "1"]) := upd_same
    have k1 := s8 _ _ k1
    have k2 := s8 _ _ k2
    have k3 := s8 _ _ k3
    have k4 := s8 _ _ k4
    have k5 := s8 _ _ k5
    have k6 := s8 _ _ k6
    have k7 := s8 _ _ k7
    generalize upd J7 a8 (.lst [.str "1"]) = J8 at s8 k8 k1 k2 k3 k4 k5 k6 k7
    refine ⟨small_ok (by simp), fun a9 m9 => ?_⟩
    have s9 : Same J8 (upd J8 a9 (.lst [.int 1])) := same_upd m9
    have k9 : (upd J8 a9 (.lst [.int 1])) a9 = some (.lst [.int 1]) := upd_same
    have k1 := s9 _ _ k1
    have k2 := s9 _ _ k2
    have k3 := s9 _ _ k3
    have k4 := s9 _ _ k4
    have k5 := s9 _ _ k5
    have k6 := s9 _ _ k6
    have k7 := s9 _ _ k7
    have k8 := s9 _ _ k8
    generalize upd J8 a9 (.lst [.int 1]) = J9 at s9 k9 k1 k2 k3 k4 k5 k6 k7 k8
    refine ⟨small_ok (by simp), fun a10 m10 => ?_⟩
    have s10 : Same J9 (upd J9 a10 (.lst [.ref a9])) := same_upd m10
    have k10 : (upd J9 a10 (.lst [.ref a9])) a10 = some (.lst [.ref a9]) := upd_same
    have k1 := s10 _ _ k1
    have k2 := s10 _ _ k2
    have k3 := s10 _ _ k3
    have k4 := s10 _ _ k4
    have k5 := s10 _ _ k5
    have k6 := s10 _ _ k6
    have k7 := s10 _ _ k7
    have k8 := s10 _ _ k8
    have k9 := s10 _ _ k9
    generalize upd J9 a10 (.lst [.ref a9]) = J10 at s10 k10 k1 k2 k3 k4 k5 k6 k7 k8 k9
    refine ⟨small_ok (by simp), fun a11 m11 => ?_⟩
    have s11 : Same J10 (upd J10 a11 (.tup [.int 0, .int 1])) := same_upd m11
    have k11 : (upd J10 a11 (.tup [.int 0, .int 1])) a11 = some (.tup [.int 0, .int 1]) := upd_same
    have k1 := s11 _ _ k1
    have k2 := s11 _ _ k2
    have k3 := s11 _ _ k3
    have k4 := s11 _ _ k4
    have k5 := s11 _ _ k5
    have k6 := s11 _ _ k6
    have k7 := s11 _ _ k7
    have k8 := s11 _ _ k8
    have k9 := s11 _ _ k9
    have k10 := s11 _ _ k10
    generalize upd J10 a11 (.tup [.int 0, .int 1]) = J11 at s11 k11 k1 k2 k3 k4 k5 k6 k7 k8 k9 k10
    refine ⟨small_ok (by simp), fun a12 m12 => ?_⟩
    have s12 : Same J11 (upd J11 a12 (.lst [.int 0, .int 0])) := same_upd m12
    have k12 : (upd J11 a12 (.lst [.int 0, .int 0])) a12 = some (.lst [.int 0, .int 0]) := upd_same
    have k1 := s12 _ _ k1
    have k2 := s12 _ _ k2
    have k3 := s12 _ _ k3
    have k4 := s12 _ _ k4
    have k5 := s12 _ _ k5
    have k6 := s12 _ _ k6
    have k7 := s12 _ _ k7
    have k8 := s12 _ _ k8
    have k9 := s12 _ _ k9
    have k10 := s12 _ _ k10
    have k11 := s12 _ _ k11
    generalize upd J11 a12 (.lst [.int 0, .int 0]) = J12 at s12 k12 k1 k2 k3 k4 k5 k6 k7 k8 k9 k10 k11
    refine ⟨small_ok (by simp), fun a13 m13 => ?_⟩
    have s13 : Same J12 (upd J12 a13 (.lst [.non, .bl true, .bl false, .ref a1, .ref a2, .str "x", .str "", .ref a3, .ref a4, .ref a5, .ref a6, .ref a7, .ref a8, .ref a10, .ref a11, .ref a12])) := same_upd m13
    have k13 : (upd J12 a13 (.lst [.non, .bl true, .bl false, .ref a1, .ref a2, .str "x", .str "", .ref a3, .ref a4, .ref a5, .ref a6, .ref a7, .ref a8, .ref a10, .ref a11, .ref a12])) a13 = some (.lst [.non, .bl true, .bl false, .ref a1, .ref a2, .str "x", .str "", .ref a3, .ref a4, .ref a5, .ref a6, .ref a7, .ref a8, .ref a10, .ref a11, .ref a12]) := upd_same
    have k1 := s13 _ _ k1
    have k2 := s13 _ _ k2
    have k3 := s13 _ _ k3
    have k4 := s13 _ _ k4
    have k5 := s13 _ _ k5
    have k6 := s13 _ _ k6
    have k7 := s13 _ _ k7
    have k8 := s13 _ _ k8
    have k9 := s13 _ _ k9
    have k10 := s13 _ _ k10
    have k11 := s13 _ _ k11
    have k12 := s13 _ _ k12
    generalize upd J12 a13 (.lst [.non, .bl true, .bl false, .ref a1, .ref a2, .str "x", .str "", .ref a3, .ref a4, .ref a5, .ref a6, .ref a7, .ref a8, .ref a10, .ref a11, .ref a12]) = J13 at s13 k13 k1 k2 k3 k4 k5 k6 k7 k8 k9 k10 k11 k12
    have tt : Same H J13 := s1.trans (s2.trans (s3.trans (s4.trans (s5.trans (s6.trans (s7.trans (s8.trans (s9.trans (s10.trans (s11.trans (s12.trans (s13))))))))))))
    refine ⟨.int n, rfl, rfl, _, rfl, ?_⟩
    by_cases h14 : n = 14
    · subst h14
      refine eq_yes rfl ?_
      refine ⟨small_ok (by simp), fun a1w m1w => ?_⟩
      have s1w : Same J13 (upd J13 a1w (.lst [.int 1])) := same_upd m1w
      have k1w : (upd J13 a1w (.lst [.int 1])) a1w = some (.lst [.int 1]) := upd_same
      generalize upd J13 a1w (.lst [.int 1]) = J1w at s1w k1w 
      refine ⟨small_ok (by simp), fun a2w m2w => ?_⟩
      have s2w : Same J1w (upd J1w a2w (.tup [])) := same_upd m2w
      have k2w : (upd J1w a2w (.tup [])) a2w = some (.tup []) := upd_same
      have k1w := s2w _ _ k1w
      generalize upd J1w a2w (.tup []) = J2w at s2w k2w k1w
      refine fun a3w m3w => ?_
      have s3w : Same J2w (upd J2w a3w (.dK [])) := same_upd m3w
      have k3w : (upd J2w a3w (.dK [])) a3w = some (.dK []) := upd_same
      have k1w := s3w _ _ k1w
      have k2w := s3w _ _ k2w
      generalize upd J2w a3w (.dK []) = J3w at s3w k3w k1w k2w
      refine ⟨small_ok (by simp), fun a4w m4w => ?_⟩
      have s4w : Same J3w (upd J3w a4w (.lst [.non, .int 5, .bl true, .ref a1w, .ref a2w, .ref a3w, .str "", .str "00", .str "0+", .str "+ 0", .str "1", .str "+\n"])) := same_upd m4w
      have k4w : (upd J3w a4w (.lst [.non, .int 5, .bl true, .ref a1w, .ref a2w, .ref a3w, .str "", .str "00", .str "0+", .str "+ 0", .str "1", .str "+\n"])) a4w = some (.lst [.non, .int 5, .bl true, .ref a1w, .ref a2w, .ref a3w, .str "", .str "00", .str "0+", .str "+ 0", .str "1", .str "+\n"]) := upd_same
      have k1w := s4w _ _ k1w
      have k2w := s4w _ _ k2w
      have k3w := s4w _ _ k3w
      generalize upd J3w a4w (.lst [.non, .int 5, .bl true, .ref a1w, .ref a2w, .ref a3w, .str "", .str "00", .str "0+", .str "+ 0", .str "1", .str "+\n"]) = J4w at s4w k4w k1w k2w k3w
      have tw : Same J13 J4w := s1w.trans (s2w.trans (s3w.trans (s4w)))
      obtain ⟨y, hy, py⟩ := pick (P := fun y => ThingT K J4w y ∧ showsB y = false) (xs := [.non, .int 5, .bl true, .ref a1w, .ref a2w, .ref a3w, .str "", .str "00", .str "0+", .str "+ 0", .str "1", .str "+\n"]) ⟨⟨.inr ⟨(fun _ z => nomatch z), noStr_non⟩, rfl⟩, ⟨.inr ⟨(fun _ z => nomatch z), noStr_int _⟩, rfl⟩, ⟨.inr ⟨(fun _ z => nomatch z), noStr_bl _⟩, rfl⟩, ⟨.inr ⟨(fun _ z => nomatch z), noStr_list k1w⟩, rfl⟩, ⟨.inr ⟨(fun _ z => nomatch z), noStr_tup k2w⟩, rfl⟩, ⟨.inr ⟨(fun _ z => nomatch z), noStr_dict k3w⟩, rfl⟩, ⟨.inl ⟨_, rfl, by decide +kernel⟩, by decide +kernel⟩, ⟨.inl ⟨_, rfl, by decide +kernel⟩, by decide +kernel⟩, ⟨.inl ⟨_, rfl, by decide +kernel⟩, by decide +kernel⟩, ⟨.inl ⟨_, rfl, by decide +kernel⟩, by decide +kernel⟩, ⟨.inl ⟨_, rfl, by decide +kernel⟩, by decide +kernel⟩, ⟨.inl ⟨_, rfl, by decide +kernel⟩, by decide +kernel⟩, trivial⟩ (m := 12) rfl (by simp) c
      refine ⟨.int c, rfl, _, _, rfl, rfl, (by show (0 : Int) < 12; decide), a4w, _, _, y, rfl, rfl, SqL.of k4w, hy, ?_⟩
      exact q _ _ (tt.trans tw) (.inr (.inr (.inr ⟨rfl, py.1, py.2, rfl⟩)))
    refine eq_no h14 ⟨.int n, rfl, rfl, _, rfl, ?_⟩
    by_cases h13 : n = 13
    · subst h13
      refine eq_yes rfl ?_
      refine ⟨small_ok (by simp), fun a1w m1w => ?_⟩
      have s1w : Same J13 (upd J13 a1w (.lst [.int 5])) := same_upd m1w
      have k1w : (upd J13 a1w (.lst [.int 5])) a1w = some (.lst [.int 5]) := upd_same
      generalize upd J13 a1w (.lst [.int 5]) = J1w at s1w k1w 
      refine ⟨small_ok (by simp), fun a2w m2w => ?_⟩
      have s2w : Same J1w (upd J1w a2w (.tup [.int 5])) := same_upd m2w
      have k2w : (upd J1w a2w (.tup [.int 5])) a2w = some (.tup [.int 5]) := upd_same
      have k1w := s2w _ _ k1w
      generalize upd J1w a2w (.tup [.int 5]) = J2w at s2w k2w k1w
      refine fun a3w m3w => ?_
      have s3w : Same J2w (upd J2w a3w (.dK [])) := same_upd m3w
      have k3w : (upd J2w a3w (.dK [])) a3w = some (.dK []) := upd_same
      have k1w := s3w _ _ k1w
      have k2w := s3w _ _ k2w
      generalize upd J2w a3w (.dK []) = J3w at s3w k3w k1w k2w
      refine ⟨small_ok (by simp), fun a4w m4w => ?_⟩
      have s4w : Same J3w (upd J3w a4w (.lst [])) := same_upd m4w
      have k4w : (upd J3w a4w (.lst [])) a4w = some (.lst []) := upd_same
      have k1w := s4w _ _ k1w
      have k2w := s4w _ _ k2w
      have k3w := s4w _ _ k3w
      generalize upd J3w a4w (.lst []) = J4w at s4w k4w k1w k2w k3w
      refine ⟨small_ok (by simp), fun a5w m5w => ?_⟩
      have s5w : Same J4w (upd J4w a5w (.lst [.int 0])) := same_upd m5w
      have k5w : (upd J4w a5w (.lst [.int 0])) a5w = some (.lst [.int 0]) := upd_same
      have k1w := s5w _ _ k1w
      have k2w := s5w _ _ k2w
      have k3w := s5w _ _ k3w
      have k4w := s5w _ _ k4w
      generalize upd J4w a5w (.lst [.int 0]) = J5w at s5w k5w k1w k2w k3w k4w
      refine ⟨small_ok (by simp), fun a6w m6w => ?_⟩
      have s6w : Same J5w (upd J5w a6w (.lst [.non, .bl true, .bl false, .str "5", .ref a1w, .ref a2w, .ref a3w, .ref a4w, .str "", .ref a5w])) := same_upd m6w
      have k6w : (upd J5w a6w (.lst [.non, .bl true, .bl false, .str "5", .ref a1w, .ref a2w, .ref a3w, .ref a4w, .str "", .ref a5w])) a6w = some (.lst [.non, .bl true, .bl false, .str "5", .ref a1w, .ref a2w, .ref a3w, .ref a4w, .str "", .ref a5w]) := upd_same
      have k1w := s6w _ _ k1w
      have k2w := s6w _ _ k2w
      have k3w := s6w _ _ k3w
      have k4w := s6w _ _ k4w
      have k5w := s6w _ _ k5w
      generalize upd J5w a6w (.lst [.non, .bl true, .bl false, .str "5", .ref a1w, .ref a2w, .ref a3w, .ref a4w, .str "", .ref a5w]) = J6w at s6w k6w k1w k2w k3w k4w k5w
      have tw : Same J13 J6w := s1w.trans (s2w.trans (s3w.trans (s4w.trans (s5w.trans (s6w)))))
      obtain ⟨y, hy, py⟩ := pick (P := fun y => Plain K J6w y ∧ intV y = false) (xs := [.non, .bl true, .bl false, .str "5", .ref a1w, .ref a2w, .ref a3w, .ref a4w, .str "", .ref a5w]) ⟨⟨plain_non, rfl⟩, ⟨plain_bl _, rfl⟩, ⟨plain_bl _, rfl⟩, ⟨plain_str _, rfl⟩, ⟨plain_list k1w, rfl⟩, ⟨plain_tup k2w, rfl⟩, ⟨plain_dict k3w, rfl⟩, ⟨plain_list k4w, rfl⟩, ⟨plain_str _, rfl⟩, ⟨plain_list k5w, rfl⟩, trivial⟩ (m := 10) rfl (by simp) c
      refine ⟨.int c, rfl, _, _, rfl, rfl, (by show (0 : Int) < 10; decide), a6w, _, _, y, rfl, rfl, SqL.of k6w, hy, ?_⟩
      exact q _ _ (tt.trans tw) (.inr (.inr (.inl ⟨rfl, py.1, py.2, rfl⟩)))
    refine eq_no h13 ⟨.int n, rfl, rfl, _, rfl, ?_⟩
    by_cases h11 : n = 11
    · subst h11
      refine eq_yes rfl ?_
      refine ⟨small_ok (by simp), fun a1w m1w => ?_⟩
      have s1w : Same J13 (upd J13 a1w (.lst [.int 1])) := same_upd m1w
      have k1w : (upd J13 a1w (.lst [.int 1])) a1w = some (.lst [.int 1]) := upd_same
      generalize upd J13 a1w (.lst [.int 1]) = J1w at s1w k1w 
      refine ⟨small_ok (by simp), fun a2w m2w => ?_⟩
      have s2w : Same J1w (upd J1w a2w (.tup [.ref a1w])) := same_upd m2w
      have k2w : (upd J1w a2w (.tup [.ref a1w])) a2w = some (.tup [.ref a1w]) := upd_same
      have k1w := s2w _ _ k1w
      generalize upd J1w a2w (.tup [.ref a1w]) = J2w at s2w k2w k1w
      refine fun a3w m3w => ?_
      have s3w : Same J2w (upd J2w a3w (.dK [])) := same_upd m3w
      have k3w : (upd J2w a3w (.dK [])) a3w = some (.dK []) := upd_same
      have k1w := s3w _ _ k1w
      have k2w := s3w _ _ k2w
      generalize upd J2w a3w (.dK []) = J3w at s3w k3w k1w k2w
      refine ⟨small_ok (by simp), fun a4w m4w => ?_⟩
      have s4w : Same J3w (upd J3w a4w (.lst [.int 5])) := same_upd m4w
      have k4w : (upd J3w a4w (.lst [.int 5])) a4w = some (.lst [.int 5]) := upd_same
      have k1w := s4w _ _ k1w
      have k2w := s4w _ _ k2w
      have k3w := s4w _ _ k3w
      generalize upd J3w a4w (.lst [.int 5]) = J4w at s4w k4w k1w k2w k3w
      refine ⟨small_ok (by simp), fun a5w m5w => ?_⟩
      have s5w : Same J4w (upd J4w a5w (.lst [.int 1])) := same_upd m5w
      have k5w : (upd J4w a5w (.lst [.int 1])) a5w = some (.lst [.int 1]) := upd_same
      have k1w := s5w _ _ k1w
      have k2w := s5w _ _ k2w
      have k3w := s5w _ _ k3w
      have k4w := s5w _ _ k4w
      generalize upd J4w a5w (.lst [.int 1]) = J5w at s5w k5w k1w k2w k3w k4w
      refine ⟨small_ok (by simp), fun a6w m6w => ?_⟩
      have s6w : Same J5w (upd J5w a6w (.lst [.ref a5w, .non])) := same_upd m6w
      have k6w : (upd J5w a6w (.lst [.ref a5w, .non])) a6w = some (.lst [.ref a5w, .non]) := upd_same
      have k1w := s6w _ _ k1w
      have k2w := s6w _ _ k2w
      have k3w := s6w _ _ k3w
      have k4w := s6w _ _ k4w
      have k5w := s6w _ _ k5w
      generalize upd J5w a6w (.lst [.ref a5w, .non]) = J6w at s6w k6w k1w k2w k3w k4w k5w
      refine ⟨small_ok (by simp), fun a7w m7w => ?_⟩
      have s7w : Same J6w (upd J6w a7w (.lst [.int 0])) := same_upd m7w
      have k7w : (upd J6w a7w (.lst [.int 0])) a7w = some (.lst [.int 0]) := upd_same
      have k1w := s7w _ _ k1w
      have k2w := s7w _ _ k2w
      have k3w := s7w _ _ k3w
      have k4w := s7w _ _ k4w
      have k5w := s7w _ _ k5w
      have k6w := s7w _ _ k6w
      generalize upd J6w a7w (.lst [.int 0]) = J7w at s7w k7w k1w k2w k3w k4w k5w k6w
      refine ⟨small_ok (by simp), fun a8w m8w => ?_⟩
      have s8w : Same J7w (upd J7w a8w (.lst [.ref a7w])) := same_upd m8w
      have k8w : (upd J7w a8w (.lst [.ref a7w])) a8w = some (.lst [.ref a7w]) := upd_same
      have k1w := s8w _ _ k1w
      have k2w := s8w _ _ k2w
      have k3w := s8w _ _ k3w
      have k4w := s8w _ _ k4w
      have k5w := s8w _ _ k5w
      have k6w := s8w _ _ k6w
      have k7w := s8w _ _ k7w
      generalize upd J7w a8w (.lst [.ref a7w]) = J8w at s8w k8w k1w k2w k3w k4w k5w k6w k7w
      refine ⟨small_ok (by simp), fun a9w m9w => ?_⟩
      have s9w : Same J8w (upd J8w a9w (.lst [.int 1])) := same_upd m9w
      have k9w : (upd J8w a9w (.lst [.int 1])) a9w = some (.lst [.int 1]) := upd_same
      have k1w := s9w _ _ k1w
      have k2w := s9w _ _ k2w
      have k3w := s9w _ _ k3w
      have k4w := s9w _ _ k4w
      have k5w := s9w _ _ k5w
      have k6w := s9w _ _ k6w
      have k7w := s9w _ _ k7w
      have k8w := s9w _ _ k8w
      generalize upd J8w a9w (.lst [.int 1]) = J9w at s9w k9w k1w k2w k3w k4w k5w k6w k7w k8w
      refine ⟨small_ok (by simp), fun a10w m10w => ?_⟩
      have s10w : Same J9w (upd J9w a10w (.lst [.int 2])) := same_upd m10w
      have k10w : (upd J9w a10w (.lst [.int 2])) a10w = some (.lst [.int 2]) := upd_same
      have k1w := s10w _ _ k1w
      have k2w := s10w _ _ k2w
      have k3w := s10w _ _ k3w
      have k4w := s10w _ _ k4w
      have k5w := s10w _ _ k5w
      have k6w := s10w _ _ k6w
      have k7w := s10w _ _ k7w
      have k8w := s10w _ _ k8w
      have k9w := s10w _ _ k9w
      generalize upd J9w a10w (.lst [.int 2]) = J10w at s10w k10w k1w k2w k3w k4w k5w k6w k7w k8w k9w
      refine ⟨small_ok (by simp), fun a11w m11w => ?_⟩
      have s11w : Same J10w (upd J10w a11w (.lst [.ref a9w, .ref a10w])) := same_upd m11w
      have k11w : (upd J10w a11w (.lst [.ref a9w, .ref a10w])) a11w = some (.lst [.ref a9w, .ref a10w]) := upd_same
      have k1w := s11w _ _ k1w
      have k2w := s11w _ _ k2w
      have k3w := s11w _ _ k3w
      have k4w := s11w _ _ k4w
      have k5w := s11w _ _ k5w
      have k6w := s11w _ _ k6w
      have k7w := s11w _ _ k7w
      have k8w := s11w _ _ k8w
      have k9w := s11w _ _ k9w
      have k10w := s11w _ _ k10w
      generalize upd J10w a11w (.lst [.ref a9w, .ref a10w]) = J11w at s11w k11w k1w k2w k3w k4w k5w k6w k7w k8w k9w k10w
      refine ⟨small_ok (by simp), fun a12w m12w => ?_⟩
      have s12w : Same J11w (upd J11w a12w (.lst [.non, .int 5, .bl true, .str "+", .ref a2w, .ref a3w, .ref a4w, .ref a6w, .ref a8w, .ref a11w])) := same_upd m12w
      have k12w : (upd J11w a12w (.lst [.non, .int 5, .bl true, .str "+", .ref a2w, .ref a3w, .ref a4w, .ref a6w, .ref a8w, .ref a11w])) a12w = some (.lst [.non, .int 5, .bl true, .str "+", .ref a2w, .ref a3w, .ref a4w, .ref a6w, .ref a8w, .ref a11w]) := upd_same
      have k1w := s12w _ _ k1w
      have k2w := s12w _ _ k2w
      have k3w := s12w _ _ k3w
      have k4w := s12w _ _ k4w
      have k5w := s12w _ _ k5w
      have k6w := s12w _ _ k6w
      have k7w := s12w _ _ k7w
      have k8w := s12w _ _ k8w
      have k9w := s12w _ _ k9w
      have k10w := s12w _ _ k10w
      have k11w := s12w _ _ k11w
      generalize upd J11w a12w (.lst [.non, .int 5, .bl true, .str "+", .ref a2w, .ref a3w, .ref a4w, .ref a6w, .ref a8w, .ref a11w]) = J12w at s12w k12w k1w k2w k3w k4w k5w k6w k7w k8w k9w k10w k11w
      have tw : Same J13 J12w := s1w.trans (s2w.trans (s3w.trans (s4w.trans (s5w.trans (s6w.trans (s7w.trans (s8w.trans (s9w.trans (s10w.trans (s11w.trans (s12w)))))))))))
      obtain ⟨y, hy, py⟩ := pick (P := fun y => BadRows K J12w y) (xs := [.non, .int 5, .bl true, .str "+", .ref a2w, .ref a3w, .ref a4w, .ref a6w, .ref a8w, .ref a11w]) ⟨.inl ⟨_, _, kind_non⟩, .inl ⟨_, _, kind_int _⟩, .inl ⟨_, _, kind_bl _⟩, .inl ⟨_, _, kind_str _⟩, .inl ⟨_, _, kind_tup k2w⟩, .inl ⟨_, _, kind_dict k3w⟩, .inr ⟨a4w, _, 0, _, rfl, SqL.of k4w, by simp, rfl, .inl ⟨_, _, kind_int _⟩, (fun j z hj _ => absurd hj (Nat.not_lt_zero j))⟩, .inr ⟨a6w, _, 1, _, rfl, SqL.of k6w, by simp, rfl, .inl ⟨_, _, kind_non⟩, (fun j z hj hz => by obtain rfl : j = 0 := (by omega); obtain rfl := Option.some.inj hz; exact good_one k5w)⟩, .inr ⟨a8w, _, 0, _, rfl, SqL.of k8w, by simp, rfl, .inr ⟨a7w, _, rfl, SqL.of k7w, allP ⟨plain_int _, trivial⟩, by simp, by first | rfl | decide | decide +kernel⟩, (fun j z hj _ => absurd hj (Nat.not_lt_zero j))⟩, .inr ⟨a11w, _, 1, _, rfl, SqL.of k11w, by simp, rfl, .inr ⟨a10w, _, rfl, SqL.of k10w, allP ⟨plain_int _, trivial⟩, by simp, by first | rfl | decide | decide +kernel⟩, (fun j z hj hz => by obtain rfl : j = 0 := (by omega); obtain rfl := Option.some.inj hz; exact good_one k9w)⟩, trivial⟩ (m := 10) rfl (by simp) c
      refine ⟨.int c, rfl, _, _, rfl, rfl, (by show (0 : Int) < 10; decide), a12w, _, _, y, rfl, rfl, SqL.of k12w, hy, ?_⟩
      exact q _ _ (tt.trans tw) (.inr (.inl ⟨rfl, py, rfl⟩))
    refine eq_no h11 ?_
    refine ⟨.ref a13, rfl, 1, rfl, small_ok (by simp), fun b1 o1 => ?_⟩
    have u1 : Same J13 (upd J13 b1 (.lst [.int 5, .int (-1), .str "+", .str "0"])) := same_upd o1
    have v1 : (upd J13 b1 (.lst [.int 5, .int (-1), .str "+", .str "0"])) b1 = some (.lst [.int 5, .int (-1), .str "+", .str "0"]) := upd_same
    have bb : AllP (BadRow K J13) ([.non, .bl true, .bl false, .ref a1, .ref a2, .str "x", .str "", .ref a3, .ref a4, .ref a5, .ref a6, .ref a7, .ref a8, .ref a10, .ref a11, .ref a12] ++ [.int 5, .int (-1), .str "+", .str "0"]) := ⟨.inl ⟨_, _, kind_non⟩, .inl ⟨_, _, kind_bl _⟩, .inl ⟨_, _, kind_bl _⟩, .inl ⟨_, _, kind_tup k1⟩, .inl ⟨_, _, kind_dict k2⟩, .inl ⟨_, _, kind_str _⟩, .inl ⟨_, _, kind_str _⟩, .inr ⟨a3, _, rfl, SqL.of k3, allP ⟨plain_int _, trivial⟩, by simp, by first | rfl | decide | decide +kernel⟩, .inr ⟨a4, _, rfl, SqL.of k4, allP ⟨plain_int _, plain_int _, trivial⟩, by simp, by first | rfl | decide | decide +kernel⟩, .inr ⟨a5, _, rfl, SqL.of k5, allP ⟨plain_int _, trivial⟩, by simp, by first | rfl | decide | decide +kernel⟩, .inr ⟨a6, _, rfl, SqL.of k6, allP ⟨plain_int _, plain_bl _, trivial⟩, by simp, by first | rfl | decide | decide +kernel⟩, .inr ⟨a7, _, rfl, SqL.of k7, allP ⟨plain_int _, plain_non, trivial⟩, by simp, by first | rfl | decide | decide +kernel⟩, .inr ⟨a8, _, rfl, SqL.of k8, allP ⟨plain_str _, trivial⟩, by simp, by first | rfl | decide | decide +kernel⟩, .inr ⟨a10, _, rfl, SqL.of k10, allP ⟨plain_list k9, trivial⟩, by simp, by first | rfl | decide | decide +kernel⟩, .inl ⟨_, _, kind_tup k11⟩, .inr ⟨a12, _, rfl, SqL.of k12, allP ⟨plain_int _, plain_int _, trivial⟩, by simp, by first | rfl | decide | decide +kernel⟩, .inl ⟨_, _, kind_int _⟩, .inl ⟨_, _, kind_int _⟩, .inl ⟨_, _, kind_str _⟩, .inl ⟨_, _, kind_str _⟩, trivial⟩
    have kL := u1 _ _ k13
    generalize upd J13 b1 (.lst [.int 5, .int (-1), .str "+", .str "0"]) = G1 at u1 v1 kL
    refine ⟨a13, b1, _, _, rfl, rfl, kL, v1, small_ok (by simp), fun b2 o2 => ?_⟩
    have u2 : Same G1 (upd G1 b2 (.lst ([.non, .bl true, .bl false, .ref a1, .ref a2, .str "x", .str "", .ref a3, .ref a4, .ref a5, .ref a6, .ref a7, .ref a8, .ref a10, .ref a11, .ref a12] ++ [.int 5, .int (-1), .str "+", .str "0"]))) := same_upd o2
    have v2 : (upd G1 b2 (.lst ([.non, .bl true, .bl false, .ref a1, .ref a2, .str "x", .str "", .ref a3, .ref a4, .ref a5, .ref a6, .ref a7, .ref a8, .ref a10, .ref a11, .ref a12] ++ [.int 5, .int (-1), .str "+", .str "0"]))) b2 = some (.lst ([.non, .bl true, .bl false, .ref a1, .ref a2, .str "x", .str "", .ref a3, .ref a4, .ref a5, .ref a6, .ref a7, .ref a8, .ref a10, .ref a11, .ref a12] ++ [.int 5, .int (-1), .str "+", .str "0"])) := upd_same
    generalize upd G1 b2 (.lst ([.non, .bl true, .bl false, .ref a1, .ref a2, .str "x", .str "", .ref a3, .ref a4, .ref a5, .ref a6, .ref a7, .ref a8, .ref a10, .ref a11, .ref a12] ++ [.int 5, .int (-1), .str "+", .str "0"])) = G2 at u2 v2
    obtain ⟨y, hy, py⟩ := pick bb (m := 20) rfl (by simp) c
    refine ⟨.int c, rfl, _, _, rfl, rfl, (by show (0 : Int) < 20; decide), b2, _, _, y, rfl, rfl, SqL.of v2, hy, ?_⟩
    have ek : kOf n = 0 := by unfold kOf; rw [if_neg h13, if_neg h14]
    exact q _ _ (tt.trans (u1.trans u2)) (by rw [ek]; exact .inl ⟨n0, by omega, h11, (py.mono u1).mono u2, rfl⟩)
/-! ### the law -/
theorem word_at (n : Int) (h0 : 0 ≤ n) (h1 : n ≤ 14) : atI ((List.replicate 13 [V.str "row"]).flatten ++ [V.str "number", V.str "text"]) n = some (.str (wordOf (kOf n))) := by
  obtain ⟨j, rfl⟩ : ∃ j : Nat, n = (j : Int) := ⟨n.toNat, by omega⟩
  have hj : j ≤ 14 := by omega
  have c : j = 0 ∨ j = 1 ∨ j = 2 ∨ j = 3 ∨ j = 4 ∨ j = 5 ∨ j = 6 ∨ j = 7 ∨ j = 8 ∨ j = 9 ∨ j = 10 ∨ j = 11 ∨ j = 12 ∨ j = 13 ∨ j = 14 := by omega
  rcases c with rfl | rfl | rfl | rfl | rfl | rfl | rfl | rfl | rfl | rfl | rfl | rfl | rfl | rfl | rfl <;> exact atI_nat rfl
theorem lean5 {r : List Int} (h1 : Row r) (h2 : gaps r = true) (h3 : val r = 5) : r = [1, 0, 1] := lean_only r [1, 0, 1] h1 ⟨by simp, by simp⟩ h2 (by decide) (by rw [h3]; rfl)
theorem lean3 {r : List Int} (h1 : Row r) (h2 : gaps r = true) (h3 : val r = 3) : r = [-1, 0, 1] := lean_only r [-1, 0, 1] h1 ⟨by simp, by simp⟩ h2 (by decide) (by rw [h3]; rfl)
def sp_law (K : PySem.W.Frag) : Sp := fun vs H Q _ => ∃ (a : Addr) (ns : List Int), vs = [.ref a] ∧ SqL K H a (ns.map V.int) ∧ ns.length ≤ 63 ∧ ∀ H', Q (.bl true) H'
theorem ok_law_at (T : Txt K mg) (hw : T.pw = w.params) {f : Addr} {fd : FuncData} (F : Fun K "law" "law" t_law f fd) (b : Binds K fd p_law []) : FnOk P w K mg base CX0 9 f fd p_law (sp_law K) := by
  refine F.ok sc_law (fun vs H Q E h => ?_) (fun cdv A outer s H vs Q E hr h => ?_)
  · obtain ⟨_, _, rfl, _⟩ := h
    rfl
  · obtain ⟨a, ns, rfl, hS, hlen, q⟩ := h
    refine ⟨_, pss_cons (ps_set (i := 1) sc_law.nd rfl (.inl rfl) (pe_op op_cat (pe_op op_rep (pe_lst (pa_cons pe_str pa_nil)) pe_int) (pe_lst (pa_cons pe_str (pa_cons pe_str pa_nil)))))
      (pss_cons (ps_for PassesOwn.never rfl (pi_enum (by rfl) T.z_enumerate (pa_cons (pe_op op_catS (pv 0) (pe_lst (pa_cons pe_int pa_nil))) pa_nil)) (pg_tup rfl (pgs_cons (pg_name (i := 2) sc_law.nd rfl (.inl rfl)) (pgs_cons (pg_name (i := 3) sc_law.nd rfl (.inl rfl)) pgs_nil)))
        (pss_cons (ps_set (i := 4) sc_law.nd rfl (.inl rfl) (pe_call (ok_Lmixed T) (hr.mono (by decide)) (by rfl) T.g_Lmixed T.F_Lmixed.kp T.b_Lmixed .nil pass0 (pa_cons (pv 3) (pa_cons (pe_op op_mod (pv 2) pe_int) pa_nil))))
        (pss_cons (ps_set (i := 5) sc_law.nd rfl (.inl rfl) (pe_op op_mod (pv 4) pe_int))
        (pss_cons (ps_set (i := 6) sc_law.nd rfl (.inl rfl) (pe_call (ok_Lthing T) (hr.mono (by decide)) (by rfl) T.g_Lthing T.F_Lthing.kp T.b_Lthing .nil pass0 (pa_cons (pv 5) (pa_cons (pe_op op_fdiv (pv 4) pe_int) pa_nil))))
        (pss_cons (ps_if (pt_cmpR op_ne (pe_call (ok_Lword T (R := NoneThere K) (ok_Lasked T hw)) hr (by rfl) T.g_Lword T.F_Lword.kp T.b_Lword .nil pass0 (pa_cons (pv 5) (pa_cons (pv 6) pa_nil))) (pe_ix ix_list (pv 1) (pv 5) (fun _ _ => rfl)) (nomark _)) (pss_one (ps_ret pe_bl)) pss_nil)
        (pss_one (ps_if (PW.pt (pw_or (pt_cmpR (op_neD hr.units) (pe_call (ok_added T) (hr.mono (by decide)) (by rfl) T.g_added T.F_added.kp T.b_added .nil pass0 (pa_cons (pe_lst (pa_cons pe_int (pa_cons pe_int pa_nil))) (pa_cons (pe_lst (pa_cons pe_int (pa_cons pe_int pa_nil))) pa_nil))) (pe_lst (pa_cons pe_int (pa_cons pe_int (pa_cons pe_int pa_nil)))) (nomark _))
          (pw_or (pt_cmpR (op_neD hr.units) (pe_call (ok_lean T) (hr.mono (by decide)) (by rfl) T.g_lean T.F_lean.kp T.b_lean .nil pass0 (pa_cons pe_int pa_nil)) (pe_lst (pa_cons (pe_un un_neg pe_int) (pa_cons pe_int (pa_cons pe_int pa_nil)))) (nomark _))
          (pw_or1 (pt_cmpR (op_neD hr.units) (pe_call (ok_read_good T hw) (hr.mono (by decide)) (by rfl) T.g_read T.F_read.kp T.b_read .nil pass0 (pa_cons pe_str pa_nil)) (pe_lst (pa_cons (pe_un un_neg pe_int) (pa_cons pe_int (pa_cons pe_int pa_nil)))) (nomark _)))))) (pss_one (ps_ret pe_bl)) pss_nil)))))))
      (pss_one (ps_ret pe_bl))), ?_⟩
    have ld : sizeLine = 16777216 := by decide
    refine ⟨small_ok (by simp), fun l1 n1 => ?_⟩
    have s1 : Same H (upd H l1 (.lst [.str "row"])) := same_upd n1
    have k1 : (upd H l1 (.lst [.str "row"])) l1 = some (.lst [.str "row"]) := upd_same
    generalize upd H l1 (.lst [.str "row"]) = H1 at s1 k1
    refine ⟨l1, 13, _, rfl, rfl, k1, by decide, by decide, (by show 13 ≤ sizeLine; omega), fun l2 n2 => ?_⟩
    have e13 : (13 : Int).toNat = 13 := rfl
    rw [e13]
    have s2 : Same H1 (upd H1 l2 (.lst (List.replicate 13 [V.str "row"]).flatten)) := same_upd n2
    have k2 : (upd H1 l2 (.lst (List.replicate 13 [V.str "row"]).flatten)) l2 = some (.lst (List.replicate 13 [V.str "row"]).flatten) := upd_same
    refine ⟨small_ok (by simp), fun l3 n3 => ?_⟩
    generalize upd H1 l2 (.lst (List.replicate 13 [V.str "row"]).flatten) = H2 at s2 k2 n3
    have s3 : Same H2 (upd H2 l3 (.lst [.str "number", .str "text"])) := same_upd n3
    have k3 : (upd H2 l3 (.lst [.str "number", .str "text"])) l3 = some (.lst [.str "number", .str "text"]) := upd_same
    have k23 := s3 _ _ k2
    generalize upd H2 l3 (.lst [.str "number", .str "text"]) = H3 at s3 k3 k23
    refine ⟨l2, l3, _, _, rfl, rfl, k23, k3, (by show 15 ≤ sizeLine; omega), fun lw nw => ?_⟩
    have s4 : Same H3 (upd H3 lw (.lst ((List.replicate 13 [V.str "row"]).flatten ++ [.str "number", .str "text"]))) := same_upd nw
    have kw : SqL K (upd H3 lw (.lst ((List.replicate 13 [V.str "row"]).flatten ++ [.str "number", .str "text"]))) lw ((List.replicate 13 [V.str "row"]).flatten ++ [.str "number", .str "text"]) := SqL.of upd_same
    generalize upd H3 lw (.lst ((List.replicate 13 [V.str "row"]).flatten ++ [.str "number", .str "text"])) = H4 at s4 kw
    have t4 := s1.trans (s2.trans (s3.trans s4))
    have hS4 := t4.seq hS
    refine ⟨.ref a, rfl, small_ok (by simp), fun l5 n5 => ?_⟩
    have s5 : Same H4 (upd H4 l5 (.lst [.int 9])) := same_upd n5
    have k5 : SqL K (upd H4 l5 (.lst [.int 9])) l5 [.int 9] := SqL.of upd_same
    have kw5 := s5.seq kw
    have hS5 := s5.seq hS4
    generalize upd H4 l5 (.lst [.int 9]) = H5 at s5 k5 kw5 hS5
    have lm : (ns.map V.int).length = ns.length := List.length_map ..
    refine ⟨a, l5, ns.map V.int, [.int 9], rfl, rfl, hS5, k5, small_ok (by rw [lm]; show ns.length + 1 ≤ 64; omega), fun l6 n6 => ?_⟩
    have s6 : Same H5 (upd H5 l6 (.lst (ns.map V.int ++ [.int 9]))) := same_upd n6
    have k6 : SqL K (upd H5 l6 (.lst (ns.map V.int ++ [.int 9]))) l6 ((ns ++ [9]).map V.int) := by
      rw [List.map_append]
      exact SqL.of upd_same
    have kw6 := s6.seq kw5
    generalize upd H5 l6 (.lst (ns.map V.int ++ [.int 9])) = H6 at s6 k6 kw6
    generalize ns ++ [9] = xs at k6
    have t6 := t4.trans (s5.trans s6)
    clear s1 s2 s3 s4 s5 s6 k1 k2 k3 k23 k5 kw kw5 hS4 hS5 t4 n1 n2 n3 nw n5 n6
    refine ⟨l6, xs.map V.int, rfl, k6, ?_⟩
    refine for_enum (xs := xs.map V.int) (fun i σ Hx => Same H6 Hx ∧ ∃ y2 y3 y4 y5 y6, σ = [some (.ref a), some (.ref lw), y2, y3, y4, y5, y6]) ⟨Same.refl _, _, _, _, _, _, rfl⟩ (fun i σ Hx e => e.1.seq k6) (fun i x t σ Hx hx e nt => ?_) (fun σ Hx e => ?_)
    · obtain ⟨sx, y2, y3, y4, y5, y6, rfl⟩ := e
      obtain ⟨c, _, rfl⟩ := List.mem_map.mp (List.mem_of_getElem? hx)
      have s2 : Same Hx (upd Hx t (.tup [.int ((i : Nat) : Int), .int c])) := same_upd nt
      refine ⟨t, _, rfl, SqT.of upd_same, rfl, _, _, rfl, _, _, rfl, rfl, ?_⟩
      generalize upd Hx t (.tup [.int ((i : Nat) : Int), .int c]) = H7 at s2
      have t7 := sx.trans s2
      refine ⟨.int c, rfl, .int i, rfl, _, _, rfl, rfl, (by show (0 : Int) < 64; decide), c, (i : Int) % 64, rfl, by omega, by omega, ?_⟩
      obtain ⟨m0, m1⟩ := mixd_b c ((i : Int) % 64)
      generalize mixd c ((i : Int) % 64) = M at m0 m1
      refine ⟨.int M, rfl, _, _, rfl, rfl, (by show (0 : Int) < 15; decide), ?_⟩
      have w0 : 0 ≤ M % 15 ∧ M % 15 ≤ 14 := by omega
      have kl : kOf (M % 15) < 3 := by unfold kOf; split <;> (try split) <;> omega
      show _
      refine ⟨.int (M % 15), rfl, .int M, rfl, _, _, rfl, rfl, ⟨by decide, by decide⟩, M % 15, M / 15, rfl, w0.1, w0.2, fun H8 y s8 none8 => ?_⟩
      have t8 := t7.trans s8
      refine ⟨.int (M % 15), rfl, y, rfl, M % 15, y, kOf (M % 15), rfl, kl, none8, fun H9 s9 => ?_⟩
      have t9 := t8.trans s9
      refine ⟨.ref lw, rfl, .int (M % 15), rfl, lw, _, _, .str (wordOf (kOf (M % 15))), rfl, rfl, t9.seq kw6, word_at _ w0.1 w0.2, rfl, _, rfl, ?_⟩
      rw [decide_eq_true rfl]
      refine iteF ?_
      -- added
      refine ⟨small_ok (by simp), fun l1 n1 => ?_⟩
      have s10 : Same H9 (upd H9 l1 (.lst [.int 1, .int 1])) := same_upd n1
      have r1 : RowAt K (upd H9 l1 (.lst [.int 1, .int 1])) l1 [1, 1] := ⟨SqL.of upd_same, ⟨by simp, by simp⟩, by show 2 ≤ 4000000; decide⟩
      generalize upd H9 l1 (.lst [.int 1, .int 1]) = H10 at s10 r1
      refine ⟨small_ok (by simp), fun l2 n2 => ?_⟩
      have s11 : Same H10 (upd H10 l2 (.lst [.int 0, .int 1])) := same_upd n2
      have r2 : RowAt K (upd H10 l2 (.lst [.int 0, .int 1])) l2 [0, 1] := ⟨SqL.of upd_same, ⟨by simp, by simp⟩, by show 2 ≤ 4000000; decide⟩
      have r12 := r1.mono s11
      generalize upd H10 l2 (.lst [.int 0, .int 1]) = H11 at s11 r2 r12
      have t11 := t9.trans (s10.trans s11)
      refine ⟨l1, l2, [1, 1], [0, 1], 3, rfl, r12, r2, by decide, by decide, fun H12 p r s12 np rr rg rv rl ep => ?_⟩
      have er := lean5 rr rg (by rw [rv]; rfl)
      subst er
      refine ⟨small_ok (by simp), fun l3 n3 => ?_⟩
      have s13 : Same H12 (upd H12 l3 (.lst [.int 1, .int 0, .int 1])) := same_upd n3
      refine ⟨dI [1, 0, 1], dI [1, 0, 1], dp_ints (SqL.of (s13 _ _ ep)), dp_ints (ns := [1, 0, 1]) (SqL.of upd_same), dI_shaped _, dI_shaped _, _, rfl, ?_⟩
      rw [dI_eqv, decide_eq_true rfl]
      refine iteF ?_
      generalize upd H12 l3 (.lst [.int 1, .int 0, .int 1]) = H13 at s13
      have t13 := t11.trans (s12.trans s13)
      -- lean
      refine ⟨3, 2, rfl, by decide, by decide, fun H14 p4 r4 s14 np4 rr4 rg4 rv4 rl4 ep4 => ?_⟩
      have er4 := lean3 rr4 rg4 rv4
      subst er4
      refine ⟨1, rfl, small_ok (by simp), fun l5 n5 => ?_⟩
      have s15 : Same H14 (upd H14 l5 (.lst [.int (-1), .int 0, .int 1])) := same_upd n5
      refine ⟨dI [-1, 0, 1], dI [-1, 0, 1], dp_ints (SqL.of (s15 _ _ ep4)), dp_ints (ns := [-1, 0, 1]) (SqL.of upd_same), dI_shaped _, dI_shaped _, _, rfl, ?_⟩
      rw [dI_eqv, decide_eq_true rfl]
      refine iteF ?_
      generalize upd H14 l5 (.lst [.int (-1), .int 0, .int 1]) = H15 at s15
      have t15 := t13.trans (s14.trans s15)
      -- read
      refine ⟨"+0-", rfl, by decide +kernel, by decide +kernel, fun H16 p6 s16 np6 ep6 => ?_⟩
      have ef : figsL (Str.ofString "+0-").cps.toList = [-1, 0, 1] := by decide +kernel
      rw [ef] at ep6
      refine ⟨1, rfl, small_ok (by simp), fun l7 n7 => ?_⟩
      have s17 : Same H16 (upd H16 l7 (.lst [.int (-1), .int 0, .int 1])) := same_upd n7
      refine ⟨dI [-1, 0, 1], dI [-1, 0, 1], dp_ints (SqL.of (s17 _ _ ep6)), dp_ints (ns := [-1, 0, 1]) (SqL.of upd_same), dI_shaped _, dI_shaped _, ?_⟩
      rw [dI_eqv, decide_eq_true rfl]
      refine ⟨_, rfl, iteF ?_⟩
      exact ⟨t15.trans (s16.trans s17), _, _, _, _, _, rfl⟩
    · exact q _
end
/-! ### what the top has written; the law's own head -/
theorem all_mk {l : PySem.W.OpenLaw} {w : World} {K : PySem.W.Frag} {h : Heap} {mg : Str → Option Value} {fa : Addr} (X : K.In h) (G : h.Ns mainGlobals mg) (hfa : mg "law" = some (.ref fa))
    {f_is_whole : Addr} {od_is_whole an_is_whole : Option Addr} {sl_is_whole : Array (Option Value)} {oc_is_whole kV_is_whole dc_is_whole pm_is_whole cd_is_whole ct_is_whole : Value}
    (a_is_whole : PySem.W.nsIn K mainGlobals "is_whole" = some (some (.ref f_is_whole)))
    (l_is_whole : K.lookup f_is_whole = some ⟨oc_is_whole, od_is_whole, .func (PySem.W.fnOf "is_whole" "is_whole" (defArgs t_is_whole) (defBody t_is_whole) (defScope t_is_whole) .none kV_is_whole dc_is_whole pm_is_whole an_is_whole cd_is_whole ct_is_whole), sl_is_whole⟩)
    (c_is_whole : PySem.W.codeIn K cd_is_whole "is_whole" = true) (k_is_whole : PySem.W.keepIn K (.ref f_is_whole) = true)
    {f_is_figure : Addr} {od_is_figure an_is_figure : Option Addr} {sl_is_figure : Array (Option Value)} {oc_is_figure kV_is_figure dc_is_figure pm_is_figure cd_is_figure ct_is_figure : Value}
    (a_is_figure : PySem.W.nsIn K mainGlobals "is_figure" = some (some (.ref f_is_figure)))
    (l_is_figure : K.lookup f_is_figure = some ⟨oc_is_figure, od_is_figure, .func (PySem.W.fnOf "is_figure" "is_figure" (defArgs t_is_figure) (defBody t_is_figure) (defScope t_is_figure) .none kV_is_figure dc_is_figure pm_is_figure an_is_figure cd_is_figure ct_is_figure), sl_is_figure⟩)
    (c_is_figure : PySem.W.codeIn K cd_is_figure "is_figure" = true) (k_is_figure : PySem.W.keepIn K (.ref f_is_figure) = true)
    {f_is_row : Addr} {od_is_row an_is_row : Option Addr} {sl_is_row : Array (Option Value)} {oc_is_row kV_is_row dc_is_row pm_is_row cd_is_row ct_is_row : Value}
    (a_is_row : PySem.W.nsIn K mainGlobals "is_row" = some (some (.ref f_is_row)))
    (l_is_row : K.lookup f_is_row = some ⟨oc_is_row, od_is_row, .func (PySem.W.fnOf "is_row" "is_row" (defArgs t_is_row) (defBody t_is_row) (defScope t_is_row) .none kV_is_row dc_is_row pm_is_row an_is_row cd_is_row ct_is_row), sl_is_row⟩)
    (c_is_row : PySem.W.codeIn K cd_is_row "is_row" = true) (k_is_row : PySem.W.keepIn K (.ref f_is_row) = true)
    {f_refuse_no_row : Addr} {od_refuse_no_row an_refuse_no_row : Option Addr} {sl_refuse_no_row : Array (Option Value)} {oc_refuse_no_row kV_refuse_no_row dc_refuse_no_row pm_refuse_no_row cd_refuse_no_row ct_refuse_no_row : Value}
    (a_refuse_no_row : PySem.W.nsIn K mainGlobals "refuse_no_row" = some (some (.ref f_refuse_no_row)))
    (l_refuse_no_row : K.lookup f_refuse_no_row = some ⟨oc_refuse_no_row, od_refuse_no_row, .func (PySem.W.fnOf "refuse_no_row" "refuse_no_row" (defArgs t_refuse_no_row) (defBody t_refuse_no_row) (defScope t_refuse_no_row) .none kV_refuse_no_row dc_refuse_no_row pm_refuse_no_row an_refuse_no_row cd_refuse_no_row ct_refuse_no_row), sl_refuse_no_row⟩)
    (c_refuse_no_row : PySem.W.codeIn K cd_refuse_no_row "refuse_no_row" = true) (k_refuse_no_row : PySem.W.keepIn K (.ref f_refuse_no_row) = true)
    {f_refuse_no_number : Addr} {od_refuse_no_number an_refuse_no_number : Option Addr} {sl_refuse_no_number : Array (Option Value)} {oc_refuse_no_number kV_refuse_no_number dc_refuse_no_number pm_refuse_no_number cd_refuse_no_number ct_refuse_no_number : Value}
    (a_refuse_no_number : PySem.W.nsIn K mainGlobals "refuse_no_number" = some (some (.ref f_refuse_no_number)))
    (l_refuse_no_number : K.lookup f_refuse_no_number = some ⟨oc_refuse_no_number, od_refuse_no_number, .func (PySem.W.fnOf "refuse_no_number" "refuse_no_number" (defArgs t_refuse_no_number) (defBody t_refuse_no_number) (defScope t_refuse_no_number) .none kV_refuse_no_number dc_refuse_no_number pm_refuse_no_number an_refuse_no_number cd_refuse_no_number ct_refuse_no_number), sl_refuse_no_number⟩)
    (c_refuse_no_number : PySem.W.codeIn K cd_refuse_no_number "refuse_no_number" = true) (k_refuse_no_number : PySem.W.keepIn K (.ref f_refuse_no_number) = true)
    {f_worth : Addr} {od_worth an_worth : Option Addr} {sl_worth : Array (Option Value)} {oc_worth kV_worth dc_worth pm_worth cd_worth ct_worth : Value}
    (a_worth : PySem.W.nsIn K mainGlobals "worth" = some (some (.ref f_worth)))
    (l_worth : K.lookup f_worth = some ⟨oc_worth, od_worth, .func (PySem.W.fnOf "worth" "worth" (defArgs t_worth) (defBody t_worth) (defScope t_worth) .none kV_worth dc_worth pm_worth an_worth cd_worth ct_worth), sl_worth⟩)
    (c_worth : PySem.W.codeIn K cd_worth "worth" = true) (k_worth : PySem.W.keepIn K (.ref f_worth) = true)
    {f_marked : Addr} {od_marked an_marked : Option Addr} {sl_marked : Array (Option Value)} {oc_marked kV_marked dc_marked pm_marked cd_marked ct_marked : Value}
    (a_marked : PySem.W.nsIn K mainGlobals "marked" = some (some (.ref f_marked)))
    (l_marked : K.lookup f_marked = some ⟨oc_marked, od_marked, .func (PySem.W.fnOf "marked" "marked" (defArgs t_marked) (defBody t_marked) (defScope t_marked) .none kV_marked dc_marked pm_marked an_marked cd_marked ct_marked), sl_marked⟩)
    (c_marked : PySem.W.codeIn K cd_marked "marked" = true) (k_marked : PySem.W.keepIn K (.ref f_marked) = true)
    {f_weight : Addr} {od_weight an_weight : Option Addr} {sl_weight : Array (Option Value)} {oc_weight kV_weight dc_weight pm_weight cd_weight ct_weight : Value}
    (a_weight : PySem.W.nsIn K mainGlobals "weight" = some (some (.ref f_weight)))
    (l_weight : K.lookup f_weight = some ⟨oc_weight, od_weight, .func (PySem.W.fnOf "weight" "weight" (defArgs t_weight) (defBody t_weight) (defScope t_weight) .none kV_weight dc_weight pm_weight an_weight cd_weight ct_weight), sl_weight⟩)
    (c_weight : PySem.W.codeIn K cd_weight "weight" = true) (k_weight : PySem.W.keepIn K (.ref f_weight) = true)
    {f_is_lean : Addr} {od_is_lean an_is_lean : Option Addr} {sl_is_lean : Array (Option Value)} {oc_is_lean kV_is_lean dc_is_lean pm_is_lean cd_is_lean ct_is_lean : Value}
    (a_is_lean : PySem.W.nsIn K mainGlobals "is_lean" = some (some (.ref f_is_lean)))
    (l_is_lean : K.lookup f_is_lean = some ⟨oc_is_lean, od_is_lean, .func (PySem.W.fnOf "is_lean" "is_lean" (defArgs t_is_lean) (defBody t_is_lean) (defScope t_is_lean) .none kV_is_lean dc_is_lean pm_is_lean an_is_lean cd_is_lean ct_is_lean), sl_is_lean⟩)
    (c_is_lean : PySem.W.codeIn K cd_is_lean "is_lean" = true) (k_is_lean : PySem.W.keepIn K (.ref f_is_lean) = true)
    {f_lean : Addr} {od_lean an_lean : Option Addr} {sl_lean : Array (Option Value)} {oc_lean kV_lean dc_lean pm_lean cd_lean ct_lean : Value}
    (a_lean : PySem.W.nsIn K mainGlobals "lean" = some (some (.ref f_lean)))
    (l_lean : K.lookup f_lean = some ⟨oc_lean, od_lean, .func (PySem.W.fnOf "lean" "lean" (defArgs t_lean) (defBody t_lean) (defScope t_lean) .none kV_lean dc_lean pm_lean an_lean cd_lean ct_lean), sl_lean⟩)
    (c_lean : PySem.W.codeIn K cd_lean "lean" = true) (k_lean : PySem.W.keepIn K (.ref f_lean) = true)
    {f_lean_parts : Addr} {od_lean_parts an_lean_parts : Option Addr} {sl_lean_parts : Array (Option Value)} {oc_lean_parts kV_lean_parts dc_lean_parts pm_lean_parts cd_lean_parts ct_lean_parts : Value}
    (a_lean_parts : PySem.W.nsIn K mainGlobals "lean_parts" = some (some (.ref f_lean_parts)))
    (l_lean_parts : K.lookup f_lean_parts = some ⟨oc_lean_parts, od_lean_parts, .func (PySem.W.fnOf "lean_parts" "lean_parts" (defArgs t_lean_parts) (defBody t_lean_parts) (defScope t_lean_parts) .none kV_lean_parts dc_lean_parts pm_lean_parts an_lean_parts cd_lean_parts ct_lean_parts), sl_lean_parts⟩)
    (c_lean_parts : PySem.W.codeIn K cd_lean_parts "lean_parts" = true) (k_lean_parts : PySem.W.keepIn K (.ref f_lean_parts) = true)
    {f_places : Addr} {od_places an_places : Option Addr} {sl_places : Array (Option Value)} {oc_places kV_places dc_places pm_places cd_places ct_places : Value}
    (a_places : PySem.W.nsIn K mainGlobals "places" = some (some (.ref f_places)))
    (l_places : K.lookup f_places = some ⟨oc_places, od_places, .func (PySem.W.fnOf "places" "places" (defArgs t_places) (defBody t_places) (defScope t_places) .none kV_places dc_places pm_places an_places cd_places ct_places), sl_places⟩)
    (c_places : PySem.W.codeIn K cd_places "places" = true) (k_places : PySem.W.keepIn K (.ref f_places) = true)
    {f_shown : Addr} {od_shown an_shown : Option Addr} {sl_shown : Array (Option Value)} {oc_shown kV_shown dc_shown pm_shown cd_shown ct_shown : Value}
    (a_shown : PySem.W.nsIn K mainGlobals "shown" = some (some (.ref f_shown)))
    (l_shown : K.lookup f_shown = some ⟨oc_shown, od_shown, .func (PySem.W.fnOf "shown" "shown" (defArgs t_shown) (defBody t_shown) (defScope t_shown) .none kV_shown dc_shown pm_shown an_shown cd_shown ct_shown), sl_shown⟩)
    (c_shown : PySem.W.codeIn K cd_shown "shown" = true) (k_shown : PySem.W.keepIn K (.ref f_shown) = true)
    {f_read : Addr} {od_read an_read : Option Addr} {sl_read : Array (Option Value)} {oc_read kV_read dc_read pm_read cd_read ct_read : Value}
    (a_read : PySem.W.nsIn K mainGlobals "read" = some (some (.ref f_read)))
    (l_read : K.lookup f_read = some ⟨oc_read, od_read, .func (PySem.W.fnOf "read" "read" (defArgs t_read) (defBody t_read) (defScope t_read) .none kV_read dc_read pm_read an_read cd_read ct_read), sl_read⟩)
    (c_read : PySem.W.codeIn K cd_read "read" = true) (k_read : PySem.W.keepIn K (.ref f_read) = true)
    {f_shows_row : Addr} {od_shows_row an_shows_row : Option Addr} {sl_shows_row : Array (Option Value)} {oc_shows_row kV_shows_row dc_shows_row pm_shows_row cd_shows_row ct_shows_row : Value}
    (a_shows_row : PySem.W.nsIn K mainGlobals "shows_row" = some (some (.ref f_shows_row)))
    (l_shows_row : K.lookup f_shows_row = some ⟨oc_shows_row, od_shows_row, .func (PySem.W.fnOf "shows_row" "shows_row" (defArgs t_shows_row) (defBody t_shows_row) (defScope t_shows_row) .none kV_shows_row dc_shows_row pm_shows_row an_shows_row cd_shows_row ct_shows_row), sl_shows_row⟩)
    (c_shows_row : PySem.W.codeIn K cd_shows_row "shows_row" = true) (k_shows_row : PySem.W.keepIn K (.ref f_shows_row) = true)
    {f_negated : Addr} {od_negated an_negated : Option Addr} {sl_negated : Array (Option Value)} {oc_negated kV_negated dc_negated pm_negated cd_negated ct_negated : Value}
    (a_negated : PySem.W.nsIn K mainGlobals "negated" = some (some (.ref f_negated)))
    (l_negated : K.lookup f_negated = some ⟨oc_negated, od_negated, .func (PySem.W.fnOf "negated" "negated" (defArgs t_negated) (defBody t_negated) (defScope t_negated) .none kV_negated dc_negated pm_negated an_negated cd_negated ct_negated), sl_negated⟩)
    (c_negated : PySem.W.codeIn K cd_negated "negated" = true) (k_negated : PySem.W.keepIn K (.ref f_negated) = true)
    {f_added : Addr} {od_added an_added : Option Addr} {sl_added : Array (Option Value)} {oc_added kV_added dc_added pm_added cd_added ct_added : Value}
    (a_added : PySem.W.nsIn K mainGlobals "added" = some (some (.ref f_added)))
    (l_added : K.lookup f_added = some ⟨oc_added, od_added, .func (PySem.W.fnOf "added" "added" (defArgs t_added) (defBody t_added) (defScope t_added) .none kV_added dc_added pm_added an_added cd_added ct_added), sl_added⟩)
    (c_added : PySem.W.codeIn K cd_added "added" = true) (k_added : PySem.W.keepIn K (.ref f_added) = true)
    {f_multiplied : Addr} {od_multiplied an_multiplied : Option Addr} {sl_multiplied : Array (Option Value)} {oc_multiplied kV_multiplied dc_multiplied pm_multiplied cd_multiplied ct_multiplied : Value}
    (a_multiplied : PySem.W.nsIn K mainGlobals "multiplied" = some (some (.ref f_multiplied)))
    (l_multiplied : K.lookup f_multiplied = some ⟨oc_multiplied, od_multiplied, .func (PySem.W.fnOf "multiplied" "multiplied" (defArgs t_multiplied) (defBody t_multiplied) (defScope t_multiplied) .none kV_multiplied dc_multiplied pm_multiplied an_multiplied cd_multiplied ct_multiplied), sl_multiplied⟩)
    (c_multiplied : PySem.W.codeIn K cd_multiplied "multiplied" = true) (k_multiplied : PySem.W.keepIn K (.ref f_multiplied) = true)
    {f_compared : Addr} {od_compared an_compared : Option Addr} {sl_compared : Array (Option Value)} {oc_compared kV_compared dc_compared pm_compared cd_compared ct_compared : Value}
    (a_compared : PySem.W.nsIn K mainGlobals "compared" = some (some (.ref f_compared)))
    (l_compared : K.lookup f_compared = some ⟨oc_compared, od_compared, .func (PySem.W.fnOf "compared" "compared" (defArgs t_compared) (defBody t_compared) (defScope t_compared) .none kV_compared dc_compared pm_compared an_compared cd_compared ct_compared), sl_compared⟩)
    (c_compared : PySem.W.codeIn K cd_compared "compared" = true) (k_compared : PySem.W.keepIn K (.ref f_compared) = true)
    {f_together : Addr} {od_together an_together : Option Addr} {sl_together : Array (Option Value)} {oc_together kV_together dc_together pm_together cd_together ct_together : Value}
    (a_together : PySem.W.nsIn K mainGlobals "together" = some (some (.ref f_together)))
    (l_together : K.lookup f_together = some ⟨oc_together, od_together, .func (PySem.W.fnOf "together" "together" (defArgs t_together) (defBody t_together) (defScope t_together) .none kV_together dc_together pm_together an_together cd_together ct_together), sl_together⟩)
    (c_together : PySem.W.codeIn K cd_together "together" = true) (k_together : PySem.W.keepIn K (.ref f_together) = true)
    {f_Lmixed : Addr} {od_Lmixed an_Lmixed : Option Addr} {sl_Lmixed : Array (Option Value)} {oc_Lmixed kV_Lmixed dc_Lmixed pm_Lmixed cd_Lmixed ct_Lmixed : Value}
    (a_Lmixed : PySem.W.nsIn K mainGlobals "_law_mixed" = some (some (.ref f_Lmixed)))
    (l_Lmixed : K.lookup f_Lmixed = some ⟨oc_Lmixed, od_Lmixed, .func (PySem.W.fnOf "_law_mixed" "_law_mixed" (defArgs t_Lmixed) (defBody t_Lmixed) (defScope t_Lmixed) .none kV_Lmixed dc_Lmixed pm_Lmixed an_Lmixed cd_Lmixed ct_Lmixed), sl_Lmixed⟩)
    (c_Lmixed : PySem.W.codeIn K cd_Lmixed "_law_mixed" = true) (k_Lmixed : PySem.W.keepIn K (.ref f_Lmixed) = true)
    {f_Lasked : Addr} {od_Lasked an_Lasked : Option Addr} {sl_Lasked : Array (Option Value)} {oc_Lasked kV_Lasked dc_Lasked pm_Lasked cd_Lasked ct_Lasked : Value}
    (a_Lasked : PySem.W.nsIn K mainGlobals "_law_asked" = some (some (.ref f_Lasked)))
    (l_Lasked : K.lookup f_Lasked = some ⟨oc_Lasked, od_Lasked, .func (PySem.W.fnOf "_law_asked" "_law_asked" (defArgs t_Lasked) (defBody t_Lasked) (defScope t_Lasked) .none kV_Lasked dc_Lasked pm_Lasked an_Lasked cd_Lasked ct_Lasked), sl_Lasked⟩)
    (c_Lasked : PySem.W.codeIn K cd_Lasked "_law_asked" = true) (k_Lasked : PySem.W.keepIn K (.ref f_Lasked) = true)
    {f_Lword : Addr} {od_Lword an_Lword : Option Addr} {sl_Lword : Array (Option Value)} {oc_Lword kV_Lword dc_Lword pm_Lword cd_Lword ct_Lword : Value}
    (a_Lword : PySem.W.nsIn K mainGlobals "_law_word" = some (some (.ref f_Lword)))
    (l_Lword : K.lookup f_Lword = some ⟨oc_Lword, od_Lword, .func (PySem.W.fnOf "_law_word" "_law_word" (defArgs t_Lword) (defBody t_Lword) (defScope t_Lword) .none kV_Lword dc_Lword pm_Lword an_Lword cd_Lword ct_Lword), sl_Lword⟩)
    (c_Lword : PySem.W.codeIn K cd_Lword "_law_word" = true) (k_Lword : PySem.W.keepIn K (.ref f_Lword) = true)
    {f_Lthing : Addr} {od_Lthing an_Lthing : Option Addr} {sl_Lthing : Array (Option Value)} {oc_Lthing kV_Lthing dc_Lthing pm_Lthing cd_Lthing ct_Lthing : Value}
    (a_Lthing : PySem.W.nsIn K mainGlobals "_law_thing" = some (some (.ref f_Lthing)))
    (l_Lthing : K.lookup f_Lthing = some ⟨oc_Lthing, od_Lthing, .func (PySem.W.fnOf "_law_thing" "_law_thing" (defArgs t_Lthing) (defBody t_Lthing) (defScope t_Lthing) .none kV_Lthing dc_Lthing pm_Lthing an_Lthing cd_Lthing ct_Lthing), sl_Lthing⟩)
    (c_Lthing : PySem.W.codeIn K cd_Lthing "_law_thing" = true) (k_Lthing : PySem.W.keepIn K (.ref f_Lthing) = true)
    {f_law : Addr} {od_law an_law : Option Addr} {sl_law : Array (Option Value)} {oc_law kV_law dc_law pm_law cd_law ct_law : Value}
    (a_law : PySem.W.nsIn K mainGlobals "law" = some (some (.ref f_law)))
    (l_law : K.lookup f_law = some ⟨oc_law, od_law, .func (PySem.W.fnOf "law" "law" (defArgs t_law) (defBody t_law) (defScope t_law) .none kV_law dc_law pm_law an_law cd_law ct_law), sl_law⟩)
    (c_law : PySem.W.codeIn K cd_law "law" = true) (k_law : PySem.W.keepIn K (.ref f_law) = true)
    {t_EMPTY : Tok} (gl_EMPTY : PySem.W.nsIn K mainGlobals "EMPTY" = some (some (.str "0" t_EMPTY)))
    {D_SIGNS : Addr} {es_SIGNS : Array DictEntry} {n_SIGNS : Nat} (gd_SIGNS : PySem.W.nsIn K mainGlobals "SIGNS" = some (some (.ref D_SIGNS)))
    (at_SIGNS : K.lookup D_SIGNS = some ⟨.type "dict", none, .dict es_SIGNS n_SIGNS, #[]⟩)
    (lo_SIGNS : (D_SIGNS == sysModules) = false)
    (ki_SIGNS : XTab.KeysInt es_SIGNS.toList)
    (ti_SIGNS : XTab.TabI es_SIGNS.toList [(1, "+"), (0, "0"), (-1, "-")])
    {D_FIGURES : Addr} {es_FIGURES : Array DictEntry} {n_FIGURES : Nat} (gd_FIGURES : PySem.W.nsIn K mainGlobals "FIGURES" = some (some (.ref D_FIGURES)))
    (at_FIGURES : K.lookup D_FIGURES = some ⟨.type "dict", none, .dict es_FIGURES n_FIGURES, #[]⟩)
    (lo_FIGURES : (D_FIGURES == sysModules) = false)
    (ki_FIGURES : PySem.W.KeysLit w.params es_FIGURES.toList)
    (ti_FIGURES : XTab.TabS es_FIGURES.toList [("+", 1), ("0", 0), ("-", -1)])
    (z_isinstance : PySem.W.nsIn K mainGlobals "isinstance" = some none)
    (z_int : PySem.W.nsIn K mainGlobals "int" = some none)
    (z_bool : PySem.W.nsIn K mainGlobals "bool" = some none)
    (z_list : PySem.W.nsIn K mainGlobals "list" = some none)
    (z_all : PySem.W.nsIn K mainGlobals "all" = some none)
    (z_len : PySem.W.nsIn K mainGlobals "len" = some none)
    (z_reversed : PySem.W.nsIn K mainGlobals "reversed" = some none)
    (z_zip : PySem.W.nsIn K mainGlobals "zip" = some none)
    (z_max : PySem.W.nsIn K mainGlobals "max" = some none)
    (z_str : PySem.W.nsIn K mainGlobals "str" = some none)
    (z_sum : PySem.W.nsIn K mainGlobals "sum" = some none)
    (z_ValueError : PySem.W.nsIn K mainGlobals "ValueError" = some none)
    (z_enumerate : PySem.W.nsIn K mainGlobals "enumerate" = some none)
    {C_LeanError : Addr} (x_LeanError : PySem.W.nsIn K mainGlobals "LeanError" = some (some (.ref C_LeanError)))
    {C_NoNumber : Addr} (x_NoNumber : PySem.W.nsIn K mainGlobals "NoNumber" = some (some (.ref C_NoNumber)))
    {C_NoRow : Addr} (x_NoRow : PySem.W.nsIn K mainGlobals "NoRow" = some (some (.ref C_NoRow)))
    {C_NoText : Addr} (x_NoText : PySem.W.nsIn K mainGlobals "NoText" = some (some (.ref C_NoText)))
    {C_NoDeeds : Addr} (x_NoDeeds : PySem.W.nsIn K mainGlobals "NoDeeds" = some (some (.ref C_NoDeeds)))
    {C_NoCost : Addr} (x_NoCost : PySem.W.nsIn K mainGlobals "NoCost" = some (some (.ref C_NoCost)))
    (xe_LeanError : PySem.W.excIn K C_LeanError [.type "ValueError", .type "Exception", .type "BaseException", .type "object"] "ValueError.__new__" = true)
    (kpe_LeanError : PySem.W.keepIn K (.ref C_LeanError) = true)
    (bse_LeanError : PySem.W.subIn K (.ref C_LeanError) (.type "BaseException") = some true)
    (vee_LeanError : PySem.W.subIn K (.ref C_LeanError) (.type "ValueError") = some true)
    (tye_LeanError : PySem.W.typeIn K (.ref C_LeanError) = some (.type "type"))
    (ice_LeanError : PySem.W.isClsIn K C_LeanError = true)
    (gae_LeanError : PySem.W.findIn K (.ref C_LeanError) "__getattribute__" = some (some (.builtin "BaseException.__getattribute__")))
    (gte_LeanError : PySem.W.findIn K (.ref C_LeanError) "__getattr__" = some none)
    (gke_LeanError : PySem.W.findIn K (.ref C_LeanError) "__class__" = some (some (.builtin "object.__class__")))
    (hde_LeanError : PySem.W.hasDictIn K C_LeanError = true)
    (moe_LeanError : PySem.W.mroIn K C_LeanError (.type "object") = some true)
    (sue_LeanError_LeanError : PySem.W.subIn K (.ref C_LeanError) (.ref C_LeanError) = some true)
    (sue_LeanError_NoNumber : PySem.W.subIn K (.ref C_LeanError) (.ref C_NoNumber) = some false)
    (sue_LeanError_NoRow : PySem.W.subIn K (.ref C_LeanError) (.ref C_NoRow) = some false)
    (sue_LeanError_NoText : PySem.W.subIn K (.ref C_LeanError) (.ref C_NoText) = some false)
    (sue_LeanError_NoDeeds : PySem.W.subIn K (.ref C_LeanError) (.ref C_NoDeeds) = some false)
    (sue_LeanError_NoCost : PySem.W.subIn K (.ref C_LeanError) (.ref C_NoCost) = some false)
    (xe_NoNumber : PySem.W.excIn K C_NoNumber [.type "ValueError", .type "Exception", .type "BaseException", .type "object"] "ValueError.__new__" = true)
    (kpe_NoNumber : PySem.W.keepIn K (.ref C_NoNumber) = true)
    (bse_NoNumber : PySem.W.subIn K (.ref C_NoNumber) (.type "BaseException") = some true)
    (vee_NoNumber : PySem.W.subIn K (.ref C_NoNumber) (.type "ValueError") = some true)
    (tye_NoNumber : PySem.W.typeIn K (.ref C_NoNumber) = some (.type "type"))
    (ice_NoNumber : PySem.W.isClsIn K C_NoNumber = true)
    (gae_NoNumber : PySem.W.findIn K (.ref C_NoNumber) "__getattribute__" = some (some (.builtin "BaseException.__getattribute__")))
    (gte_NoNumber : PySem.W.findIn K (.ref C_NoNumber) "__getattr__" = some none)
    (gke_NoNumber : PySem.W.findIn K (.ref C_NoNumber) "__class__" = some (some (.builtin "object.__class__")))
    (hde_NoNumber : PySem.W.hasDictIn K C_NoNumber = true)
    (moe_NoNumber : PySem.W.mroIn K C_NoNumber (.type "object") = some true)
    (sue_NoNumber_LeanError : PySem.W.subIn K (.ref C_NoNumber) (.ref C_LeanError) = some true)
    (sue_NoNumber_NoNumber : PySem.W.subIn K (.ref C_NoNumber) (.ref C_NoNumber) = some true)
    (sue_NoNumber_NoRow : PySem.W.subIn K (.ref C_NoNumber) (.ref C_NoRow) = some false)
    (sue_NoNumber_NoText : PySem.W.subIn K (.ref C_NoNumber) (.ref C_NoText) = some false)
    (sue_NoNumber_NoDeeds : PySem.W.subIn K (.ref C_NoNumber) (.ref C_NoDeeds) = some false)
    (sue_NoNumber_NoCost : PySem.W.subIn K (.ref C_NoNumber) (.ref C_NoCost) = some false)
    (xe_NoRow : PySem.W.excIn K C_NoRow [.type "ValueError", .type "Exception", .type "BaseException", .type "object"] "ValueError.__new__" = true)
    (kpe_NoRow : PySem.W.keepIn K (.ref C_NoRow) = true)
    (bse_NoRow : PySem.W.subIn K (.ref C_NoRow) (.type "BaseException") = some true)
    (vee_NoRow : PySem.W.subIn K (.ref C_NoRow) (.type "ValueError") = some true)
    (tye_NoRow : PySem.W.typeIn K (.ref C_NoRow) = some (.type "type"))
    (ice_NoRow : PySem.W.isClsIn K C_NoRow = true)
    (gae_NoRow : PySem.W.findIn K (.ref C_NoRow) "__getattribute__" = some (some (.builtin "BaseException.__getattribute__")))
    (gte_NoRow : PySem.W.findIn K (.ref C_NoRow) "__getattr__" = some none)
    (gke_NoRow : PySem.W.findIn K (.ref C_NoRow) "__class__" = some (some (.builtin "object.__class__")))
    (hde_NoRow : PySem.W.hasDictIn K C_NoRow = true)
    (moe_NoRow : PySem.W.mroIn K C_NoRow (.type "object") = some true)
    (sue_NoRow_LeanError : PySem.W.subIn K (.ref C_NoRow) (.ref C_LeanError) = some true)
    (sue_NoRow_NoNumber : PySem.W.subIn K (.ref C_NoRow) (.ref C_NoNumber) = some false)
    (sue_NoRow_NoRow : PySem.W.subIn K (.ref C_NoRow) (.ref C_NoRow) = some true)
    (sue_NoRow_NoText : PySem.W.subIn K (.ref C_NoRow) (.ref C_NoText) = some false)
    (sue_NoRow_NoDeeds : PySem.W.subIn K (.ref C_NoRow) (.ref C_NoDeeds) = some false)
    (sue_NoRow_NoCost : PySem.W.subIn K (.ref C_NoRow) (.ref C_NoCost) = some false)
    (xe_NoText : PySem.W.excIn K C_NoText [.type "ValueError", .type "Exception", .type "BaseException", .type "object"] "ValueError.__new__" = true)
    (kpe_NoText : PySem.W.keepIn K (.ref C_NoText) = true)
    (bse_NoText : PySem.W.subIn K (.ref C_NoText) (.type "BaseException") = some true)
    (vee_NoText : PySem.W.subIn K (.ref C_NoText) (.type "ValueError") = some true)
    (tye_NoText : PySem.W.typeIn K (.ref C_NoText) = some (.type "type"))
    (ice_NoText : PySem.W.isClsIn K C_NoText = true)
    (gae_NoText : PySem.W.findIn K (.ref C_NoText) "__getattribute__" = some (some (.builtin "BaseException.__getattribute__")))
    (gte_NoText : PySem.W.findIn K (.ref C_NoText) "__getattr__" = some none)
    (gke_NoText : PySem.W.findIn K (.ref C_NoText) "__class__" = some (some (.builtin "object.__class__")))
    (hde_NoText : PySem.W.hasDictIn K C_NoText = true)
    (moe_NoText : PySem.W.mroIn K C_NoText (.type "object") = some true)
    (sue_NoText_LeanError : PySem.W.subIn K (.ref C_NoText) (.ref C_LeanError) = some true)
    (sue_NoText_NoNumber : PySem.W.subIn K (.ref C_NoText) (.ref C_NoNumber) = some false)
    (sue_NoText_NoRow : PySem.W.subIn K (.ref C_NoText) (.ref C_NoRow) = some false)
    (sue_NoText_NoText : PySem.W.subIn K (.ref C_NoText) (.ref C_NoText) = some true)
    (sue_NoText_NoDeeds : PySem.W.subIn K (.ref C_NoText) (.ref C_NoDeeds) = some false)
    (sue_NoText_NoCost : PySem.W.subIn K (.ref C_NoText) (.ref C_NoCost) = some false)
    (xe_NoDeeds : PySem.W.excIn K C_NoDeeds [.type "ValueError", .type "Exception", .type "BaseException", .type "object"] "ValueError.__new__" = true)
    (kpe_NoDeeds : PySem.W.keepIn K (.ref C_NoDeeds) = true)
    (bse_NoDeeds : PySem.W.subIn K (.ref C_NoDeeds) (.type "BaseException") = some true)
    (vee_NoDeeds : PySem.W.subIn K (.ref C_NoDeeds) (.type "ValueError") = some true)
    (tye_NoDeeds : PySem.W.typeIn K (.ref C_NoDeeds) = some (.type "type"))
    (ice_NoDeeds : PySem.W.isClsIn K C_NoDeeds = true)
    (gae_NoDeeds : PySem.W.findIn K (.ref C_NoDeeds) "__getattribute__" = some (some (.builtin "BaseException.__getattribute__")))
    (gte_NoDeeds : PySem.W.findIn K (.ref C_NoDeeds) "__getattr__" = some none)
    (gke_NoDeeds : PySem.W.findIn K (.ref C_NoDeeds) "__class__" = some (some (.builtin "object.__class__")))
    (hde_NoDeeds : PySem.W.hasDictIn K C_NoDeeds = true)
    (moe_NoDeeds : PySem.W.mroIn K C_NoDeeds (.type "object") = some true)
    (sue_NoDeeds_LeanError : PySem.W.subIn K (.ref C_NoDeeds) (.ref C_LeanError) = some true)
    (sue_NoDeeds_NoNumber : PySem.W.subIn K (.ref C_NoDeeds) (.ref C_NoNumber) = some false)
    (sue_NoDeeds_NoRow : PySem.W.subIn K (.ref C_NoDeeds) (.ref C_NoRow) = some false)
    (sue_NoDeeds_NoText : PySem.W.subIn K (.ref C_NoDeeds) (.ref C_NoText) = some false)
    (sue_NoDeeds_NoDeeds : PySem.W.subIn K (.ref C_NoDeeds) (.ref C_NoDeeds) = some true)
    (sue_NoDeeds_NoCost : PySem.W.subIn K (.ref C_NoDeeds) (.ref C_NoCost) = some false)
    (xe_NoCost : PySem.W.excIn K C_NoCost [.type "ValueError", .type "Exception", .type "BaseException", .type "object"] "ValueError.__new__" = true)
    (kpe_NoCost : PySem.W.keepIn K (.ref C_NoCost) = true)
    (bse_NoCost : PySem.W.subIn K (.ref C_NoCost) (.type "BaseException") = some true)
    (vee_NoCost : PySem.W.subIn K (.ref C_NoCost) (.type "ValueError") = some true)
    (tye_NoCost : PySem.W.typeIn K (.ref C_NoCost) = some (.type "type"))
    (ice_NoCost : PySem.W.isClsIn K C_NoCost = true)
    (gae_NoCost : PySem.W.findIn K (.ref C_NoCost) "__getattribute__" = some (some (.builtin "BaseException.__getattribute__")))
    (gte_NoCost : PySem.W.findIn K (.ref C_NoCost) "__getattr__" = some none)
    (gke_NoCost : PySem.W.findIn K (.ref C_NoCost) "__class__" = some (some (.builtin "object.__class__")))
    (hde_NoCost : PySem.W.hasDictIn K C_NoCost = true)
    (moe_NoCost : PySem.W.mroIn K C_NoCost (.type "object") = some true)
    (sue_NoCost_LeanError : PySem.W.subIn K (.ref C_NoCost) (.ref C_LeanError) = some true)
    (sue_NoCost_NoNumber : PySem.W.subIn K (.ref C_NoCost) (.ref C_NoNumber) = some false)
    (sue_NoCost_NoRow : PySem.W.subIn K (.ref C_NoCost) (.ref C_NoRow) = some false)
    (sue_NoCost_NoText : PySem.W.subIn K (.ref C_NoCost) (.ref C_NoText) = some false)
    (sue_NoCost_NoDeeds : PySem.W.subIn K (.ref C_NoCost) (.ref C_NoDeeds) = some false)
    (sue_NoCost_NoCost : PySem.W.subIn K (.ref C_NoCost) (.ref C_NoCost) = some true)
    (spe_class : PySem.W.specialIn K (.builtin "object.__class__") "__get__" = some (some (.builtin "getset_descriptor.__get__")))
    (tke_class : PySem.W.takesIn K (.builtin "object.__class__") = some true)
    (dg : PySem.W.nsIn K cStatics "sys.int_max_str_digits" = some none) :
    ∃ fd : FuncData, (∀ (s : Shared) (v : Value), BindsTo s fd ⟨[v], []⟩ [("_law_script", v)]) ∧ ∀ base : Heap, K.In base → base.Ns mainGlobals mg → FnOk l.prog w K mg base CX0 9 fa fd p_law (sp_law K) := by
  have e := hfa.symm.trans (PySem.W.mg_of X G a_law)
  cases e
  have F_is_whole := fun_mk (st := t_is_whole) l_is_whole c_is_whole k_is_whole
  have b_is_whole := F_is_whole.binds (ps := p_is_whole) fun _ _ _ _ _ _ us hl => match us, hl with | [_], _ => rfl
  have F_is_figure := fun_mk (st := t_is_figure) l_is_figure c_is_figure k_is_figure
  have b_is_figure := F_is_figure.binds (ps := p_is_figure) fun _ _ _ _ _ _ us hl => match us, hl with | [_], _ => rfl
  have F_is_row := fun_mk (st := t_is_row) l_is_row c_is_row k_is_row
  have b_is_row := F_is_row.binds (ps := p_is_row) fun _ _ _ _ _ _ us hl => match us, hl with | [_], _ => rfl
  have F_refuse_no_row := fun_mk (st := t_refuse_no_row) l_refuse_no_row c_refuse_no_row k_refuse_no_row
  have b_refuse_no_row := F_refuse_no_row.binds (ps := p_refuse_no_row) fun _ _ _ _ _ _ us hl => match us, hl with | [_], _ => rfl
  have F_refuse_no_number := fun_mk (st := t_refuse_no_number) l_refuse_no_number c_refuse_no_number k_refuse_no_number
  have b_refuse_no_number := F_refuse_no_number.binds (ps := p_refuse_no_number) fun _ _ _ _ _ _ us hl => match us, hl with | [_], _ => rfl
  have F_worth := fun_mk (st := t_worth) l_worth c_worth k_worth
  have b_worth := F_worth.binds (ps := p_worth) fun _ _ _ _ _ _ us hl => match us, hl with | [_], _ => rfl
  have F_marked := fun_mk (st := t_marked) l_marked c_marked k_marked
  have b_marked := F_marked.binds (ps := p_marked) fun _ _ _ _ _ _ us hl => match us, hl with | [_, _], _ => rfl
  have F_weight := fun_mk (st := t_weight) l_weight c_weight k_weight
  have b_weight := F_weight.binds (ps := p_weight) fun _ _ _ _ _ _ us hl => match us, hl with | [_], _ => rfl
  have F_is_lean := fun_mk (st := t_is_lean) l_is_lean c_is_lean k_is_lean
  have b_is_lean := F_is_lean.binds (ps := p_is_lean) fun _ _ _ _ _ _ us hl => match us, hl with | [_], _ => rfl
  have F_lean := fun_mk (st := t_lean) l_lean c_lean k_lean
  have b_lean := F_lean.binds (ps := p_lean) fun _ _ _ _ _ _ us hl => match us, hl with | [_], _ => rfl
  have F_lean_parts := fun_mk (st := t_lean_parts) l_lean_parts c_lean_parts k_lean_parts
  have b_lean_parts := F_lean_parts.binds (ps := p_lean_parts) fun _ _ _ _ _ _ us hl => match us, hl with | [_], _ => rfl
  have F_places := fun_mk (st := t_places) l_places c_places k_places
  have b_places := F_places.binds (ps := p_places) fun _ _ _ _ _ _ us hl => match us, hl with | [_, _], _ => rfl
  have F_shown := fun_mk (st := t_shown) l_shown c_shown k_shown
  have b_shown := F_shown.binds (ps := p_shown) fun _ _ _ _ _ _ us hl => match us, hl with | [_], _ => rfl
  have F_read := fun_mk (st := t_read) l_read c_read k_read
  have b_read := F_read.binds (ps := p_read) fun _ _ _ _ _ _ us hl => match us, hl with | [_], _ => rfl
  have F_shows_row := fun_mk (st := t_shows_row) l_shows_row c_shows_row k_shows_row
  have b_shows_row := F_shows_row.binds (ps := p_shows_row) fun _ _ _ _ _ _ us hl => match us, hl with | [_], _ => rfl
  have F_negated := fun_mk (st := t_negated) l_negated c_negated k_negated
  have b_negated := F_negated.binds (ps := p_negated) fun _ _ _ _ _ _ us hl => match us, hl with | [_], _ => rfl
  have F_added := fun_mk (st := t_added) l_added c_added k_added
  have b_added := F_added.binds (ps := p_added) fun _ _ _ _ _ _ us hl => match us, hl with | [_, _], _ => rfl
  have F_multiplied := fun_mk (st := t_multiplied) l_multiplied c_multiplied k_multiplied
  have b_multiplied := F_multiplied.binds (ps := p_multiplied) fun _ _ _ _ _ _ us hl => match us, hl with | [_, _], _ => rfl
  have F_compared := fun_mk (st := t_compared) l_compared c_compared k_compared
  have b_compared := F_compared.binds (ps := p_compared) fun _ _ _ _ _ _ us hl => match us, hl with | [_, _], _ => rfl
  have F_together := fun_mk (st := t_together) l_together c_together k_together
  have b_together := F_together.binds (ps := p_together) fun _ _ _ _ _ _ us hl => match us, hl with | [_], _ => rfl
  have F_Lmixed := fun_mk (st := t_Lmixed) l_Lmixed c_Lmixed k_Lmixed
  have b_Lmixed := F_Lmixed.binds (ps := p_Lmixed) fun _ _ _ _ _ _ us hl => match us, hl with | [_, _], _ => rfl
  have F_Lasked := fun_mk (st := t_Lasked) l_Lasked c_Lasked k_Lasked
  have b_Lasked := F_Lasked.binds (ps := p_Lasked) fun _ _ _ _ _ _ us hl => match us, hl with | [_, _], _ => rfl
  have F_Lword := fun_mk (st := t_Lword) l_Lword c_Lword k_Lword
  have b_Lword := F_Lword.binds (ps := p_Lword) fun _ _ _ _ _ _ us hl => match us, hl with | [_, _], _ => rfl
  have F_Lthing := fun_mk (st := t_Lthing) l_Lthing c_Lthing k_Lthing
  have b_Lthing := F_Lthing.binds (ps := p_Lthing) fun _ _ _ _ _ _ us hl => match us, hl with | [_, _], _ => rfl
  have F_law := fun_mk (st := t_law) l_law c_law k_law
  have b_law := F_law.binds (ps := p_law) fun _ _ _ _ _ _ us hl => match us, hl with | [_], _ => rfl
  obtain ⟨T, hT⟩ : ∃ T : Txt K mg, T.pw = w.params := ⟨{
    a_is_whole := _, d_is_whole := _, F_is_whole := F_is_whole, b_is_whole := b_is_whole, g_is_whole := PySem.W.mg_of X G a_is_whole,
    a_is_figure := _, d_is_figure := _, F_is_figure := F_is_figure, b_is_figure := b_is_figure, g_is_figure := PySem.W.mg_of X G a_is_figure,
    a_is_row := _, d_is_row := _, F_is_row := F_is_row, b_is_row := b_is_row, g_is_row := PySem.W.mg_of X G a_is_row,
    a_refuse_no_row := _, d_refuse_no_row := _, F_refuse_no_row := F_refuse_no_row, b_refuse_no_row := b_refuse_no_row, g_refuse_no_row := PySem.W.mg_of X G a_refuse_no_row,
    a_refuse_no_number := _, d_refuse_no_number := _, F_refuse_no_number := F_refuse_no_number, b_refuse_no_number := b_refuse_no_number, g_refuse_no_number := PySem.W.mg_of X G a_refuse_no_number,
    a_worth := _, d_worth := _, F_worth := F_worth, b_worth := b_worth, g_worth := PySem.W.mg_of X G a_worth,
    a_marked := _, d_marked := _, F_marked := F_marked, b_marked := b_marked, g_marked := PySem.W.mg_of X G a_marked,
    a_weight := _, d_weight := _, F_weight := F_weight, b_weight := b_weight, g_weight := PySem.W.mg_of X G a_weight,
    a_is_lean := _, d_is_lean := _, F_is_lean := F_is_lean, b_is_lean := b_is_lean, g_is_lean := PySem.W.mg_of X G a_is_lean,
    a_lean := _, d_lean := _, F_lean := F_lean, b_lean := b_lean, g_lean := PySem.W.mg_of X G a_lean,
    a_lean_parts := _, d_lean_parts := _, F_lean_parts := F_lean_parts, b_lean_parts := b_lean_parts, g_lean_parts := PySem.W.mg_of X G a_lean_parts,
    a_places := _, d_places := _, F_places := F_places, b_places := b_places, g_places := PySem.W.mg_of X G a_places,
    a_shown := _, d_shown := _, F_shown := F_shown, b_shown := b_shown, g_shown := PySem.W.mg_of X G a_shown,
    a_read := _, d_read := _, F_read := F_read, b_read := b_read, g_read := PySem.W.mg_of X G a_read,
    a_shows_row := _, d_shows_row := _, F_shows_row := F_shows_row, b_shows_row := b_shows_row, g_shows_row := PySem.W.mg_of X G a_shows_row,
    a_negated := _, d_negated := _, F_negated := F_negated, b_negated := b_negated, g_negated := PySem.W.mg_of X G a_negated,
    a_added := _, d_added := _, F_added := F_added, b_added := b_added, g_added := PySem.W.mg_of X G a_added,
    a_multiplied := _, d_multiplied := _, F_multiplied := F_multiplied, b_multiplied := b_multiplied, g_multiplied := PySem.W.mg_of X G a_multiplied,
    a_compared := _, d_compared := _, F_compared := F_compared, b_compared := b_compared, g_compared := PySem.W.mg_of X G a_compared,
    a_together := _, d_together := _, F_together := F_together, b_together := b_together, g_together := PySem.W.mg_of X G a_together,
    a_Lmixed := _, d_Lmixed := _, F_Lmixed := F_Lmixed, b_Lmixed := b_Lmixed, g_Lmixed := PySem.W.mg_of X G a_Lmixed,
    a_Lasked := _, d_Lasked := _, F_Lasked := F_Lasked, b_Lasked := b_Lasked, g_Lasked := PySem.W.mg_of X G a_Lasked,
    a_Lword := _, d_Lword := _, F_Lword := F_Lword, b_Lword := b_Lword, g_Lword := PySem.W.mg_of X G a_Lword,
    a_Lthing := _, d_Lthing := _, F_Lthing := F_Lthing, b_Lthing := b_Lthing, g_Lthing := PySem.W.mg_of X G a_Lthing,
    a_law := _, d_law := _, F_law := F_law, b_law := b_law, g_law := PySem.W.mg_of X G a_law,
    pw := w.params,
    gl_EMPTY := ⟨_, PySem.W.mg_of X G gl_EMPTY⟩,
    D_SIGNS := _, gd_SIGNS := PySem.W.mg_of X G gd_SIGNS, es_SIGNS := _, n_SIGNS := _, at_SIGNS := at_SIGNS, lo_SIGNS := lo_SIGNS, ki_SIGNS := ki_SIGNS, ti_SIGNS := ti_SIGNS,
    D_FIGURES := _, gd_FIGURES := PySem.W.mg_of X G gd_FIGURES, es_FIGURES := _, n_FIGURES := _, at_FIGURES := at_FIGURES, lo_FIGURES := lo_FIGURES, kl_FIGURES := ki_FIGURES, ti_FIGURES := ti_FIGURES,
    z_isinstance := PySem.W.mg_none_of X G z_isinstance,
    z_int := PySem.W.mg_none_of X G z_int,
    z_bool := PySem.W.mg_none_of X G z_bool,
    z_list := PySem.W.mg_none_of X G z_list,
    z_all := PySem.W.mg_none_of X G z_all,
    z_len := PySem.W.mg_none_of X G z_len,
    z_reversed := PySem.W.mg_none_of X G z_reversed,
    z_zip := PySem.W.mg_none_of X G z_zip,
    z_max := PySem.W.mg_none_of X G z_max,
    z_str := PySem.W.mg_none_of X G z_str,
    z_sum := PySem.W.mg_none_of X G z_sum,
    z_ValueError := PySem.W.mg_none_of X G z_ValueError,
    z_enumerate := PySem.W.mg_none_of X G z_enumerate,
    c_LeanError := _, gc_LeanError := PySem.W.mg_of X G x_LeanError,
    c_NoNumber := _, gc_NoNumber := PySem.W.mg_of X G x_NoNumber,
    c_NoRow := _, gc_NoRow := PySem.W.mg_of X G x_NoRow,
    c_NoText := _, gc_NoText := PySem.W.mg_of X G x_NoText,
    c_NoDeeds := _, gc_NoDeeds := PySem.W.mg_of X G x_NoDeeds,
    c_NoCost := _, gc_NoCost := PySem.W.mg_of X G x_NoCost,
    x_LeanError := xe_LeanError,
    kp_LeanError := kpe_LeanError,
    bs_LeanError := bse_LeanError,
    ve_LeanError := vee_LeanError,
    ty_LeanError := tye_LeanError,
    ic_LeanError := ice_LeanError,
    ga_LeanError := gae_LeanError,
    gt_LeanError := gte_LeanError,
    gk_LeanError := gke_LeanError,
    hd_LeanError := hde_LeanError,
    mo_LeanError := moe_LeanError,
    su_LeanError_LeanError := sue_LeanError_LeanError,
    su_LeanError_NoNumber := sue_LeanError_NoNumber,
    su_LeanError_NoRow := sue_LeanError_NoRow,
    su_LeanError_NoText := sue_LeanError_NoText,
    su_LeanError_NoDeeds := sue_LeanError_NoDeeds,
    su_LeanError_NoCost := sue_LeanError_NoCost,
    x_NoNumber := xe_NoNumber,
    kp_NoNumber := kpe_NoNumber,
    bs_NoNumber := bse_NoNumber,
    ve_NoNumber := vee_NoNumber,
    ty_NoNumber := tye_NoNumber,
    ic_NoNumber := ice_NoNumber,
    ga_NoNumber := gae_NoNumber,
    gt_NoNumber := gte_NoNumber,
    gk_NoNumber := gke_NoNumber,
    hd_NoNumber := hde_NoNumber,
    mo_NoNumber := moe_NoNumber,
    su_NoNumber_LeanError := sue_NoNumber_LeanError,
    su_NoNumber_NoNumber := sue_NoNumber_NoNumber,
    su_NoNumber_NoRow := sue_NoNumber_NoRow,
    su_NoNumber_NoText := sue_NoNumber_NoText,
    su_NoNumber_NoDeeds := sue_NoNumber_NoDeeds,
    su_NoNumber_NoCost := sue_NoNumber_NoCost,
    x_NoRow := xe_NoRow,
    kp_NoRow := kpe_NoRow,
    bs_NoRow := bse_NoRow,
    ve_NoRow := vee_NoRow,
    ty_NoRow := tye_NoRow,
    ic_NoRow := ice_NoRow,
    ga_NoRow := gae_NoRow,
    gt_NoRow := gte_NoRow,
    gk_NoRow := gke_NoRow,
    hd_NoRow := hde_NoRow,
    mo_NoRow := moe_NoRow,
    su_NoRow_LeanError := sue_NoRow_LeanError,
    su_NoRow_NoNumber := sue_NoRow_NoNumber,
    su_NoRow_NoRow := sue_NoRow_NoRow,
    su_NoRow_NoText := sue_NoRow_NoText,
    su_NoRow_NoDeeds := sue_NoRow_NoDeeds,
    su_NoRow_NoCost := sue_NoRow_NoCost,
    x_NoText := xe_NoText,
    kp_NoText := kpe_NoText,
    bs_NoText := bse_NoText,
    ve_NoText := vee_NoText,
    ty_NoText := tye_NoText,
    ic_NoText := ice_NoText,
    ga_NoText := gae_NoText,
    gt_NoText := gte_NoText,
    gk_NoText := gke_NoText,
    hd_NoText := hde_NoText,
    mo_NoText := moe_NoText,
    su_NoText_LeanError := sue_NoText_LeanError,
    su_NoText_NoNumber := sue_NoText_NoNumber,
    su_NoText_NoRow := sue_NoText_NoRow,
    su_NoText_NoText := sue_NoText_NoText,
    su_NoText_NoDeeds := sue_NoText_NoDeeds,
    su_NoText_NoCost := sue_NoText_NoCost,
    x_NoDeeds := xe_NoDeeds,
    kp_NoDeeds := kpe_NoDeeds,
    bs_NoDeeds := bse_NoDeeds,
    ve_NoDeeds := vee_NoDeeds,
    ty_NoDeeds := tye_NoDeeds,
    ic_NoDeeds := ice_NoDeeds,
    ga_NoDeeds := gae_NoDeeds,
    gt_NoDeeds := gte_NoDeeds,
    gk_NoDeeds := gke_NoDeeds,
    hd_NoDeeds := hde_NoDeeds,
    mo_NoDeeds := moe_NoDeeds,
    su_NoDeeds_LeanError := sue_NoDeeds_LeanError,
    su_NoDeeds_NoNumber := sue_NoDeeds_NoNumber,
    su_NoDeeds_NoRow := sue_NoDeeds_NoRow,
    su_NoDeeds_NoText := sue_NoDeeds_NoText,
    su_NoDeeds_NoDeeds := sue_NoDeeds_NoDeeds,
    su_NoDeeds_NoCost := sue_NoDeeds_NoCost,
    x_NoCost := xe_NoCost,
    kp_NoCost := kpe_NoCost,
    bs_NoCost := bse_NoCost,
    ve_NoCost := vee_NoCost,
    ty_NoCost := tye_NoCost,
    ic_NoCost := ice_NoCost,
    ga_NoCost := gae_NoCost,
    gt_NoCost := gte_NoCost,
    gk_NoCost := gke_NoCost,
    hd_NoCost := hde_NoCost,
    mo_NoCost := moe_NoCost,
    su_NoCost_LeanError := sue_NoCost_LeanError,
    su_NoCost_NoNumber := sue_NoCost_NoNumber,
    su_NoCost_NoRow := sue_NoCost_NoRow,
    su_NoCost_NoText := sue_NoCost_NoText,
    su_NoCost_NoDeeds := sue_NoCost_NoDeeds,
    su_NoCost_NoCost := sue_NoCost_NoCost,
    sp_class := spe_class,
    tk_class := tke_class,
    digits := dg }, rfl⟩
  exact ⟨_, fun s v => .of_eq rfl, fun base _ _ => ok_law_at T hT F_law b_law⟩
end K12
open PySem PySem.W PyProof.Rows
set_option maxHeartbeats 0 in
theorem PySem.Challenge.cw_leanfigures_k12_rows_refused_holds : PySem.Challenge.rw_leanfigures_k12_rows_refused.Holds := by
  w_on; o_law; k_head; (case hw => w_witness2)
  k_fill
  refine L2.walk_of (l := PySem.Challenge.rw_leanfigures_k12_rows_refused) (n := 63) (k := 9) (x := "_law_script") (CX := fun _ => L2.CX0) (sp := fun w => K12.sp_law _) rfl (by decide) rfl ⟨rfl, by decide, by decide⟩ (fun w h Y => PySem.W.kIn_of Y) ?F (fun _ _ a ns hl _ hS => ⟨a, ns, rfl, hS, hl, fun _ => rfl⟩) (fun _ _ _ _ _ h => h)
  case F =>
    intro w mg fa h KX G hmg
    refine' K12.all_mk KX G hmg ?a_is_whole ?l_is_whole ?c_is_whole ?k_is_whole ?a_is_figure ?l_is_figure ?c_is_figure ?k_is_figure ?a_is_row ?l_is_row ?c_is_row ?k_is_row ?a_refuse_no_row ?l_refuse_no_row ?c_refuse_no_row ?k_refuse_no_row ?a_refuse_no_number ?l_refuse_no_number ?c_refuse_no_number ?k_refuse_no_number ?a_worth ?l_worth ?c_worth ?k_worth ?a_marked ?l_marked ?c_marked ?k_marked ?a_weight ?l_weight ?c_weight ?k_weight ?a_is_lean ?l_is_lean ?c_is_lean ?k_is_lean ?a_lean ?l_lean ?c_lean ?k_lean ?a_lean_parts ?l_lean_parts ?c_lean_parts ?k_lean_parts ?a_places ?l_places ?c_places ?k_places ?a_shown ?l_shown ?c_shown ?k_shown ?a_read ?l_read ?c_read ?k_read ?a_shows_row ?l_shows_row ?c_shows_row ?k_shows_row ?a_negated ?l_negated ?c_negated ?k_negated ?a_added ?l_added ?c_added ?k_added ?a_multiplied ?l_multiplied ?c_multiplied ?k_multiplied ?a_compared ?l_compared ?c_compared ?k_compared ?a_together ?l_together ?c_together ?k_together ?a_Lmixed ?l_Lmixed ?c_Lmixed ?k_Lmixed ?a_Lasked ?l_Lasked ?c_Lasked ?k_Lasked ?a_Lword ?l_Lword ?c_Lword ?k_Lword ?a_Lthing ?l_Lthing ?c_Lthing ?k_Lthing ?a_law ?l_law ?c_law ?k_law ?gl_EMPTY ?gd_SIGNS ?at_SIGNS ?lo_SIGNS ?ki_SIGNS ?ti_SIGNS ?gd_FIGURES ?at_FIGURES ?lo_FIGURES ?ki_FIGURES ?ti_FIGURES ?z_isinstance ?z_int ?z_bool ?z_list ?z_all ?z_len ?z_reversed ?z_zip ?z_max ?z_str ?z_sum ?z_ValueError ?z_enumerate ?x_LeanError ?x_NoNumber ?x_NoRow ?x_NoText ?x_NoDeeds ?x_NoCost ?xe_LeanError ?kpe_LeanError ?bse_LeanError ?vee_LeanError ?tye_LeanError ?ice_LeanError ?gae_LeanError ?gte_LeanError ?gke_LeanError ?hde_LeanError ?moe_LeanError ?sue_LeanError_LeanError ?sue_LeanError_NoNumber ?sue_LeanError_NoRow ?sue_LeanError_NoText ?sue_LeanError_NoDeeds ?sue_LeanError_NoCost ?xe_NoNumber ?kpe_NoNumber ?bse_NoNumber ?vee_NoNumber ?tye_NoNumber ?ice_NoNumber ?gae_NoNumber ?gte_NoNumber ?gke_NoNumber ?hde_NoNumber ?moe_NoNumber ?sue_NoNumber_LeanError ?sue_NoNumber_NoNumber ?sue_NoNumber_NoRow ?sue_NoNumber_NoText ?sue_NoNumber_NoDeeds ?sue_NoNumber_NoCost ?xe_NoRow ?kpe_NoRow ?bse_NoRow ?vee_NoRow ?tye_NoRow ?ice_NoRow ?gae_NoRow ?gte_NoRow ?gke_NoRow ?hde_NoRow ?moe_NoRow ?sue_NoRow_LeanError ?sue_NoRow_NoNumber ?sue_NoRow_NoRow ?sue_NoRow_NoText ?sue_NoRow_NoDeeds ?sue_NoRow_NoCost ?xe_NoText ?kpe_NoText ?bse_NoText ?vee_NoText ?tye_NoText ?ice_NoText ?gae_NoText ?gte_NoText ?gke_NoText ?hde_NoText ?moe_NoText ?sue_NoText_LeanError ?sue_NoText_NoNumber ?sue_NoText_NoRow ?sue_NoText_NoText ?sue_NoText_NoDeeds ?sue_NoText_NoCost ?xe_NoDeeds ?kpe_NoDeeds ?bse_NoDeeds ?vee_NoDeeds ?tye_NoDeeds ?ice_NoDeeds ?gae_NoDeeds ?gte_NoDeeds ?gke_NoDeeds ?hde_NoDeeds ?moe_NoDeeds ?sue_NoDeeds_LeanError ?sue_NoDeeds_NoNumber ?sue_NoDeeds_NoRow ?sue_NoDeeds_NoText ?sue_NoDeeds_NoDeeds ?sue_NoDeeds_NoCost ?xe_NoCost ?kpe_NoCost ?bse_NoCost ?vee_NoCost ?tye_NoCost ?ice_NoCost ?gae_NoCost ?gte_NoCost ?gke_NoCost ?hde_NoCost ?moe_NoCost ?sue_NoCost_LeanError ?sue_NoCost_NoNumber ?sue_NoCost_NoRow ?sue_NoCost_NoText ?sue_NoCost_NoDeeds ?sue_NoCost_NoCost ?spe_class ?tke_class ?dg
    (case a_is_whole => k_is)
    (case l_is_whole => k_is)
    (case c_is_whole => k_is)
    (case k_is_whole => k_is)
    (case a_is_figure => k_is)
    (case l_is_figure => k_is)
    (case c_is_figure => k_is)
    (case k_is_figure => k_is)
    (case a_is_row => k_is)
    (case l_is_row => k_is)
    (case c_is_row => k_is)
    (case k_is_row => k_is)
    (case a_refuse_no_row => k_is)
    (case l_refuse_no_row => k_is)
    (case c_refuse_no_row => k_is)
    (case k_refuse_no_row => k_is)
    (case a_refuse_no_number => k_is)
    (case l_refuse_no_number => k_is)
    (case c_refuse_no_number => k_is)
    (case k_refuse_no_number => k_is)
    (case a_worth => k_is)
    (case l_worth => k_is)
    (case c_worth => k_is)
    (case k_worth => k_is)
    (case a_marked => k_is)
    (case l_marked => k_is)
    (case c_marked => k_is)
    (case k_marked => k_is)
    (case a_weight => k_is)
    (case l_weight => k_is)
    (case c_weight => k_is)
    (case k_weight => k_is)
    (case a_is_lean => k_is)
    (case l_is_lean => k_is)
    (case c_is_lean => k_is)
    (case k_is_lean => k_is)
    (case a_lean => k_is)
    (case l_lean => k_is)
    (case c_lean => k_is)
    (case k_lean => k_is)
    (case a_lean_parts => k_is)
    (case l_lean_parts => k_is)
    (case c_lean_parts => k_is)
    (case k_lean_parts => k_is)
    (case a_places => k_is)
    (case l_places => k_is)
    (case c_places => k_is)
    (case k_places => k_is)
    (case a_shown => k_is)
    (case l_shown => k_is)
    (case c_shown => k_is)
    (case k_shown => k_is)
    (case a_read => k_is)
    (case l_read => k_is)
    (case c_read => k_is)
    (case k_read => k_is)
    (case a_shows_row => k_is)
    (case l_shows_row => k_is)
    (case c_shows_row => k_is)
    (case k_shows_row => k_is)
    (case a_negated => k_is)
    (case l_negated => k_is)
    (case c_negated => k_is)
    (case k_negated => k_is)
    (case a_added => k_is)
    (case l_added => k_is)
    (case c_added => k_is)
    (case k_added => k_is)
    (case a_multiplied => k_is)
    (case l_multiplied => k_is)
    (case c_multiplied => k_is)
    (case k_multiplied => k_is)
    (case a_compared => k_is)
    (case l_compared => k_is)
    (case c_compared => k_is)
    (case k_compared => k_is)
    (case a_together => k_is)
    (case l_together => k_is)
    (case c_together => k_is)
    (case k_together => k_is)
    (case a_Lmixed => k_is)
    (case l_Lmixed => k_is)
    (case c_Lmixed => k_is)
    (case k_Lmixed => k_is)
    (case a_Lasked => k_is)
    (case l_Lasked => k_is)
    (case c_Lasked => k_is)
    (case k_Lasked => k_is)
    (case a_Lword => k_is)
    (case l_Lword => k_is)
    (case c_Lword => k_is)
    (case k_Lword => k_is)
    (case a_Lthing => k_is)
    (case l_Lthing => k_is)
    (case c_Lthing => k_is)
    (case k_Lthing => k_is)
    (case a_law => k_is)
    (case l_law => k_is)
    (case c_law => k_is)
    (case k_law => k_is)
    (case gl_EMPTY => k_is)
    (case gd_SIGNS => k_is)
    (case at_SIGNS => k_is)
    (case lo_SIGNS => first | rfl | decide)
    (case ki_SIGNS => k_keys)
    (case ti_SIGNS => k_keys)
    (case gd_FIGURES => k_is)
    (case at_FIGURES => k_is)
    (case lo_FIGURES => first | rfl | decide)
    (case ki_FIGURES => k_keys)
    (case ti_FIGURES => k_keys)
    (case z_isinstance => k_is)
    (case z_int => k_is)
    (case z_bool => k_is)
    (case z_list => k_is)
    (case z_all => k_is)
    (case z_len => k_is)
    (case z_reversed => k_is)
    (case z_zip => k_is)
    (case z_max => k_is)
    (case z_str => k_is)
    (case z_sum => k_is)
    (case z_ValueError => k_is)
    (case z_enumerate => k_is)
    (case x_LeanError => k_is)
    (case x_NoNumber => k_is)
    (case x_NoRow => k_is)
    (case x_NoText => k_is)
    (case x_NoDeeds => k_is)
    (case x_NoCost => k_is)
    (case xe_LeanError => k_exc)
    (case kpe_LeanError => k_is)
    (case bse_LeanError => k_is)
    (case vee_LeanError => k_is)
    (case tye_LeanError => k_is)
    (case ice_LeanError => k_is)
    (case gae_LeanError => k_is)
    (case gte_LeanError => k_is)
    (case gke_LeanError => k_is)
    (case hde_LeanError => k_is)
    (case moe_LeanError => k_is)
    (case sue_LeanError_LeanError => k_is)
    (case sue_LeanError_NoNumber => k_is)
    (case sue_LeanError_NoRow => k_is)
    (case sue_LeanError_NoText => k_is)
    (case sue_LeanError_NoDeeds => k_is)
    (case sue_LeanError_NoCost => k_is)
    (case xe_NoNumber => k_exc)
    (case kpe_NoNumber => k_is)
    (case bse_NoNumber => k_is)
    (case vee_NoNumber => k_is)
    (case tye_NoNumber => k_is)
    (case ice_NoNumber => k_is)
    (case gae_NoNumber => k_is)
    (case gte_NoNumber => k_is)
    (case gke_NoNumber => k_is)
    (case hde_NoNumber => k_is)
    (case moe_NoNumber => k_is)
    (case sue_NoNumber_LeanError => k_is)
    (case sue_NoNumber_NoNumber => k_is)
    (case sue_NoNumber_NoRow => k_is)
    (case sue_NoNumber_NoText => k_is)
    (case sue_NoNumber_NoDeeds => k_is)
    (case sue_NoNumber_NoCost => k_is)
    (case xe_NoRow => k_exc)
    (case kpe_NoRow => k_is)
    (case bse_NoRow => k_is)
    (case vee_NoRow => k_is)
    (case tye_NoRow => k_is)
    (case ice_NoRow => k_is)
    (case gae_NoRow => k_is)
    (case gte_NoRow => k_is)
    (case gke_NoRow => k_is)
    (case hde_NoRow => k_is)
    (case moe_NoRow => k_is)
    (case sue_NoRow_LeanError => k_is)
    (case sue_NoRow_NoNumber => k_is)
    (case sue_NoRow_NoRow => k_is)
    (case sue_NoRow_NoText => k_is)
    (case sue_NoRow_NoDeeds => k_is)
    (case sue_NoRow_NoCost => k_is)
    (case xe_NoText => k_exc)
    (case kpe_NoText => k_is)
    (case bse_NoText => k_is)
    (case vee_NoText => k_is)
    (case tye_NoText => k_is)
    (case ice_NoText => k_is)
    (case gae_NoText => k_is)
    (case gte_NoText => k_is)
    (case gke_NoText => k_is)
    (case hde_NoText => k_is)
    (case moe_NoText => k_is)
    (case sue_NoText_LeanError => k_is)
    (case sue_NoText_NoNumber => k_is)
    (case sue_NoText_NoRow => k_is)
    (case sue_NoText_NoText => k_is)
    (case sue_NoText_NoDeeds => k_is)
    (case sue_NoText_NoCost => k_is)
    (case xe_NoDeeds => k_exc)
    (case kpe_NoDeeds => k_is)
    (case bse_NoDeeds => k_is)
    (case vee_NoDeeds => k_is)
    (case tye_NoDeeds => k_is)
    (case ice_NoDeeds => k_is)
    (case gae_NoDeeds => k_is)
    (case gte_NoDeeds => k_is)
    (case gke_NoDeeds => k_is)
    (case hde_NoDeeds => k_is)
    (case moe_NoDeeds => k_is)
    (case sue_NoDeeds_LeanError => k_is)
    (case sue_NoDeeds_NoNumber => k_is)
    (case sue_NoDeeds_NoRow => k_is)
    (case sue_NoDeeds_NoText => k_is)
    (case sue_NoDeeds_NoDeeds => k_is)
    (case sue_NoDeeds_NoCost => k_is)
    (case xe_NoCost => k_exc)
    (case kpe_NoCost => k_is)
    (case bse_NoCost => k_is)
    (case vee_NoCost => k_is)
    (case tye_NoCost => k_is)
    (case ice_NoCost => k_is)
    (case gae_NoCost => k_is)
    (case gte_NoCost => k_is)
    (case gke_NoCost => k_is)
    (case hde_NoCost => k_is)
    (case moe_NoCost => k_is)
    (case sue_NoCost_LeanError => k_is)
    (case sue_NoCost_NoNumber => k_is)
    (case sue_NoCost_NoRow => k_is)
    (case sue_NoCost_NoText => k_is)
    (case sue_NoCost_NoDeeds => k_is)
    (case sue_NoCost_NoCost => k_is)
    (case spe_class => k_is)
    (case tke_class => k_is)
    (case dg => k_is)
