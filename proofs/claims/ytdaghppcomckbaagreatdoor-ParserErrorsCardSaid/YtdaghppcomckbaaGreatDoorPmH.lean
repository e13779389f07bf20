/- Texts of one proof: PzH, PzI. -/
import Derived.Test.YtdaghppcomckbaaGreatDoorPzG
/- The parser's mathematics: ten wrong pieces, in front of any text: where the fault stands, and what is left out. -/
namespace Go.Proofs.YtdaghppcomckbaaGreatDoor
open Go.RowKit
set_option linter.unusedVariables false
set_option linter.unusedSimpArgs false

def bw0 : ByteArray := ⟨#[59]⟩
def bt0 : List Tk := [⟨3, ⟨#[59]⟩, 0, 0⟩]
set_option maxRecDepth 100000 in
theorem bl0 : lx bw0 = (bt0, 0, 0) := by kernel_rfl
def bd0 : List Tk := bt0.drop 0
set_option maxRecDepth 100000 in
theorem bi0 (p : Int) (T : List Tk) : itemM (shR p bt0 ++ T) = .err 7 (shR p bd0 ++ T) := by kernel_rfl
set_option maxRecDepth 100000 in
theorem bv0 (p : Int) (T : List Tk) (hT : T ≠ []) : leaveM (shR p bt0 ++ T) (shR p bd0 ++ T) = T := by
  cases T with
  | nil => exact absurd rfl hT
  | cons u T =>
    have h1 : (shR p bt0 ++ u :: T).length - (shR p bd0 ++ u :: T).length = 0 := by
      simp only [shR, bt0, bd0, List.map_cons, List.map_nil, List.drop_succ_cons, List.drop_zero, List.length_append, List.length_cons, List.length_nil]
      omega
    have h2 : ((shR p bt0 ++ u :: T).take 0).foldl brace 0 = 0 := by kernel_rfl
    have h3 : skipF (shR p bd0 ++ u :: T).length 0 (shR p bd0 ++ u :: T) = u :: T := by kernel_rfl
    unfold leaveM
    rw [h1, h2]
    exact h3
def bw1 : ByteArray := ⟨#[125]⟩
def bt1 : List Tk := [⟨3, ⟨#[125]⟩, 0, 0⟩]
set_option maxRecDepth 100000 in
theorem bl1 : lx bw1 = (bt1, 0, 0) := by kernel_rfl
def bd1 : List Tk := bt1.drop 0
set_option maxRecDepth 100000 in
theorem bi1 (p : Int) (T : List Tk) : itemM (shR p bt1 ++ T) = .err 7 (shR p bd1 ++ T) := by kernel_rfl
set_option maxRecDepth 100000 in
theorem bv1 (p : Int) (T : List Tk) (hT : T ≠ []) : leaveM (shR p bt1 ++ T) (shR p bd1 ++ T) = T := by
  cases T with
  | nil => exact absurd rfl hT
  | cons u T =>
    have h1 : (shR p bt1 ++ u :: T).length - (shR p bd1 ++ u :: T).length = 0 := by
      simp only [shR, bt1, bd1, List.map_cons, List.map_nil, List.drop_succ_cons, List.drop_zero, List.length_append, List.length_cons, List.length_nil]
      omega
    have h2 : ((shR p bt1 ++ u :: T).take 0).foldl brace 0 = 0 := by kernel_rfl
    have h3 : skipF (shR p bd1 ++ u :: T).length 0 (shR p bd1 ++ u :: T) = u :: T := by kernel_rfl
    unfold leaveM
    rw [h1, h2]
    exact h3
def bw2 : ByteArray := ⟨#[120, 59]⟩
def bt2 : List Tk := [⟨1, ⟨#[120]⟩, 0, 0⟩, ⟨3, ⟨#[59]⟩, 0, 1⟩]
set_option maxRecDepth 100000 in
theorem bl2 : lx bw2 = (bt2, 0, 0) := by kernel_rfl
def bd2 : List Tk := bt2.drop 0
set_option maxRecDepth 100000 in
theorem bi2 (p : Int) (T : List Tk) : itemM (shR p bt2 ++ T) = .err 7 (shR p bd2 ++ T) := by kernel_rfl
set_option maxRecDepth 100000 in
theorem bv2 (p : Int) (T : List Tk) (hT : T ≠ []) : leaveM (shR p bt2 ++ T) (shR p bd2 ++ T) = T := by
  cases T with
  | nil => exact absurd rfl hT
  | cons u T =>
    have h1 : (shR p bt2 ++ u :: T).length - (shR p bd2 ++ u :: T).length = 0 := by
      simp only [shR, bt2, bd2, List.map_cons, List.map_nil, List.drop_succ_cons, List.drop_zero, List.length_append, List.length_cons, List.length_nil]
      omega
    have h2 : ((shR p bt2 ++ u :: T).take 0).foldl brace 0 = 0 := by kernel_rfl
    have h3 : skipF (shR p bd2 ++ u :: T).length 0 (shR p bd2 ++ u :: T) = u :: T := by kernel_rfl
    unfold leaveM
    rw [h1, h2]
    exact h3
def bw3 : ByteArray := ⟨#[49, 50, 32, 112, 97, 116, 104, 32, 112, 59]⟩
def bt3 : List Tk := [⟨2, ⟨#[]⟩, 12, 0⟩, ⟨1, ⟨#[112, 97, 116, 104]⟩, 0, 3⟩, ⟨1, ⟨#[112]⟩, 0, 8⟩, ⟨3, ⟨#[59]⟩, 0, 9⟩]
set_option maxRecDepth 100000 in
theorem bl3 : lx bw3 = (bt3, 0, 0) := by kernel_rfl
def bd3 : List Tk := bt3.drop 0
set_option maxRecDepth 100000 in
theorem bi3 (p : Int) (T : List Tk) : itemM (shR p bt3 ++ T) = .err 7 (shR p bd3 ++ T) := by kernel_rfl
set_option maxRecDepth 100000 in
theorem bv3 (p : Int) (T : List Tk) (hT : T ≠ []) : leaveM (shR p bt3 ++ T) (shR p bd3 ++ T) = T := by
  cases T with
  | nil => exact absurd rfl hT
  | cons u T =>
    have h1 : (shR p bt3 ++ u :: T).length - (shR p bd3 ++ u :: T).length = 0 := by
      simp only [shR, bt3, bd3, List.map_cons, List.map_nil, List.drop_succ_cons, List.drop_zero, List.length_append, List.length_cons, List.length_nil]
      omega
    have h2 : ((shR p bt3 ++ u :: T).take 0).foldl brace 0 = 0 := by kernel_rfl
    have h3 : skipF (shR p bd3 ++ u :: T).length 0 (shR p bd3 ++ u :: T) = u :: T := by kernel_rfl
    unfold leaveM
    rw [h1, h2]
    exact h3
def bw4 : ByteArray := ⟨#[108, 105, 110, 107, 32, 108, 32, 114, 97, 116, 101, 32, 120, 59]⟩
def bt4 : List Tk := [⟨1, ⟨#[108, 105, 110, 107]⟩, 0, 0⟩, ⟨1, ⟨#[108]⟩, 0, 5⟩, ⟨1, ⟨#[114, 97, 116, 101]⟩, 0, 7⟩, ⟨1, ⟨#[120]⟩, 0, 12⟩, ⟨3, ⟨#[59]⟩, 0, 13⟩]
set_option maxRecDepth 100000 in
theorem bl4 : lx bw4 = (bt4, 0, 0) := by kernel_rfl
def bd4 : List Tk := bt4.drop 3
set_option maxRecDepth 100000 in
theorem bi4 (p : Int) (T : List Tk) : itemM (shR p bt4 ++ T) = .err 7 (shR p bd4 ++ T) := by kernel_rfl
set_option maxRecDepth 100000 in
theorem bv4 (p : Int) (T : List Tk) (hT : T ≠ []) : leaveM (shR p bt4 ++ T) (shR p bd4 ++ T) = T := by
  cases T with
  | nil => exact absurd rfl hT
  | cons u T =>
    have h1 : (shR p bt4 ++ u :: T).length - (shR p bd4 ++ u :: T).length = 3 := by
      simp only [shR, bt4, bd4, List.map_cons, List.map_nil, List.drop_succ_cons, List.drop_zero, List.length_append, List.length_cons, List.length_nil]
      omega
    have h2 : ((shR p bt4 ++ u :: T).take 3).foldl brace 0 = 0 := by kernel_rfl
    have h3 : skipF (shR p bd4 ++ u :: T).length 0 (shR p bd4 ++ u :: T) = u :: T := by kernel_rfl
    unfold leaveM
    rw [h1, h2]
    exact h3
def bw5 : ByteArray := ⟨#[119, 105, 110, 100, 111, 119, 32, 119, 32, 125]⟩
def bt5 : List Tk := [⟨1, ⟨#[119, 105, 110, 100, 111, 119]⟩, 0, 0⟩, ⟨1, ⟨#[119]⟩, 0, 7⟩, ⟨3, ⟨#[125]⟩, 0, 9⟩]
set_option maxRecDepth 100000 in
theorem bl5 : lx bw5 = (bt5, 0, 0) := by kernel_rfl
def bd5 : List Tk := bt5.drop 0
set_option maxRecDepth 100000 in
theorem bi5 (p : Int) (T : List Tk) : itemM (shR p bt5 ++ T) = .err 7 (shR p bd5 ++ T) := by kernel_rfl
set_option maxRecDepth 100000 in
theorem bv5 (p : Int) (T : List Tk) (hT : T ≠ []) : leaveM (shR p bt5 ++ T) (shR p bd5 ++ T) = T := by
  cases T with
  | nil => exact absurd rfl hT
  | cons u T =>
    have h1 : (shR p bt5 ++ u :: T).length - (shR p bd5 ++ u :: T).length = 0 := by
      simp only [shR, bt5, bd5, List.map_cons, List.map_nil, List.drop_succ_cons, List.drop_zero, List.length_append, List.length_cons, List.length_nil]
      omega
    have h2 : ((shR p bt5 ++ u :: T).take 0).foldl brace 0 = 0 := by kernel_rfl
    have h3 : skipF (shR p bd5 ++ u :: T).length 0 (shR p bd5 ++ u :: T) = u :: T := by kernel_rfl
    unfold leaveM
    rw [h1, h2]
    exact h3
def bw6 : ByteArray := ⟨#[112, 114, 111, 103, 114, 97, 109, 32, 112, 32, 123, 32, 111, 110, 32, 97, 99, 107, 32, 123, 32, 120, 59, 32, 121, 59, 32, 123, 32, 125, 32, 105, 102, 32, 122, 32, 125, 32, 125]⟩
def bt6 : List Tk := [⟨1, ⟨#[112, 114, 111, 103, 114, 97, 109]⟩, 0, 0⟩, ⟨1, ⟨#[112]⟩, 0, 8⟩, ⟨3, ⟨#[123]⟩, 0, 10⟩, ⟨1, ⟨#[111, 110]⟩, 0, 12⟩, ⟨1, ⟨#[97, 99, 107]⟩, 0, 15⟩, ⟨3, ⟨#[123]⟩, 0, 19⟩, ⟨1, ⟨#[120]⟩, 0, 21⟩, ⟨3, ⟨#[59]⟩, 0, 22⟩, ⟨1, ⟨#[121]⟩, 0, 24⟩, ⟨3, ⟨#[59]⟩, 0, 25⟩, ⟨3, ⟨#[123]⟩, 0, 27⟩, ⟨3, ⟨#[125]⟩, 0, 29⟩, ⟨1, ⟨#[105, 102]⟩, 0, 31⟩, ⟨1, ⟨#[122]⟩, 0, 34⟩, ⟨3, ⟨#[125]⟩, 0, 36⟩, ⟨3, ⟨#[125]⟩, 0, 38⟩]
set_option maxRecDepth 100000 in
theorem bl6 : lx bw6 = (bt6, 0, 0) := by kernel_rfl
def bd6 : List Tk := bt6.drop 7
set_option maxRecDepth 100000 in
theorem bi6 (p : Int) (T : List Tk) : itemM (shR p bt6 ++ T) = .err 7 (shR p bd6 ++ T) := by kernel_rfl
set_option maxRecDepth 100000 in
theorem bv6 (p : Int) (T : List Tk) (hT : T ≠ []) : leaveM (shR p bt6 ++ T) (shR p bd6 ++ T) = T := by
  cases T with
  | nil => exact absurd rfl hT
  | cons u T =>
    have h1 : (shR p bt6 ++ u :: T).length - (shR p bd6 ++ u :: T).length = 7 := by
      simp only [shR, bt6, bd6, List.map_cons, List.map_nil, List.drop_succ_cons, List.drop_zero, List.length_append, List.length_cons, List.length_nil]
      omega
    have h2 : ((shR p bt6 ++ u :: T).take 7).foldl brace 0 = 2 := by kernel_rfl
    have h3 : skipF (shR p bd6 ++ u :: T).length 2 (shR p bd6 ++ u :: T) = u :: T := by kernel_rfl
    unfold leaveM
    rw [h1, h2]
    exact h3
def bw7 : ByteArray := ⟨#[112, 114, 111, 103, 114, 97, 109, 32, 112, 32, 123, 32, 108, 105, 110, 107, 32, 108, 59, 32, 123, 32, 59, 32, 125, 32, 119, 105, 110, 100, 111, 119, 32, 119, 59, 32, 125]⟩
def bt7 : List Tk := [⟨1, ⟨#[112, 114, 111, 103, 114, 97, 109]⟩, 0, 0⟩, ⟨1, ⟨#[112]⟩, 0, 8⟩, ⟨3, ⟨#[123]⟩, 0, 10⟩, ⟨1, ⟨#[108, 105, 110, 107]⟩, 0, 12⟩, ⟨1, ⟨#[108]⟩, 0, 17⟩, ⟨3, ⟨#[59]⟩, 0, 18⟩, ⟨3, ⟨#[123]⟩, 0, 20⟩, ⟨3, ⟨#[59]⟩, 0, 22⟩, ⟨3, ⟨#[125]⟩, 0, 24⟩, ⟨1, ⟨#[119, 105, 110, 100, 111, 119]⟩, 0, 26⟩, ⟨1, ⟨#[119]⟩, 0, 33⟩, ⟨3, ⟨#[59]⟩, 0, 34⟩, ⟨3, ⟨#[125]⟩, 0, 36⟩]
set_option maxRecDepth 100000 in
theorem bl7 : lx bw7 = (bt7, 0, 0) := by kernel_rfl
def bd7 : List Tk := bt7.drop 3
set_option maxRecDepth 100000 in
theorem bi7 (p : Int) (T : List Tk) : itemM (shR p bt7 ++ T) = .err 7 (shR p bd7 ++ T) := by kernel_rfl
set_option maxRecDepth 100000 in
theorem bv7 (p : Int) (T : List Tk) (hT : T ≠ []) : leaveM (shR p bt7 ++ T) (shR p bd7 ++ T) = T := by
  cases T with
  | nil => exact absurd rfl hT
  | cons u T =>
    have h1 : (shR p bt7 ++ u :: T).length - (shR p bd7 ++ u :: T).length = 3 := by
      simp only [shR, bt7, bd7, List.map_cons, List.map_nil, List.drop_succ_cons, List.drop_zero, List.length_append, List.length_cons, List.length_nil]
      omega
    have h2 : ((shR p bt7 ++ u :: T).take 3).foldl brace 0 = 1 := by kernel_rfl
    have h3 : skipF (shR p bd7 ++ u :: T).length 1 (shR p bd7 ++ u :: T) = u :: T := by kernel_rfl
    unfold leaveM
    rw [h1, h2]
    exact h3
def bw8 : ByteArray := ⟨#[112, 97, 116, 104, 32, 112, 32, 98, 97, 99, 107, 32, 53, 59]⟩
def bt8 : List Tk := [⟨1, ⟨#[112, 97, 116, 104]⟩, 0, 0⟩, ⟨1, ⟨#[112]⟩, 0, 5⟩, ⟨1, ⟨#[98, 97, 99, 107]⟩, 0, 7⟩, ⟨2, ⟨#[]⟩, 5, 12⟩, ⟨3, ⟨#[59]⟩, 0, 13⟩]
set_option maxRecDepth 100000 in
theorem bl8 : lx bw8 = (bt8, 0, 0) := by kernel_rfl
def bd8 : List Tk := bt8.drop 2
set_option maxRecDepth 100000 in
theorem bi8 (p : Int) (T : List Tk) : itemM (shR p bt8 ++ T) = .err 7 (shR p bd8 ++ T) := by kernel_rfl
set_option maxRecDepth 100000 in
theorem bv8 (p : Int) (T : List Tk) (hT : T ≠ []) : leaveM (shR p bt8 ++ T) (shR p bd8 ++ T) = T := by
  cases T with
  | nil => exact absurd rfl hT
  | cons u T =>
    have h1 : (shR p bt8 ++ u :: T).length - (shR p bd8 ++ u :: T).length = 2 := by
      simp only [shR, bt8, bd8, List.map_cons, List.map_nil, List.drop_succ_cons, List.drop_zero, List.length_append, List.length_cons, List.length_nil]
      omega
    have h2 : ((shR p bt8 ++ u :: T).take 2).foldl brace 0 = 0 := by kernel_rfl
    have h3 : skipF (shR p bd8 ++ u :: T).length 0 (shR p bd8 ++ u :: T) = u :: T := by kernel_rfl
    unfold leaveM
    rw [h1, h2]
    exact h3
def bw9 : ByteArray := ⟨#[102, 108, 111, 119, 32, 102, 32, 112, 97, 116, 104, 115, 32, 123, 32, 59, 32, 125]⟩
def bt9 : List Tk := [⟨1, ⟨#[102, 108, 111, 119]⟩, 0, 0⟩, ⟨1, ⟨#[102]⟩, 0, 5⟩, ⟨1, ⟨#[112, 97, 116, 104, 115]⟩, 0, 7⟩, ⟨3, ⟨#[123]⟩, 0, 13⟩, ⟨3, ⟨#[59]⟩, 0, 15⟩, ⟨3, ⟨#[125]⟩, 0, 17⟩]
set_option maxRecDepth 100000 in
theorem bl9 : lx bw9 = (bt9, 0, 0) := by kernel_rfl
def bd9 : List Tk := bt9.drop 2
set_option maxRecDepth 100000 in
theorem bi9 (p : Int) (T : List Tk) : itemM (shR p bt9 ++ T) = .err 7 (shR p bd9 ++ T) := by kernel_rfl
set_option maxRecDepth 100000 in
theorem bv9 (p : Int) (T : List Tk) (hT : T ≠ []) : leaveM (shR p bt9 ++ T) (shR p bd9 ++ T) = T := by
  cases T with
  | nil => exact absurd rfl hT
  | cons u T =>
    have h1 : (shR p bt9 ++ u :: T).length - (shR p bd9 ++ u :: T).length = 2 := by
      simp only [shR, bt9, bd9, List.map_cons, List.map_nil, List.drop_succ_cons, List.drop_zero, List.length_append, List.length_cons, List.length_nil]
      omega
    have h2 : ((shR p bt9 ++ u :: T).take 2).foldl brace 0 = 0 := by kernel_rfl
    have h3 : skipF (shR p bd9 ++ u :: T).length 0 (shR p bd9 ++ u :: T) = u :: T := by kernel_rfl
    unfold leaveM
    rw [h1, h2]
    exact h3
/-- the piece with a number, its tokens, and how far from its beginning the fault stands -/
def bw (k : Nat) : ByteArray := [bw0, bw1, bw2, bw3, bw4, bw5, bw6, bw7, bw8, bw9].getD k bw0
def bo (k : Nat) : Int := [0, 0, 0, 0, 12, 0, 22, 12, 7, 7].getD k 0
theorem bad_piece (k : Nat) (hk : k < 10) : ∃ W D : List Tk, lx (bw k) = (W, 0, 0) ∧ 0 < W.length ∧ W.length ≤ 30 ∧ ∀ p : Int, (∀ T : List Tk, T ≠ [] → itemM (shR p W ++ T) = .err 7 (shR p D ++ T) ∧ leaveM (shR p W ++ T) (shR p D ++ T) = T) ∧ shR p D ≠ [] ∧ (hd (shR p D)).a = bo k + p := by
  rcases k with _ | _ | _ | _ | _ | _ | _ | _ | _ | _ | k
  · exact ⟨bt0, bd0, bl0, by decide, by decide, fun p => ⟨fun T hT => ⟨bi0 p T, bv0 p T hT⟩, by simp [shR, bd0, bt0], rfl⟩⟩
  · exact ⟨bt1, bd1, bl1, by decide, by decide, fun p => ⟨fun T hT => ⟨bi1 p T, bv1 p T hT⟩, by simp [shR, bd1, bt1], rfl⟩⟩
  · exact ⟨bt2, bd2, bl2, by decide, by decide, fun p => ⟨fun T hT => ⟨bi2 p T, bv2 p T hT⟩, by simp [shR, bd2, bt2], rfl⟩⟩
  · exact ⟨bt3, bd3, bl3, by decide, by decide, fun p => ⟨fun T hT => ⟨bi3 p T, bv3 p T hT⟩, by simp [shR, bd3, bt3], rfl⟩⟩
  · exact ⟨bt4, bd4, bl4, by decide, by decide, fun p => ⟨fun T hT => ⟨bi4 p T, bv4 p T hT⟩, by simp [shR, bd4, bt4], rfl⟩⟩
  · exact ⟨bt5, bd5, bl5, by decide, by decide, fun p => ⟨fun T hT => ⟨bi5 p T, bv5 p T hT⟩, by simp [shR, bd5, bt5], rfl⟩⟩
  · exact ⟨bt6, bd6, bl6, by decide, by decide, fun p => ⟨fun T hT => ⟨bi6 p T, bv6 p T hT⟩, by simp [shR, bd6, bt6], rfl⟩⟩
  · exact ⟨bt7, bd7, bl7, by decide, by decide, fun p => ⟨fun T hT => ⟨bi7 p T, bv7 p T hT⟩, by simp [shR, bd7, bt7], rfl⟩⟩
  · exact ⟨bt8, bd8, bl8, by decide, by decide, fun p => ⟨fun T hT => ⟨bi8 p T, bv8 p T hT⟩, by simp [shR, bd8, bt8], rfl⟩⟩
  · exact ⟨bt9, bd9, bl9, by decide, by decide, fun p => ⟨fun T hT => ⟨bi9 p T, bv9 p T hT⟩, by simp [shR, bd9, bt9], rfl⟩⟩
  · omega
end Go.Proofs.YtdaghppcomckbaaGreatDoor

/- The parser's mathematics: a wrong piece between two texts without diagnostics. -/
namespace Go.Proofs.YtdaghppcomckbaaGreatDoor
open Go.RowKit
set_option linter.unusedVariables false
set_option linter.unusedSimpArgs false

theorem Run.det {s : ByteArray} {r r1 : Nat} {ts : List Tk} (h : Run s r ts r1) : s.size ≤ gapE s r1 → ∀ (us : List Tk) (r2 : Nat), Run s r us r2 → s.size ≤ gapE s r2 → ts = us := by
  induction h with
  | nil r =>
    intro h1 us r2 h2 h3
    cases h2 with
    | nil => rfl
    | cons hp hq h => omega
  | @cons r nx r' tk ts hp hq h ih =>
    intro h1 us r2 h2 h3
    cases h2 with
    | nil => omega
    | @cons _ nx2 _ tk2 ts2 hp2 hq2 h4 =>
      rw [hq] at hq2
      simp only [Prod.mk.injEq] at hq2
      obtain ⟨rfl, rfl, -⟩ := hq2
      rw [ih h1 _ _ h4 h3]
theorem clean_of {a : ByteArray} (h : (parseM a).2 = []) : ∃ ts p az, lx a = (ts, 0, p) ∧ itemsF (ts.length + 1) [] [] (ts ++ [sent a.size]) = (az, []) := by
  unfold parseM at h
  by_cases he : (lx a).2.1 ≠ 0
  · rw [if_pos he] at h; cases h
  · rw [if_neg he] at h
    have he0 : (lx a).2.1 = 0 := Decidable.not_not.1 he
    refine ⟨(lx a).1, (lx a).2.2, (itemsF ((lx a).1.length + 1) [] [] ((lx a).1 ++ [sent a.size])).1, ?_, ?_⟩
    · rw [← he0]
    · unfold parseT endOf at h
      by_cases hr : (itemsF ((lx a).1.length + 1) [] [] ((lx a).1 ++ [sent a.size])).2 ≠ []
      · rw [if_pos hr] at h; exact absurd h hr
      · have hr0 := Decidable.not_not.1 hr
        exact Prod.ext rfl hr0
theorem shR_shR (j k : Int) (l : List Tk) : shR j (shR k l) = shR (k + j) l := by
  unfold shR
  rw [List.map_map]
  congr 1
  funext t
  unfold shiftT
  simp only [Function.comp]
  congr 1
  omega
theorem shR_app (k : Int) (l m : List Tk) : shR k (l ++ m) = shR k l ++ shR k m := by unfold shR; rw [List.map_append]
theorem lx_small {s : ByteArray} {ts : List Tk} {p : Nat} (h : lx s = (ts, 0, p)) : s.size ≤ 10000 := by
  rcases Nat.lt_or_ge 10000 s.size with h1 | h1
  · unfold lx at h; rw [if_pos h1] at h; simp only [Prod.mk.injEq] at h; exact absurd h.2.1 (by decide)
  · exact h1
theorem errors_math (a b s : ByteArray) (k : Nat) (hk : k < 10) (hs : s.data.toList = a.data.toList ++ 10 :: ((bw k).data.toList ++ 10 :: b.data.toList)) (ha : (parseM a).2 = []) (hb : (parseM b).2 = []) (hu : (lx s).2.1 = 0) :
    (parseM s).2 = [(7, (a.size : Int) + 1 + bo k)] := by
  obtain ⟨la, pa, az, ha1, ha2⟩ := clean_of ha
  obtain ⟨lb, pb, bz, hb1, hb2⟩ := clean_of hb
  obtain ⟨W, D, hw1, hw2, hw3, hw4⟩ := bad_piece k hk
  obtain ⟨ra, fa1, fa2, -⟩ := lx_inv (lx_small ha1) ha1
  obtain ⟨rb, fb1, fb2, -⟩ := lx_inv (lx_small hb1) hb1
  obtain ⟨rw_, fw1, fw2, -⟩ := lx_inv (lx_small hw1) hw1
  have hs1 : (⟨((bw k).data.toList ++ 10 :: b.data.toList).toArray⟩ : ByteArray).data.toList = (bw k).data.toList ++ 10 :: b.data.toList := rfl
  generalize (⟨((bw k).data.toList ++ 10 :: b.data.toList).toArray⟩ : ByteArray) = s1 at hs1
  obtain ⟨r1, f1, g1⟩ := join_run (bw k) b s1 rw_ W lb rb hs1 fw1 fw2 fb1
  have hz1 := join_size (bw k) b s1 hs1
  rw [← hs1] at hs
  have hz := join_size a s1 s hs
  obtain ⟨r2, f2, g2⟩ := join_run a s1 s ra la _ r1 hs fa1 fa2 f1
  have hend : s.size ≤ gapE s r2 := by omega
  have hsm : lx s = ((lx s).1, 0, (lx s).2.2) := by rw [← hu]
  obtain ⟨r3, f3, g3, -⟩ := lx_inv (lx_small hsm) hsm
  have htok := f2.det hend _ _ f3 g3
  obtain ⟨q1, q2, q3⟩ := hw4 ((a.size + 1 : Nat) : Int)
  have hB := items_between la lb (shR ((a.size + 1 : Nat) : Int) W) a.size b.size (a.size + 1 + (bw k).size + 1) 7 (bo k + ((a.size + 1 : Nat) : Int)) (shR ((a.size + 1 : Nat) : Int) D) az bz ha2 hb2 (by rw [shR_len]; exact hw2) q1 q2 q3
  have ht : la ++ (shR ((a.size + 1 : Nat) : Int) W ++ shR ((a.size + 1 + (bw k).size + 1 : Nat) : Int) lb) = (lx s).1 := by
    rw [← htok]
    show _ = la ++ shR ((a.size + 1 : Nat) : Int) (W ++ shR (((bw k).size + 1 : Nat) : Int) lb)
    rw [shR_app, shR_shR]
    congr 3
    omega
  rw [ht] at hB
  have hsz : b.size + (a.size + 1 + (bw k).size + 1) = s.size := by omega
  rw [hsz] at hB
  unfold parseM
  rw [if_neg (by rw [hu]; decide)]
  unfold parseT endOf
  rw [hB]
  rw [if_pos (by simp)]
  show [((7 : Int), bo k + ((a.size + 1 : Nat) : Int))] = _
  congr 2
  omega
end Go.Proofs.YtdaghppcomckbaaGreatDoor
