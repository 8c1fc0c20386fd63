package decode_test

import (
	"math"
	"math/rand"
	"slices"
	"strconv"
	"strings"
	"testing"

	"ligature/api"
	"ligature/decode"
	"ligature/encode"
	"ligature/vocab"
)

func mustNew(t *testing.T, s api.Spec) *vocab.Vocab {
	t.Helper()
	v, n, e := vocab.New(s)
	if e != api.OK {
		t.Fatalf("New of %v: %d, %d", s, n, e)
	}
	return v
}

// sample is tokens 256 ab, 257 c3 a9, 258 82 ac; special tokens 300 <, 259 <|, MaxId e2.
func sample(t *testing.T) *vocab.Vocab {
	t.Helper()
	return mustNew(t, api.Spec{
		Merges:   []api.Merge{{A: 'a', B: 'b'}, {A: 0xc3, B: 0xa9}, {A: 0x82, B: 0xac}},
		Specials: []api.Special{{Id: 300, Text: "<"}, {Id: 259, Text: "<|"}, {Id: api.MaxId, Text: "\xe2"}},
	})
}

// heldBack is how many bytes are held back by the words of the document, the bits being written out.
func heldBack(s string) int {
	for n := 3; n >= 1; n-- {
		if n <= len(s) && waits(s[len(s)-n:]) {
			return n
		}
	}
	return 0
}

// waits tells whether the first byte begins a rune of more bytes than these, and the others go on with one.
func waits(s string) bool {
	size := 0
	for n, head := range map[int]string{2: "110", 3: "1110", 4: "11110"} {
		if strings.HasPrefix(bits(s[0]), head) {
			size = n
		}
	}
	for i := range len(s) - 1 {
		if !strings.HasPrefix(bits(s[i+1]), "10") {
			return false
		}
	}
	return size > len(s)
}

func bits(b byte) string {
	s := strconv.FormatInt(int64(b), 2)
	return strings.Repeat("0", 8-len(s)) + s
}

// mustText holds Text's answer against what is wanted.
func mustText(t *testing.T, v *vocab.Vocab, ids []int, text string, n int, want api.Errno) {
	t.Helper()
	if s, many, e := decode.Text(v, ids...); s != text || many != n || e != want {
		t.Errorf("Text of %d tokens: %.60q, %d, %d: want %.60q, %d, %d", len(ids), s, many, e, text, n, want)
	}
}

// mustFeed holds Feed's answer against what is wanted.
func mustFeed(t *testing.T, d *decode.Decoder, ids []int, text string, n int, want api.Errno) {
	t.Helper()
	if s, many, e := d.Feed(ids...); s != text || many != n || e != want {
		t.Errorf("Feed of %d tokens: %.60q, %d, %d: want %.60q, %d, %d", len(ids), s, many, e, text, n, want)
	}
}

// mustStand holds what a decoder tells of itself against what is wanted.
func mustStand(t *testing.T, d *decode.Decoder, held, told int) {
	t.Helper()
	if d.Held() != held || d.Bytes() != told {
		t.Errorf("%d held back, %d told: want %d, %d", d.Held(), d.Bytes(), held, told)
	}
}

// mustClose holds Close's answer against what is wanted.
func mustClose(t *testing.T, d *decode.Decoder, want string) {
	t.Helper()
	if s := d.Close(); s != want {
		t.Errorf("Close: %q: want %q", s, want)
	}
}

// P13.2: the chapter's example.
func TestExample(t *testing.T) {
	d := decode.New(sample(t))
	mustFeed(t, d, []int{0xc3}, "", 1, api.OK)
	mustFeed(t, d, []int{0xa9}, "\xc3\xa9", 1, api.OK)
	mustClose(t, d, "")
}

// P13.1: bytes, tokens of more, special tokens, whole runes or not.
func TestText(t *testing.T) {
	v := sample(t)
	mustText(t, v, nil, "", 0, api.OK)
	mustText(t, v, []int{0, 255, 256}, "\x00\xffab", 3, api.OK)
	mustText(t, v, []int{300, 259, 'x', 257, api.MaxId}, "<<|x\xc3\xa9\xe2", 5, api.OK)
	mustText(t, v, []int{0xe2}, "\xe2", 1, api.OK)
	mustText(t, v, []int{'<', '|'}, "<|", 2, api.OK)
}

// wrongIds is numbers that are none of sample's ids.
var wrongIds = []int{math.MinInt, -3, -1, 260, 299, 301, 999, api.MaxId - 1, api.MaxId + 1, math.MaxInt}

// P13.1: no vocabulary, too many tokens, then the place of the first one that isn't there.
func TestTextErrors(t *testing.T) {
	v := sample(t)
	tooMany := append([]int{-1}, make([]int, api.MaxInput)...)
	mustText(t, nil, nil, "", 0, api.ErrArg)
	mustText(t, nil, tooMany, "", 0, api.ErrArg)
	mustText(t, v, tooMany, "", 0, api.ErrLong)
	mustText(t, v, slices.Repeat([]int{256}, api.MaxInput), strings.Repeat("ab", api.MaxInput), api.MaxInput, api.OK)
	mustText(t, v, slices.Repeat([]int{256}, api.MaxInput+1), "", 0, api.ErrLong)
	for _, wrong := range wrongIds {
		mustText(t, v, []int{wrong}, "", 0, api.ErrId)
		mustText(t, v, []int{'a', 300, wrong, -1}, "", 2, api.ErrId)
	}
	decode.Text(&vocab.Vocab{}, 'a') // none that New made: only that nothing panics
}

// P13.1, with rule 3: an error changes nothing, the vocabulary's uses neither.
func TestErrorsAreNoUses(t *testing.T) {
	v := sample(t)
	d := decode.New(v)
	for range 3 {
		mustText(t, v, []int{'a', -1}, "", 1, api.ErrId)
		mustFeed(t, d, []int{'a', -1}, "", 1, api.ErrId)
	}
	if v.Uses() != 0 {
		t.Errorf("uses: %d", v.Uses())
	}
}

// P13.1: all bytes as the last one, behind a few others; and whatever few bytes there are, of each kind those at its edges.
func TestHeld(t *testing.T) {
	edges := []byte{0x41, 0x7f, 0x80, 0xbf, 0xc0, 0xdf, 0xe0, 0xef, 0xf0, 0xf7, 0xf8, 0xff}
	texts := []string{""}
	for range 4 {
		for _, s := range texts {
			mustHold(t, s)
			for b := range 256 {
				mustHold(t, s+string([]byte{byte(b)}))
			}
		}
		texts = longer(texts, edges)
	}
}

// longer is texts with each of some bytes behind.
func longer(texts []string, bytes []byte) []string {
	var l []string
	for _, s := range texts {
		for _, b := range bytes {
			l = append(l, s+string([]byte{b}))
		}
	}
	return l
}

func mustHold(t *testing.T, s string) {
	t.Helper()
	if got, want := decode.Held(s), heldBack(s); got != want {
		t.Fatalf("Held of %x: %d: want %d", s, got, want)
	}
}

// P13.1: what is held back of ends of runes, one by one.
func TestHeldOfRunes(t *testing.T) {
	for s, want := range map[string]int{
		"":                     0,
		"a":                    0,
		"\xc3":                 1,
		"a\xd0":                1,
		"\xc3\xa9":             0,
		"\xe2":                 1,
		"\xe2\x82":             2,
		"\xe2\x82\xac":         0,
		"\xf0":                 1,
		"\xf0\x9f":             2,
		"x\xf0\x9f\x98":        3,
		"\xf0\x9f\x98\x80":     0,
		"\xf0\x9f\x98\x80\x80": 0,
		"\xf7\xbf\xbf":         3,
		"\xf8\x80\x80":         0,
		"\xff":                 0,
		"\x80":                 0,
		"\xe2a":                0,
		"\xe2\xc3":             1,
		"\xf0\x9f\xe2\x82":     2,
		"\xe2\x82\x80\x80":     0,
	} {
		if got := decode.Held(s); got != want {
			t.Errorf("Held of %x: %d: want %d", s, got, want)
		}
	}
}

// P13.2: bytes are told when their rune is whole, or is none.
func TestFeed(t *testing.T) {
	d := decode.New(sample(t))
	mustStand(t, d, 0, 0)
	mustFeed(t, d, []int{'x', 0xe2}, "x", 2, api.OK)
	mustStand(t, d, 1, 1)
	mustFeed(t, d, nil, "", 0, api.OK)
	mustStand(t, d, 1, 1)
	mustFeed(t, d, []int{258, 256}, "\xe2\x82\xacab", 2, api.OK)
	mustStand(t, d, 0, 6)
	mustFeed(t, d, []int{0xf0, 0x9f, 0x98}, "", 3, api.OK)
	mustStand(t, d, 3, 6)
	mustFeed(t, d, []int{259}, "\xf0\x9f\x98<|", 1, api.OK)
	mustStand(t, d, 0, 11)
	mustFeed(t, d, []int{api.MaxId}, "", 1, api.OK)
	mustFeed(t, d, []int{0xc3}, "\xe2", 1, api.OK)
	mustStand(t, d, 1, 12)
	mustClose(t, d, "\xc3")
	mustStand(t, d, 0, 13)
}

// P13.2: of an error nothing is taken; a closed decoder takes nothing more, whatever is fed.
func TestFeedErrors(t *testing.T) {
	d := decode.New(sample(t))
	tooMany := append([]int{-1}, make([]int, api.MaxInput)...)
	mustFeed(t, d, []int{'x', 0xc3}, "x", 2, api.OK)
	for _, wrong := range wrongIds {
		mustFeed(t, d, []int{0xa9, 'y', wrong, -1}, "", 2, api.ErrId)
		mustStand(t, d, 1, 1)
	}
	mustFeed(t, d, tooMany, "", 0, api.ErrLong)
	mustStand(t, d, 1, 1)
	mustFeed(t, d, slices.Repeat([]int{256}, api.MaxInput), "\xc3"+strings.Repeat("ab", api.MaxInput), api.MaxInput, api.OK)
	mustFeed(t, d, []int{0xf0, 0x9f}, "", 2, api.OK)

	told := 2 + 2*api.MaxInput
	mustStand(t, d, 2, told)
	mustClose(t, d, "\xf0\x9f")
	for _, ids := range [][]int{nil, {'a'}, {-1}, tooMany} {
		mustFeed(t, d, ids, "", 0, api.ErrState)
		mustStand(t, d, 0, told+2)
	}
	mustClose(t, d, "")
	mustStand(t, d, 0, told+2)
}

// P13.2: of no vocabulary no decoder; of no decoder nothing.
func TestNil(t *testing.T) {
	d := decode.New(nil)
	if d != nil {
		t.Fatalf("New of nil: %v", d)
	}
	for _, ids := range [][]int{nil, {'a'}, {-1}, make([]int, api.MaxInput+1)} {
		mustFeed(t, d, ids, "", 0, api.ErrArg)
	}
	mustStand(t, d, 0, 0)
	mustClose(t, d, "")
	mustFeed(t, d, nil, "", 0, api.ErrArg) // not closed: there is none

	var none decode.Decoder // none that New made: only that nothing panics
	none.Feed('a')
	none.Held()
	none.Close()
	none.Bytes()
}

// P13.2: two decoders of one vocabulary have nothing in common.
func TestTwoDecoders(t *testing.T) {
	v := sample(t)
	a, b := decode.New(v), decode.New(v)
	mustFeed(t, a, []int{0xe2}, "", 1, api.OK)
	mustStand(t, b, 0, 0)
	mustFeed(t, b, []int{258}, "\x82\xac", 1, api.OK)
	mustClose(t, a, "\xe2")
	mustFeed(t, b, []int{'a'}, "a", 1, api.OK)
}

// P13.2, P13.3: however tokens are fed, what is told is their text but for what is held back of it; with Close it is all.
func TestRandomFeeds(t *testing.T) {
	r := rand.New(rand.NewSource(13))
	v := sample(t)
	few := []int{'a', 0x82, 0x9f, 0xa9, 0xbf, 0xc3, 0xdf, 0xe2, 0xef, 0xf0, 0xf7, 0xff, 256, 257, 258, 259, 300, api.MaxId}
	for range 3000 {
		d := decode.New(v)
		var told strings.Builder
		var taken []int
		for range r.Intn(8) {
			ids := randomIds(r, few)
			s, n, e := d.Feed(ids...)
			told.WriteString(s)
			taken = append(taken, ids...)
			all, _, _ := decode.Text(v, taken...)
			held := heldBack(all)
			if n != len(ids) || e != api.OK || told.String() != all[:len(all)-held] || d.Held() != held || d.Bytes() != told.Len() {
				t.Fatalf("fed %v at last, of %v: %d, %d: %q, %d held back, %d told", ids, taken, n, e, told.String(), d.Held(), d.Bytes())
			}
		}
		told.WriteString(d.Close())
		if all, _, _ := decode.Text(v, taken...); told.String() != all || d.Held() != 0 || d.Bytes() != len(all) {
			t.Fatalf("%v: %q of %q, %d held back, %d told", taken, told.String(), all, d.Held(), d.Bytes())
		}
	}
}

func randomIds(r *rand.Rand, few []int) []int {
	var ids []int
	for range r.Intn(5) {
		ids = append(ids, few[r.Intn(len(few))])
	}
	return ids
}

// P13.1, with the rules: what is handed in stays, its spare room too.
func TestHandedInStays(t *testing.T) {
	v := sample(t)
	room := []int{256, 300, 'x', 'y'}
	before := slices.Clone(room)
	decode.Text(v, room[:2]...)
	decode.New(v).Feed(room[:2]...)
	if !slices.Equal(room, before) {
		t.Errorf("what was handed in: %v: want %v", room, before)
	}
}

// P1: what is made of a text, decoded, is the text; and the text of a special token that came together from ordinary ones is parsed as that one.
func TestThereAndBack(t *testing.T) {
	v := sample(t)
	for _, text := range []string{"", "ab<|<a", "\xc3\xa9\x82\xac\xe2", strings.Repeat("ab", api.MaxInput/2), strings.Repeat("a", api.MaxInput)} {
		ids, _ := encode.Text(v, text)
		mustText(t, v, ids, text, len(ids), api.OK)
		plain, _ := encode.Plain(v, text)
		mustText(t, v, plain, text, len(plain), api.OK)
	}
	text, _, _ := decode.Text(v, '<', '|')
	if ids, e := encode.Text(v, text); !slices.Equal(ids, []int{259}) || e != api.OK {
		t.Errorf("%q again: %v, %d", text, ids, e)
	}
}
