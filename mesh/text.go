package mesh

import (
	"strconv"
	"strings"

	"photonmesh/api"
)

// Format returns the text of a netlist.
func Format(net []api.Cell) (string, api.Errno) {
	if !Valid(net) {
		return "", api.ErrNet
	}
	var b strings.Builder
	for _, c := range net {
		b.WriteString(cellText(c))
	}
	if b.Len() > api.MaxText {
		return "", api.ErrLimit
	}
	return b.String(), api.OK
}

// Parse returns the valid netlist whose text it is.
func Parse(text string) ([]api.Cell, api.Errno) {
	if len(text) > api.MaxText {
		return nil, api.ErrLimit
	}
	var net []api.Cell
	for line := range strings.Lines(text) {
		net = append(net, readCell(line))
	}
	// Any line is read as some cell: only the text of a netlist counts.
	if back, e := Format(net); e != api.OK || back != text {
		return nil, api.ErrForm
	}
	return net, api.OK
}

// cellText returns the line of a cell.
func cellText(c api.Cell) string {
	var b strings.Builder
	b.WriteString("cell " + c.Name + " " + strconv.Itoa(c.Guides) + ":")
	for i, x := range c.Items {
		if i > 0 {
			b.WriteString(";")
		}
		b.WriteString(" " + itemText(x))
	}
	b.WriteString("\n")
	return b.String()
}

// itemText returns the text of an item.
func itemText(x api.Item) string {
	at := strconv.Itoa(x.At)
	switch x.Kind {
	case api.ItemPhase:
		return "p" + at + " " + strconv.Itoa(x.N)
	case api.ItemCouple:
		return "c" + at
	case api.ItemCross:
		return "x" + at
	}
	return x.Name + "@" + at
}

// readCell returns the cell whose line it is; for other lines it returns any cell.
func readCell(line string) api.Cell {
	line = strings.TrimSuffix(strings.TrimPrefix(line, "cell "), "\n")
	head, body, _ := strings.Cut(line, ":")
	name, guides, _ := strings.Cut(head, " ")
	c := api.Cell{Name: name, Guides: digit(guides)}
	if body == "" {
		return c
	}
	for part := range strings.SplitSeq(body, ";") {
		c.Items = append(c.Items, readItem(strings.TrimPrefix(part, " ")))
	}
	return c
}

// readItem returns the item whose text it is; for other texts it returns any item.
func readItem(text string) api.Item {
	if name, at, ok := strings.Cut(text, "@"); ok {
		return api.Item{Kind: api.ItemCell, At: digit(at), Name: name}
	}
	if text == "" {
		return api.Item{}
	}
	at, n, _ := strings.Cut(text[1:], " ")
	switch text[0] {
	case 'p':
		return api.Item{Kind: api.ItemPhase, At: digit(at), N: digit(n)}
	case 'c':
		return api.Item{Kind: api.ItemCouple, At: digit(at)}
	case 'x':
		return api.Item{Kind: api.ItemCross, At: digit(at)}
	}
	return api.Item{}
}

// digit returns the number with one digit whose text it is, or else 0: no number of a valid netlist is greater, and none is 0.
func digit(text string) int {
	if len(text) != 1 || text[0] < '0' || text[0] > '9' {
		return 0
	}
	return int(text[0] - '0')
}
