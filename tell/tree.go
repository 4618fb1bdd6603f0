package tell

import (
	"strconv"
	"strings"

	"cutwater/api"
)

// Nodes reads a list of nodes: 5 2 1/3; is the node 5, at the depth 2, that costs at least 1/3.
func Nodes(s string) []api.Node {
	var out []api.Node
	for _, n := range parts(s) {
		words := strings.Fields(n)
		out = append(out, api.Node{Id: Whole(words[0]), Depth: Whole(words[1]), Least: Rat(words[2])})
	}
	return out
}

// OfNodes writes a list of nodes.
func OfNodes(list []api.Node) string {
	var words []string
	for _, n := range list {
		words = append(words, strconv.Itoa(n.Id)+" "+strconv.Itoa(n.Depth)+" "+OfRat(n.Least)+";")
	}
	return strings.Join(words, " ")
}
